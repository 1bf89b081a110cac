/- Lemmas. -/
import Derived.Test.YtmgdjlkndbejkaaDoorJ02
import Derived.Laws.BytesArg
set_option maxRecDepth 100000
set_option maxHeartbeats 8000000
set_option linter.unusedVariables false
namespace Go.Proofs.YtmgdjlkndbejkaaDoor
section
open Go.RowKit
def hasI (n:Int):Bool:=decide (0≤n∧n≤1114111∧(n<55296∨57343<n))
def fixI (n:Int):Int:=if hasI n then n else 65533
def ofI (m:Int):List Int :=
 if m<128 then [m] else if m<2048 then [192+m/64,128+m%64] else if m<65536 then [224+m/4096,128+m/64%64,128+m%64]
 else [240+m/262144,128+m/4096%64,128+m/64%64,128+m%64]
theorem fixI_in (n:Int):0≤fixI n∧fixI n≤1114111∧(fixI n<55296∨57343<fixI n):=by
 unfold fixI hasI
 split
 ·rename_i h;simpa using h
 ·omega
theorem ofI_is {n:Int}:(n<128∧ofI n=[n])∨(128≤n∧n<2048∧ofI n=[192+n/64,128+n%64]) ∨
   (2048≤n∧n<65536∧ofI n=[224+n/4096,128+n/64%64,128+n%64]) ∨
   (65536≤n∧ofI n=[240+n/262144,128+n/4096%64,128+n/64%64,128+n%64]):=by
 unfold ofI
 (repeat' split)<;>simp<;>omega
theorem okU_0 (c:Int)(h:c<128∨194≤c∧c<245)(sg:Int):okU sg 0 c=true:=by unfold okU;rw[if_pos rfl];exact decide_eq_true h
theorem okU_n {sg lf c:Int}(hl:lf≠0)(h:lowU sg lf≤c∧c≤highU sg lf):okU sg lf c=true:=by unfold okU;rw[if_neg hl];exact decide_eq_true h
end
end Go.Proofs.YtmgdjlkndbejkaaDoor
