/- Lemmas. -/
import Derived.Test.YtnokhgfifbkflaaGreatJ14
import Derived.Lib.AtoiErrMem
set_option maxRecDepth 100000
set_option maxHeartbeats 8000000
set_option linter.unusedVariables false
namespace Go.Proofs.YtnokhgfifbkflaaGreat
section
open Go.RowKit
theorem valD_take (ds:List UInt8) (k:Nat) (h:k<ds.length):valD (ds.take (k+1)) 0=valD (ds.take k) 0*10+(ds[k].toNat-48):=by
 rw[List.take_succ_eq_append_getElem h,val_snoc]
theorem run_dig:∀ (l:List UInt8),∀ c∈l.take (runD l),digB c=true
 | [],c,h=>by simp at h
 | a :: t,c,h=>by
   unfold runD at h
   split at h
   ·rename_i hd
    rw[List.take_succ_cons] at h
    rcases List.mem_cons.1 h with rfl|h
    ·exact hd
    ·exact run_dig t c h
   ·simp at h
theorem nrQ_on {l:List UInt8} {m:Nat} (h:minB l=m):nrQ l=if (l.drop m).head?=some 48 then (if m=1 then none else some (0,1)) else intD m (l.drop m) (runD (l.drop m)):=by
 subst h
 rfl
def InEnd (l:List UInt8) (W:World) (e:Ending) (w':World):Prop :=
 (match nrQ l with
   | none=>e=.returned (.tuple #[.int .i64 0,.int .i64 0,.bool false])
   | some (v,n)=>e=.returned (.tuple #[.int .i64 v,.int .i64 n,.bool true]))∧Below W.heap.size W w'
theorem InEnd.no {l:List UInt8} {W w':World} (h:nrQ l=none) (hb:Below W.heap.size W w'):InEnd l W (.returned (.tuple #[.int .i64 0,.int .i64 0,.bool false])) w':=by
 unfold InEnd;rw[h];exact ⟨rfl,hb⟩
theorem InEnd.yes {l:List UInt8} {W w':World} {v v' k':Int} {n:Nat} (h:nrQ l=some (v,n)) (hv:v=v') (hk:(n:Int)=k') (hb:Below W.heap.size W w'):InEnd l W (.returned (.tuple #[.int .i64 v',.int .i64 k',.bool true])) w':=by
 unfold InEnd;rw[h,← hv,← hk];exact ⟨rfl,hb⟩
end
section
open Go.RowKit
theorem hexG4_short:∀ (k:Nat) (l:List UInt8) (v:Int),l.length<k→hexG4 k l v=none
 | 0,l,v,h=>by omega
 | k+1,[],v,h=>rfl
 | k+1,c :: t,v,h=>by
   unfold hexG4
   cases hexB c with
   | none=>rfl
   | some d=>exact hexG4_short k t _ (by simp at h;omega)
theorem escQ_cons (m c:UInt8)(t:List UInt8):escQ m (c :: t)=if c=m then some ([m],1) else if letE c≠0 then some ([letE c],1) else if c≠117 then none else escU (c :: t) t:=rfl
end
section
open Go.RowKit
theorem ofB_len2 (m:Int):(ofB m).length=(ofI m).length:=by unfold ofB;rw[List.length_map]
theorem ofB_cells (m:Int) (h0:0≤m) (h1:m≤1114111):byteCells (ofB m)=(ofI m).map (Value.int .u8):=by
 unfold byteCells ofB
 rcases ofI_is (n:=m) with ⟨_,h⟩|⟨_,_,h⟩|⟨_,_,h⟩|⟨_,h⟩
 ·rw[h];simp<;>omega
 ·rw[h];simp<;>omega
 ·rw[h];simp<;>omega
 ·rw[h];simp<;>omega
theorem of_rd {w w':World} {b:Nat} {m:Int} (h0:0≤m) (h1:m≤1114111) (h:Own w' b 5 ((ofI m).map (Value.int .u8)).toArray):Rd w' w'.heap.size (some ⟨b,0,none⟩) (ofB m).length (byteCells (ofB m)):=by
 rw[ofB_cells m h0 h1,ofB_len2]
 exact (Rd.of_list h (by simp)).more h.inside
end
end Go.Proofs.YtnokhgfifbkflaaGreat
