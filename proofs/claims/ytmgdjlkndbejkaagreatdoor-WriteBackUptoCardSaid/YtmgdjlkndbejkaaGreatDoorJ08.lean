/- Lemmas. -/
import Derived.Test.YtmgdjlkndbejkaaGreatDoorJ07
import Derived.Lib.AtoiAll
set_option maxRecDepth 100000
set_option maxHeartbeats 8000000
set_option linter.unusedVariables false
namespace Go.Proofs.YtmgdjlkndbejkaaGreatDoor
section
open Go.RowKit
def runD:List UInt8→Nat
 | []=>0
 | c :: t=>if digB c then runD t+1 else 0
theorem runD_le:∀ l,runD l≤l.length
 | []=>Nat.le_refl _
 | c :: t=>by
   have:=runD_le t
   unfold runD
   split
   ·simpa using this
   ·simp
theorem runD_app:∀ (ds r:List UInt8),(∀ c∈ds,digB c=true)→runD (ds++r)=ds.length+runD r
 | [],r,_=>by simp
 | c :: t,r,h=>by
   rw[List.cons_append,runD,if_pos (h c (by simp)),runD_app t r (fun x hx=>h x (by simp[hx])),List.length_cons]
   omega
theorem digN_all (v:Nat):∀ c∈digN v,digB c=true:=by
 induction v using Nat.strongRecOn with
 | ind v ih =>
   intro c hc
   by_cases h:v<10
   ·rw[digN_one v h] at hc
    obtain rfl:=List.mem_singleton.1 hc
    exact digB_of v h
   ·rw [digN_more v h] at hc
    rcases List.mem_append.1 hc with hc|hc
    ·exact ih _ (by omega) c hc
    ·obtain rfl:=List.mem_singleton.1 hc
     exact digB_of _ (by omega)
theorem valD_mono:∀ (ds:List UInt8) (a:Nat),a≤valD ds a
 | [],a=>Nat.le_refl _
 | c :: t,a=>by
   have:=valD_mono t (a*10+(c.toNat-48))
   show a≤valD t (a*10+(c.toNat-48))
   omega
end
end Go.Proofs.YtmgdjlkndbejkaaGreatDoor
