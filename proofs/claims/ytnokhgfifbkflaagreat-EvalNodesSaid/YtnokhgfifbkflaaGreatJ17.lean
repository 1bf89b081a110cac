/- Lemmas. -/
import Derived.Test.YtnokhgfifbkflaaGreatJ16
import Derived.Deep.RegionHeld3
set_option maxRecDepth 100000
set_option maxHeartbeats 8000000
set_option linter.unusedVariables false
namespace Go.Proofs.YtnokhgfifbkflaaGreat
section
open Go.RowKit
theorem quoGo_on (m:UInt8) (f:Nat) (c:UInt8) (t acc:List UInt8) (k:Nat):quoGo m (f+1) (c :: t) acc k=if c=m then some (acc,k+1) else if c.toNat<32 then none else if c≠92 then quoGo m f t (acc++[c]) (k+1) else match escQ m t with
   | none=>none
   | some (b,n)=>quoGo m f (t.drop n) (acc++b) (k+1+n):=rfl
theorem ofB_four (m:Int):(ofB m).length≤4:=by
 rw[ofB_len2]
 rcases ofI_is (n:=m) with ⟨_,h⟩|⟨_,_,h⟩|⟨_,_,h⟩|⟨_,h⟩<;>rw[h]<;>simp
theorem escQ_in {m:UInt8} {l b:List UInt8} {n:Nat} (h:escQ m l=some (b,n)):n≤l.length∧1≤n∧b.length≤4:=by
 have hu : ∀ (l t:List UInt8),l.length=t.length+1→escU l t=some (b,n)→n≤l.length∧1≤n∧b.length≤4:=by
   intro l t hlt h
   unfold escU at h
   split at h
   ·cases h
   rename_i v hv
   have h4:4≤t.length:=by
     by_cases h4:4≤t.length
     ·exact h4
     ·rw[show hex4 t=none from hexG4_short 4 t 0 (by omega)] at hv;cases hv
   split at h
   ·cases h
   split at h
   ·injection h with h
    injection h with h1 h2
    subst h1 h2
    have:=ofB_four v
    omega
   ·unfold escP at h
    split at h
    ·split at h
     ·cases h
     rename_i w hw
     have h11:11≤l.length:=by
       by_cases h11:11≤l.length
       ·exact h11
       ·rw[show hex4 (l.drop 7)=none from hexG4_short 4 _ 0 (by rw[List.length_drop];omega)] at hw;cases hw
     split at h
     ·cases h
     ·injection h with h
      injection h with h1 h2
      subst h1 h2
      have:=ofB_four (65536+(v-55296)*1024+w-56320)
      omega
    ·cases h
 cases l with
 | nil=>cases h
 | cons c t =>
   rw[escQ_cons] at h
   split at h
   ·injection h with h;injection h with h1 h2;subst h1 h2;simp
   split at h
   ·injection h with h;injection h with h1 h2;subst h1 h2;simp
   split at h
   ·cases h
   ·exact hu (c :: t) t rfl h
end
section
open Go.RowKit
theorem plnN_le:∀ (b:Bool) (l:List UInt8),plnN b l≤l.length
 | _,[]=>Nat.le_refl _
 | b,c :: t=>by
   have:=plnN_le true t
   unfold plnN
   split
   ·simpa using this
   ·simp
end
end Go.Proofs.YtnokhgfifbkflaaGreat
