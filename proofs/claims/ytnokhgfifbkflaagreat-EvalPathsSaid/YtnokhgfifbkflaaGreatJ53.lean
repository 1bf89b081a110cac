/- Lemmas. -/
import Derived.Test.YtnokhgfifbkflaaGreatJ09
import Derived.Test.YtnokhgfifbkflaaGreatJ52
set_option maxRecDepth 100000
set_option maxHeartbeats 8000000
set_option linter.unusedVariables false
namespace Go.Proofs.YtnokhgfifbkflaaGreat
section
open Go.RowKit
theorem runD_app:∀ (ds r:List UInt8),(∀ c∈ds,digB c=true)→runD (ds++r)=ds.length+runD r
 | [],r,_=>by simp
 | c :: t,r,h=>by
   rw[List.cons_append,runD,if_pos (h c (by simp)),runD_app t r (fun x hx=>h x (by simp[hx])),List.length_cons]
   omega
theorem digN_all (v:Nat):∀ c∈digN v,digB c=true:=by
 induction v using Nat.strongRecOn with
 | ind v ih =>
   intro c hc
   by_cases h:v<10
   ·rw[digN_one v h] at hc
    obtain rfl:=List.mem_singleton.1 hc
    exact digB_of v h
   ·rw [digN_more v h] at hc
    rcases List.mem_append.1 hc with hc|hc
    ·exact ih _ (by omega) c hc
    ·obtain rfl:=List.mem_singleton.1 hc
     exact digB_of _ (by omega)
end
section
open Go.RowKit
def leL:List UInt8→List UInt8→Prop
 | [],[]=>True
 | x :: l,y :: m=>x.toNat≤y.toNat∧leL l m
 | _,_=>False
theorem leL_refl:∀ l,leL l l
 | []=>trivial
 | x :: l=>⟨Nat.le_refl _,leL_refl l⟩
theorem leL_app:∀ {a b c d:List UInt8},leL a b→leL c d→leL (a++c) (b++d)
 | [],[],_,_,_,h=>h
 | x :: a,y :: b,c,d,h,g=>⟨h.1,leL_app h.2 g⟩
 | [],_ :: _,_,_,h,_=>h.elim
 | _ :: _,[],_,_,h,_=>h.elim
theorem leL_low:∀ q:List UInt8,contR q=true→leL (List.replicate q.length 128) q
 | [],_=>trivial
 | x :: q,h=>by
   unfold contR at h
   rw[List.all_cons,Bool.and_eq_true] at h
   have:=of_decide_eq_true h.1
   exact ⟨this.1,leL_low q h.2⟩
theorem leL_high:∀ q:List UInt8,contR q=true→leL q (List.replicate q.length 191)
 | [],_=>trivial
 | x :: q,h=>by
   unfold contR at h
   rw[List.all_cons,Bool.and_eq_true] at h
   have:=of_decide_eq_true h.1
   exact ⟨this.2,leL_high q h.2⟩
theorem moreR_mono:∀ {l m:List UInt8} {a b:Int},leL l m→a≤b→moreR a l≤moreR b m
 | [],[],_,_,_,h=>h
 | x :: l,y :: m,a,b,h,g=>by
   have h1:(x.toNat:Int)≤y.toNat:=by exact_mod_cast h.1
   exact moreR_mono (l:=l) (m:=m) (a:=a*64+x.toNat-128) (b:=b*64+y.toNat-128) h.2 (by omega)
 | [],_ :: _,_,_,h,_=>h.elim
 | _ :: _,[],_,_,h,_=>h.elim
theorem leL_len:∀ {l m:List UInt8},leL l m→l.length=m.length
 | [],[],_=>rfl
 | x :: l,y :: m,h=>by simp[leL_len h.2]
 | [],_ :: _,h=>h.elim
 | _ :: _,[],h=>h.elim
theorem numR_mono {l m:List UInt8} (c:UInt8) (h:leL l m):numR (c :: l)≤numR (c :: m):=by
 have hl:=leL_len h
 show moreR ((c.toNat:Int)-baseR (c :: l).length) l≤moreR ((c.toNat:Int)-baseR (c :: m).length) m
 rw[show (c :: l).length=(c :: m).length by simp[hl]]
 exact moreR_mono h (Int.le_refl _)
theorem pad_low (c:UInt8) (t q:List UInt8) (n:Nat) (hq:contR q=true) (hn:(c :: (t++q)).length≤n):numR (padR (c :: t) n 128)≤numR (padR (c :: (t++q)) n 128)∧numR (padR (c :: (t++q)) n 191)≤numR (padR (c :: t) n 191):=by
 have e:n-(c :: t).length=q.length+(n-(c :: (t++q)).length):=by simp at hn ⊢;omega
 unfold padR
 rw[e,← List.replicate_append_replicate,← List.replicate_append_replicate]
 constructor
 ·show numR (c :: (t++(List.replicate q.length 128++List.replicate (n-(c :: (t++q)).length) 128)))≤numR (c :: ((t++q)++List.replicate (n-(c :: (t++q)).length) 128))
  rw[List.append_assoc]
  exact numR_mono c (leL_app (leL_refl t) (leL_app (leL_low q hq) (leL_refl _)))
 ·show numR (c :: ((t++q)++List.replicate (n-(c :: (t++q)).length) 191))≤numR (c :: (t++(List.replicate q.length 191++List.replicate (n-(c :: (t++q)).length) 191)))
  rw[List.append_assoc]
  exact numR_mono c (leL_app (leL_refl t) (leL_app (leL_high q hq) (leL_refl _)))
theorem endR_fst {m n:Nat} {a b:Int} (h:(endR m n a b).1=false):b<leastR n∨1114111<a∨(55296≤a∧b≤57343):=by
 unfold endR at h
 split at h
 ·assumption
 ·split at h<;>cases h
theorem beg_dead (l q:List UInt8) (hl:l≠[]) (h:(begR l).1=false):begR (l++q)=(false,false,0):=by
 cases l with
 | nil=>exact absurd rfl hl
 | cons c t =>
   have h:(if sizeR c.toNat=0∨sizeR c.toNat<(c :: t).length then ((false,false,0):Bool×Bool×Int) else
     if contR t then endR (c :: t).length (sizeR c.toNat).toNat (numR (padR (c :: t) (sizeR c.toNat).toNat 128)) (numR (padR (c :: t) (sizeR c.toNat).toNat 191)) else (false,false,0)).1=false:=h
   show (if sizeR c.toNat=0∨sizeR c.toNat<(c :: (t++q)).length then ((false,false,0):Bool×Bool×Int) else
     if contR (t++q) then endR (c :: (t++q)).length (sizeR c.toNat).toNat (numR (padR (c :: (t++q)) (sizeR c.toNat).toNat 128)) (numR (padR (c :: (t++q)) (sizeR c.toNat).toNat 191)) else (false,false,0))=_
   by_cases h1:sizeR c.toNat=0∨sizeR c.toNat<(c :: (t++q)).length
   ·rw[if_pos h1]
   rw[if_neg h1]
   have hlen:(c :: t).length≤(c :: (t++q)).length:=by simp
   rw[if_neg (by omega)] at h
   by_cases h2:contR (t++q)=true
   ·rw [if_pos h2]
    have h3:contR t=true∧contR q=true:=by
      unfold contR at h2 ⊢
      rw[List.all_append,Bool.and_eq_true] at h2
      exact h2
    rw[if_pos h3.1] at h
    have hC:=endR_fst h
    have hp:=pad_low c t q (sizeR c.toNat).toNat h3.2 (by omega)
    unfold endR
    rw[if_pos (by omega)]
   ·rw[if_neg h2]
end
end Go.Proofs.YtnokhgfifbkflaaGreat
