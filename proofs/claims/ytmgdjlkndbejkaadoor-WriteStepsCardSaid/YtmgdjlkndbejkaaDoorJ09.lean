/- Lemmas. -/
import Derived.Test.YtmgdjlkndbejkaaDoorJ08
import Derived.Lib.AtoiAll
set_option maxRecDepth 100000
set_option maxHeartbeats 8000000
set_option linter.unusedVariables false
namespace Go.Proofs.YtmgdjlkndbejkaaDoor
section
open Go.RowKit
def escD (l:List UInt8):UInt8×Nat :=
 match l with
 | 92 :: 117 :: 48 :: 48 :: a :: b :: _=>match hexB a,hexB b with
   | some x,some y=>(UInt8.ofNat (x*16+y).toNat,6)
   | _,_=>(0,0)
 | _=>(0,0)
def escC (l:List UInt8):UInt8×Nat:=if letN (l.getD 1 0)≠0 then (letN (l.getD 1 0),2) else escD l
def nameC:Nat→List UInt8→List UInt8→Option (List UInt8×List UInt8)
 | 0,_,_=>none
 | f+1,l,acc=>if l=[] then none else if l.head?=some 39 then some (acc,l.tail) else if l.head?=some 92 then (if (escC l).2=0 then none else nameC f (l.drop (escC l).2) (acc++[(escC l).1])) else nameC f l.tail (acc++[l.headD 0])
def runD:List UInt8→Nat
 | []=>0
 | c :: t=>if digB c then runD t+1 else 0
def indexC (l:List UInt8):Option (Int×List UInt8):=match Lib.atoiAll (l.take (runD l)) with
 | .ok v=>some (v,l.drop (runD l))
 | _=>none
def innerC (l:List UInt8):Option (Pst×List UInt8) :=
 if l.head?=some 39 then (nameC l.length l.tail []).map fun p=>(⟨true,p.1,0⟩,p.2) else (indexC l).map fun p=>(⟨false,[],p.1⟩,p.2)
def cutC (l:List UInt8):Option (Pst×List UInt8) :=
 if l.head?≠some 91 then none else (innerC l.tail).bind fun p=>if p.2.head?≠some 93 then none else some (p.1,p.2.tail)
theorem runD_le:∀ l,runD l≤l.length
 | []=>Nat.le_refl _
 | c :: t=>by
   have:=runD_le t
   unfold runD
   split
   ·simpa using this
   ·simp
end
section
open Go.RowKit
def leL:List UInt8→List UInt8→Prop
 | [],[]=>True
 | x :: l,y :: m=>x.toNat≤y.toNat∧leL l m
 | _,_=>False
theorem leL_refl:∀ l,leL l l
 | []=>trivial
 | x :: l=>⟨Nat.le_refl _,leL_refl l⟩
theorem leL_app:∀ {a b c d:List UInt8},leL a b→leL c d→leL (a++c) (b++d)
 | [],[],_,_,_,h=>h
 | x :: a,y :: b,c,d,h,g=>⟨h.1,leL_app h.2 g⟩
 | [],_ :: _,_,_,h,_=>h.elim
 | _ :: _,[],_,_,h,_=>h.elim
theorem leL_low:∀ q:List UInt8,contR q=true→leL (List.replicate q.length 128) q
 | [],_=>trivial
 | x :: q,h=>by
   unfold contR at h
   rw[List.all_cons,Bool.and_eq_true] at h
   have:=of_decide_eq_true h.1
   exact ⟨this.1,leL_low q h.2⟩
theorem leL_high:∀ q:List UInt8,contR q=true→leL q (List.replicate q.length 191)
 | [],_=>trivial
 | x :: q,h=>by
   unfold contR at h
   rw[List.all_cons,Bool.and_eq_true] at h
   have:=of_decide_eq_true h.1
   exact ⟨this.2,leL_high q h.2⟩
theorem moreR_mono:∀ {l m:List UInt8} {a b:Int},leL l m→a≤b→moreR a l≤moreR b m
 | [],[],_,_,_,h=>h
 | x :: l,y :: m,a,b,h,g=>by
   have h1:(x.toNat:Int)≤y.toNat:=by exact_mod_cast h.1
   exact moreR_mono (l:=l) (m:=m) (a:=a*64+x.toNat-128) (b:=b*64+y.toNat-128) h.2 (by omega)
 | [],_ :: _,_,_,h,_=>h.elim
 | _ :: _,[],_,_,h,_=>h.elim
theorem leL_len:∀ {l m:List UInt8},leL l m→l.length=m.length
 | [],[],_=>rfl
 | x :: l,y :: m,h=>by simp[leL_len h.2]
 | [],_ :: _,h=>h.elim
 | _ :: _,[],h=>h.elim
theorem numR_mono {l m:List UInt8} (c:UInt8) (h:leL l m):numR (c :: l)≤numR (c :: m):=by
 have hl:=leL_len h
 show moreR ((c.toNat:Int)-baseR (c :: l).length) l≤moreR ((c.toNat:Int)-baseR (c :: m).length) m
 rw[show (c :: l).length=(c :: m).length by simp[hl]]
 exact moreR_mono h (Int.le_refl _)
theorem pad_low (c:UInt8) (t q:List UInt8) (n:Nat) (hq:contR q=true) (hn:(c :: (t++q)).length≤n):numR (padR (c :: t) n 128)≤numR (padR (c :: (t++q)) n 128)∧numR (padR (c :: (t++q)) n 191)≤numR (padR (c :: t) n 191):=by
 have e:n-(c :: t).length=q.length+(n-(c :: (t++q)).length):=by simp at hn ⊢;omega
 unfold padR
 rw[e,← List.replicate_append_replicate,← List.replicate_append_replicate]
 constructor
 ·show numR (c :: (t++(List.replicate q.length 128++List.replicate (n-(c :: (t++q)).length) 128)))≤numR (c :: ((t++q)++List.replicate (n-(c :: (t++q)).length) 128))
  rw[List.append_assoc]
  exact numR_mono c (leL_app (leL_refl t) (leL_app (leL_low q hq) (leL_refl _)))
 ·show numR (c :: ((t++q)++List.replicate (n-(c :: (t++q)).length) 191))≤numR (c :: (t++(List.replicate q.length 191++List.replicate (n-(c :: (t++q)).length) 191)))
  rw[List.append_assoc]
  exact numR_mono c (leL_app (leL_refl t) (leL_app (leL_high q hq) (leL_refl _)))
theorem endR_fst {m n:Nat} {a b:Int} (h:(endR m n a b).1=false):b<leastR n∨1114111<a∨(55296≤a∧b≤57343):=by
 unfold endR at h
 split at h
 ·assumption
 ·split at h<;>cases h
theorem beg_dead (l q:List UInt8) (hl:l≠[]) (h:(begR l).1=false):begR (l++q)=(false,false,0):=by
 cases l with
 | nil=>exact absurd rfl hl
 | cons c t =>
   have h:(if sizeR c.toNat=0∨sizeR c.toNat<(c :: t).length then ((false,false,0):Bool×Bool×Int) else
     if contR t then endR (c :: t).length (sizeR c.toNat).toNat (numR (padR (c :: t) (sizeR c.toNat).toNat 128)) (numR (padR (c :: t) (sizeR c.toNat).toNat 191)) else (false,false,0)).1=false:=h
   show (if sizeR c.toNat=0∨sizeR c.toNat<(c :: (t++q)).length then ((false,false,0):Bool×Bool×Int) else
     if contR (t++q) then endR (c :: (t++q)).length (sizeR c.toNat).toNat (numR (padR (c :: (t++q)) (sizeR c.toNat).toNat 128)) (numR (padR (c :: (t++q)) (sizeR c.toNat).toNat 191)) else (false,false,0))=_
   by_cases h1:sizeR c.toNat=0∨sizeR c.toNat<(c :: (t++q)).length
   ·rw[if_pos h1]
   rw[if_neg h1]
   have hlen:(c :: t).length≤(c :: (t++q)).length:=by simp
   rw[if_neg (by omega)] at h
   by_cases h2:contR (t++q)=true
   ·rw [if_pos h2]
    have h3:contR t=true∧contR q=true:=by
      unfold contR at h2 ⊢
      rw[List.all_append,Bool.and_eq_true] at h2
      exact h2
    rw[if_pos h3.1] at h
    have hC:=endR_fst h
    have hp:=pad_low c t q (sizeR c.toNat).toNat h3.2 (by omega)
    unfold endR
    rw[if_pos (by omega)]
   ·rw[if_neg h2]
end
end Go.Proofs.YtmgdjlkndbejkaaDoor
