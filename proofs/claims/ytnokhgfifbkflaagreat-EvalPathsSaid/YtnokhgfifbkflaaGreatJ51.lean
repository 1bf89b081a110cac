/- Lemmas. -/
import Derived.Test.YtnokhgfifbkflaaGreatJ07
set_option maxRecDepth 100000
set_option maxHeartbeats 8000000
set_option linter.unusedVariables false
namespace Go.Proofs.YtnokhgfifbkflaaGreat
section
open Go.RowKit
def sgnGo:Int→Int→List UInt8→Nat→Nat
 | _,_,[],_=>0
 | sg,lf,c :: t,k=>if okU sg lf c.toNat then (if lfU lf c.toNat=0 then k+1 else sgnGo (sgU sg lf c.toNat) (lfU lf c.toNat) t (k+1)) else 0
def sgnL (l:List UInt8):Nat:=sgnGo 0 0 l 0
def lowB (n:Nat):UInt8:=if n<10 then UInt8.ofNat (48+n) else if n<16 then UInt8.ofNat (87+n) else 48
def stranger:List UInt8:=[239,191,189]
def goOn (n:Nat):Nat:=if n=0 then 1 else n
theorem sgn_split (l:List UInt8):∀ (sg lf:Int) (k j:Nat),sgnGo sg lf l k=j→j≠0→k<j∧j≤k+l.length:=by
 induction l with
 | nil=>intro sg lf k j h hj;exact absurd h.symm hj
 | cons c t ih =>
   intro sg lf k j h hj
   unfold sgnGo at h
   split at h
   ·split at h
    ·simp;omega
    ·have:=ih _ _ _ _ h hj
     simp
     omega
   ·exact absurd h.symm hj
theorem sgn_cons (c:UInt8)(t:List UInt8):sgnL (c :: t)=if okU 0 0 c.toNat then (if lfU 0 c.toNat=0 then 1 else sgnGo (sgU 0 0 c.toNat) (lfU 0 c.toNat) t 1) else 0:=rfl
theorem sgn_small (c:UInt8) (t:List UInt8) (h:c.toNat<128):sgnL (c :: t)=1:=by
 rw[sgn_cons,if_pos (okU_0 _ (by omega) 0),if_pos (by unfold lfU;(repeat' split)<;>omega)]
theorem hex_low (d:Nat) (h:d<16):hexB (lowB d)=some (d:Int):=by
 have:d=0∨d=1∨d=2∨d=3∨d=4∨d=5∨d=6∨d=7∨d=8∨d=9∨d=10∨d=11∨d=12∨d=13∨d=14∨d=15:=by omega
 rcases this with rfl|rfl|rfl|rfl|rfl|rfl|rfl|rfl|rfl|rfl|rfl|rfl|rfl|rfl|rfl|rfl<;>rfl
theorem ofB_small (c:UInt8) (h:c.toNat<128):ofB (c.toNat:Int)=[c]:=by
 unfold ofB ofI
 rw[if_pos (by omega)]
 simp
end
section
open Go.RowKit
theorem sgn_valid (l:List UInt8):∀ (sg lf:Int) (p:List UInt8) (k j:Nat),sgnGo sg lf l k=j→j≠0→Reach p sg lf→badU (p++l.take (j-k)) = -1:=by
 induction l with
 | nil=>intro sg lf p k j h hj;exact absurd h.symm hj
 | cons c t ih =>
   intro sg lf p k j h hj hr
   have hs:=sgn_split _ _ _ _ _ h hj
   have e:j-k=(j-(k+1))+1:=by omega
   rw[e,List.take_succ_cons,show p++c :: t.take (j-(k+1))=(p++[c])++t.take (j-(k+1)) by simp]
   unfold sgnGo at h
   split at h
   ·rename_i hok
    have hr':=reach_step hr hok
    split at h
    ·rename_i hz
     subst h
     rw[hz] at hr'
     rw[show k+1-(k+1)=0 by omega,List.take_zero,List.append_nil]
     exact reach_whole hr'
    ·exact ih _ _ (p++[c]) _ _ h hj hr'
   ·exact absurd h.symm hj
theorem sgn_good (l:List UInt8):∀ (sg lf:Int) (k:Nat),StU sg lf→runU sg lf l 0 = -1→(l≠[]∨lf≠0)→sgnGo sg lf l k≠0∧runU 0 0 (l.drop (sgnGo sg lf l k-k)) 0 = -1:=by
 induction l with
 | nil =>
   intro sg lf k hst h hn
   have h:(if 0<lf then 0 else -1:Int) = -1:=h
   exfalso
   unfold StU at hst
   rcases hn with hn|hn
   ·exact hn rfl
   ·rw[if_pos (by omega)] at h
    cases h
 | cons c t ih =>
   intro sg lf k hst h _
   have h:(if okU sg lf c.toNat then runU (sgU sg lf c.toNat) (lfU lf c.toNat) t (0+1) else 0) = -1:=h
   unfold sgnGo
   by_cases hok:okU sg lf c.toNat=true
   ·rw [if_pos hok] at h ⊢
    have hst':=stU_step hst (Int.natCast_nonneg _) hok
    have h':runU (sgU sg lf c.toNat) (lfU lf c.toNat) t 0 = -1:=by
      rw[runU_shift] at h
      split at h
      ·assumption
      ·have:=(runU_ge t (sgU sg lf c.toNat) (lfU lf c.toNat)).1
       omega
    by_cases hz:lfU lf c.toNat=0
    ·rw[if_pos hz,show k+1-k=1 by omega]
     rw[hz] at h'
     exact ⟨by omega,by rw[runU_zero _ 0 (sgU sg lf c.toNat)];exact h'⟩
    ·rw[if_neg hz]
     obtain ⟨i1,i2⟩:=ih _ _ (k+1) hst' h' (.inr hz)
     refine ⟨i1,?_⟩
     have hs:=sgn_split t _ _ (k+1) _ rfl i1
     rw[show sgnGo (sgU sg lf c.toNat) (lfU lf c.toNat) t (k+1)-k=(sgnGo (sgU sg lf c.toNat) (lfU lf c.toNat) t (k+1)-(k+1))+1 by omega,List.drop_succ_cons]
     exact i2
   ·rw[if_neg hok] at h
    cases h
end
end Go.Proofs.YtnokhgfifbkflaaGreat
