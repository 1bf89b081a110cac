/- Lemmas. -/
import Derived.Test.YtnokhgfifbkflaaGreatJ02
set_option maxRecDepth 100000
set_option maxHeartbeats 8000000
set_option linter.unusedVariables false
namespace Go.Proofs.YtnokhgfifbkflaaGreat
section
open Go.RowKit
def unitI (n:Int):Int:=if 55296≤n∧n<56320 then 1 else if 56320≤n∧n<57344 then 2 else 0
def hasI (n:Int):Bool:=decide (0≤n∧n≤1114111∧(n<55296∨57343<n))
def fixI (n:Int):Int:=if hasI n then n else 65533
def ofI (m:Int):List Int :=
 if m<128 then [m] else if m<2048 then [192+m/64,128+m%64] else if m<65536 then [224+m/4096,128+m/64%64,128+m%64]
 else [240+m/262144,128+m/4096%64,128+m/64%64,128+m%64]
theorem fixI_in (n:Int):0≤fixI n∧fixI n≤1114111∧(fixI n<55296∨57343<fixI n):=by
 unfold fixI hasI
 split
 ·rename_i h;simpa using h
 ·omega
theorem ofI_is {n:Int}:(n<128∧ofI n=[n])∨(128≤n∧n<2048∧ofI n=[192+n/64,128+n%64]) ∨
   (2048≤n∧n<65536∧ofI n=[224+n/4096,128+n/64%64,128+n%64]) ∨
   (65536≤n∧ofI n=[240+n/262144,128+n/4096%64,128+n/64%64,128+n%64]):=by
 unfold ofI
 (repeat' split)<;>simp<;>omega
theorem runU_both (l:List UInt8):∀ (sg lf:Int),-1≤runU sg lf l 0 ∧ ∀ k:Int,runU sg lf l k=if runU sg lf l 0 = -1 then -1 else runU sg lf l 0+k:=by
 induction l with
 | nil=>intro sg lf;by_cases h:0<lf<;>simp[runU,h]
 | cons c l ih =>
   intro sg lf
   show -1≤(if okU sg lf c.toNat then runU _ _ l (0+1) else 0) ∧ ∀ k:Int,(if okU sg lf c.toNat then runU _ _ l (k+1) else k)=if (if okU sg lf c.toNat then runU _ _ l (0+1) else 0) = -1 then -1 else (if okU sg lf c.toNat then runU _ _ l (0+1) else 0)+k
   by_cases h:okU sg lf c.toNat=true
   ·simp only [h,if_true]
    obtain ⟨i1,i2⟩:=ih (sgU sg lf c.toNat) (lfU lf c.toNat)
    rw[i2 (0+1)]
    refine ⟨by split<;>omega,fun k => ?_⟩
    rw[i2 (k+1)]
    (repeat' split)<;>omega
   ·simp only [h]
    simp
theorem runU_shift (l:List UInt8)(sg lf k:Int):runU sg lf l k=if runU sg lf l 0 = -1 then -1 else runU sg lf l 0+k:=(runU_both l sg lf).2 k
theorem runU_ge (l:List UInt8):∀ (sg lf:Int),-1≤runU sg lf l 0∧runU sg lf l 0≤l.length:=by
 induction l with
 | nil=>intro sg lf;show -1≤(if 0<lf then 0 else -1:Int)∧(if 0<lf then 0 else -1:Int)≤_;split<;>simp
 | cons c l ih =>
   intro sg lf
   show -1≤(if okU sg lf c.toNat then runU _ _ l (0+1) else 0)∧(if okU sg lf c.toNat then runU _ _ l (0+1) else 0)≤((c :: l).length:Int)
   have e:((c :: l).length:Int)=l.length+1:=by simp
   rw[e]
   split
   ·rw[runU_shift]
    have:=ih (sgU sg lf c.toNat) (lfU lf c.toNat)
    split<;>omega
   ·omega
theorem runU_zero (l:List UInt8) (sg sg' k:Int):runU sg 0 l k=runU sg' 0 l k:=by
 cases l with
 | nil=>rfl
 | cons c l =>
   have e1:okU sg 0 c.toNat=okU sg' 0 c.toNat:=rfl
   have e2:sgU sg 0 c.toNat=sgU sg' 0 c.toNat:=rfl
   show (if okU sg 0 c.toNat then runU _ _ l (k+1) else k)=(if okU sg' 0 c.toNat then runU _ _ l (k+1) else k)
   rw[e1,e2]
theorem runU_append (l m:List UInt8):∀ (sg lf:Int),StU sg lf →
   (runU sg lf l 0 = -1→runU sg lf (l++m) 0=runU 0 0 m l.length) ∧
   (0≤runU sg lf l 0→runU sg lf l 0<l.length→runU sg lf (l++m) 0=runU sg lf l 0):=by
 induction l with
 | nil =>
   intro sg lf hst
   refine ⟨fun h => ?_,fun _ h => ?_⟩
   ·have:lf=0:=by
      have h:(if 0<lf then 0 else -1:Int) = -1:=h
      unfold StU at hst
      split at h<;>omega
    subst this
    exact runU_zero m sg 0 _
   ·have h:(if 0<lf then 0 else -1:Int)<0:=h
    have h0:(0:Int)≤(if 0<lf then 0 else -1:Int):=by assumption
    omega
 | cons c l ih =>
   intro sg lf hst
   have e:((c :: l).length:Int)=l.length+1:=by simp
   rw[e]
   show ((if okU sg lf c.toNat then runU _ _ l (0+1) else 0) = -1→(if okU sg lf c.toNat then runU _ _ (l++m) (0+1) else 0)=_) ∧
     (0≤(if okU sg lf c.toNat then runU _ _ l (0+1) else 0)→(if okU sg lf c.toNat then runU _ _ l (0+1) else 0)<(l.length:Int)+1→(if okU sg lf c.toNat then runU _ _ (l++m) (0+1) else 0)=(if okU sg lf c.toNat then runU _ _ l (0+1) else 0))
   by_cases h:okU sg lf c.toNat=true
   ·simp only [h,if_true]
    obtain ⟨i1,i2⟩:=ih _ _ (stU_step hst (Int.natCast_nonneg _) h)
    have g:=runU_ge l (sgU sg lf c.toNat) (lfU lf c.toNat)
    rw[runU_shift l _ _ (0+1),runU_shift (l++m) _ _ (0+1)]
    refine ⟨fun hh => ?_,fun h0 hh => ?_⟩
    ·split at hh
     ·rename_i h1
      rw[i1 h1,runU_shift m 0 0 l.length,runU_shift m 0 0 (l.length+1)]
      have:=(runU_ge m 0 0).1
      (repeat' split)<;>omega
     ·omega
    ·split at hh
     ·rw[if_pos (by assumption)] at h0
      omega
     ·rename_i h1
      rw[i2 (by omega) (by omega),if_neg h1]
   ·simp only [h]
    simp
theorem badU_append (l m:List UInt8) :
   (badU l = -1→badU (l++m)=if badU m = -1 then -1 else badU m+l.length) ∧
   (0≤badU l→badU l<l.length→badU (l++m)=badU l):=by
 obtain ⟨h1,h2⟩:=runU_append l m 0 0 stU_zero
 exact ⟨fun h=>by rw[show badU (l++m)=runU 0 0 (l++m) 0 from rfl,h1 h,runU_shift];rfl,h2⟩
theorem runU_num (sg lf a k:Int) (h0:0≤a) (h9:a<256) (l:List UInt8) :
   runU sg lf (UInt8.ofNat a.toNat :: l) k=if okU sg lf a then runU (sgU sg lf a) (lfU lf a) l (k+1) else k:=by
 have e:((UInt8.ofNat a.toNat).toNat:Int)=a:=by
   rw[UInt8.toNat_ofNat']
   omega
 show (if okU sg lf ((UInt8.ofNat a.toNat).toNat:Int) then _ else _)=_
 rw[e]
theorem okU_0 (c:Int)(h:c<128∨194≤c∧c<245)(sg:Int):okU sg 0 c=true:=by unfold okU;rw[if_pos rfl];exact decide_eq_true h
theorem okU_n {sg lf c:Int}(hl:lf≠0)(h:lowU sg lf≤c∧c≤highU sg lf):okU sg lf c=true:=by unfold okU;rw[if_neg hl];exact decide_eq_true h
theorem badU_of (m:Int) (h0:0≤m) (h9:m≤1114111) (hs:m<55296∨57343<m):badU (strOfNums (ofI m)).data.toList = -1:=by
 rw[strOfNums_data]
 unfold badU
 rcases @ofI_is m with ⟨h,e⟩|⟨h,h',e⟩|⟨h,h',e⟩|⟨h,e⟩
 ·rw[e]
  simp only [List.map_cons,List.map_nil]
  rw[runU_num _ _ _ _ (by omega) (by omega),okU_0 _ (by omega),if_pos rfl]
  rw[show lfU 0 m=0 by unfold lfU;(repeat' split)<;>omega]
  rfl
 ·rw[e]
  simp only [List.map_cons,List.map_nil]
  rw[runU_num _ _ _ _ (by omega) (by omega),okU_0 _ (by omega),if_pos rfl]
  rw[show lfU 0 (192+m/64)=1 by unfold lfU;(repeat' split)<;>omega,show sgU 0 0 (192+m/64)=m/64 by unfold sgU;(repeat' split)<;>omega]
  rw[runU_num _ _ _ _ (by omega) (by omega),okU_n (by omega) (by unfold lowU highU;(repeat' split)<;>omega),if_pos rfl]
  rfl
 ·rw[e]
  simp only [List.map_cons,List.map_nil]
  rw[runU_num _ _ _ _ (by omega) (by omega),okU_0 _ (by omega),if_pos rfl]
  rw[show lfU 0 (224+m/4096)=2 by unfold lfU;(repeat' split)<;>omega,show sgU 0 0 (224+m/4096)=m/4096 by unfold sgU;(repeat' split)<;>omega]
  rw[runU_num _ _ _ _ (by omega) (by omega),okU_n (by omega) (by unfold lowU highU;(repeat' split)<;>omega),if_pos rfl]
  rw[show lfU 2 (128+m/64%64)=1 from rfl,show sgU (m/4096) 2 (128+m/64%64)=m/64 by unfold sgU;(repeat' split)<;>omega]
  rw[runU_num _ _ _ _ (by omega) (by omega),okU_n (by omega) (by unfold lowU highU;(repeat' split)<;>omega),if_pos rfl]
  rfl
 ·rw[e]
  simp only [List.map_cons,List.map_nil]
  rw[runU_num _ _ _ _ (by omega) (by omega),okU_0 _ (by omega),if_pos rfl]
  rw[show lfU 0 (240+m/262144)=3 by unfold lfU;(repeat' split)<;>omega,show sgU 0 0 (240+m/262144)=m/262144 by unfold sgU;(repeat' split)<;>omega]
  rw[runU_num _ _ _ _ (by omega) (by omega),okU_n (by omega) (by unfold lowU highU;(repeat' split)<;>omega),if_pos rfl]
  rw[show lfU 3 (128+m/4096%64)=2 from rfl,show sgU (m/262144) 3 (128+m/4096%64)=m/4096 by unfold sgU;(repeat' split)<;>omega]
  rw[runU_num _ _ _ _ (by omega) (by omega),okU_n (by omega) (by unfold lowU highU;(repeat' split)<;>omega),if_pos rfl]
  rw[show lfU 2 (128+m/64%64)=1 from rfl,show sgU (m/4096) 2 (128+m/64%64)=m/64 by unfold sgU;(repeat' split)<;>omega]
  rw[runU_num _ _ _ _ (by omega) (by omega),okU_n (by omega) (by unfold lowU highU;(repeat' split)<;>omega),if_pos rfl]
  rfl
end
end Go.Proofs.YtnokhgfifbkflaaGreat
