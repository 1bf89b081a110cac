/- Lemmas. -/
import Derived.Test.YtnokhgfifbkflaaGreatJ08
import Derived.Test.YtnokhgfifbkflaaGreatJ51
set_option maxRecDepth 100000
set_option maxHeartbeats 8000000
set_option linter.unusedVariables false
namespace Go.Proofs.YtnokhgfifbkflaaGreat
open Go.Lib (hid)
section
open Go.RowKit
theorem low_toNat (n:Nat) (h:n≤15):((lowB n).toNat:Int)=if n<10 then 48+(n:Int) else 87+n:=by
 unfold lowB
 split
 ·rw[UInt8.toNat_ofNat'];omega
 ·rw[if_pos (by omega),UInt8.toNat_ofNat'];omega
theorem rlowerN_any (n:Nat) (h:n≤15) (w:World):Calls Tryz.prog 87 #[.int .i64 n] w fun e w'=>e=.returned (.int .u8 (lowB n).toNat)∧w=w':=by
 have hv:=low_toNat n h
 by_cases h9:n<10
 ·rw[if_pos h9] at hv
  have HV:=hid hv
  clear hv
  have g1:¬ (10:Int)≤n:=by omega
  have g2:(n:Int)≤9:=by omega
  go_enter Tryz.func87,Tryz.ntmps87
  go_wp2
  go_ret
  exact ⟨ret_i HV.out.symm,rfl⟩
 ·rw[if_neg h9] at hv
  have HV:=hid hv
  clear hv
  have g1:(10:Int)≤n:=by omega
  have g2:(n:Int)≤15:=by omega
  go_enter Tryz.func87,Tryz.ntmps87
  go_wp2
  go_ret
  exact ⟨ret_i HV.out.symm,rfl⟩
end
section
open Go.RowKit
theorem sgnGo_cons (sg lf:Int) (l:List UInt8) (j m:Nat) (h:j<l.length):sgnGo sg lf (l.drop j) m=if okU sg lf l[j].toNat then (if lfU lf l[j].toNat=0 then m+1 else sgnGo (sgU sg lf l[j].toNat) (lfU lf l[j].toNat) (l.drop (j+1)) (m+1)) else 0:=by
 rw[List.drop_eq_getElem_cons h];rfl
theorem sgn_long (l:List UInt8) (k m:Nat) (h:k<l.length) (hs:sgnL (l.drop k)=m) (hm:2≤m):128≤l[k].toNat:=by
 by_cases hc:l[k].toNat<128
 ·rw[List.drop_eq_getElem_cons h,sgn_small _ _ hc] at hs
  omega
 ·omega
end
section
open Go.RowKit
def rightB (s:Pst):Bool:=if s.named then decide (s.index=0)&&decide (badU s.name = -1) else decide (s.name=[])&&decide (0≤s.index∧s.index≤9007199254740991)
def escN (c:UInt8):UInt8:=if c=8 then 98 else if c=9 then 116 else if c=10 then 110 else if c=12 then 102 else if c=13 then 114 else if c=39 then 39 else if c=92 then 92 else 0
def ctlN (c:UInt8):List UInt8:=[92,117,48,48,lowB (c.toNat/16),lowB (c.toNat%16)]
def pieceM (l:List UInt8) (n:Nat):List UInt8:=match l with
 | []=>[]
 | c :: t=>if n=0 then stranger else if escN c≠0 then [92,escN c] else if c.toNat<32 then ctlN c else (c :: t).take n
theorem pieceM_cons (c:UInt8)(t:List UInt8)(n:Nat):pieceM (c :: t) n=if n=0 then stranger else if escN c≠0 then [92,escN c] else if c.toNat<32 then ctlN c else (c :: t).take n:=rfl
def nameGo:Nat→List UInt8→List UInt8
 | 0,_=>[]
 | f+1,l=>if l=[] then [] else pieceM l (sgnL l)++nameGo f (l.drop (goOn (sgnL l)))
def nameM (l:List UInt8):List UInt8:=nameGo l.length l
def nameT (l:List UInt8):List UInt8:=39 :: (nameM l++[39])
def digN (n:Nat):List UInt8:=if n<10 then [UInt8.ofNat (48+n)] else digN (n/10)++[UInt8.ofNat (48+n%10)]
termination_by n
decreasing_by omega
def stepT (s:Pst):List UInt8:=91 :: ((if s.named then nameT s.name else digN s.index.toNat)++[93])
def putP (l:List Pst):List UInt8:=if l.all rightB then 36 :: l.flatMap stepT else []
theorem digN_one (n:Nat)(h:n<10):digN n=[UInt8.ofNat (48+n)]:=by rw[digN,if_pos h]
theorem digN_more (n:Nat)(h:¬ n<10):digN n=digN (n/10)++[UInt8.ofNat (48+n%10)]:=by rw[digN,if_neg h]
theorem nameGo_nil (f:Nat):nameGo f []=[]:=by cases f<;>rfl
theorem nameGo_cons (f:Nat) (c:UInt8) (t:List UInt8):nameGo (f+1) (c :: t)=pieceM (c :: t) (sgnL (c :: t))++nameGo f ((c :: t).drop (goOn (sgnL (c :: t)))):=by
 show (if c :: t=[] then [] else _)=_
 rw[if_neg (by simp)]
theorem goOn_pos (n:Nat):1≤goOn n:=by unfold goOn;split<;>omega
theorem nameGo_fuel:∀ (f g:Nat) (l:List UInt8),l.length≤f→l.length≤g→nameGo f l=nameGo g l
 | f,g,[],_,_=>by rw[nameGo_nil,nameGo_nil]
 | 0,_,_ :: _,h,_=>by simp at h
 | _+1,0,_ :: _,_,h=>by simp at h
 | f+1,g+1,c :: t,h1,h2=>by
   rw[nameGo_cons,nameGo_cons]
   have:=goOn_pos (sgnL (c :: t))
   rw[nameGo_fuel f g _ (by simp at h1 ⊢;omega) (by simp at h2 ⊢;omega)]
theorem nameM_cons (c:UInt8) (t:List UInt8):nameM (c :: t)=pieceM (c :: t) (sgnL (c :: t))++nameM ((c :: t).drop (goOn (sgnL (c :: t)))):=by
 have:=goOn_pos (sgnL (c :: t))
 unfold nameM
 show nameGo (t.length+1) (c :: t)=_
 rw[nameGo_cons,nameGo_fuel t.length ((c :: t).drop (goOn (sgnL (c :: t)))).length _ (by simp;omega) (Nat.le_refl _)]
theorem sgn_take (l:List UInt8):∀ (sg lf:Int) (k j:Nat) (rest:List UInt8),sgnGo sg lf l k=j→j≠0→sgnGo sg lf (l.take (j-k)++rest) k=j:=by
 induction l with
 | nil=>intro sg lf k j rest h hj;exact absurd h.symm hj
 | cons c t ih =>
   intro sg lf k j rest h hj
   have hs:=sgn_split _ _ _ _ _ h hj
   have e:j-k=(j-(k+1))+1:=by omega
   rw[e,List.take_succ_cons,List.cons_append]
   have h':(if okU sg lf c.toNat then (if lfU lf c.toNat=0 then k+1 else sgnGo (sgU sg lf c.toNat) (lfU lf c.toNat) t (k+1)) else 0)=j:=h
   show (if okU sg lf c.toNat then (if lfU lf c.toNat=0 then k+1 else sgnGo (sgU sg lf c.toNat) (lfU lf c.toNat) (t.take (j-(k+1))++rest) (k+1)) else 0)=j
   split at h'
   ·rename_i hok
    rw[if_pos hok]
    split at h'
    ·rename_i hz;rw[if_pos hz];exact h'
    ·rename_i hz;rw[if_neg hz];exact ih _ _ _ _ rest h' hj
   ·exact absurd h'.symm hj
theorem sgnL_take {l:List UInt8} {n:Nat} (h:sgnL l=n) (h0:n≠0) (rest:List UInt8):sgnL (l.take n++rest)=n∧1≤n∧n≤l.length:=by
 have h1:=sgn_take l 0 0 0 n rest h h0
 have h2:=sgn_split l 0 0 0 n h h0
 exact ⟨h1,by omega,by omega⟩
theorem escN_cases {c:UInt8} (h:escN c≠0):c=8∨c=9∨c=10∨c=12∨c=13∨c=39∨c=92:=by
 unfold escN at h
 (repeat' split at h)<;>first|(exfalso;exact h rfl)|simp_all
end
section
open Go.RowKit
theorem head_app {a b:List UInt8} (h:a≠[]):(a++b).head?=a.head?:=by
 cases a with
 | nil=>exact absurd rfl h
 | cons x y=>rfl
theorem dig_toNat (n:Nat)(h:n<10):(UInt8.ofNat (48+n)).toNat=48+n:=UInt8.toNat_ofNat_of_lt' (by show 48+n<256;omega)
theorem digB_of (n:Nat)(h:n<10):digB (UInt8.ofNat (48+n))=true:=by unfold digB;rw[dig_toNat n h];exact decide_eq_true (by omega)
theorem digN_pos (v:Nat):1≤(digN v).length:=by
 by_cases h:v<10
 ·rw[digN_one v h];simp
 ·rw[digN_more v h];simp
theorem digN_len:∀ (k v:Nat),v<10 ^ (k+1)→(digN v).length≤k+1
 | 0,v,h=>by rw[digN_one v (by simpa using h)];simp
 | k + 1,v,h=>by
   by_cases h2:v<10
   ·rw[digN_one v h2];simp
   ·have:=digN_len k (v/10) (by rw[Nat.div_lt_iff_lt_mul (by decide)];rw[Nat.pow_succ] at h;exact h)
    rw[digN_more v h2,List.length_append,List.length_singleton]
    omega
theorem digN_head (v:Nat):(digN v).head?=some 48→v=0:=by
 induction v using Nat.strongRecOn with
 | ind v ih =>
   intro h
   by_cases h2:v<10
   ·rw[digN_one v h2] at h
    have h:UInt8.ofNat (48+v)=48:=by simpa using h
    have:=congrArg UInt8.toNat h
    rw[dig_toNat v h2] at this
    have e:(48:UInt8).toNat=48:=rfl
    omega
   ·have hp:=digN_pos (v/10)
    rw[digN_more v h2,head_app (by intro e;rw[e] at hp;simp at hp)] at h
    have:=ih (v/10) (by omega) h
    omega
theorem right_index {s:Pst} (h:rightB s=true) (hn:s.named=false):s=⟨false,[],s.index⟩∧0≤s.index∧s.index≤9007199254740991:=by
 obtain ⟨nd,nm,ix⟩:=s
 have hn:nd=false:=hn
 subst hn
 unfold rightB at h
 simp only [Bool.false_eq_true,if_false,Bool.and_eq_true,decide_eq_true_eq] at h
 obtain ⟨rfl,h⟩:=h
 exact ⟨rfl,h⟩
theorem right_name {s:Pst} (h:rightB s=true) (hn:s.named=true):s=⟨true,s.name,0⟩∧badU s.name = -1:=by
 obtain ⟨nd,nm,ix⟩:=s
 have hn:nd=true:=hn
 subst hn
 unfold rightB at h
 simp only [if_true,Bool.and_eq_true,decide_eq_true_eq] at h
 obtain ⟨rfl,h⟩:=h
 exact ⟨rfl,h⟩
end
end Go.Proofs.YtnokhgfifbkflaaGreat
