/- Lemmas. -/
import Derived.Test.YtnokhgfifbkflaaGreatJ10
import Derived.Test.YtnokhgfifbkflaaGreatJ16
import Derived.Test.YtnokhgfifbkflaaGreatJ19
import Derived.StillTailTactics
set_option maxRecDepth 100000
set_option maxHeartbeats 8000000
set_option linter.unusedVariables false
namespace Go.Proofs.YtnokhgfifbkflaaGreat
open Go.Lib (hid)
section
open Go.RowKit
theorem cat_data (s t:ByteArray):(s++t).data.toList=s.data.toList++t.data.toList:=by simp
theorem one_data (c:UInt8):(strOfNums [(c.toNat:Int)]).data.toList=[c]:=by
 rw[strOfNums_data];simp
theorem rstep_at (s:ByteArray) (c:UInt8) (a:Int) (h:At a s.data.toList) (W:World) (hs:s.size≤90000) :
   Calls Tryz.prog 114 #[.string s,.int .u8 c.toNat] W fun e w'=>e=.returned (.int .i64 (anI a c.toNat))∧Below W.heap.size W w':=by
 have hcv:=conv_one
 have hz1:(strOfNums [(c.toNat:Int)]).size=1:=rfl
 have hg:=at_goes h c
 have kt:=fun w=>ris_any (s++strOfNums [(c.toNat:Int)]) w (by simp[hz1];omega)
 have ku:=fun w=>ris_any (s++strOfNums [(c.toNat:Int)]++⟨#[49]⟩) w (by rw[ByteArray.size_append,ByteArray.size_append,hz1];show _+1≤_;omega)
 have ks:=fun w=>ris_any s w (by omega)
 rw[cat_data,one_data] at kt
 rw[cat_data,cat_data,one_data] at ku
 rw[at_is h] at ks
 rw[show (ByteArray.mk #[49]).data.toList=[49] from rfl] at ku
 have KT:=hid kt
 have KU:=hid ku
 have KS:=hid ks
 have HV:=hid (show anI a c.toNat=if decide (nxI a c.toNat≠0) then 0 else if whI a && !stickI c.toNat then 1 else 2 by unfold anI;simp)
 clear kt ku ks
 have hsz:s.size≤90000:=hs
 generalize isR (s.data.toList++[c])=x at *
 generalize isR (s.data.toList++[c]++[49])=y at *
 rw[← hg] at HV
 generalize whI a=z at *
 have HG:=hid (rdigit_any c.toNat)
 have HL:=hid (ralpha_any c.toNat)
 have HK:=hid (show stickI c.toNat=(isDigitI c.toNat||isAlphaI c.toNat||decide ((c.toNat:Int)=46)||decide ((c.toNat:Int)=43)||decide ((c.toNat:Int)=45)) from rfl)
 clear hg h hs
 generalize isDigitI c.toNat=d at *
 generalize isAlphaI c.toNat=b at *
 generalize stickI c.toNat=k at *
 generalize anI a c.toNat=r at *
 generalize (c.toNat:Int)=n at *
 cases x
 case true =>
   go_enter Tryz.func114,Tryz.ntmps114
   go_wp2_with (first
     | (go_at_call 115;(with_reducible refine (KT.out _).mono ?_);rintro e w1 ⟨rfl,rfl⟩)
     | (go_at_call 115;(with_reducible refine (KU.out _).mono ?_);rintro e w1 ⟨rfl,rfl⟩)
     | (go_at_call 115;(with_reducible refine (KS.out _).mono ?_);rintro e w1 ⟨rfl,rfl⟩)
     | (go_at_call 111;refine (HG.out _).mono ?_;rintro e w1 ⟨rfl,rfl⟩)
     | (go_at_call 126;refine (HL.out _).mono ?_;rintro e w1 ⟨rfl,rfl⟩))
   go_ret
   exact ⟨ret_i (by rw[HV.out];rfl),(Below.refl _ _).alloc (Nat.le_refl _) _⟩
 cases y
 case true =>
   go_enter Tryz.func114,Tryz.ntmps114
   go_wp2_with (first
     | (go_at_call 115;(with_reducible refine (KT.out _).mono ?_);rintro e w1 ⟨rfl,rfl⟩)
     | (go_at_call 115;(with_reducible refine (KU.out _).mono ?_);rintro e w1 ⟨rfl,rfl⟩)
     | (go_at_call 115;(with_reducible refine (KS.out _).mono ?_);rintro e w1 ⟨rfl,rfl⟩)
     | (go_at_call 111;refine (HG.out _).mono ?_;rintro e w1 ⟨rfl,rfl⟩)
     | (go_at_call 126;refine (HL.out _).mono ?_;rintro e w1 ⟨rfl,rfl⟩))
   go_ret
   exact ⟨ret_i (by rw[HV.out];rfl),(Below.refl _ _).alloc (Nat.le_refl _) _⟩
 cases z
 case false =>
   go_enter Tryz.func114,Tryz.ntmps114
   go_wp2_with (first
     | (go_at_call 115;(with_reducible refine (KT.out _).mono ?_);rintro e w1 ⟨rfl,rfl⟩)
     | (go_at_call 115;(with_reducible refine (KU.out _).mono ?_);rintro e w1 ⟨rfl,rfl⟩)
     | (go_at_call 115;(with_reducible refine (KS.out _).mono ?_);rintro e w1 ⟨rfl,rfl⟩)
     | (go_at_call 111;refine (HG.out _).mono ?_;rintro e w1 ⟨rfl,rfl⟩)
     | (go_at_call 126;refine (HL.out _).mono ?_;rintro e w1 ⟨rfl,rfl⟩))
   go_ret
   exact ⟨ret_i (by rw[HV.out];rfl),(Below.refl _ _).alloc (Nat.le_refl _) _⟩
 by_cases h1:n=46
 ·subst h1
  cases d<;>cases b
  all_goals
    go_enter Tryz.func114,Tryz.ntmps114
    go_wp2_with (first
    | (go_at_call 115;(with_reducible refine (KT.out _).mono ?_);rintro e w1 ⟨rfl,rfl⟩)
    | (go_at_call 115;(with_reducible refine (KU.out _).mono ?_);rintro e w1 ⟨rfl,rfl⟩)
    | (go_at_call 115;(with_reducible refine (KS.out _).mono ?_);rintro e w1 ⟨rfl,rfl⟩)
    | (go_at_call 111;refine (HG.out _).mono ?_;rintro e w1 ⟨rfl,rfl⟩)
    | (go_at_call 126;refine (HL.out _).mono ?_;rintro e w1 ⟨rfl,rfl⟩))
    go_ret
    exact ⟨ret_i (by rw[HV.out,HK.out];rfl),(Below.refl _ _).alloc (Nat.le_refl _) _⟩
 have g1:(n != 46)=true:=by simp[h1]
 by_cases h2:n=43
 ·subst h2
  cases d<;>cases b
  all_goals
    go_enter Tryz.func114,Tryz.ntmps114
    go_wp2_with (first
    | (go_at_call 115;(with_reducible refine (KT.out _).mono ?_);rintro e w1 ⟨rfl,rfl⟩)
    | (go_at_call 115;(with_reducible refine (KU.out _).mono ?_);rintro e w1 ⟨rfl,rfl⟩)
    | (go_at_call 115;(with_reducible refine (KS.out _).mono ?_);rintro e w1 ⟨rfl,rfl⟩)
    | (go_at_call 111;refine (HG.out _).mono ?_;rintro e w1 ⟨rfl,rfl⟩)
    | (go_at_call 126;refine (HL.out _).mono ?_;rintro e w1 ⟨rfl,rfl⟩))
    go_ret
    exact ⟨ret_i (by rw[HV.out,HK.out];rfl),(Below.refl _ _).alloc (Nat.le_refl _) _⟩
 have g2:(n != 43)=true:=by simp[h2]
 by_cases h3:n=45
 ·subst h3
  cases d<;>cases b
  all_goals
    go_enter Tryz.func114,Tryz.ntmps114
    go_wp2_with (first
    | (go_at_call 115;(with_reducible refine (KT.out _).mono ?_);rintro e w1 ⟨rfl,rfl⟩)
    | (go_at_call 115;(with_reducible refine (KU.out _).mono ?_);rintro e w1 ⟨rfl,rfl⟩)
    | (go_at_call 115;(with_reducible refine (KS.out _).mono ?_);rintro e w1 ⟨rfl,rfl⟩)
    | (go_at_call 111;refine (HG.out _).mono ?_;rintro e w1 ⟨rfl,rfl⟩)
    | (go_at_call 126;refine (HL.out _).mono ?_;rintro e w1 ⟨rfl,rfl⟩))
    go_ret
    exact ⟨ret_i (by rw[HV.out,HK.out];rfl),(Below.refl _ _).alloc (Nat.le_refl _) _⟩
 have g3:(n != 45)=true:=by simp[h3]
 cases d<;>cases b
 all_goals
   go_enter Tryz.func114,Tryz.ntmps114
   go_wp2_with (first
     | (go_at_call 115;(with_reducible refine (KT.out _).mono ?_);rintro e w1 ⟨rfl,rfl⟩)
     | (go_at_call 115;(with_reducible refine (KU.out _).mono ?_);rintro e w1 ⟨rfl,rfl⟩)
     | (go_at_call 115;(with_reducible refine (KS.out _).mono ?_);rintro e w1 ⟨rfl,rfl⟩)
     | (go_at_call 111;refine (HG.out _).mono ?_;rintro e w1 ⟨rfl,rfl⟩)
     | (go_at_call 126;refine (HL.out _).mono ?_;rintro e w1 ⟨rfl,rfl⟩))
   go_ret
   exact ⟨ret_i (by rw[HV.out,HK.out];simp[h1,h2,h3]),(Below.refl _ _).alloc (Nat.le_refl _) _⟩
theorem an_zero {a c:Int}(h:nxI a c≠0):anI a c=0:=by unfold anI;rw[if_pos h]
theorem at_take {a:Int} {l:List UInt8} (k:Nat) (hk:k<l.length) (h:At a (l.take k)) (hc:nxI a l[k].toNat≠0):At (nxI a l[k].toNat) (l.take (k+1)):=by
 rw[List.take_succ_eq_append_getElem hk]
 exact at_step h _ hc
end
section
open Go.RowKit
theorem rwords_any (W:World) :
   Calls Tryz.prog 128 #[] W fun e w'=>e=.returned (.slice (some ⟨W.heap.size,0,none⟩) 3 3)∧w'=W.alloc (.cells #[.string wT,.string wF,.string wN] 9):=by
 go_enter Tryz.func128,Tryz.ntmps128
 go_wp2
 go_ret
 exact ⟨rfl,rfl⟩
theorem hit_cases (lw l:List UInt8):hit lw l=1∨hit lw l=0∨hit lw l=2:=by unfold hit;(repeat' split)<;>simp
theorem opt (w x:ByteArray) :
   ((w.toList==x.toList)=true∧hit w.data.toList x.data.toList=1) ∨
   ((w.toList==x.toList)=false∧x.size<w.size∧((w.extract 0 x.size).toList==x.toList)=true∧hit w.data.toList x.data.toList=0) ∨
   ((w.toList==x.toList)=false∧x.size<w.size∧((w.extract 0 x.size).toList==x.toList)=false∧hit w.data.toList x.data.toList=2) ∨
   ((w.toList==x.toList)=false∧w.size≤x.size∧hit w.data.toList x.data.toList=2):=by
 rw[ByteArray.toList_eq,ByteArray.toList_eq,ByteArray.toList_eq,head_list]
 have e1:w.data.toList.length=w.size:=rfl
 have e2:x.data.toList.length=x.size:=rfl
 unfold hit
 by_cases h1:x.data.toList=w.data.toList
 ·exact .inl ⟨by rw[h1];simp,if_pos h1⟩
 rw[if_neg h1]
 have n1:(w.data.toList==x.data.toList)=false:=beq_eq_false_iff_ne.2 (Ne.symm h1)
 by_cases h2:x.size<w.size
 ·by_cases h3:w.data.toList.take x.size=x.data.toList
  ·exact .inr (.inl ⟨n1,h2,by rw[h3];simp,if_pos ⟨by omega,h3⟩⟩)
  ·exact .inr (.inr (.inl ⟨n1,h2,beq_eq_false_iff_ne.2 h3,if_neg (fun e=>h3 e.2)⟩))
 ·exact .inr (.inr (.inr ⟨n1,by omega,if_neg (fun e=>by omega)⟩))
theorem rstep_any (P:ByteArray) (c:UInt8) (W:World) (hs:P.size≤90000) :
   Calls Tryz.prog 116 #[.string P,.int .u8 c.toNat] W fun e w'=>e=.returned (.int .i64 (refL (P.data.toList++[c])))∧Below W.heap.size W w':=by
 have hcv:=conv_one
 have hz1:(strOfNums [(c.toNat:Int)]).size=1:=rfl
 obtain ⟨x,hx⟩:∃ x,P++strOfNums [(c.toNat:Int)]=x:=⟨_,rfl⟩
 have hxs:x.size≤90001:=by rw[← hx,ByteArray.size_append,hz1];omega
 have hxl:P.data.toList++[c]=x.data.toList:=by rw[← hx,cat_list,one_data]
 rw[hxl]
 unfold refL
 have HT:=hid (opt wT x)
 have HF:=hid (opt wF x)
 have HN:=hid (opt wN x)
 rw[show wT.data.toList=lT from rfl,zT] at HT
 rw[show wF.data.toList=lF from rfl,zF] at HF
 rw[show wN.data.toList=lN from rfl,zN] at HN
 clear hxl
 generalize hit lT x.data.toList=vT at *
 generalize hit lF x.data.toList=vF at *
 generalize hit lN x.data.toList=vN at *
 generalize (c.toNat:Int)=n at *
 have zt:=zT
 have zf:=zF
 have zn:=zN
 go_enter Tryz.func116,Tryz.ntmps116
 go_wp2_with (go_at_call 128;refine (rwords_any _).mono ?_;rintro e w' ⟨rfl,rfl⟩)
 rcases HT.out with ⟨q1,rfl⟩|⟨q1,q2,q3,rfl⟩|⟨q1,q2,q3,rfl⟩|⟨q1,q2,rfl⟩
 case inl =>
   refine wp_loop_rounds 4 ?_
   rw[rounds_succ]
   go_wp2
   go_ret
   exact ⟨rfl,below2 _ _ _⟩
 case inr.inl =>
   refine wp_loop_rounds 4 ?_
   rw[rounds_succ]
   go_wp2
   go_ret
   exact ⟨rfl,below2 _ _ _⟩
 all_goals
   rcases HF.out with ⟨p1,rfl⟩|⟨p1,p2,p3,rfl⟩|⟨p1,p2,p3,rfl⟩|⟨p1,p2,rfl⟩
   case inl =>
     refine wp_loop_rounds 4 ?_
     rw[rounds_succ]
     go_wp2
     rw[rounds_succ]
     go_wp2
     go_ret
     exact ⟨rfl,below2 _ _ _⟩
   case inr.inl =>
     refine wp_loop_rounds 4 ?_
     rw[rounds_succ]
     go_wp2
     rw[rounds_succ]
     go_wp2
     go_ret
     exact ⟨rfl,below2 _ _ _⟩
   all_goals
     rcases HN.out with ⟨r1,rfl⟩|⟨r1,r2,r3,rfl⟩|⟨r1,r2,r3,rfl⟩|⟨r1,r2,rfl⟩
     all_goals first
       | (exfalso;omega)
       | (refine wp_loop_rounds 4 ?_
          rw[rounds_succ]
          go_wp2
          rw[rounds_succ]
          go_wp2
          rw[rounds_succ]
          go_wp2
          (try (rw[rounds_succ];go_wp2))
          go_ret
          exact ⟨rfl,below2 _ _ _⟩)
theorem rkind_n (w:World) :
   Calls Tryz.prog 117 #[.string wN] w fun e w'=>e=.returned (.tuple #[.int .i64 0,.bool true])∧w=w':=by
 have e1:wN.toList=[110,117,108,108]:=by rw[ByteArray.toList_eq];rfl
 go_enter Tryz.func117,Tryz.ntmps117
 go_wp2
 go_ret2
 exact ⟨rfl,rfl⟩
theorem rkind_t (w:World) :
   Calls Tryz.prog 117 #[.string wT] w fun e w'=>e=.returned (.tuple #[.int .i64 1,.bool true])∧w=w':=by
 have e1:wT.toList=[116,114,117,101]:=by rw[ByteArray.toList_eq];rfl
 go_enter Tryz.func117,Tryz.ntmps117
 go_wp2
 go_ret2
 exact ⟨rfl,rfl⟩
theorem rkind_f (w:World) :
   Calls Tryz.prog 117 #[.string wF] w fun e w'=>e=.returned (.tuple #[.int .i64 1,.bool true])∧w=w':=by
 have e1:wF.toList=[102,97,108,115,101]:=by rw[ByteArray.toList_eq];rfl
 go_enter Tryz.func117,Tryz.ntmps117
 go_wp2
 go_ret2
 exact ⟨rfl,rfl⟩
end
section
open Go.RowKit
theorem getD_at (s:ByteArray) (k:Nat) (h:k<s.size):s.data.toList.getD k 0=s[k]:=by
 have hl:k<s.data.toList.length:=h
 rw[List.getD_eq_getElem?_getD,List.getElem?_eq_getElem hl]
 rfl
theorem drop_at (s:ByteArray)(k:Nat)(h:k<s.size):s.data.toList.drop k=s[k] :: s.data.toList.drop (k+1):=List.drop_eq_getElem_cons (l:=s.data.toList) h
theorem drop_none (s:ByteArray)(k:Nat)(h:s.size≤k):s.data.toList.drop k=[]:=List.drop_of_length_le h
theorem blankN_le:∀ l:List UInt8,blankN l≤l.length
 | []=>Nat.le_refl _
 | c :: t=>by
   unfold blankN
   split
   ·have:=blankN_le t;simp;omega
   ·omega
theorem blankR_le (l:List UInt8) (k:Nat) (h:k≤l.length):k≤blankR l k∧blankR l k≤l.length:=by
 have:=blankN_le (l.drop k)
 unfold blankR
 simp at this
 omega
theorem blankR_step (s:ByteArray) (k:Nat) (h:k<s.size):blankR s.data.toList k=if isBlankI s[k].toNat then blankR s.data.toList (k+1) else k:=by
 unfold blankR
 rw[drop_at s k h]
 show k+(if isBlankI s[k].toNat then blankN (s.data.toList.drop (k+1))+1 else 0)=_
 split<;>omega
theorem blankR_end (s:ByteArray) (k:Nat) (h:s.size≤k):blankR s.data.toList k=k:=by
 unfold blankR
 rw[drop_none s k h]
 rfl
def RelBkR (s:ByteArray)(k0:Nat)(a:Value):Prop:=∃ k:Nat,k≤s.size∧a=.int .i64 k∧blankR s.data.toList k0=blankR s.data.toList k
theorem rblankR_any (s:ByteArray) (k:Nat) (hk:k≤s.size) (hs:s.size≤100000) (W:World) :
   Calls Tryz.prog 59 #[.string s,.int .i64 k] W fun e w'=>e=.returned (.int .i64 (blankR s.data.toList k))∧W=w':=by
 go_enter Tryz.func59,Tryz.ntmps59
 go_wp2
 go_loop [1] (fun a=>RelBkR s k a) (fun a=>s.size-(intOf a).toNat)
 case atStart=>exact ⟨k,hk,rfl,rfl⟩
 case round =>
   obtain ⟨j,hj,rfl,hb⟩:=hrel
   by_cases hlt:j<s.size
   ·rw [blankR_step s j hlt] at hb
    by_cases hc:isBlankI s[j].toNat=true
    ·rw[if_pos hc] at hb
     have HB:=hid hb
     have HC:=hid hc
     clear hb hc
     go_wp2_with (go_at_call 88;refine (rblank_any _ _).mono ?_;rintro e w' ⟨rfl,rfl⟩;rw[HC.out])
     go_round
     case rel=>exact ⟨j+1,by omega,by go_num,HB.out⟩
     case measure=>simp[intOf];omega
    ·rw[if_neg hc] at hb
     have HB:=hid hb
     have HC:=hid (Bool.eq_false_iff.2 hc)
     clear hb hc
     go_wp2_with (go_at_call 88;refine (rblank_any _ _).mono ?_;rintro e w' ⟨rfl,rfl⟩;rw[HC.out])
     go_ret
     exact ⟨ret_i (by rw[HB.out]),rfl⟩
   ·rw[blankR_end s j (by omega)] at hb
    have HB:=hid hb
    clear hb
    go_wp2
    go_ret
    exact ⟨ret_i (by rw[HB.out]),rfl⟩
end
section
open Go.RowKit
theorem hexI_bd (c:Int) (h:isHexI c=true):0≤hexI c∧hexI c≤15:=by
 unfold isHexI at h
 unfold hexI
 simp at h ⊢
 (repeat' split)<;>omega
theorem hexGo_cons (f:Nat)(c:UInt8)(t:List UInt8)(v:Int):hexGo (f+1) (c :: t) v=if isHexI c.toNat then ((hexGo f t (v*16+hexI c.toNat)).1+1,(hexGo f t (v*16+hexI c.toNat)).2) else (0,v):=rfl
theorem hexGo_nil (f:Nat)(v:Int):hexGo f [] v=(0,v):=by cases f<;>rfl
def RelHx10 (s:ByteArray) (v i:Value):Prop :=
 ∃ (k:Nat) (x:Int),k≤4∧k≤s.size∧i=.int .i64 k∧v=.int .i64 x∧0≤x∧x<((16 ^ k:Nat):Int)∧hexR s.data.toList=((hexGo (4-k) (s.data.toList.drop k) x).1+k,(hexGo (4-k) (s.data.toList.drop k) x).2)
theorem rhexR_any (s:ByteArray) (hs:s.size≤100000) (W:World) :
   Calls Tryz.prog 143 #[.string s] W fun e w'=>e=.returned (.tuple #[.int .i64 (hexR s.data.toList).1,.int .i64 (hexR s.data.toList).2])∧W=w':=by
 go_enter Tryz.func143,Tryz.ntmps143
 go_wp2
 go_loop [4,5] (fun v i=>RelHx10 s v i) (fun _ i=>5-(intOf i).toNat)
 case atStart=>exact ⟨0,0,by omega,Nat.zero_le _,rfl,rfl,by omega,by decide,rfl⟩
 case round =>
   obtain ⟨k,x,hk4,hks,rfl,rfl,h0,h1,hh⟩:=hrel
   have hp:16 ^ k≤16 ^ 4:=Nat.pow_le_pow_right (by decide) hk4
   have hpw:(16:Nat) ^ (k+1)=16 ^ k*16:=Nat.pow_succ _ _
   have hx:x≤65535:=by omega
   by_cases h4:k<4
   ·obtain ⟨f,hf⟩:∃ f,4-k=f+1:=⟨3-k,by omega⟩
    by_cases hlt:k<s.size
    ·rw [hf,drop_at s k hlt,hexGo_cons] at hh
     have hc0:(0:Int)≤s[k].toNat:=Int.natCast_nonneg _
     have hc1:(s[k].toNat:Int)≤255:=by have:=UInt8.toNat_lt s[k];omega
     by_cases hc:isHexI s[k].toNat=true
     ·rw[if_pos hc] at hh
      obtain ⟨d0,d1⟩:=hexI_bd _ hc
      have HH:=hid hh
      have HC:=hid hc
      have HP:=hid hpw
      have HX:=hid h1
      have kt:=hid (fun w=>rhex_any _ w hc0 hc1)
      clear hh hc hpw h1 hp
      generalize hexI s[k].toNat=d at *
      go_wp2_with (go_at_call 144;refine (kt.out _).mono ?_;rintro e w' ⟨rfl,rfl⟩;rw[HC.out])
      go_round
      case rel=>exact ⟨k+1,x*16+d,by omega,hlt,by go_num,by go_num,by omega,(by have:=HP.out;have:=HX.out;omega),(by rw[HH.out,show 4-(k+1)=f by omega];simp;omega)⟩
      case measure=>simp[intOf];omega
     ·rw[if_neg hc] at hh
      have HH:=hid hh
      have HC:=hid (Bool.eq_false_iff.2 hc)
      have kt:=hid (fun w=>rhex_any _ w hc0 hc1)
      clear hh hc hpw h1 hp
      go_wp2_with (go_at_call 144;refine (kt.out _).mono ?_;rintro e w' ⟨rfl,rfl⟩;rw[HC.out])
      go_ret2
      exact ⟨(by rw[HH.out];simp),rfl⟩
    ·rw[drop_none s k (by omega),hexGo_nil] at hh
     have HH:=hid hh
     clear hh hpw h1 hp
     go_wp2
     go_ret2
     exact ⟨(by rw[HH.out];simp),rfl⟩
   ·obtain rfl:k=4:=by omega
    have HH:=hid (show hexR s.data.toList=(4,x) by rw[hh];rfl)
    clear hh hpw h1 hp
    go_wp2
    go_ret2
    exact ⟨(by rw[HH.out];rfl),rfl⟩
end
section
open Go.RowKit
theorem rlet_47 (W:World):Calls Tryz.prog 133 #[.int .u8 47] W fun e w'=>e=.returned (.int .u8 47)∧Below W.heap.size W w':=by
 go_enter Tryz.func133,Tryz.ntmps133
 go_wp2
 refine wp_loop_rounds 9 ?_
 rw[rounds_succ]
 go_wp2
 rw[rounds_succ]
 go_wp2
 rw[rounds_succ]
 go_wp2
 go_ret
 exact ⟨rfl,below2 _ _ _⟩
theorem rlet_no (c:Int) (W:World) (h1:¬ (34:Int)=c) (h2:¬ (92:Int)=c) (h3:¬ (47:Int)=c) (h4:¬ (98:Int)=c) (h5:¬ (102:Int)=c) (h6:¬ (110:Int)=c) (h7:¬ (114:Int)=c) (h8:¬ (116:Int)=c) :
   Calls Tryz.prog 133 #[.int .u8 c] W fun e w'=>e=.returned (.int .u8 0)∧Below W.heap.size W w':=by
 have b1:((34:Int)==c)=false:=beq_eq_false_iff_ne.2 h1
 have b2:((92:Int)==c)=false:=beq_eq_false_iff_ne.2 h2
 have b3:((47:Int)==c)=false:=beq_eq_false_iff_ne.2 h3
 have b4:((98:Int)==c)=false:=beq_eq_false_iff_ne.2 h4
 have b5:((102:Int)==c)=false:=beq_eq_false_iff_ne.2 h5
 have b6:((110:Int)==c)=false:=beq_eq_false_iff_ne.2 h6
 have b7:((114:Int)==c)=false:=beq_eq_false_iff_ne.2 h7
 have b8:((116:Int)==c)=false:=beq_eq_false_iff_ne.2 h8
 go_enter Tryz.func133,Tryz.ntmps133
 go_wp2
 refine wp_loop_rounds 10 ?_
 rw[rounds_succ]
 go_wp2
 rw[rounds_succ]
 go_wp2
 rw[rounds_succ]
 go_wp2
 rw[rounds_succ]
 go_wp2
 rw[rounds_succ]
 go_wp2
 rw[rounds_succ]
 go_wp2
 rw[rounds_succ]
 go_wp2
 rw[rounds_succ]
 go_wp2
 rw[rounds_succ]
 go_wp2
 go_ret
 exact ⟨rfl,below2 _ _ _⟩
theorem u8_ne {c:UInt8} {n:Nat} (h:c≠UInt8.ofNat n):¬ ((n:Nat):Int)=c.toNat:=by
 intro e
 apply h
 have:n=c.toNat:=by omega
 rw[this]
 simp
theorem rletR_any (c:UInt8) (W:World):Calls Tryz.prog 133 #[.int .u8 c.toNat] W fun e w'=>e=.returned (.int .u8 (letR c).toNat)∧Below W.heap.size W w':=by
 by_cases h1:c=34
 ·subst h1;exact rlet_34 W
 by_cases h2:c=92
 ·subst h2;exact rlet_92 W
 by_cases h3:c=47
 ·subst h3;exact rlet_47 W
 by_cases h4:c=98
 ·subst h4;exact rlet_98 W
 by_cases h5:c=102
 ·subst h5;exact rlet_102 W
 by_cases h6:c=110
 ·subst h6;exact rlet_110 W
 by_cases h7:c=114
 ·subst h7;exact rlet_114 W
 by_cases h8:c=116
 ·subst h8;exact rlet_116 W
 have e:letR c=0:=by unfold letR;rw[if_neg h1,if_neg h2,if_neg h3,if_neg h4,if_neg h5,if_neg h6,if_neg h7,if_neg h8]
 rw[e]
 have ne:=fun (n:Nat) (hn:n<256) (h:c≠UInt8.ofNat n)=>u8_ne h
 exact rlet_no c.toNat W (ne 34 (by decide) h1) (ne 92 (by decide) h2) (ne 47 (by decide) h3) (ne 98 (by decide) h4) (ne 102 (by decide) h5) (ne 110 (by decide) h6) (ne 114 (by decide) h7) (ne 116 (by decide) h8)
end
section
open Go.RowKit
theorem hexGo_le (f:Nat):∀ (l:List UInt8) (v:Int),(hexGo f l v).1≤f∧(hexGo f l v).1≤l.length:=by
 induction f with
 | zero=>intro l v;exact ⟨Nat.le_refl _,Nat.zero_le _⟩
 | succ f ih =>
   intro l v
   cases l with
   | nil=>rw[hexGo_nil];exact ⟨Nat.zero_le _,Nat.zero_le _⟩
   | cons c t =>
     rw[hexGo_cons]
     split
     ·have:=ih t (v*16+hexI c.toNat)
      simp
      omega
     ·exact ⟨Nat.zero_le _,Nat.zero_le _⟩
theorem hexGo_val (f:Nat):∀ (l:List UInt8) (v:Int) (m:Nat),0≤v→v<m→0≤(hexGo f l v).2∧(hexGo f l v).2<((m*16 ^ f:Nat):Int):=by
 induction f with
 | zero=>intro l v m h0 h1;exact ⟨h0,by rw[Nat.pow_zero,Nat.mul_one];exact h1⟩
 | succ f ih =>
   intro l v m h0 h1
   have hp:16 ^ 0≤16 ^ (f+1):=Nat.pow_le_pow_right (by decide) (Nat.zero_le _)
   have hm:m*1≤m*16 ^ (f+1):=Nat.mul_le_mul_left _ hp
   cases l with
   | nil=>rw[hexGo_nil];exact ⟨h0,by show v<_;omega⟩
   | cons c t =>
     rw[hexGo_cons]
     split
     ·rename_i hc
      have hb:=hexI_bd _ hc
      have:=ih t (v*16+hexI c.toNat) (m*16) (by omega) (by omega)
      have e:m*16*16 ^ f=m*16 ^ (f+1):=by rw[Nat.pow_succ,Nat.mul_assoc,Nat.mul_comm 16]
      rw[e] at this
      exact this
     ·exact ⟨h0,by show v<_;omega⟩
theorem hexR_bd (l:List UInt8):(hexR l).1≤4∧(hexR l).1≤l.length∧0≤(hexR l).2∧(hexR l).2≤65535:=by
 have h1:=hexGo_le 4 l 0
 have h2:=hexGo_val 4 l 0 1 (by omega) (by omega)
 have e:((1*16 ^ 4:Nat):Int)=65536:=by decide
 rw[e] at h2
 exact ⟨h1.1,h1.2,h2.1,by have:=h2.2;unfold hexR;omega⟩
set_option maxHeartbeats 16000000 in
theorem runit_f0 (s:ByteArray) (hs:s.size≤100000) (h2:2≤s.size) (e0:(s[0].toNat:Int)=92) (e1:(s[1].toNat:Int)=117) (v:Int) (b3:0≤v) (b4:v≤65535) (b2:0≤s.size-2) (d1 d2:Int) (KX:∀ w:World,Calls Tryz.prog 143 #[.string (s.extract 2 s.size)] w fun e w'=>e=.returned (.tuple #[.int .i64 0,.int .i64 v])∧w=w') (W:World) :
   Calls Tryz.prog 134 #[.string s,.bool false] W fun e w'=>e=.returned (.tuple #[.int .i64 (unitD false 0 v d1 d2 (s.size-2)).1,.int .i64 (unitD false 0 v d1 d2 (s.size-2)).2.1,.int .i64 (unitD false 0 v d1 d2 (s.size-2)).2.2])∧Below W.heap.size W w':=by
 have hne:¬ s=ByteArray.empty:=fun e=>by rw[e] at h2;exact absurd h2 (by decide)
 have HX:=hid KX
 clear KX
 by_cases q3:((2:Int)<s.size)
 ·have HU:=hid (show unitD false 0 v d1 d2 (s.size-2)=(2,0,3) by show (if _ then _ else _)=_;(repeat' split)<;>first|rfl|(exfalso;omega))
  go_enter Tryz.func134,Tryz.ntmps134
  go_wp2
  refine wp_loop_rounds 3 ?_
  rw[rounds_succ]
  go_wp2
  rw[rounds_succ]
  go_wp2
  rw[rounds_succ]
  go_wp2_with (first
    | (go_at_call 143;refine (HX.out _).mono ?_;rintro e w' ⟨rfl,rfl⟩))
  go_ret3
  exact ⟨(by rw[HU.out];rfl),below1 _ _⟩
 ·have HU:=hid (show unitD false 0 v d1 d2 (s.size-2)=(2,v,0) by show (if _ then _ else _)=_;(repeat' split)<;>first|rfl|(exfalso;omega))
  go_enter Tryz.func134,Tryz.ntmps134
  go_wp2
  refine wp_loop_rounds 3 ?_
  rw[rounds_succ]
  go_wp2
  rw[rounds_succ]
  go_wp2
  rw[rounds_succ]
  go_wp2_with (first
    | (go_at_call 143;refine (HX.out _).mono ?_;rintro e w' ⟨rfl,rfl⟩))
  go_ret3
  exact ⟨(by rw[HU.out];rfl),below1 _ _⟩
set_option maxHeartbeats 16000000 in
theorem runit_f1 (s:ByteArray) (hs:s.size≤100000) (h2:2≤s.size) (e0:(s[0].toNat:Int)=92) (e1:(s[1].toNat:Int)=117) (v:Int) (b3:0≤v) (b4:v≤65535) (b2:1≤s.size-2) (d1 d2:Int) (KX:∀ w:World,Calls Tryz.prog 143 #[.string (s.extract 2 s.size)] w fun e w'=>e=.returned (.tuple #[.int .i64 1,.int .i64 v])∧w=w') (z1:Bool) (KA:∀ w:World,∀ h:2<s.size,Calls Tryz.prog 144 #[.int .u8 s[2].toNat] w fun e w'=>e=.returned (.tuple #[.int .i64 d1,.bool z1])∧w=w') (W:World) :
   Calls Tryz.prog 134 #[.string s,.bool false] W fun e w'=>e=.returned (.tuple #[.int .i64 (unitD false 1 v d1 d2 (s.size-2)).1,.int .i64 (unitD false 1 v d1 d2 (s.size-2)).2.1,.int .i64 (unitD false 1 v d1 d2 (s.size-2)).2.2])∧Below W.heap.size W w':=by
 have hne:¬ s=ByteArray.empty:=fun e=>by rw[e] at h2;exact absurd h2 (by decide)
 have HX:=hid KX
 have g2:2<s.size:=by omega
 have HA:=hid (fun w=>KA w g2)
 clear KX KA
 by_cases q3:((3:Int)<s.size)
 ·have HU:=hid (show unitD false 1 v d1 d2 (s.size-2)=(3,0,3) by show (if _ then _ else _)=_;(repeat' split)<;>first|rfl|(exfalso;omega))
  go_enter Tryz.func134,Tryz.ntmps134
  go_wp2
  refine wp_loop_rounds 3 ?_
  rw[rounds_succ]
  go_wp2
  rw[rounds_succ]
  go_wp2
  rw[rounds_succ]
  go_wp2_with (first
    | (go_at_call 143;refine (HX.out _).mono ?_;rintro e w' ⟨rfl,rfl⟩)
    | (go_at_call 144;with_reducible refine (HA.out _).mono ?_;rintro e w' ⟨rfl,rfl⟩))
  go_ret3
  exact ⟨(by rw[HU.out];rfl),below1 _ _⟩
 ·have HU:=hid (show unitD false 1 v d1 d2 (s.size-2)=(3,v,0) by show (if _ then _ else _)=_;(repeat' split)<;>first|rfl|(exfalso;omega))
  go_enter Tryz.func134,Tryz.ntmps134
  go_wp2
  refine wp_loop_rounds 3 ?_
  rw[rounds_succ]
  go_wp2
  rw[rounds_succ]
  go_wp2
  rw[rounds_succ]
  go_wp2_with (first
    | (go_at_call 143;refine (HX.out _).mono ?_;rintro e w' ⟨rfl,rfl⟩)
    | (go_at_call 144;with_reducible refine (HA.out _).mono ?_;rintro e w' ⟨rfl,rfl⟩))
  go_ret3
  exact ⟨(by rw[HU.out];rfl),below1 _ _⟩
set_option maxHeartbeats 16000000 in
theorem runit_f2 (s:ByteArray) (hs:s.size≤100000) (h2:2≤s.size) (e0:(s[0].toNat:Int)=92) (e1:(s[1].toNat:Int)=117) (v:Int) (b3:0≤v) (b4:v≤65535) (b2:2≤s.size-2) (d1 d2:Int) (KX:∀ w:World,Calls Tryz.prog 143 #[.string (s.extract 2 s.size)] w fun e w'=>e=.returned (.tuple #[.int .i64 2,.int .i64 v])∧w=w') (z1:Bool) (KA:∀ w:World,∀ h:2<s.size,Calls Tryz.prog 144 #[.int .u8 s[2].toNat] w fun e w'=>e=.returned (.tuple #[.int .i64 d1,.bool z1])∧w=w') (z2:Bool) (KB:∀ w:World,∀ h:3<s.size,Calls Tryz.prog 144 #[.int .u8 s[3].toNat] w fun e w'=>e=.returned (.tuple #[.int .i64 d2,.bool z2])∧w=w') (W:World) :
   Calls Tryz.prog 134 #[.string s,.bool false] W fun e w'=>e=.returned (.tuple #[.int .i64 (unitD false 2 v d1 d2 (s.size-2)).1,.int .i64 (unitD false 2 v d1 d2 (s.size-2)).2.1,.int .i64 (unitD false 2 v d1 d2 (s.size-2)).2.2])∧Below W.heap.size W w':=by
 have hne:¬ s=ByteArray.empty:=fun e=>by rw[e] at h2;exact absurd h2 (by decide)
 have HX:=hid KX
 have g2:2<s.size:=by omega
 have HA:=hid (fun w=>KA w g2)
 have g3:3<s.size:=by omega
 have HB:=hid (fun w=>KB w g3)
 clear KX KA KB
 by_cases q1:d1=13
 ·subst q1
  by_cases q2:d2<12
  ·by_cases q3:((4:Int)<s.size)
   ·have HU:=hid (show unitD false 2 v 13 d2 (s.size-2)=(4,0,3) by show (if _ then _ else _)=_;(repeat' split)<;>first|rfl|(exfalso;omega))
    go_enter Tryz.func134,Tryz.ntmps134
    go_wp2
    refine wp_loop_rounds 3 ?_
    rw[rounds_succ]
    go_wp2
    rw[rounds_succ]
    go_wp2
    rw[rounds_succ]
    go_wp2_with (first
      | (go_at_call 143;refine (HX.out _).mono ?_;rintro e w' ⟨rfl,rfl⟩)
      | (go_at_call 144;with_reducible refine (HA.out _).mono ?_;rintro e w' ⟨rfl,rfl⟩)
      | (go_at_call 144;with_reducible refine (HB.out _).mono ?_;rintro e w' ⟨rfl,rfl⟩))
    go_ret3
    exact ⟨(by rw[HU.out];rfl),below1 _ _⟩
   ·have HU:=hid (show unitD false 2 v 13 d2 (s.size-2)=(4,v,0) by show (if _ then _ else _)=_;(repeat' split)<;>first|rfl|(exfalso;omega))
    go_enter Tryz.func134,Tryz.ntmps134
    go_wp2
    refine wp_loop_rounds 3 ?_
    rw[rounds_succ]
    go_wp2
    rw[rounds_succ]
    go_wp2
    rw[rounds_succ]
    go_wp2_with (first
      | (go_at_call 143;refine (HX.out _).mono ?_;rintro e w' ⟨rfl,rfl⟩)
      | (go_at_call 144;with_reducible refine (HA.out _).mono ?_;rintro e w' ⟨rfl,rfl⟩)
      | (go_at_call 144;with_reducible refine (HB.out _).mono ?_;rintro e w' ⟨rfl,rfl⟩))
    go_ret3
    exact ⟨(by rw[HU.out];rfl),below1 _ _⟩
  ·have HU:=hid (show unitD false 2 v 13 d2 (s.size-2)=(3,0,4) by show (if _ then _ else _)=_;(repeat' split)<;>first|rfl|(exfalso;omega))
   go_enter Tryz.func134,Tryz.ntmps134
   go_wp2
   refine wp_loop_rounds 3 ?_
   rw[rounds_succ]
   go_wp2
   rw[rounds_succ]
   go_wp2
   rw[rounds_succ]
   go_wp2_with (first
     | (go_at_call 143;refine (HX.out _).mono ?_;rintro e w' ⟨rfl,rfl⟩)
     | (go_at_call 144;with_reducible refine (HA.out _).mono ?_;rintro e w' ⟨rfl,rfl⟩)
     | (go_at_call 144;with_reducible refine (HB.out _).mono ?_;rintro e w' ⟨rfl,rfl⟩))
   go_ret3
   exact ⟨(by rw[HU.out];rfl),below1 _ _⟩
 ·by_cases q3:((4:Int)<s.size)
  ·have HU:=hid (show unitD false 2 v d1 d2 (s.size-2)=(4,0,3) by show (if _ then _ else _)=_;(repeat' split)<;>first|rfl|(exfalso;omega))
   go_enter Tryz.func134,Tryz.ntmps134
   go_wp2
   refine wp_loop_rounds 3 ?_
   rw[rounds_succ]
   go_wp2
   rw[rounds_succ]
   go_wp2
   rw[rounds_succ]
   go_wp2_with (first
     | (go_at_call 143;refine (HX.out _).mono ?_;rintro e w' ⟨rfl,rfl⟩)
     | (go_at_call 144;with_reducible refine (HA.out _).mono ?_;rintro e w' ⟨rfl,rfl⟩)
     | (go_at_call 144;with_reducible refine (HB.out _).mono ?_;rintro e w' ⟨rfl,rfl⟩))
   go_ret3
   exact ⟨(by rw[HU.out];rfl),below1 _ _⟩
  ·have HU:=hid (show unitD false 2 v d1 d2 (s.size-2)=(4,v,0) by show (if _ then _ else _)=_;(repeat' split)<;>first|rfl|(exfalso;omega))
   go_enter Tryz.func134,Tryz.ntmps134
   go_wp2
   refine wp_loop_rounds 3 ?_
   rw[rounds_succ]
   go_wp2
   rw[rounds_succ]
   go_wp2
   rw[rounds_succ]
   go_wp2_with (first
     | (go_at_call 143;refine (HX.out _).mono ?_;rintro e w' ⟨rfl,rfl⟩)
     | (go_at_call 144;with_reducible refine (HA.out _).mono ?_;rintro e w' ⟨rfl,rfl⟩)
     | (go_at_call 144;with_reducible refine (HB.out _).mono ?_;rintro e w' ⟨rfl,rfl⟩))
   go_ret3
   exact ⟨(by rw[HU.out];rfl),below1 _ _⟩
set_option maxHeartbeats 16000000 in
theorem runit_f3 (s:ByteArray) (hs:s.size≤100000) (h2:2≤s.size) (e0:(s[0].toNat:Int)=92) (e1:(s[1].toNat:Int)=117) (v:Int) (b3:0≤v) (b4:v≤65535) (b2:3≤s.size-2) (d1 d2:Int) (KX:∀ w:World,Calls Tryz.prog 143 #[.string (s.extract 2 s.size)] w fun e w'=>e=.returned (.tuple #[.int .i64 3,.int .i64 v])∧w=w') (z1:Bool) (KA:∀ w:World,∀ h:2<s.size,Calls Tryz.prog 144 #[.int .u8 s[2].toNat] w fun e w'=>e=.returned (.tuple #[.int .i64 d1,.bool z1])∧w=w') (z2:Bool) (KB:∀ w:World,∀ h:3<s.size,Calls Tryz.prog 144 #[.int .u8 s[3].toNat] w fun e w'=>e=.returned (.tuple #[.int .i64 d2,.bool z2])∧w=w') (W:World) :
   Calls Tryz.prog 134 #[.string s,.bool false] W fun e w'=>e=.returned (.tuple #[.int .i64 (unitD false 3 v d1 d2 (s.size-2)).1,.int .i64 (unitD false 3 v d1 d2 (s.size-2)).2.1,.int .i64 (unitD false 3 v d1 d2 (s.size-2)).2.2])∧Below W.heap.size W w':=by
 have hne:¬ s=ByteArray.empty:=fun e=>by rw[e] at h2;exact absurd h2 (by decide)
 have HX:=hid KX
 have g2:2<s.size:=by omega
 have HA:=hid (fun w=>KA w g2)
 have g3:3<s.size:=by omega
 have HB:=hid (fun w=>KB w g3)
 clear KX KA KB
 by_cases q1:d1=13
 ·subst q1
  by_cases q2:d2<12
  ·by_cases q3:((5:Int)<s.size)
   ·have HU:=hid (show unitD false 3 v 13 d2 (s.size-2)=(5,0,3) by show (if _ then _ else _)=_;(repeat' split)<;>first|rfl|(exfalso;omega))
    go_enter Tryz.func134,Tryz.ntmps134
    go_wp2
    refine wp_loop_rounds 3 ?_
    rw[rounds_succ]
    go_wp2
    rw[rounds_succ]
    go_wp2
    rw[rounds_succ]
    go_wp2_with (first
      | (go_at_call 143;refine (HX.out _).mono ?_;rintro e w' ⟨rfl,rfl⟩)
      | (go_at_call 144;with_reducible refine (HA.out _).mono ?_;rintro e w' ⟨rfl,rfl⟩)
      | (go_at_call 144;with_reducible refine (HB.out _).mono ?_;rintro e w' ⟨rfl,rfl⟩))
    go_ret3
    exact ⟨(by rw[HU.out];rfl),below1 _ _⟩
   ·have HU:=hid (show unitD false 3 v 13 d2 (s.size-2)=(5,v,0) by show (if _ then _ else _)=_;(repeat' split)<;>first|rfl|(exfalso;omega))
    go_enter Tryz.func134,Tryz.ntmps134
    go_wp2
    refine wp_loop_rounds 3 ?_
    rw[rounds_succ]
    go_wp2
    rw[rounds_succ]
    go_wp2
    rw[rounds_succ]
    go_wp2_with (first
      | (go_at_call 143;refine (HX.out _).mono ?_;rintro e w' ⟨rfl,rfl⟩)
      | (go_at_call 144;with_reducible refine (HA.out _).mono ?_;rintro e w' ⟨rfl,rfl⟩)
      | (go_at_call 144;with_reducible refine (HB.out _).mono ?_;rintro e w' ⟨rfl,rfl⟩))
    go_ret3
    exact ⟨(by rw[HU.out];rfl),below1 _ _⟩
  ·have HU:=hid (show unitD false 3 v 13 d2 (s.size-2)=(3,0,4) by show (if _ then _ else _)=_;(repeat' split)<;>first|rfl|(exfalso;omega))
   go_enter Tryz.func134,Tryz.ntmps134
   go_wp2
   refine wp_loop_rounds 3 ?_
   rw[rounds_succ]
   go_wp2
   rw[rounds_succ]
   go_wp2
   rw[rounds_succ]
   go_wp2_with (first
     | (go_at_call 143;refine (HX.out _).mono ?_;rintro e w' ⟨rfl,rfl⟩)
     | (go_at_call 144;with_reducible refine (HA.out _).mono ?_;rintro e w' ⟨rfl,rfl⟩)
     | (go_at_call 144;with_reducible refine (HB.out _).mono ?_;rintro e w' ⟨rfl,rfl⟩))
   go_ret3
   exact ⟨(by rw[HU.out];rfl),below1 _ _⟩
 ·by_cases q3:((5:Int)<s.size)
  ·have HU:=hid (show unitD false 3 v d1 d2 (s.size-2)=(5,0,3) by show (if _ then _ else _)=_;(repeat' split)<;>first|rfl|(exfalso;omega))
   go_enter Tryz.func134,Tryz.ntmps134
   go_wp2
   refine wp_loop_rounds 3 ?_
   rw[rounds_succ]
   go_wp2
   rw[rounds_succ]
   go_wp2
   rw[rounds_succ]
   go_wp2_with (first
     | (go_at_call 143;refine (HX.out _).mono ?_;rintro e w' ⟨rfl,rfl⟩)
     | (go_at_call 144;with_reducible refine (HA.out _).mono ?_;rintro e w' ⟨rfl,rfl⟩)
     | (go_at_call 144;with_reducible refine (HB.out _).mono ?_;rintro e w' ⟨rfl,rfl⟩))
   go_ret3
   exact ⟨(by rw[HU.out];rfl),below1 _ _⟩
  ·have HU:=hid (show unitD false 3 v d1 d2 (s.size-2)=(5,v,0) by show (if _ then _ else _)=_;(repeat' split)<;>first|rfl|(exfalso;omega))
   go_enter Tryz.func134,Tryz.ntmps134
   go_wp2
   refine wp_loop_rounds 3 ?_
   rw[rounds_succ]
   go_wp2
   rw[rounds_succ]
   go_wp2
   rw[rounds_succ]
   go_wp2_with (first
     | (go_at_call 143;refine (HX.out _).mono ?_;rintro e w' ⟨rfl,rfl⟩)
     | (go_at_call 144;with_reducible refine (HA.out _).mono ?_;rintro e w' ⟨rfl,rfl⟩)
     | (go_at_call 144;with_reducible refine (HB.out _).mono ?_;rintro e w' ⟨rfl,rfl⟩))
   go_ret3
   exact ⟨(by rw[HU.out];rfl),below1 _ _⟩
set_option maxHeartbeats 16000000 in
theorem runit_f4 (s:ByteArray) (hs:s.size≤100000) (h2:2≤s.size) (e0:(s[0].toNat:Int)=92) (e1:(s[1].toNat:Int)=117) (v:Int) (b3:0≤v) (b4:v≤65535) (b2:4≤s.size-2) (d1 d2:Int) (KX:∀ w:World,Calls Tryz.prog 143 #[.string (s.extract 2 s.size)] w fun e w'=>e=.returned (.tuple #[.int .i64 4,.int .i64 v])∧w=w') (z1:Bool) (KA:∀ w:World,∀ h:2<s.size,Calls Tryz.prog 144 #[.int .u8 s[2].toNat] w fun e w'=>e=.returned (.tuple #[.int .i64 d1,.bool z1])∧w=w') (z2:Bool) (KB:∀ w:World,∀ h:3<s.size,Calls Tryz.prog 144 #[.int .u8 s[3].toNat] w fun e w'=>e=.returned (.tuple #[.int .i64 d2,.bool z2])∧w=w') (W:World) :
   Calls Tryz.prog 134 #[.string s,.bool false] W fun e w'=>e=.returned (.tuple #[.int .i64 (unitD false 4 v d1 d2 (s.size-2)).1,.int .i64 (unitD false 4 v d1 d2 (s.size-2)).2.1,.int .i64 (unitD false 4 v d1 d2 (s.size-2)).2.2])∧Below W.heap.size W w':=by
 have hne:¬ s=ByteArray.empty:=fun e=>by rw[e] at h2;exact absurd h2 (by decide)
 have HX:=hid KX
 have g2:2<s.size:=by omega
 have HA:=hid (fun w=>KA w g2)
 have g3:3<s.size:=by omega
 have HB:=hid (fun w=>KB w g3)
 clear KX KA KB
 by_cases q1:d1=13
 ·subst q1
  by_cases q2:d2<12
  ·have HU:=hid (show unitD false 4 v 13 d2 (s.size-2)=(6,v,0) by show (if _ then _ else _)=_;(repeat' split)<;>first|rfl|(exfalso;omega))
   go_enter Tryz.func134,Tryz.ntmps134
   go_wp2
   refine wp_loop_rounds 3 ?_
   rw[rounds_succ]
   go_wp2
   rw[rounds_succ]
   go_wp2
   rw[rounds_succ]
   go_wp2_with (first
     | (go_at_call 143;refine (HX.out _).mono ?_;rintro e w' ⟨rfl,rfl⟩)
     | (go_at_call 144;with_reducible refine (HA.out _).mono ?_;rintro e w' ⟨rfl,rfl⟩)
     | (go_at_call 144;with_reducible refine (HB.out _).mono ?_;rintro e w' ⟨rfl,rfl⟩))
   go_ret3
   exact ⟨(by rw[HU.out];rfl),below1 _ _⟩
  ·have HU:=hid (show unitD false 4 v 13 d2 (s.size-2)=(3,0,4) by show (if _ then _ else _)=_;(repeat' split)<;>first|rfl|(exfalso;omega))
   go_enter Tryz.func134,Tryz.ntmps134
   go_wp2
   refine wp_loop_rounds 3 ?_
   rw[rounds_succ]
   go_wp2
   rw[rounds_succ]
   go_wp2
   rw[rounds_succ]
   go_wp2_with (first
     | (go_at_call 143;refine (HX.out _).mono ?_;rintro e w' ⟨rfl,rfl⟩)
     | (go_at_call 144;with_reducible refine (HA.out _).mono ?_;rintro e w' ⟨rfl,rfl⟩)
     | (go_at_call 144;with_reducible refine (HB.out _).mono ?_;rintro e w' ⟨rfl,rfl⟩))
   go_ret3
   exact ⟨(by rw[HU.out];rfl),below1 _ _⟩
 ·have HU:=hid (show unitD false 4 v d1 d2 (s.size-2)=(6,v,0) by show (if _ then _ else _)=_;(repeat' split)<;>first|rfl|(exfalso;omega))
  go_enter Tryz.func134,Tryz.ntmps134
  go_wp2
  refine wp_loop_rounds 3 ?_
  rw[rounds_succ]
  go_wp2
  rw[rounds_succ]
  go_wp2
  rw[rounds_succ]
  go_wp2_with (first
    | (go_at_call 143;refine (HX.out _).mono ?_;rintro e w' ⟨rfl,rfl⟩)
    | (go_at_call 144;with_reducible refine (HA.out _).mono ?_;rintro e w' ⟨rfl,rfl⟩)
    | (go_at_call 144;with_reducible refine (HB.out _).mono ?_;rintro e w' ⟨rfl,rfl⟩))
  go_ret3
  exact ⟨(by rw[HU.out];rfl),below1 _ _⟩
set_option maxHeartbeats 16000000 in
theorem runit_t0 (s:ByteArray) (hs:s.size≤100000) (h2:2≤s.size) (e0:(s[0].toNat:Int)=92) (e1:(s[1].toNat:Int)=117) (v:Int) (b3:0≤v) (b4:v≤65535) (b2:0≤s.size-2) (d1 d2:Int) (KX:∀ w:World,Calls Tryz.prog 143 #[.string (s.extract 2 s.size)] w fun e w'=>e=.returned (.tuple #[.int .i64 0,.int .i64 v])∧w=w') (W:World) :
   Calls Tryz.prog 134 #[.string s,.bool true] W fun e w'=>e=.returned (.tuple #[.int .i64 (unitD true 0 v d1 d2 (s.size-2)).1,.int .i64 (unitD true 0 v d1 d2 (s.size-2)).2.1,.int .i64 (unitD true 0 v d1 d2 (s.size-2)).2.2])∧Below W.heap.size W w':=by
 have hne:¬ s=ByteArray.empty:=fun e=>by rw[e] at h2;exact absurd h2 (by decide)
 have HX:=hid KX
 clear KX
 by_cases q3:((2:Int)<s.size)
 ·have HU:=hid (show unitD true 0 v d1 d2 (s.size-2)=(2,0,4) by show (if _ then _ else _)=_;(repeat' split)<;>first|rfl|(exfalso;omega))
  go_enter Tryz.func134,Tryz.ntmps134
  go_wp2
  refine wp_loop_rounds 3 ?_
  rw[rounds_succ]
  go_wp2
  rw[rounds_succ]
  go_wp2
  rw[rounds_succ]
  go_wp2_with (first
    | (go_at_call 143;refine (HX.out _).mono ?_;rintro e w' ⟨rfl,rfl⟩))
  go_ret3
  exact ⟨(by rw[HU.out];rfl),below1 _ _⟩
 ·have HU:=hid (show unitD true 0 v d1 d2 (s.size-2)=(2,v,0) by show (if _ then _ else _)=_;(repeat' split)<;>first|rfl|(exfalso;omega))
  go_enter Tryz.func134,Tryz.ntmps134
  go_wp2
  refine wp_loop_rounds 3 ?_
  rw[rounds_succ]
  go_wp2
  rw[rounds_succ]
  go_wp2
  rw[rounds_succ]
  go_wp2_with (first
    | (go_at_call 143;refine (HX.out _).mono ?_;rintro e w' ⟨rfl,rfl⟩))
  go_ret3
  exact ⟨(by rw[HU.out];rfl),below1 _ _⟩
set_option maxHeartbeats 16000000 in
theorem runit_t1 (s:ByteArray) (hs:s.size≤100000) (h2:2≤s.size) (e0:(s[0].toNat:Int)=92) (e1:(s[1].toNat:Int)=117) (v:Int) (b3:0≤v) (b4:v≤65535) (b2:1≤s.size-2) (d1 d2:Int) (KX:∀ w:World,Calls Tryz.prog 143 #[.string (s.extract 2 s.size)] w fun e w'=>e=.returned (.tuple #[.int .i64 1,.int .i64 v])∧w=w') (z1:Bool) (KA:∀ w:World,∀ h:2<s.size,Calls Tryz.prog 144 #[.int .u8 s[2].toNat] w fun e w'=>e=.returned (.tuple #[.int .i64 d1,.bool z1])∧w=w') (W:World) :
   Calls Tryz.prog 134 #[.string s,.bool true] W fun e w'=>e=.returned (.tuple #[.int .i64 (unitD true 1 v d1 d2 (s.size-2)).1,.int .i64 (unitD true 1 v d1 d2 (s.size-2)).2.1,.int .i64 (unitD true 1 v d1 d2 (s.size-2)).2.2])∧Below W.heap.size W w':=by
 have hne:¬ s=ByteArray.empty:=fun e=>by rw[e] at h2;exact absurd h2 (by decide)
 have HX:=hid KX
 have g2:2<s.size:=by omega
 have HA:=hid (fun w=>KA w g2)
 clear KX KA
 by_cases q1:d1=13
 ·subst q1
  by_cases q3:((3:Int)<s.size)
  ·have HU:=hid (show unitD true 1 v 13 d2 (s.size-2)=(3,0,4) by show (if _ then _ else _)=_;(repeat' split)<;>first|rfl|(exfalso;omega))
   go_enter Tryz.func134,Tryz.ntmps134
   go_wp2
   refine wp_loop_rounds 3 ?_
   rw[rounds_succ]
   go_wp2
   rw[rounds_succ]
   go_wp2
   rw[rounds_succ]
   go_wp2_with (first
     | (go_at_call 143;refine (HX.out _).mono ?_;rintro e w' ⟨rfl,rfl⟩)
     | (go_at_call 144;with_reducible refine (HA.out _).mono ?_;rintro e w' ⟨rfl,rfl⟩))
   go_ret3
   exact ⟨(by rw[HU.out];rfl),below1 _ _⟩
  ·have HU:=hid (show unitD true 1 v 13 d2 (s.size-2)=(3,v,0) by show (if _ then _ else _)=_;(repeat' split)<;>first|rfl|(exfalso;omega))
   go_enter Tryz.func134,Tryz.ntmps134
   go_wp2
   refine wp_loop_rounds 3 ?_
   rw[rounds_succ]
   go_wp2
   rw[rounds_succ]
   go_wp2
   rw[rounds_succ]
   go_wp2_with (first
     | (go_at_call 143;refine (HX.out _).mono ?_;rintro e w' ⟨rfl,rfl⟩)
     | (go_at_call 144;with_reducible refine (HA.out _).mono ?_;rintro e w' ⟨rfl,rfl⟩))
   go_ret3
   exact ⟨(by rw[HU.out];rfl),below1 _ _⟩
 ·have HU:=hid (show unitD true 1 v d1 d2 (s.size-2)=(2,0,4) by show (if _ then _ else _)=_;(repeat' split)<;>first|rfl|(exfalso;omega))
  go_enter Tryz.func134,Tryz.ntmps134
  go_wp2
  refine wp_loop_rounds 3 ?_
  rw[rounds_succ]
  go_wp2
  rw[rounds_succ]
  go_wp2
  rw[rounds_succ]
  go_wp2_with (first
    | (go_at_call 143;refine (HX.out _).mono ?_;rintro e w' ⟨rfl,rfl⟩)
    | (go_at_call 144;with_reducible refine (HA.out _).mono ?_;rintro e w' ⟨rfl,rfl⟩))
  go_ret3
  exact ⟨(by rw[HU.out];rfl),below1 _ _⟩
set_option maxHeartbeats 16000000 in
theorem runit_t2 (s:ByteArray) (hs:s.size≤100000) (h2:2≤s.size) (e0:(s[0].toNat:Int)=92) (e1:(s[1].toNat:Int)=117) (v:Int) (b3:0≤v) (b4:v≤65535) (b2:2≤s.size-2) (d1 d2:Int) (KX:∀ w:World,Calls Tryz.prog 143 #[.string (s.extract 2 s.size)] w fun e w'=>e=.returned (.tuple #[.int .i64 2,.int .i64 v])∧w=w') (z1:Bool) (KA:∀ w:World,∀ h:2<s.size,Calls Tryz.prog 144 #[.int .u8 s[2].toNat] w fun e w'=>e=.returned (.tuple #[.int .i64 d1,.bool z1])∧w=w') (z2:Bool) (KB:∀ w:World,∀ h:3<s.size,Calls Tryz.prog 144 #[.int .u8 s[3].toNat] w fun e w'=>e=.returned (.tuple #[.int .i64 d2,.bool z2])∧w=w') (W:World) :
   Calls Tryz.prog 134 #[.string s,.bool true] W fun e w'=>e=.returned (.tuple #[.int .i64 (unitD true 2 v d1 d2 (s.size-2)).1,.int .i64 (unitD true 2 v d1 d2 (s.size-2)).2.1,.int .i64 (unitD true 2 v d1 d2 (s.size-2)).2.2])∧Below W.heap.size W w':=by
 have hne:¬ s=ByteArray.empty:=fun e=>by rw[e] at h2;exact absurd h2 (by decide)
 have HX:=hid KX
 have g2:2<s.size:=by omega
 have HA:=hid (fun w=>KA w g2)
 have g3:3<s.size:=by omega
 have HB:=hid (fun w=>KB w g3)
 clear KX KA KB
 by_cases q1:d1=13
 ·subst q1
  by_cases q2:d2<12
  ·have HU:=hid (show unitD true 2 v 13 d2 (s.size-2)=(3,0,4) by show (if _ then _ else _)=_;(repeat' split)<;>first|rfl|(exfalso;omega))
   go_enter Tryz.func134,Tryz.ntmps134
   go_wp2
   refine wp_loop_rounds 3 ?_
   rw[rounds_succ]
   go_wp2
   rw[rounds_succ]
   go_wp2
   rw[rounds_succ]
   go_wp2_with (first
     | (go_at_call 143;refine (HX.out _).mono ?_;rintro e w' ⟨rfl,rfl⟩)
     | (go_at_call 144;with_reducible refine (HA.out _).mono ?_;rintro e w' ⟨rfl,rfl⟩)
     | (go_at_call 144;with_reducible refine (HB.out _).mono ?_;rintro e w' ⟨rfl,rfl⟩))
   go_ret3
   exact ⟨(by rw[HU.out];rfl),below1 _ _⟩
  ·by_cases q3:((4:Int)<s.size)
   ·have HU:=hid (show unitD true 2 v 13 d2 (s.size-2)=(4,0,3) by show (if _ then _ else _)=_;(repeat' split)<;>first|rfl|(exfalso;omega))
    go_enter Tryz.func134,Tryz.ntmps134
    go_wp2
    refine wp_loop_rounds 3 ?_
    rw[rounds_succ]
    go_wp2
    rw[rounds_succ]
    go_wp2
    rw[rounds_succ]
    go_wp2_with (first
      | (go_at_call 143;refine (HX.out _).mono ?_;rintro e w' ⟨rfl,rfl⟩)
      | (go_at_call 144;with_reducible refine (HA.out _).mono ?_;rintro e w' ⟨rfl,rfl⟩)
      | (go_at_call 144;with_reducible refine (HB.out _).mono ?_;rintro e w' ⟨rfl,rfl⟩))
    go_ret3
    exact ⟨(by rw[HU.out];rfl),below1 _ _⟩
   ·have HU:=hid (show unitD true 2 v 13 d2 (s.size-2)=(4,v,0) by show (if _ then _ else _)=_;(repeat' split)<;>first|rfl|(exfalso;omega))
    go_enter Tryz.func134,Tryz.ntmps134
    go_wp2
    refine wp_loop_rounds 3 ?_
    rw[rounds_succ]
    go_wp2
    rw[rounds_succ]
    go_wp2
    rw[rounds_succ]
    go_wp2_with (first
      | (go_at_call 143;refine (HX.out _).mono ?_;rintro e w' ⟨rfl,rfl⟩)
      | (go_at_call 144;with_reducible refine (HA.out _).mono ?_;rintro e w' ⟨rfl,rfl⟩)
      | (go_at_call 144;with_reducible refine (HB.out _).mono ?_;rintro e w' ⟨rfl,rfl⟩))
    go_ret3
    exact ⟨(by rw[HU.out];rfl),below1 _ _⟩
 ·have HU:=hid (show unitD true 2 v d1 d2 (s.size-2)=(2,0,4) by show (if _ then _ else _)=_;(repeat' split)<;>first|rfl|(exfalso;omega))
  go_enter Tryz.func134,Tryz.ntmps134
  go_wp2
  refine wp_loop_rounds 3 ?_
  rw[rounds_succ]
  go_wp2
  rw[rounds_succ]
  go_wp2
  rw[rounds_succ]
  go_wp2_with (first
    | (go_at_call 143;refine (HX.out _).mono ?_;rintro e w' ⟨rfl,rfl⟩)
    | (go_at_call 144;with_reducible refine (HA.out _).mono ?_;rintro e w' ⟨rfl,rfl⟩)
    | (go_at_call 144;with_reducible refine (HB.out _).mono ?_;rintro e w' ⟨rfl,rfl⟩))
  go_ret3
  exact ⟨(by rw[HU.out];rfl),below1 _ _⟩
set_option maxHeartbeats 16000000 in
theorem runit_t3 (s:ByteArray) (hs:s.size≤100000) (h2:2≤s.size) (e0:(s[0].toNat:Int)=92) (e1:(s[1].toNat:Int)=117) (v:Int) (b3:0≤v) (b4:v≤65535) (b2:3≤s.size-2) (d1 d2:Int) (KX:∀ w:World,Calls Tryz.prog 143 #[.string (s.extract 2 s.size)] w fun e w'=>e=.returned (.tuple #[.int .i64 3,.int .i64 v])∧w=w') (z1:Bool) (KA:∀ w:World,∀ h:2<s.size,Calls Tryz.prog 144 #[.int .u8 s[2].toNat] w fun e w'=>e=.returned (.tuple #[.int .i64 d1,.bool z1])∧w=w') (z2:Bool) (KB:∀ w:World,∀ h:3<s.size,Calls Tryz.prog 144 #[.int .u8 s[3].toNat] w fun e w'=>e=.returned (.tuple #[.int .i64 d2,.bool z2])∧w=w') (W:World) :
   Calls Tryz.prog 134 #[.string s,.bool true] W fun e w'=>e=.returned (.tuple #[.int .i64 (unitD true 3 v d1 d2 (s.size-2)).1,.int .i64 (unitD true 3 v d1 d2 (s.size-2)).2.1,.int .i64 (unitD true 3 v d1 d2 (s.size-2)).2.2])∧Below W.heap.size W w':=by
 have hne:¬ s=ByteArray.empty:=fun e=>by rw[e] at h2;exact absurd h2 (by decide)
 have HX:=hid KX
 have g2:2<s.size:=by omega
 have HA:=hid (fun w=>KA w g2)
 have g3:3<s.size:=by omega
 have HB:=hid (fun w=>KB w g3)
 clear KX KA KB
 by_cases q1:d1=13
 ·subst q1
  by_cases q2:d2<12
  ·have HU:=hid (show unitD true 3 v 13 d2 (s.size-2)=(3,0,4) by show (if _ then _ else _)=_;(repeat' split)<;>first|rfl|(exfalso;omega))
   go_enter Tryz.func134,Tryz.ntmps134
   go_wp2
   refine wp_loop_rounds 3 ?_
   rw[rounds_succ]
   go_wp2
   rw[rounds_succ]
   go_wp2
   rw[rounds_succ]
   go_wp2_with (first
     | (go_at_call 143;refine (HX.out _).mono ?_;rintro e w' ⟨rfl,rfl⟩)
     | (go_at_call 144;with_reducible refine (HA.out _).mono ?_;rintro e w' ⟨rfl,rfl⟩)
     | (go_at_call 144;with_reducible refine (HB.out _).mono ?_;rintro e w' ⟨rfl,rfl⟩))
   go_ret3
   exact ⟨(by rw[HU.out];rfl),below1 _ _⟩
  ·by_cases q3:((5:Int)<s.size)
   ·have HU:=hid (show unitD true 3 v 13 d2 (s.size-2)=(5,0,3) by show (if _ then _ else _)=_;(repeat' split)<;>first|rfl|(exfalso;omega))
    go_enter Tryz.func134,Tryz.ntmps134
    go_wp2
    refine wp_loop_rounds 3 ?_
    rw[rounds_succ]
    go_wp2
    rw[rounds_succ]
    go_wp2
    rw[rounds_succ]
    go_wp2_with (first
      | (go_at_call 143;refine (HX.out _).mono ?_;rintro e w' ⟨rfl,rfl⟩)
      | (go_at_call 144;with_reducible refine (HA.out _).mono ?_;rintro e w' ⟨rfl,rfl⟩)
      | (go_at_call 144;with_reducible refine (HB.out _).mono ?_;rintro e w' ⟨rfl,rfl⟩))
    go_ret3
    exact ⟨(by rw[HU.out];rfl),below1 _ _⟩
   ·have HU:=hid (show unitD true 3 v 13 d2 (s.size-2)=(5,v,0) by show (if _ then _ else _)=_;(repeat' split)<;>first|rfl|(exfalso;omega))
    go_enter Tryz.func134,Tryz.ntmps134
    go_wp2
    refine wp_loop_rounds 3 ?_
    rw[rounds_succ]
    go_wp2
    rw[rounds_succ]
    go_wp2
    rw[rounds_succ]
    go_wp2_with (first
      | (go_at_call 143;refine (HX.out _).mono ?_;rintro e w' ⟨rfl,rfl⟩)
      | (go_at_call 144;with_reducible refine (HA.out _).mono ?_;rintro e w' ⟨rfl,rfl⟩)
      | (go_at_call 144;with_reducible refine (HB.out _).mono ?_;rintro e w' ⟨rfl,rfl⟩))
    go_ret3
    exact ⟨(by rw[HU.out];rfl),below1 _ _⟩
 ·have HU:=hid (show unitD true 3 v d1 d2 (s.size-2)=(2,0,4) by show (if _ then _ else _)=_;(repeat' split)<;>first|rfl|(exfalso;omega))
  go_enter Tryz.func134,Tryz.ntmps134
  go_wp2
  refine wp_loop_rounds 3 ?_
  rw[rounds_succ]
  go_wp2
  rw[rounds_succ]
  go_wp2
  rw[rounds_succ]
  go_wp2_with (first
    | (go_at_call 143;refine (HX.out _).mono ?_;rintro e w' ⟨rfl,rfl⟩)
    | (go_at_call 144;with_reducible refine (HA.out _).mono ?_;rintro e w' ⟨rfl,rfl⟩)
    | (go_at_call 144;with_reducible refine (HB.out _).mono ?_;rintro e w' ⟨rfl,rfl⟩))
  go_ret3
  exact ⟨(by rw[HU.out];rfl),below1 _ _⟩
set_option maxHeartbeats 16000000 in
theorem runit_t4 (s:ByteArray) (hs:s.size≤100000) (h2:2≤s.size) (e0:(s[0].toNat:Int)=92) (e1:(s[1].toNat:Int)=117) (v:Int) (b3:0≤v) (b4:v≤65535) (b2:4≤s.size-2) (d1 d2:Int) (KX:∀ w:World,Calls Tryz.prog 143 #[.string (s.extract 2 s.size)] w fun e w'=>e=.returned (.tuple #[.int .i64 4,.int .i64 v])∧w=w') (z1:Bool) (KA:∀ w:World,∀ h:2<s.size,Calls Tryz.prog 144 #[.int .u8 s[2].toNat] w fun e w'=>e=.returned (.tuple #[.int .i64 d1,.bool z1])∧w=w') (z2:Bool) (KB:∀ w:World,∀ h:3<s.size,Calls Tryz.prog 144 #[.int .u8 s[3].toNat] w fun e w'=>e=.returned (.tuple #[.int .i64 d2,.bool z2])∧w=w') (W:World) :
   Calls Tryz.prog 134 #[.string s,.bool true] W fun e w'=>e=.returned (.tuple #[.int .i64 (unitD true 4 v d1 d2 (s.size-2)).1,.int .i64 (unitD true 4 v d1 d2 (s.size-2)).2.1,.int .i64 (unitD true 4 v d1 d2 (s.size-2)).2.2])∧Below W.heap.size W w':=by
 have hne:¬ s=ByteArray.empty:=fun e=>by rw[e] at h2;exact absurd h2 (by decide)
 have HX:=hid KX
 have g2:2<s.size:=by omega
 have HA:=hid (fun w=>KA w g2)
 have g3:3<s.size:=by omega
 have HB:=hid (fun w=>KB w g3)
 clear KX KA KB
 by_cases q1:d1=13
 ·subst q1
  by_cases q2:d2<12
  ·have HU:=hid (show unitD true 4 v 13 d2 (s.size-2)=(3,0,4) by show (if _ then _ else _)=_;(repeat' split)<;>first|rfl|(exfalso;omega))
   go_enter Tryz.func134,Tryz.ntmps134
   go_wp2
   refine wp_loop_rounds 3 ?_
   rw[rounds_succ]
   go_wp2
   rw[rounds_succ]
   go_wp2
   rw[rounds_succ]
   go_wp2_with (first
     | (go_at_call 143;refine (HX.out _).mono ?_;rintro e w' ⟨rfl,rfl⟩)
     | (go_at_call 144;with_reducible refine (HA.out _).mono ?_;rintro e w' ⟨rfl,rfl⟩)
     | (go_at_call 144;with_reducible refine (HB.out _).mono ?_;rintro e w' ⟨rfl,rfl⟩))
   go_ret3
   exact ⟨(by rw[HU.out];rfl),below1 _ _⟩
  ·have HU:=hid (show unitD true 4 v 13 d2 (s.size-2)=(6,v,0) by show (if _ then _ else _)=_;(repeat' split)<;>first|rfl|(exfalso;omega))
   go_enter Tryz.func134,Tryz.ntmps134
   go_wp2
   refine wp_loop_rounds 3 ?_
   rw[rounds_succ]
   go_wp2
   rw[rounds_succ]
   go_wp2
   rw[rounds_succ]
   go_wp2_with (first
     | (go_at_call 143;refine (HX.out _).mono ?_;rintro e w' ⟨rfl,rfl⟩)
     | (go_at_call 144;with_reducible refine (HA.out _).mono ?_;rintro e w' ⟨rfl,rfl⟩)
     | (go_at_call 144;with_reducible refine (HB.out _).mono ?_;rintro e w' ⟨rfl,rfl⟩))
   go_ret3
   exact ⟨(by rw[HU.out];rfl),below1 _ _⟩
 ·have HU:=hid (show unitD true 4 v d1 d2 (s.size-2)=(2,0,4) by show (if _ then _ else _)=_;(repeat' split)<;>first|rfl|(exfalso;omega))
  go_enter Tryz.func134,Tryz.ntmps134
  go_wp2
  refine wp_loop_rounds 3 ?_
  rw[rounds_succ]
  go_wp2
  rw[rounds_succ]
  go_wp2
  rw[rounds_succ]
  go_wp2_with (first
    | (go_at_call 143;refine (HX.out _).mono ?_;rintro e w' ⟨rfl,rfl⟩)
    | (go_at_call 144;with_reducible refine (HA.out _).mono ?_;rintro e w' ⟨rfl,rfl⟩)
    | (go_at_call 144;with_reducible refine (HB.out _).mono ?_;rintro e w' ⟨rfl,rfl⟩))
  go_ret3
  exact ⟨(by rw[HU.out];rfl),below1 _ _⟩
end
section
open Go.RowKit
def UnitC (s:ByteArray) (sec:Bool) (W:World) (t:Nat×Int×Int):Prop :=
 Calls Tryz.prog 134 #[.string s,.bool sec] W fun e w'=>e=.returned (.tuple #[.int .i64 t.1,.int .i64 t.2.1,.int .i64 t.2.2])∧Below W.heap.size W w'
theorem runit_e (s:ByteArray) (sec:Bool) (h:s=ByteArray.empty) (W:World):UnitC s sec W (0,0,0):=by
 subst h
 show Calls _ _ _ _ _
 go_enter Tryz.func134,Tryz.ntmps134
 go_wp2
 refine wp_loop_rounds 3 ?_
 rw[rounds_succ]
 go_wp2
 go_ret3
 exact ⟨rfl,below1 _ _⟩
theorem runit_0 (s:ByteArray) (sec:Bool) (hs:s.size≤100000) (h1:1≤s.size) (e0:¬ (s[0].toNat:Int)=92) (W:World):UnitC s sec W (0,0,if sec then 4 else 3):=by
 have hne:¬ s=ByteArray.empty:=fun e=>by rw[e] at h1;exact absurd h1 (by decide)
 show Calls _ _ _ _ _
 cases sec
 all_goals
   go_enter Tryz.func134,Tryz.ntmps134
   go_wp2
   refine wp_loop_rounds 3 ?_
   rw[rounds_succ]
   go_wp2
   go_ret3
   exact ⟨rfl,below1 _ _⟩
theorem runit_o (s:ByteArray) (sec:Bool) (h1:s.size=1) (e0:(s[0].toNat:Int)=92) (W:World):UnitC s sec W (1,0,0):=by
 have hne:¬ s=ByteArray.empty:=fun e=>by rw[e] at h1;exact absurd h1 (by decide)
 show Calls _ _ _ _ _
 cases sec
 all_goals
   go_enter Tryz.func134,Tryz.ntmps134
   go_wp2
   refine wp_loop_rounds 3 ?_
   rw[rounds_succ]
   go_wp2
   rw[rounds_succ]
   go_wp2
   go_ret3
   exact ⟨rfl,below1 _ _⟩
theorem runit_1 (s:ByteArray) (sec:Bool) (hs:s.size≤100000) (h2:2≤s.size) (e0:(s[0].toNat:Int)=92) (e1:¬ (s[1].toNat:Int)=117) (W:World):UnitC s sec W (1,0,if sec then 4 else 3):=by
 have hne:¬ s=ByteArray.empty:=fun e=>by rw[e] at h2;exact absurd h2 (by decide)
 show Calls _ _ _ _ _
 cases sec
 all_goals
   go_enter Tryz.func134,Tryz.ntmps134
   go_wp2
   refine wp_loop_rounds 3 ?_
   rw[rounds_succ]
   go_wp2
   rw[rounds_succ]
   go_wp2
   go_ret3
   exact ⟨rfl,below1 _ _⟩
theorem u8_int10 {c:UInt8} {n:Nat} (hn:n<256):c=UInt8.ofNat n↔(c.toNat:Int)=n:=by
 constructor
 ·rintro rfl;rw[UInt8.toNat_ofNat'];omega
 ·intro h;have:n=c.toNat:=by omega
  rw[this];simp
theorem runitR_any (s:ByteArray) (sec:Bool) (hs:s.size≤100000) (W:World):UnitC s sec W (unitR s.data.toList sec):=by
 by_cases h0:s.size=0
 ·have hl:s.data.toList=[]:=drop_none s 0 (by omega)
  have he:s=ByteArray.empty:=ba_ext (by rw[hl];rfl)
  rw[hl]
  exact runit_e s sec he W
 have l0:s.data.toList=s[0] :: s.data.toList.drop 1:=drop_at s 0 (by omega)
 by_cases c0:s[0]=92
 ·have e0:(s[0].toNat:Int)=92:=(u8_int10 (by decide)).1 c0
  by_cases h1:s.size=1
  ·rw[l0,drop_none s 1 (by omega)]
   have e:unitR [s[0]] sec=(1,0,0):=by show (if s[0]≠92 then _ else _)=_;rw[if_neg (fun h=>h c0)]
   rw[e]
   exact runit_o s sec h1 e0 W
  have l1:s.data.toList.drop 1=s[1] :: s.data.toList.drop 2:=drop_at s 1 (by omega)
  rw[l0,l1]
  by_cases c1:s[1]=117
  ·have e1:(s[1].toNat:Int)=117:=(u8_int10 (by decide)).1 c1
   obtain ⟨r,hr⟩:∃ r,s.data.toList.drop 2=r:=⟨_,rfl⟩
   have e:unitR (s[0] :: s[1] :: s.data.toList.drop 2) sec=unitD sec (hexR r).1 (hexR r).2 (if 1≤(hexR r).1 then hexI (r.getD 0 0).toNat else -1) (if 2≤(hexR r).1 then hexI (r.getD 1 0).toNat else -1) (s.size-2):=by
     rw[hr]
     show (if s[0]≠92 then _ else if s[1]≠117 then _ else _)=_
     rw[if_neg (fun h=>h c0),if_neg (fun h=>h c1)]
     have:r.length=s.size-2:=by rw[← hr,List.length_drop];rfl
     rw[this]
   rw[e]
   obtain ⟨b1,b2,b3,b4⟩:=hexR_bd r
   have hrl:r.length=s.size-2:=by rw[← hr,List.length_drop];rfl
   rw[hrl] at b2
   have KX:∀ w:World,Calls Tryz.prog 143 #[.string (s.extract 2 s.size)] w fun e w'=>e=.returned (.tuple #[.int .i64 (hexR r).1,.int .i64 (hexR r).2])∧w=w':=fun w=>by
     have:=rhexR_any (s.extract 2 s.size) (by rw[(tail_is s 2).2];omega) w
     rw[(tail_is s 2).1,hr] at this
     exact this
   have hcb:∀ k (h:k<s.size),(0:Int)≤s[k].toNat∧(s[k].toNat:Int)≤255:=fun k h=>⟨Int.natCast_nonneg _,by have:=UInt8.toNat_lt s[k];omega⟩
   have g0:∀ h:2<s.size,r.getD 0 0=s[2]:=fun h=>by rw[← hr,drop_at s 2 h];rfl
   have g1:∀ h:3<s.size,r.getD 1 0=s[3]:=fun h=>by rw[← hr,drop_at s 2 (by omega),drop_at s 3 h];rfl
   generalize (hexR r).1=n at *
   generalize (hexR r).2=v at *
   have KA:1≤n → ∃ z,∀ w:World,∀ h:2<s.size,Calls Tryz.prog 144 #[.int .u8 s[2].toNat] w fun e w'=>e=.returned (.tuple #[.int .i64 (if 1≤n then hexI (r.getD 0 0).toNat else -1),.bool z])∧w=w':=fun h1=>⟨isHexI s[2].toNat,fun w h=>by
     rw[if_pos h1,g0 h]
     exact rhex_any s[2].toNat w (hcb 2 h).1 (hcb 2 h).2⟩
   have KB:2≤n → ∃ z,∀ w:World,∀ h:3<s.size,Calls Tryz.prog 144 #[.int .u8 s[3].toNat] w fun e w'=>e=.returned (.tuple #[.int .i64 (if 2≤n then hexI (r.getD 1 0).toNat else -1),.bool z])∧w=w':=fun h1=>⟨isHexI s[3].toNat,fun w h=>by
     rw[if_pos h1,g1 h]
     exact rhex_any s[3].toNat w (hcb 3 h).1 (hcb 3 h).2⟩
   generalize (if 1≤n then hexI (r.getD 0 0).toNat else -1)=d1 at *
   generalize (if 2≤n then hexI (r.getD 1 0).toNat else -1)=d2 at *
   have h2:2≤s.size:=by omega
   have hn:n=0∨n=1∨n=2∨n=3∨n=4:=by omega
   rcases hn with rfl|rfl|rfl|rfl|rfl
   ·cases sec
    ·exact runit_f0 s hs h2 e0 e1 v b3 b4 b2 d1 d2 KX W
    ·exact runit_t0 s hs h2 e0 e1 v b3 b4 b2 d1 d2 KX W
   ·obtain ⟨z1,K1⟩:=KA (by omega)
    cases sec
    ·exact runit_f1 s hs h2 e0 e1 v b3 b4 b2 d1 d2 KX z1 K1 W
    ·exact runit_t1 s hs h2 e0 e1 v b3 b4 b2 d1 d2 KX z1 K1 W
   ·obtain ⟨z1,K1⟩:=KA (by omega)
    obtain ⟨z2,K2⟩:=KB (by omega)
    cases sec
    ·exact runit_f2 s hs h2 e0 e1 v b3 b4 b2 d1 d2 KX z1 K1 z2 K2 W
    ·exact runit_t2 s hs h2 e0 e1 v b3 b4 b2 d1 d2 KX z1 K1 z2 K2 W
   ·obtain ⟨z1,K1⟩:=KA (by omega)
    obtain ⟨z2,K2⟩:=KB (by omega)
    cases sec
    ·exact runit_f3 s hs h2 e0 e1 v b3 b4 b2 d1 d2 KX z1 K1 z2 K2 W
    ·exact runit_t3 s hs h2 e0 e1 v b3 b4 b2 d1 d2 KX z1 K1 z2 K2 W
   ·obtain ⟨z1,K1⟩:=KA (by omega)
    obtain ⟨z2,K2⟩:=KB (by omega)
    cases sec
    ·exact runit_f4 s hs h2 e0 e1 v b3 b4 b2 d1 d2 KX z1 K1 z2 K2 W
    ·exact runit_t4 s hs h2 e0 e1 v b3 b4 b2 d1 d2 KX z1 K1 z2 K2 W
  ·have e:unitR (s[0] :: s[1] :: s.data.toList.drop 2) sec=(1,0,if sec then 4 else 3):=by
     show (if s[0]≠92 then _ else if s[1]≠117 then _ else _)=_
     rw[if_neg (fun h=>h c0),if_pos c1]
   rw[e]
   exact runit_1 s sec hs (by omega) e0 (fun h=>c1 ((u8_int10 (by decide)).2 h)) W
 ·have e:unitR (s[0] :: s.data.toList.drop 1) sec=(0,0,if sec then 4 else 3):=by
    show (if s[0]≠92 then _ else _)=_
    rw[if_pos c0]
  rw[l0,e]
  exact runit_0 s sec hs (by omega) (fun h=>c0 ((u8_int10 (by decide)).2 h)) W
end
section
open Go.RowKit
theorem conv_str (w:World) (s:ByteArray):∃ c w1,(convert 9 22 (.string s)).run Tryz.prog w=.ok (.slice (some ⟨w.heap.size,0,none⟩) s.size c) w1 ∧
   Rd w1 w1.heap.size (some ⟨w.heap.size,0,none⟩) s.size (byteCells s.data.toList)∧Below w.heap.size w w1:=by
 have hz:=Lib.bytesWorld_size w 5 s
 refine ⟨_,_,Lib.run_convert_string_bytes w _ _ 5 s Tryz.underlying9 Tryz.underlying22 Tryz.underlying5,⟨byteCells_length _,fun h=>⟨_,rfl,by rw[hz];exact Nat.lt_succ_self _,fun j u hu => ?_⟩⟩,
   ⟨rfl,rfl,rfl,by rw[hz];exact Nat.le_succ _,fun k hk=>Lib.bytesWorld_at_old w _ s k hk⟩⟩
 have hj:j<s.size:=by have:=(List.getElem?_eq_some_iff.1 hu).1;rw[byteCells_length] at this;exact this
 rw[add_none,Nat.zero_add,Lib.bytesWorld_cell w _ s j hj,getD_at s j hj]
 unfold byteCells at hu
 rw[List.getElem?_map,List.getElem?_eq_getElem (show j<s.data.toList.length from hj)] at hu
 exact hu
theorem conv_take (w:World) (s:ByteArray) (k:Nat) (h:k≤s.size):∃ c w1,(convert 9 22 (.string (s.extract 0 k))).run Tryz.prog w=.ok (.slice (some ⟨w.heap.size,0,none⟩) k c) w1 ∧
   Rd w1 w1.heap.size (some ⟨w.heap.size,0,none⟩) k (byteCells (s.data.toList.take k))∧Below w.heap.size w w1:=by
 obtain ⟨c,w1,h1,h2,h3⟩:=conv_str w (s.extract 0 k)
 have e6:(s.extract 0 k).size=k:=by rw[ByteArray.size_extract];omega
 rw[e6] at h1 h2
 rw[head_list] at h2
 exact ⟨c,w1,h1,h2,h3⟩
theorem unitR_bd (l:List UInt8) (sec:Bool):(unitR l sec).1≤6∧(unitR l sec).1≤l.length∧0≤(unitR l sec).2.1∧(unitR l sec).2.1≤65535:=by
 unfold unitR
 split
 ·exact ⟨by simp,by simp,by simp,by simp⟩
 ·rename_i c0 l1
  split
  ·exact ⟨by simp,by simp,by simp,by simp⟩
  ·split
   ·exact ⟨by simp,by simp,by simp,by simp⟩
   ·rename_i c1 r
    split
    ·exact ⟨by simp,by simp,by simp,by simp⟩
    ·obtain ⟨b1,b2,b3,b4⟩:=hexR_bd r
     generalize (hexR r).1=n at *
     generalize (hexR r).2=v at *
     generalize (if 1≤n then hexI (r.getD 0 0).toNat else -1)=d1 at *
     generalize (if 2≤n then hexI (r.getD 1 0).toNat else -1)=d2 at *
     unfold unitD
     cases sec<;>simp only []<;>(repeat' split)<;>refine ⟨?_,?_,?_,?_⟩<;>simp<;>omega
theorem results_tmp4 {fn:Func} {t u v x:Tmp} (h:fn.results = #[.tmp t,.tmp u,.tmp v,.tmp x]) (tmps:Array Value) (P:Program) (w:World) :
   (results fn tmps).run P w=.ok (.tuple #[tmps.getD t undef,tmps.getD u undef,tmps.getD v undef,tmps.getD x undef]) w:=by
 simp[results,h]
def PieceP (W:World)(t:List UInt8×Nat×Int×Bool)(e:Ending)(w':World):Prop:=∃ A c,e=.returned (.tuple #[.slice A t.1.length c,.int .i64 t.2.1,.int .i64 t.2.2.1,.bool t.2.2.2])∧Rd w' w'.heap.size A t.1.length (byteCells t.1)∧Below W.heap.size W w'
def PieceC (s:ByteArray)(W:World)(t:List UInt8×Nat×Int×Bool):Prop:=Calls Tryz.prog 125 #[.string s] W fun e w'=>PieceP W t e w'
theorem rpiece_ctl (s:ByteArray) (h1:1≤s.size) (hc:(s[0].toNat:Int)<32) (W:World):PieceC s W ([],0,7,false):=by
 show Calls _ _ _ _ _
 go_enter Tryz.func125,Tryz.ntmps125
 go_wp2
 ((try simp only [Exit.inBlock,Exit.then]);refine bodyPost_ret (results_tmp4 rfl _ _ _) rfl ?_)
 exact ⟨none,0,rfl,Rd.zero _ _ _,Below.refl _ _⟩
theorem sigR_cons (s:ByteArray) (m:Nat) (h:m<s.size) (sg lf:Int):sigR sg lf (s.data.toList.drop m) m=if okU sg lf s[m].toNat then (if lfU lf s[m].toNat=0 then (m+1,0,true) else sigR (sgU sg lf s[m].toNat) (lfU lf s[m].toNat) (s.data.toList.drop (m+1)) (m+1)) else (m,2,false):=by
 rw[drop_at s m h]
 rfl
def RelPc (s:ByteArray) (W w:World) (i:Value):Prop :=
 ∃ (m:Nat) (sg lf:Int),m≤s.size∧i=.int .i64 ((m+1:Nat):Int)∧InvL (s.data.toList.take m) sg lf∧StU sg lf∧sigR 0 0 s.data.toList 0=sigR sg lf (s.data.toList.drop m) m∧Below W.heap.size W w
theorem rpiece_sig (s:ByteArray) (hs:s.size≤100000) (h1:1≤s.size) (hc:¬ (s[0].toNat:Int)<32) (hn:¬ (s[0].toNat:Int)=92) (W:World) (T:List UInt8×Nat×Int×Bool) (hT:T=((if (sigR 0 0 s.data.toList 0).2.2 then s.data.toList.take (sigR 0 0 s.data.toList 0).1 else []),sigR 0 0 s.data.toList 0)):PieceC s W T:=by
 have HT:=hid hT
 clear hT
 have hsl:s.data.toList.length=s.size:=rfl
 have hnb:((s[0].toNat:Int) != 92)=true:=bne_iff_ne.2 hn
 show Calls _ _ _ _ _
 go_enter Tryz.func125,Tryz.ntmps125
 go_wp2
 go_loopw [6] (fun i w=>RelPc s W w i) (fun i _=>s.size+2-(intOf i).toNat)
 case atStart=>exact ⟨0,0,0,Nat.zero_le _,rfl,rfl,stU_zero,rfl,Below.refl _ _⟩
 case round =>
   obtain ⟨m,sg,lf,hm,rfl,hinv,hst,hsig,hb2⟩:=hrel
   by_cases hlt:m<s.size
   ·have hl2:m<s.data.toList.length:=hlt
    have hp:=part_snoc s 0 m (Nat.zero_le _) hlt
    rw[List.drop_zero] at hp
    rw[sigR_cons s m hlt] at hsig
    by_cases hok:okU sg lf s[m].toNat=true
    ·have hst':=hid (stU_step hst (Int.natCast_nonneg _) hok)
     have hinv':=invL_step hinv hok
     rw[if_pos hok] at hsig
     by_cases hz:lfU lf s[m].toNat=0
     ·have HB:=hid (fun w=>rbegins_step _ _ _ _ _ hp hinv w (x:=true) (y:=true) (z:=sgU sg lf s[m].toNat) (by unfold ansU;rw[if_pos hok,if_pos hz]))
      rw[if_pos hz] at hsig
      have HS:=hid hsig
      clear hinv' hinv hsig hp hok hz hst'
      go_wp2_with (go_at_call 85;refine (HB.out _).mono ?_;rintro e w3 ⟨rfl,hb⟩;obtain ⟨c3,w4,kc,kr,kb⟩:=conv_take w3 s (m+1) hlt)
      ((try simp only [Exit.inBlock,Exit.then]);refine bodyPost_ret (results_tmp4 rfl _ _ _) rfl ?_)
      rw[HT.out,HS.out]
      have e7:(s.data.toList.take (m+1)).length=m+1:=by rw[List.length_take];omega
      show PieceP W (s.data.toList.take (m+1),m+1,0,true) _ _
      unfold PieceP
      rw[e7]
      exact ⟨some ⟨w3.heap.size,0,none⟩,c3,by go_num,kr,(hb2.trans (hb.mono hb2.size)).trans (kb.mono (Nat.le_trans hb2.size hb.size))⟩
     ·have HB:=hid (fun w=>rbegins_step _ _ _ _ _ hp hinv w (x:=true) (y:=false) (z:=0) (by unfold ansU;rw[if_pos hok,if_neg hz]))
      rw[if_neg hz] at hsig hinv'
      have HI:=hid hinv'
      have HS:=hid hsig
      clear hinv' hinv hsig hp hok hz
      go_wp2_with (go_at_call 85;refine (HB.out _).mono ?_;rintro e w' ⟨rfl,hb⟩)
      go_roundw
      case rel=>exact ⟨m+1,_,_,by omega,by go_num,(by rw[List.take_succ_eq_append_getElem hl2];exact HI.out),hst'.out,HS.out,hb2.trans (hb.mono hb2.size)⟩
      case measure=>simp[intOf];omega
    ·have HB:=hid (fun w=>rbegins_step _ _ _ _ _ hp hinv w (x:=false) (y:=false) (z:=0) (by unfold ansU;rw[if_neg hok]))
     rw[if_neg hok] at hsig
     have HS:=hid hsig
     clear hinv hsig hp hok
     go_wp2_with (go_at_call 85;refine (HB.out _).mono ?_;rintro e w3 ⟨rfl,hb⟩)
     ((try simp only [Exit.inBlock,Exit.then]);refine bodyPost_ret (results_tmp4 rfl _ _ _) rfl ?_)
     rw[HT.out,HS.out]
     exact ⟨none,0,(by show _=Ending.returned (.tuple #[.slice none 0 0,.int .i64 m,.int .i64 2,.bool false]);go_num),Rd.zero _ _ _,hb2.trans (hb.mono hb2.size)⟩
   ·obtain rfl:m=s.size:=by omega
    have HS:=hid (show sigR 0 0 s.data.toList 0=(s.size,0,false) by rw[hsig,drop_none s s.size (Nat.le_refl _)];rfl)
    clear hsig hinv
    go_wp2
    ((try simp only [Exit.inBlock,Exit.then]);refine bodyPost_ret (results_tmp4 rfl _ _ _) rfl ?_)
    rw[HT.out,HS.out]
    exact ⟨none,0,rfl,Rd.zero _ _ _,hb2⟩
end
section
open Go.RowKit
theorem rpiece_one (s:ByteArray) (h1:s.size=1) (e0:(s[0].toNat:Int)=92) (W:World):PieceC s W ([],1,0,false):=by
 show Calls _ _ _ _ _
 go_enter Tryz.func125,Tryz.ntmps125
 go_wp2
 ((try simp only [Exit.inBlock,Exit.then]);refine bodyPost_ret (results_tmp4 rfl _ _ _) rfl ?_)
 exact ⟨none,0,rfl,Rd.zero _ _ _,Below.refl _ _⟩
theorem rpiece_let0 (s:ByteArray) (hs:s.size≤100000) (h2:2≤s.size) (e0:(s[0].toNat:Int)=92) (e1:¬ (s[1].toNat:Int)=117) (hl:letR s[1]=0) (W:World):PieceC s W ([],1,3,false):=by
 have ks:¬ (s.size:Int)=1:=by omega
 have HL:=hid (fun w=>rletR_any s[1] w)
 rw[hl] at HL
 show Calls _ _ _ _ _
 go_enter Tryz.func125,Tryz.ntmps125
 go_wp2_with (go_at_call 133;refine (HL.out _).mono ?_;rintro e w3 ⟨rfl,hb⟩)
 ((try simp only [Exit.inBlock,Exit.then]);refine bodyPost_ret (results_tmp4 rfl _ _ _) rfl ?_)
 exact ⟨none,0,rfl,Rd.zero _ _ _,hb⟩
theorem rpiece_let (s:ByteArray) (hs:s.size≤100000) (h2:2≤s.size) (e0:(s[0].toNat:Int)=92) (e1:¬ (s[1].toNat:Int)=117) (x:UInt8) (hx:letR s[1]=x) (hl:¬ (x.toNat:Int)=0) (W:World):PieceC s W ([x],2,0,true):=by
 have ks:¬ (s.size:Int)=1:=by omega
 have HL:=hid (fun w=>rletR_any s[1] w)
 rw[hx] at HL
 show Calls _ _ _ _ _
 go_enter Tryz.func125,Tryz.ntmps125
 go_wp2_with (go_at_call 133;refine (HL.out _).mono ?_;rintro e w3 ⟨rfl,hb⟩)
 ((try simp only [Exit.inBlock,Exit.then]);refine bodyPost_ret (results_tmp4 rfl _ _ _) rfl ?_)
 exact ⟨_,_,rfl,(lit_rd w3 _ [x] rfl).more (by simp),hb.alloc hb.size _⟩
theorem six_is (s:ByteArray):(s.extract 6 s.size).data.toList=s.data.toList.drop 6∧(s.extract 6 s.size).size=s.size-6:=tail_is s 6
theorem rpiece_bad1 (s:ByteArray) (hs:s.size≤100000) (h2:2≤s.size) (e0:(s[0].toNat:Int)=92) (e1:(s[1].toNat:Int)=117) (n:Nat) (v k:Int) (hu:unitR s.data.toList false=(n,v,k)) (hk:¬ k=0∨k=0∧n<6) (W:World):PieceC s W ([],n,k,false):=by
 have ks:¬ (s.size:Int)=1:=by omega
 have HU:=hid (fun w=>(show Calls _ _ _ _ _ from runitR_any s false hs w))
 rw[hu] at HU
 have b1:=(unitR_bd s.data.toList false).1
 rw[hu] at b1
 have b1:n≤6:=b1
 show Calls _ _ _ _ _
 clear hu
 rcases hk with hk|⟨rfl,hk⟩
 all_goals
   go_enter Tryz.func125,Tryz.ntmps125
   go_wp2_with (go_at_call 134;refine (HU.out _).mono ?_;rintro e w3 ⟨rfl,hb⟩)
   ((try simp only [Exit.inBlock,Exit.then]);refine bodyPost_ret (results_tmp4 rfl _ _ _) rfl ?_)
   exact ⟨none,0,rfl,Rd.zero _ _ _,hb⟩
theorem rpiece_u (s:ByteArray) (hs:s.size≤100000) (h2:2≤s.size) (e0:(s[0].toNat:Int)=92) (e1:(s[1].toNat:Int)=117) (v:Int) (hu:unitR s.data.toList false=(6,v,0)) (hk:v<55296∨¬ v<55296∧56319<v) (W:World):PieceC s W (ofB (fixI v),6,0,true):=by
 have ks:¬ (s.size:Int)=1:=by omega
 have HU:=hid (fun w=>(show Calls _ _ _ _ _ from runitR_any s false hs w))
 rw[hu] at HU
 have HO:=hid (fun w=>of_core v (fixI v) w rfl)
 have hf:=fixI_in v
 show Calls _ _ _ _ _
 clear hu
 generalize fixI v=m at *
 rcases hk with hk|⟨hk,hk2⟩
 all_goals
   go_enter Tryz.func125,Tryz.ntmps125
   go_wp2_with (first
     | (go_at_call 134;refine (HU.out _).mono ?_;rintro e w3 ⟨rfl,hb⟩)
     | (go_at_call 135;refine (HO.out _).mono ?_;rintro e w4 ⟨rfl,ho,hb4⟩))
   ((try simp only [Exit.inBlock,Exit.then]);refine bodyPost_ret (results_tmp4 rfl _ _ _) rfl ?_)
   exact ⟨_,_,(by show _=Ending.returned (.tuple #[.slice _ (ofB m).length _,.int .i64 6,.int .i64 0,.bool true]);rw[ofB_len2];rfl),of_rd (w:=w3) hf.1 hf.2.1 ho,hb.trans (hb4.mono hb.size)⟩
theorem rpiece_bad2 (s:ByteArray) (hs:s.size≤100000) (h6:6≤s.size) (e0:(s[0].toNat:Int)=92) (e1:(s[1].toNat:Int)=117) (v:Int) (hu:unitR s.data.toList false=(6,v,0)) (hv1:¬ v<55296) (hv2:¬ 56319<v)
   (n:Nat) (x k:Int) (hu2:unitR (s.data.toList.drop 6) true=(n,x,k)) (hk:¬ k=0∨k=0∧n<6) (W:World):PieceC s W ([],6+n,k,false):=by
 have ks:¬ (s.size:Int)=1:=by omega
 have HU:=hid (fun w=>(show Calls _ _ _ _ _ from runitR_any s false hs w))
 rw[hu] at HU
 have HV:=hid (fun w=>(show Calls _ _ _ _ _ from runitR_any (s.extract 6 s.size) true (by rw[(six_is s).2];omega) w))
 rw[(six_is s).1,hu2] at HV
 have b1:=(unitR_bd (s.data.toList.drop 6) true).1
 rw[hu2] at b1
 have b1:n≤6:=b1
 show Calls _ _ _ _ _
 clear hu hu2
 rcases hk with hk|⟨rfl,hk⟩
 all_goals
   go_enter Tryz.func125,Tryz.ntmps125
   go_wp2_with (first
     | (go_at_call 134;with_reducible refine (HU.out _).mono ?_;rintro e w3 ⟨rfl,hb⟩)
     | (go_at_call 134;with_reducible refine (HV.out _).mono ?_;rintro e w4 ⟨rfl,hb4⟩))
   ((try simp only [Exit.inBlock,Exit.then]);refine bodyPost_ret (results_tmp4 rfl _ _ _) rfl ?_)
   exact ⟨none,0,(by show _=Ending.returned (.tuple #[.slice none 0 0,.int .i64 ((6+n:Nat):Int),.int .i64 _,.bool false]);go_num),Rd.zero _ _ _,hb.trans (hb4.mono hb.size)⟩
theorem rpiece_pair (s:ByteArray) (hs:s.size≤100000) (h6:6≤s.size) (e0:(s[0].toNat:Int)=92) (e1:(s[1].toNat:Int)=117) (v:Int) (hu:unitR s.data.toList false=(6,v,0)) (hv1:¬ v<55296) (hv2:¬ 56319<v)
   (x:Int) (hu2:unitR (s.data.toList.drop 6) true=(6,x,0)) (W:World):PieceC s W (ofB (fixI (65536+(v-55296)*1024+x-56320)),12,0,true):=by
 have ks:¬ (s.size:Int)=1:=by omega
 have HU:=hid (fun w=>(show Calls _ _ _ _ _ from runitR_any s false hs w))
 rw[hu] at HU
 have HV:=hid (fun w=>(show Calls _ _ _ _ _ from runitR_any (s.extract 6 s.size) true (by rw[(six_is s).2];omega) w))
 rw[(six_is s).1,hu2] at HV
 have b3:=(unitR_bd (s.data.toList.drop 6) true).2.2
 rw[hu2] at b3
 have b4:0≤x:=b3.1
 have b5:x≤65535:=b3.2
 have HO:=hid (fun w=>of_core (65536+(v-55296)*1024+x-56320) _ w rfl)
 have hf:=fixI_in (65536+(v-55296)*1024+x-56320)
 show Calls _ _ _ _ _
 clear hu hu2 b3
 generalize fixI (65536+(v-55296)*1024+x-56320)=m at *
 go_enter Tryz.func125,Tryz.ntmps125
 go_wp2_with (first
   | (go_at_call 134;with_reducible refine (HU.out _).mono ?_;rintro e w3 ⟨rfl,hb⟩)
   | (go_at_call 134;with_reducible refine (HV.out _).mono ?_;rintro e w4 ⟨rfl,hb4⟩)
   | (go_at_call 135;refine (HO.out _).mono ?_;rintro e w5 ⟨rfl,ho,hb5⟩))
 ((try simp only [Exit.inBlock,Exit.then]);refine bodyPost_ret (results_tmp4 rfl _ _ _) rfl ?_)
 exact ⟨_,_,(by show _=Ending.returned (.tuple #[.slice _ (ofB m).length _,.int .i64 12,.int .i64 0,.bool true]);rw[ofB_len2];rfl),of_rd (w:=w4) hf.1 hf.2.1 ho,(hb.trans (hb4.mono hb.size)).trans (hb5.mono (Nat.le_trans hb.size hb4.size))⟩
theorem unitR_len (l:List UInt8) (sec:Bool) (h:(unitR l sec).1=6):6≤l.length:=by
 have:=(unitR_bd l sec).2.1
 omega
theorem rpieceX_any (s:ByteArray) (hs:s.size≤100000) (h1:1≤s.size) (W:World):PieceC s W (pieceX s.data.toList):=by
 have g0:=getD_at s 0 (by omega)
 unfold pieceX
 rw[g0]
 by_cases c1:s[0].toNat<32
 ·rw[if_pos c1]
  exact rpiece_ctl s h1 (by omega) W
 rw[if_neg c1]
 by_cases c2:s[0]≠92
 ·rw[if_pos c2]
  exact rpiece_sig s hs h1 (by omega) (fun h=>c2 ((u8_int10 (by decide)).2 h)) W _ rfl
 rw[if_neg c2]
 have e0:(s[0].toNat:Int)=92:=(u8_int10 (by decide)).1 (Decidable.not_not.1 c2)
 by_cases c3:s.data.toList.length=1
 ·rw[if_pos c3]
  exact rpiece_one s c3 e0 W
 rw[if_neg c3]
 have h2:2≤s.size:=by have:¬ s.size=1:=c3;omega
 rw[getD_at s 1 (by omega)]
 by_cases c4:s[1]≠117
 ·rw [if_pos c4]
  have e1:¬ (s[1].toNat:Int)=117:=fun h=>c4 ((u8_int10 (by decide)).2 h)
  by_cases c5:letR s[1]=0
  ·rw[if_pos c5]
   exact rpiece_let0 s hs h2 e0 e1 c5 W
  ·rw[if_neg c5]
   exact rpiece_let s hs h2 e0 e1 _ rfl (fun h=>c5 ((u8_int10 (n:=0) (by decide)).2 h)) W
 rw[if_neg c4]
 have e1:(s[1].toNat:Int)=117:=(u8_int10 (by decide)).1 (Decidable.not_not.1 c4)
 obtain ⟨n,v,k,hu⟩:∃ n v k,unitR s.data.toList false=(n,v,k):=⟨_,_,_,rfl⟩
 have b1:=(unitR_bd s.data.toList false).1
 have l1:=unitR_len s.data.toList false
 rw[hu] at b1 l1
 rw[hu]
 simp only []
 have b1:n≤6:=b1
 by_cases c5:k≠0∨n<6
 ·rw[if_pos c5]
  exact rpiece_bad1 s hs h2 e0 e1 n v k hu (by omega) W
 rw[if_neg c5]
 obtain ⟨rfl,rfl⟩:n=6∧k=0:=by omega
 have h6:6≤s.size:=l1 rfl
 by_cases c6:v<55296∨56319<v
 ·rw[if_pos c6]
  exact rpiece_u s hs h2 e0 e1 v hu (by omega) W
 rw[if_neg c6]
 obtain ⟨n2,x,k2,hu2⟩:∃ n v k,unitR (s.data.toList.drop 6) true=(n,v,k):=⟨_,_,_,rfl⟩
 have b2:=(unitR_bd (s.data.toList.drop 6) true).1
 rw[hu2] at b2
 rw[hu2]
 simp only []
 have b2:n2≤6:=b2
 by_cases c7:k2≠0∨n2<6
 ·rw[if_pos c7]
  exact rpiece_bad2 s hs h6 e0 e1 v hu (by omega) (by omega) n2 x k2 hu2 (by omega) W
 rw[if_neg c7]
 obtain ⟨rfl,rfl⟩:n2=6∧k2=0:=by omega
 exact rpiece_pair s hs h6 e0 e1 v hu (by omega) (by omega) x hu2 W
end
section
open Go.RowKit
theorem sigR_bd:∀ (l:List UInt8) (sg lf:Int) (k:Nat),k≤(sigR sg lf l k).1∧(sigR sg lf l k).1≤k+l.length∧((sigR sg lf l k).2.2=true→k+1≤(sigR sg lf l k).1∧(sigR sg lf l k).2.1=0)
 | [],sg,lf,k=>⟨Nat.le_refl _,Nat.le_refl _,fun h=>by cases h⟩
 | c :: t,sg,lf,k=>by
   have e:sigR sg lf (c :: t) k=if okU sg lf c.toNat then (if lfU lf c.toNat=0 then (k+1,0,true) else sigR (sgU sg lf c.toNat) (lfU lf c.toNat) t (k+1)) else (k,2,false):=rfl
   rw[e,List.length_cons]
   split
   ·split
    ·exact ⟨Nat.le_succ _,by show k+1≤_;omega,fun _=>⟨Nat.le_refl _,rfl⟩⟩
    ·have:=sigR_bd t (sgU sg lf c.toNat) (lfU lf c.toNat) (k+1)
     exact ⟨by omega,by omega,fun h=>⟨by have:=(this.2.2 h).1;omega,(this.2.2 h).2⟩⟩
   ·exact ⟨Nat.le_refl _,Nat.le_add_right _ _,fun h=>by cases h⟩
theorem ofB_four10 (m:Int):(ofB m).length≤4:=by
 rw[ofB_len2]
 unfold ofI
 (repeat' split)<;>simp
theorem pieceX_bd (l:List UInt8) (h:1≤l.length):(pieceX l).2.1≤l.length∧((pieceX l).2.2.2=true→1≤(pieceX l).2.1∧(pieceX l).1.length≤(pieceX l).2.1∧(pieceX l).2.2.1=0):=by
 unfold pieceX
 split
 ·exact ⟨Nat.zero_le _,fun h=>by cases h⟩
 split
 ·obtain ⟨g1,g2,g3⟩:=sigR_bd l 0 0 0
  refine ⟨by show (sigR 0 0 l 0).1≤_;omega,fun hw => ?_⟩
  have hw:(sigR 0 0 l 0).2.2=true:=hw
  obtain ⟨g4,g5⟩:=g3 hw
  refine ⟨by show 1≤(sigR 0 0 l 0).1;omega,?_,g5⟩
  show (if (sigR 0 0 l 0).2.2 then l.take (sigR 0 0 l 0).1 else []).length≤(sigR 0 0 l 0).1
  rw[hw,if_pos rfl,List.length_take]
  omega
 split
 ·exact ⟨h,fun h=>by cases h⟩
 split
 ·split
  ·exact ⟨h,fun h=>by cases h⟩
  ·exact ⟨by show 2≤l.length;omega,fun _=>⟨by show 1≤2;omega,by show 1≤2;omega,rfl⟩⟩
 obtain ⟨u1,u2,u3⟩:=unitR_bd l false
 obtain ⟨v1,v2,v3⟩:=unitR_bd (l.drop 6) true
 rw[List.length_drop] at v2
 have f1:=ofB_four10 (fixI (unitR l false).2.1)
 have f2:=ofB_four10 (fixI (65536+((unitR l false).2.1-55296)*1024+(unitR (l.drop 6) true).2.1-56320))
 split
 ·exact ⟨u2,fun h=>by cases h⟩
 split
 ·exact ⟨by show 6≤l.length;omega,fun _=>⟨by show 1≤6;omega,by show (ofB _).length≤6;omega,rfl⟩⟩
 split
 ·exact ⟨by show 6+_≤l.length;omega,fun h=>by cases h⟩
 ·exact ⟨by show 12≤l.length;omega,fun _=>⟨by show 1≤12;omega,by show (ofB _).length≤12;omega,rfl⟩⟩
theorem scanR_step (f:Nat) (l:List UInt8) (h:1≤l.length):scanR (f+1) l=if l.getD 0 0=34 then ([],1,1) else if (pieceX l).2.2.1≠0∨(pieceX l).2.2.2=false then ([],(pieceX l).2.1,(pieceX l).2.2.1)
   else ((pieceX l).1++(scanR f (l.drop (pieceX l).2.1)).1,(pieceX l).2.1+(scanR f (l.drop (pieceX l).2.1)).2.1,(scanR f (l.drop (pieceX l).2.1)).2.2):=by
 have hne:l≠[]:=fun e=>by rw[e] at h;simp at h
 conv=>lhs;unfold scanR
 rw[if_neg hne]
theorem scanR_nil (f:Nat):scanR f []=([],0,0):=by cases f<;>rfl
def RelSc (s:ByteArray) (W wr:World) (o a:Value):Prop :=
 ∃ (k f:Nat) (d:List UInt8),k≤s.size∧a=.int .i64 k∧Buf wr W.heap.size o d∧d.length≤k∧s.size-k≤f ∧
   scanL s.data.toList=(d++(scanR f (s.data.toList.drop k)).1,k+(scanR f (s.data.toList.drop k)).2.1,(scanR f (s.data.toList.drop k)).2.2)∧Below W.heap.size W wr
def ScanP (W:World)(t:List UInt8×Nat×Int)(e:Ending)(w':World):Prop:=e=.returned (.tuple #[.string ⟨t.1.toArray⟩,.int .i64 t.2.1,.int .i64 t.2.2])∧Below W.heap.size W w'
theorem rscan_any (s:ByteArray) (hs:s.size≤100000) (W:World):Calls Tryz.prog 112 #[.string s] W fun e w'=>ScanP W (scanL s.data.toList) e w':=by
 have hsl:s.data.toList.length=s.size:=rfl
 go_enter Tryz.func112,Tryz.ntmps112
 go_wp2
 go_loopw [5,6] (fun o a wr=>RelSc s W wr o a) (fun _ a _=>s.size-(intOf a).toNat)
 case atStart=>exact ⟨0,s.size,[],Nat.zero_le _,rfl,Buf.made W _ [] rfl (by decide) (Nat.le_refl _),Nat.le_refl _,by omega,(by show scanR s.data.toList.length s.data.toList=_;rw[hsl,List.drop_zero];simp),(Below.refl _ _).alloc (Nat.le_refl _) _⟩
 case round =>
   obtain ⟨k,f,d,hk,rfl,hbuf,hd,hf,hsc,hbel⟩:=hrel
   have kc:=hbuf.conv
   by_cases hlt:k<s.size
   ·obtain ⟨g, rfl⟩:∃ g,f=g+1:=⟨f-1,by omega⟩
    have hdl:(s.data.toList.drop k).length=s.size-k:=by rw[List.length_drop,hsl]
    have hg0:(s.data.toList.drop k).getD 0 0=s[k]:=by rw[drop_at s k hlt];rfl
    rw[scanR_step g (s.data.toList.drop k) (by omega),hg0] at hsc
    by_cases hq:s[k]=34
    ·have hqi:(s[k].toNat:Int)=34:=(u8_int10 (by decide)).1 hq
     rw[if_pos hq] at hsc
     have HS:=hid hsc
     clear hsc hg0
     go_wp2
     go_ret3
     rw[HS.out]
     exact ⟨(by show _=Ending.returned (.tuple #[.string ⟨(d++[]).toArray⟩,.int .i64 ((k+1:Nat):Int),.int .i64 1]);rw[List.append_nil];go_num),hbel⟩
    ·have hqi : ¬ (s[k].toNat:Int)=34:=fun h=>hq ((u8_int10 (by decide)).2 h)
     rw[if_neg hq] at hsc
     have HP:=hid (fun w=>(show Calls _ _ _ _ _ from rpieceX_any (s.extract k s.size) (by rw[(tail_is s k).2];omega) (by rw[(tail_is s k).2];omega) w))
     rw[(tail_is s k).1] at HP
     obtain ⟨pb1,pb2⟩:=pieceX_bd (s.data.toList.drop k) (by omega)
     rw[hdl] at pb1
     obtain ⟨bs,n,kd,wh,hp⟩:∃ bs n kd wh,pieceX (s.data.toList.drop k)=(bs,n,kd,wh):=⟨_,_,_,_,rfl⟩
     rw[hp] at hsc HP pb1 pb2
     have pb1:n≤s.size-k:=pb1
     have pb2:wh=true→1≤n∧bs.length≤n∧kd=0:=pb2
     simp only [] at hsc
     clear hp hg0
     by_cases hkd:kd=0
     ·subst hkd
      cases wh
      ·rw[if_pos (.inr rfl)] at hsc
       have HS:=hid hsc
       clear hsc pb2
       go_wp2_with (go_at_call 125;refine (HP.out _).mono ?_;rintro e w3 ⟨A3,c3,rfl,hr3,hb⟩;have hb3:=hbuf.stay hb (Nat.le_refl _);have kc3:=hb3.conv)
       go_ret3
       rw[HS.out]
       exact ⟨(by show _=Ending.returned (.tuple #[.string ⟨(d++[]).toArray⟩,.int .i64 ((k+n:Nat):Int),.int .i64 0]);rw[List.append_nil];go_num),hbel.trans (hb.mono hbel.size)⟩
      ·obtain ⟨n1,n2,_⟩:=pb2 rfl
       rw[if_neg (by simp)] at hsc
       have HS:=hid hsc
       clear hsc pb2
       go_wp2_with (first
         | (go_at_call 125;refine (HP.out _).mono ?_;rintro e w3 ⟨A3,c3,rfl,hr3,hb⟩;have hb3:=hbuf.stay hb (Nat.le_refl _);have hz3:=Nat.le_trans hbel.size hb.size)
         | (at_builtin
            go_must (
              refine buf_append _ rfl (.tmp 45) (.tmp 46) rfl W.heap.size _ d rfl hb3 _ A3 bs.length c3 bs rfl hr3 (by omega) hz3 ?_
              intro v4 w4 hbuf4 hb4)))
       go_roundw
       case rel=>exact ⟨k+n,g,d++bs,by omega,by go_num,hbuf4,(by rw[List.length_append];omega),by omega,(by rw[HS.out,List.drop_drop];simp;omega),(hbel.trans (hb.mono hbel.size)).trans hb4⟩
       case measure=>simp[intOf];omega
     ·rw[if_pos (.inl hkd)] at hsc
      have HS:=hid hsc
      clear hsc pb2
      go_wp2_with (go_at_call 125;refine (HP.out _).mono ?_;rintro e w3 ⟨A3,c3,rfl,hr3,hb⟩;have hb3:=hbuf.stay hb (Nat.le_refl _);have kc3:=hb3.conv)
      go_ret3
      rw[HS.out]
      exact ⟨(by show _=Ending.returned (.tuple #[.string ⟨(d++[]).toArray⟩,.int .i64 ((k+n:Nat):Int),.int .i64 kd]);rw[List.append_nil];go_num),hbel.trans (hb.mono hbel.size)⟩
   ·have hks:¬ (k:Int)<s.size:=by omega
    rw[drop_none s k (by omega),scanR_nil] at hsc
    have HS:=hid hsc
    clear hsc
    go_wp2
    go_ret3
    rw[HS.out]
    exact ⟨(by show _=Ending.returned (.tuple #[.string ⟨(d++[]).toArray⟩,.int .i64 ((k+0:Nat):Int),.int .i64 0]);rw[List.append_nil];rfl),hbel⟩
end
section
open Go.RowKit
theorem part_size:(Tryz.prog.info? 125).map (·.size)=some 9:=by kernel_rfl
def zero9:Array Value:=#[.int .i64 0,.int .i64 0,.int .i64 0,.string ⟨#[]⟩,.slice none 0 0,.slice none 0 0,.bool false,.int .i64 0,.int .i64 0]
def cells9 (kd fr t:Int)(tx:ByteArray)(A:Option Addr)(n c:Nat)(B:Option Addr)(m d:Nat)(b:Bool)(k f:Int):Array Value:=#[.int .i64 kd,.int .i64 fr,.int .i64 t,.string tx,.slice A n c,.slice B m d,.bool b,.int .i64 k,.int .i64 f]
def put9 (w:World) (g:Nat) (kd fr t:Int) (tx:ByteArray) (A:Option Addr) (n c:Nat) (B:Option Addr) (m d:Nat) (b:Bool) (k f:Int):World :=
 ((((((((w.setCell ⟨g,0,none⟩ (.int .i64 kd)).setCell ⟨g,1,none⟩ (.int .i64 fr)).setCell ⟨g,2,none⟩ (.int .i64 t)).setCell ⟨g,3,none⟩ (.string tx)).setCell ⟨g,4,none⟩ (.slice A n c)).setCell ⟨g,5,none⟩ (.slice B m d)).setCell ⟨g,6,none⟩ (.bool b)).setCell ⟨g,7,none⟩ (.int .i64 k)).setCell ⟨g,8,none⟩ (.int .i64 f)
theorem put9_own {w:World} {g:Nat} {T:TypeId} (h:Own w g T zero9) (kd fr t:Int) (tx:ByteArray) (A:Option Addr) (n c:Nat) (B:Option Addr) (m d:Nat) (b:Bool) (k f:Int):Own (put9 w g kd fr t tx A n c B m d b k f) g T (cells9 kd fr t tx A n c B m d b k f):=by
 have:=((((((((h.put 0 (.int .i64 kd)).put 1 (.int .i64 fr)).put 2 (.int .i64 t)).put 3 (.string tx)).put 4 (.slice A n c)).put 5 (.slice B m d)).put 6 (.bool b)).put 7 (.int .i64 k)).put 8 (.int .i64 f)
 unfold put9
 simpa [zero9,cells9] using this
theorem put9_below {w0 w:World} {g:Nat} (h:Below g w0 w) (kd fr t:Int) (tx:ByteArray) (A:Option Addr) (n c:Nat) (B:Option Addr) (m d:Nat) (b:Bool) (k f:Int):Below g w0 (put9 w g kd fr t tx A n c B m d b k f) :=
 ((((((((h.setCell (p:=⟨g,0,none⟩) (Nat.le_refl _) _).setCell (p:=⟨g,1,none⟩) (Nat.le_refl _) _).setCell (p:=⟨g,2,none⟩) (Nat.le_refl _) _).setCell (p:=⟨g,3,none⟩) (Nat.le_refl _) _).setCell (p:=⟨g,4,none⟩) (Nat.le_refl _) _).setCell (p:=⟨g,5,none⟩) (Nat.le_refl _) _).setCell (p:=⟨g,6,none⟩) (Nat.le_refl _) _).setCell (p:=⟨g,7,none⟩) (Nat.le_refl _) _).setCell (p:=⟨g,8,none⟩) (Nat.le_refl _) _
theorem nine_facts {w:World} {g:Nat} {T:TypeId} (h:Own w g T zero9) :
   w.cell? ⟨g,0,none⟩=some (.int .i64 0)∧w.cell? ⟨g,1,none⟩=some (.int .i64 0)∧w.cell? ⟨g,2,none⟩=some (.int .i64 0)∧w.cell? ⟨g,3,none⟩=some (.string ⟨#[]⟩)∧w.cell? ⟨g,4,none⟩=some (.slice none 0 0) ∧
   w.cell? ⟨g,5,none⟩=some (.slice none 0 0)∧w.cell? ⟨g,6,none⟩=some (.bool false)∧w.cell? ⟨g,7,none⟩=some (.int .i64 0)∧w.cell? ⟨g,8,none⟩=some (.int .i64 0) ∧
   w.frozen? ⟨g,0,none⟩=false∧w.frozen? ⟨g,1,none⟩=false∧w.frozen? ⟨g,2,none⟩=false∧w.frozen? ⟨g,3,none⟩=false∧w.frozen? ⟨g,4,none⟩=false∧w.frozen? ⟨g,5,none⟩=false∧w.frozen? ⟨g,6,none⟩=false∧w.frozen? ⟨g,7,none⟩=false∧w.frozen? ⟨g,8,none⟩=false :=
 ⟨h.at 0,h.at 1,h.at 2,h.at 3,h.at 4,h.at 5,h.at 6,h.at 7,h.at 8,h.free 0,h.free 1,h.free 2,h.free 3,h.free 4,h.free 5,h.free 6,h.free 7,h.free 8⟩
theorem rbroken_any (kd fr t:Int) (tx:ByteArray) (A:Option Addr) (n c:Nat) (B:Option Addr) (m d:Nat) (kind k:Int) (W:World) :
   Calls Tryz.prog 113 #[.agg #[.int .i64 kd,.int .i64 fr,.int .i64 t,.string tx,.slice A n c,.slice B m d],.int .i64 kind,.int .i64 k] W
     fun e w'=>e=.returned (.agg #[.int .i64 kd,.int .i64 fr,.int .i64 0,.string tx,.slice A n c,.slice B m d,.bool true,.int .i64 k,.int .i64 kind])∧Below W.heap.size W w':=by
 go_enter Tryz.func113,Tryz.ntmps113
 go_wp2
 refine bodyPost_ret (results_cell_row rfl _ _ (W.heap.size+1) _ _ (0,0) _ rfl (heap_alloc2_new W _ _) Tryz.underlying125 rfl part_size) rfl ?_
 exact ⟨rfl,below2 _ _ _⟩
theorem two_calls {W w3 w4:World} {T:TypeId} {cs:Array Value} {o:Obj} (hb:Below (W.alloc (.cells cs T)).heap.size (W.alloc (.cells cs T)) w3) (hb4:Below (w3.alloc o).heap.size (w3.alloc o) w4):Own w4 W.heap.size T cs∧Below W.heap.size W w4:=by
 have o0:=Own.fresh W T cs
 have o3:=o0.stay hb o0.inside
 have o3':=o3.over o
 have b0:=below1 W (.cells cs T)
 have b3:=b0.trans (hb.mono b0.size)
 have b3':=b3.trans ((below1 w3 o).mono b3.size)
 exact ⟨o3'.stay hb4 o3'.inside,b3'.trans (hb4.mono b3'.size)⟩
theorem one_call {W w3:World} {T:TypeId} {cs:Array Value} (hb:Below (W.alloc (.cells cs T)).heap.size (W.alloc (.cells cs T)) w3):Own w3 W.heap.size T cs∧Below W.heap.size W w3:=by
 have o0:=Own.fresh W T cs
 have b0:=below1 W (.cells cs T)
 exact ⟨o0.stay hb o0.inside,b0.trans (hb.mono b0.size)⟩
def VKept (B E:Nat)(w:World)(t:Tree)(x:V6):Prop:=∀ u:World,(∀ b,B≤b→b<E→u.heap[b]?=w.heap[b]?)→VIs u t x
def PartP (W:World) (p:PartR) (e:Ending) (w':World):Prop :=
 ∃ x:V6,e=.returned (.agg #[.int .i64 x.kd,.int .i64 x.fr,.int .i64 x.to,.string ⟨x.tx.toArray⟩,.slice x.A x.n x.c,.slice x.B x.m x.d,.bool p.beg,.int .i64 p.pt,.int .i64 p.fault])∧VKept W.heap.size w'.heap.size w' p.val x∧Below W.heap.size W w'
def leafV (kd:Int)(fr t:Nat)(tx:List UInt8):V6:=⟨kd,fr,t,tx,none,0,0,none,0,0⟩
theorem RdG.empty {α:Type}(K:RowK α)(w:World):RdG K w none 0 []:=⟨rfl,fun h=>absurd h (Nat.lt_irrefl 0)⟩
theorem leaf_is (w:World) (kd:Int) (fr t:Nat) (tx:List UInt8):VIs w (.mk kd fr t tx [] []) (leafV kd fr t tx):=by
 unfold VIs
 exact ⟨rfl,rfl,rfl,rfl,Nat.le_refl _,Nat.le_refl _,RdG.empty _ _,[],RdG.empty _ _,by unfold VLs;rfl⟩
theorem scanR_bd (f:Nat):∀ l:List UInt8,(scanR f l).2.1≤l.length∧(scanR f l).1.length≤l.length:=by
 induction f with
 | zero=>intro l;exact ⟨Nat.zero_le _,Nat.zero_le _⟩
 | succ f ih =>
   intro l
   cases l with
   | nil=>exact ⟨Nat.zero_le _,Nat.zero_le _⟩
   | cons c t =>
     rw[scanR_step f (c :: t) (by simp)]
     obtain ⟨p1,p2⟩:=pieceX_bd (c :: t) (by simp)
     split
     ·exact ⟨by simp,by simp⟩
     split
     ·exact ⟨p1,by simp⟩
     ·rename_i h
      have hw:(pieceX (c :: t)).2.2.2=true:=by
        cases hh:(pieceX (c :: t)).2.2.2
        ·exact absurd (.inr hh) h
        ·rfl
      obtain ⟨p3,p4,_⟩:=p2 hw
      obtain ⟨q1,q2⟩:=ih ((c :: t).drop (pieceX (c :: t)).2.1)
      rw[List.length_drop] at q1 q2
      refine ⟨?_,?_⟩
      ·show (pieceX (c :: t)).2.1+_≤_;omega
      ·show ((pieceX (c :: t)).1++_).length≤_;rw[List.length_append];omega
theorem rquoted_any (s:ByteArray) (k:Nat) (hs:s.size≤100000) (hk:k<s.size) (W:World) (P:PartR) (hP:quotedR s.data.toList k=P) :
   Calls Tryz.prog 90 #[.string s,.int .i64 k] W fun e w'=>PartP W P e w':=by
 have hsl:s.data.toList.length=s.size:=rfl
 have HC:=hid (fun w=>rscan_any (s.extract (k+1) s.size) (by rw[(tail_is s (k+1)).2];omega) w)
 rw[(tail_is s (k+1)).1] at HC
 have hb:=scanR_bd (s.data.toList.drop (k+1)).length (s.data.toList.drop (k+1))
 rw[List.length_drop,hsl] at hb
 unfold quotedR at hP
 have hb1:(scanL (s.data.toList.drop (k+1))).2.1≤s.size-(k+1):=by
   have:=hb.1
   unfold scanL
   rw[List.length_drop,hsl]
   exact this
 obtain ⟨tx,n,kd,hp⟩:∃ tx n kd,scanL (s.data.toList.drop (k+1))=(tx,n,kd):=⟨_,_,_,rfl⟩
 rw[hp] at hP HC hb1
 simp only [] at hP
 have hb1:n≤s.size-(k+1):=hb1
 clear hp hb
 by_cases h0:kd=0
 ·rw [if_pos h0] at hP
  subst h0
  have HP:=hid hP
  have HB:=hid (fun (kk f:Int) (w:World)=>rbroken_any 3 k 0 ⟨#[]⟩ none 0 0 none 0 0 kk f w)
  clear hP
  go_enter Tryz.func90,Tryz.ntmps90
  go_wp2_with (first
    | (go_at_call 112
       go_must (
         refine (HC.out _).mono ?_
         rintro e w3 ⟨rfl,hb⟩))
    | (go_at_call 113
       go_must (
         refine (HB.out 10 s.size _).mono ?_
         rintro e w4 ⟨rfl,hb4⟩
         obtain ⟨o4,c4⟩:=two_calls hb hb4
         have o4:Own w4 W.heap.size 125 zero9:=o4
         obtain ⟨p0,p1,p2,p3,p4,p5,p6,p7,p8,f0,f1,f2,f3,f4,f5,f6,f7,f8⟩:=nine_facts o4
         have hO:=put9_own o4 3 k 0 ⟨#[]⟩ none 0 0 none 0 0 true s.size 10
         have hT:=put9_below c4 3 k 0 ⟨#[]⟩ none 0 0 none 0 0 true s.size 10
         unfold put9 at hO hT
         have HO:=hid hO
         have HT:=hid hT
         clear hO hT o4 c4 hb hb4)))
  refine bodyPost_ret (results_cell_row rfl _ _ W.heap.size _ _ (0,0) _ rfl HO.out Tryz.underlying125 rfl part_size) rfl ?_
  rw[← HP.out]
  exact ⟨leafV 3 k 0 [],rfl,(fun _ _=>leaf_is _ _ _ _ _),HT.out⟩
 ·rw [if_neg h0] at hP
  by_cases h1:kd=1
  ·subst h1
   rw[if_neg (by decide)] at hP
   have HP:=hid hP
   clear hP
   go_enter Tryz.func90,Tryz.ntmps90
   go_wp2_with (first
     | (go_at_call 112
        go_must (
          refine (HC.out _).mono ?_
          rintro e w3 ⟨rfl,hb⟩
          obtain ⟨o3,c3⟩:=one_call hb
          have o3:Own w3 W.heap.size 125 zero9:=o3
          have o4:=o3.over (.cells #[.int .i64 3,.int .i64 k,.int .i64 ((k:Int)+1+n),.string ⟨tx.toArray⟩,.slice none 0 0,.slice none 0 0] 29)
          have c4:=c3.alloc c3.size (.cells #[.int .i64 3,.int .i64 k,.int .i64 ((k:Int)+1+n),.string ⟨tx.toArray⟩,.slice none 0 0,.slice none 0 0] 29)
          obtain ⟨p0,p1,p2,p3,p4,p5,p6,p7,p8,f0,f1,f2,f3,f4,f5,f6,f7,f8⟩:=nine_facts o4
          have hO:=put9_own o4 3 k ((k:Int)+1+n) ⟨tx.toArray⟩ none 0 0 none 0 0 true ((k:Int)+1+n) 0
          have hT:=put9_below c4 3 k ((k:Int)+1+n) ⟨tx.toArray⟩ none 0 0 none 0 0 true ((k:Int)+1+n) 0
          unfold put9 at hO hT
          have HO:=hid hO
          have HT:=hid hT
          clear hO hT o4 c4 o3 c3 hb)))
   refine bodyPost_ret (results_cell_row rfl _ _ W.heap.size _ _ (0,0) _ rfl HO.out Tryz.underlying125 rfl part_size) rfl ?_
   rw[← HP.out]
   exact ⟨leafV 3 k (k+1+n) tx,rfl,(fun _ _=>leaf_is _ _ _ _ _),HT.out⟩
  ·rw [if_pos h1] at hP
   have HP:=hid hP
   have HB:=hid (fun (kk f:Int) (w:World)=>rbroken_any 3 k 0 ⟨#[]⟩ none 0 0 none 0 0 kk f w)
   clear hP
   go_enter Tryz.func90,Tryz.ntmps90
   go_wp2_with (first
     | (go_at_call 112
        go_must (
          refine (HC.out _).mono ?_
          rintro e w3 ⟨rfl,hb⟩))
     | (go_at_call 113
        go_must (
          refine (HB.out kd ((k:Int)+1+n) _).mono ?_
          rintro e w4 ⟨rfl,hb4⟩
          obtain ⟨o4,c4⟩:=two_calls hb hb4
          have o4:Own w4 W.heap.size 125 zero9:=o4
          obtain ⟨p0,p1,p2,p3,p4,p5,p6,p7,p8,f0,f1,f2,f3,f4,f5,f6,f7,f8⟩:=nine_facts o4
          have hO:=put9_own o4 3 k 0 ⟨#[]⟩ none 0 0 none 0 0 true ((k:Int)+1+n) kd
          have hT:=put9_below c4 3 k 0 ⟨#[]⟩ none 0 0 none 0 0 true ((k:Int)+1+n) kd
          unfold put9 at hO hT
          have HO:=hid hO
          have HT:=hid hT
          clear hO hT o4 c4 hb hb4)))
   refine bodyPost_ret (results_cell_row rfl _ _ W.heap.size _ _ (0,0) _ rfl HO.out Tryz.underlying125 rfl part_size) rfl ?_
   rw[← HP.out]
   exact ⟨leafV 3 k 0 [],rfl,(fun _ _=>leaf_is _ _ _ _ _),HT.out⟩
end
section
open Go.RowKit
def leaf6 (kd fr:Int):Array Value:=#[.int .i64 kd,.int .i64 fr,.int .i64 0,.string ⟨#[]⟩,.slice none 0 0,.slice none 0 0]
theorem leaf_facts {w:World} {g:Nat} {T:TypeId} {kd fr:Int} (h:Own w g T (leaf6 kd fr)) :
   w.cell? ⟨g,0,none⟩=some (.int .i64 kd)∧w.cell? ⟨g,1,none⟩=some (.int .i64 fr)∧w.cell? ⟨g,2,none⟩=some (.int .i64 0)∧w.cell? ⟨g,3,none⟩=some (.string ⟨#[]⟩)∧w.cell? ⟨g,4,none⟩=some (.slice none 0 0)∧w.cell? ⟨g,5,none⟩=some (.slice none 0 0) ∧
   w.frozen? ⟨g,0,none⟩=false∧w.frozen? ⟨g,1,none⟩=false∧w.frozen? ⟨g,2,none⟩=false∧w.frozen? ⟨g,3,none⟩=false∧w.frozen? ⟨g,4,none⟩=false∧w.frozen? ⟨g,5,none⟩=false :=
 ⟨h.at 0,h.at 1,h.at 2,h.at 3,h.at 4,h.at 5,h.free 0,h.free 1,h.free 2,h.free 3,h.free 4,h.free 5⟩
structure Mk (W:World) (kd fr:Int) (w:World):Prop where
 part:Own w W.heap.size 125 zero9
 val:Own w (W.heap.size+1) 29 (leaf6 kd fr)
 bel:Below W.heap.size W w
theorem Mk.start (W:World) (kd fr:Int):Mk W kd fr ((W.alloc (.cells zero9 125)).alloc (.cells (leaf6 kd fr) 29)):=by
 refine ⟨(Own.fresh W _ zero9).over _,?_,below2 _ _ _⟩
 have:=Own.fresh (W.alloc (.cells zero9 125)) 29 (leaf6 kd fr)
 simpa using this
theorem Mk.stay {W w w':World}{kd fr:Int}(h:Mk W kd fr w)(hb:Below w.heap.size w w'):Mk W kd fr w':=⟨h.part.stay hb h.part.inside,h.val.stay hb h.val.inside,h.bel.trans (hb.mono h.bel.size)⟩
theorem Mk.drew {W w:World}{kd fr:Int}(h:Mk W kd fr w):Mk W kd fr w.drew:=⟨h.part,h.val,h.bel.drew⟩
theorem Mk.done {W w:World} {kd fr:Int} (h:Mk W kd fr w) (t:Int) (tx:ByteArray) (k:Int) :
   Own (put9 ((w.setCell ⟨W.heap.size+1,2,none⟩ (.int .i64 t)).setCell ⟨W.heap.size+1,3,none⟩ (.string tx)) W.heap.size kd fr t tx none 0 0 none 0 0 true k 0) W.heap.size 125 (cells9 kd fr t tx none 0 0 none 0 0 true k 0) ∧
   Below W.heap.size W (put9 ((w.setCell ⟨W.heap.size+1,2,none⟩ (.int .i64 t)).setCell ⟨W.heap.size+1,3,none⟩ (.string tx)) W.heap.size kd fr t tx none 0 0 none 0 0 true k 0) :=
 ⟨put9_own ((h.part.past (by simp) _).past (by simp) _) _ _ _ _ _ _ _ _ _ _ _ _ _,
  put9_below ((h.bel.setCell (p:=⟨W.heap.size+1,2,none⟩) (Nat.le_succ _) _).setCell (p:=⟨W.heap.size+1,3,none⟩) (Nat.le_succ _) _) _ _ _ _ _ _ _ _ _ _ _ _ _⟩
theorem Mk.broke {W w w4:World} {kd fr:Int} (h:Mk W kd fr w) (hb:Below w.heap.size w w4) (kk f:Int) :
   Own w4 W.heap.size 125 zero9∧Own (put9 w4 W.heap.size kd fr 0 ⟨#[]⟩ none 0 0 none 0 0 true f kk) W.heap.size 125 (cells9 kd fr 0 ⟨#[]⟩ none 0 0 none 0 0 true f kk) ∧
   Below W.heap.size W (put9 w4 W.heap.size kd fr 0 ⟨#[]⟩ none 0 0 none 0 0 true f kk) :=
 ⟨(h.stay hb).part,put9_own (h.stay hb).part _ _ _ _ _ _ _ _ _ _ _ _ _,put9_below (h.stay hb).bel _ _ _ _ _ _ _ _ _ _ _ _ _⟩
end
end Go.Proofs.YtnokhgfifbkflaaGreat
