/- Lemmas. -/
import Derived.Test.YtbpilcklglhloaaGreatDoorJ25
import Derived.StillTailTactics
set_option maxRecDepth 100000
set_option maxHeartbeats 8000000
set_option linter.unusedVariables false
namespace Go.Proofs.YtbpilcklglhloaaGreatDoor
open Go.Lib (hid)
section
open Go.RowKit
theorem cat_data (s t:ByteArray):(s++t).data.toList=s.data.toList++t.data.toList:=by simp
theorem one_data (c:UInt8):(strOfNums [(c.toNat:Int)]).data.toList=[c]:=by
 rw[strOfNums_data];simp
theorem rstep_at (s:ByteArray) (c:UInt8) (a:Int) (h:At a s.data.toList) (W:World) (hs:s.size≤90000) :
   Calls Tryz.prog 70 #[.string s,.int .u8 c.toNat] W fun e w'=>e=.returned (.int .i64 (anI a c.toNat))∧Below W.heap.size W w':=by
 have hcv:=conv_one
 have hz1:(strOfNums [(c.toNat:Int)]).size=1:=rfl
 have hg:=at_goes h c
 have kt:=fun w=>ris_any (s++strOfNums [(c.toNat:Int)]) w (by simp[hz1];omega)
 have ku:=fun w=>ris_any (s++strOfNums [(c.toNat:Int)]++⟨#[49]⟩) w (by rw[ByteArray.size_append,ByteArray.size_append,hz1];show _+1≤_;omega)
 have ks:=fun w=>ris_any s w (by omega)
 rw[cat_data,one_data] at kt
 rw[cat_data,cat_data,one_data] at ku
 rw[at_is h] at ks
 rw[show (ByteArray.mk #[49]).data.toList=[49] from rfl] at ku
 have KT:=hid kt
 have KU:=hid ku
 have KS:=hid ks
 have HV:=hid (show anI a c.toNat=if decide (nxI a c.toNat≠0) then 0 else if whI a && !stickI c.toNat then 1 else 2 by unfold anI;simp)
 clear kt ku ks
 have hsz:s.size≤90000:=hs
 generalize isR (s.data.toList++[c])=x at *
 generalize isR (s.data.toList++[c]++[49])=y at *
 rw[← hg] at HV
 generalize whI a=z at *
 have HG:=hid (rdigit_any c.toNat)
 have HL:=hid (ralpha_any c.toNat)
 have HK:=hid (show stickI c.toNat=(isDigitI c.toNat||isAlphaI c.toNat||decide ((c.toNat:Int)=46)||decide ((c.toNat:Int)=43)||decide ((c.toNat:Int)=45)) from rfl)
 clear hg h hs
 generalize isDigitI c.toNat=d at *
 generalize isAlphaI c.toNat=b at *
 generalize stickI c.toNat=k at *
 generalize anI a c.toNat=r at *
 generalize (c.toNat:Int)=n at *
 cases x
 case true =>
   go_enter Tryz.func70,Tryz.ntmps70
   go_wp2_with (first
     | (go_at_call 71;(with_reducible refine (KT.out _).mono ?_);rintro e w1 ⟨rfl,rfl⟩)
     | (go_at_call 71;(with_reducible refine (KU.out _).mono ?_);rintro e w1 ⟨rfl,rfl⟩)
     | (go_at_call 71;(with_reducible refine (KS.out _).mono ?_);rintro e w1 ⟨rfl,rfl⟩)
     | (go_at_call 67;refine (HG.out _).mono ?_;rintro e w1 ⟨rfl,rfl⟩)
     | (go_at_call 98;refine (HL.out _).mono ?_;rintro e w1 ⟨rfl,rfl⟩))
   go_ret
   exact ⟨ret_i (by rw[HV.out];rfl),(Below.refl _ _).alloc (Nat.le_refl _) _⟩
 cases y
 case true =>
   go_enter Tryz.func70,Tryz.ntmps70
   go_wp2_with (first
     | (go_at_call 71;(with_reducible refine (KT.out _).mono ?_);rintro e w1 ⟨rfl,rfl⟩)
     | (go_at_call 71;(with_reducible refine (KU.out _).mono ?_);rintro e w1 ⟨rfl,rfl⟩)
     | (go_at_call 71;(with_reducible refine (KS.out _).mono ?_);rintro e w1 ⟨rfl,rfl⟩)
     | (go_at_call 67;refine (HG.out _).mono ?_;rintro e w1 ⟨rfl,rfl⟩)
     | (go_at_call 98;refine (HL.out _).mono ?_;rintro e w1 ⟨rfl,rfl⟩))
   go_ret
   exact ⟨ret_i (by rw[HV.out];rfl),(Below.refl _ _).alloc (Nat.le_refl _) _⟩
 cases z
 case false =>
   go_enter Tryz.func70,Tryz.ntmps70
   go_wp2_with (first
     | (go_at_call 71;(with_reducible refine (KT.out _).mono ?_);rintro e w1 ⟨rfl,rfl⟩)
     | (go_at_call 71;(with_reducible refine (KU.out _).mono ?_);rintro e w1 ⟨rfl,rfl⟩)
     | (go_at_call 71;(with_reducible refine (KS.out _).mono ?_);rintro e w1 ⟨rfl,rfl⟩)
     | (go_at_call 67;refine (HG.out _).mono ?_;rintro e w1 ⟨rfl,rfl⟩)
     | (go_at_call 98;refine (HL.out _).mono ?_;rintro e w1 ⟨rfl,rfl⟩))
   go_ret
   exact ⟨ret_i (by rw[HV.out];rfl),(Below.refl _ _).alloc (Nat.le_refl _) _⟩
 by_cases h1:n=46
 ·subst h1
  cases d<;>cases b
  all_goals
    go_enter Tryz.func70,Tryz.ntmps70
    go_wp2_with (first
    | (go_at_call 71;(with_reducible refine (KT.out _).mono ?_);rintro e w1 ⟨rfl,rfl⟩)
    | (go_at_call 71;(with_reducible refine (KU.out _).mono ?_);rintro e w1 ⟨rfl,rfl⟩)
    | (go_at_call 71;(with_reducible refine (KS.out _).mono ?_);rintro e w1 ⟨rfl,rfl⟩)
    | (go_at_call 67;refine (HG.out _).mono ?_;rintro e w1 ⟨rfl,rfl⟩)
    | (go_at_call 98;refine (HL.out _).mono ?_;rintro e w1 ⟨rfl,rfl⟩))
    go_ret
    exact ⟨ret_i (by rw[HV.out,HK.out];rfl),(Below.refl _ _).alloc (Nat.le_refl _) _⟩
 have g1:(n != 46)=true:=by simp[h1]
 by_cases h2:n=43
 ·subst h2
  cases d<;>cases b
  all_goals
    go_enter Tryz.func70,Tryz.ntmps70
    go_wp2_with (first
    | (go_at_call 71;(with_reducible refine (KT.out _).mono ?_);rintro e w1 ⟨rfl,rfl⟩)
    | (go_at_call 71;(with_reducible refine (KU.out _).mono ?_);rintro e w1 ⟨rfl,rfl⟩)
    | (go_at_call 71;(with_reducible refine (KS.out _).mono ?_);rintro e w1 ⟨rfl,rfl⟩)
    | (go_at_call 67;refine (HG.out _).mono ?_;rintro e w1 ⟨rfl,rfl⟩)
    | (go_at_call 98;refine (HL.out _).mono ?_;rintro e w1 ⟨rfl,rfl⟩))
    go_ret
    exact ⟨ret_i (by rw[HV.out,HK.out];rfl),(Below.refl _ _).alloc (Nat.le_refl _) _⟩
 have g2:(n != 43)=true:=by simp[h2]
 by_cases h3:n=45
 ·subst h3
  cases d<;>cases b
  all_goals
    go_enter Tryz.func70,Tryz.ntmps70
    go_wp2_with (first
    | (go_at_call 71;(with_reducible refine (KT.out _).mono ?_);rintro e w1 ⟨rfl,rfl⟩)
    | (go_at_call 71;(with_reducible refine (KU.out _).mono ?_);rintro e w1 ⟨rfl,rfl⟩)
    | (go_at_call 71;(with_reducible refine (KS.out _).mono ?_);rintro e w1 ⟨rfl,rfl⟩)
    | (go_at_call 67;refine (HG.out _).mono ?_;rintro e w1 ⟨rfl,rfl⟩)
    | (go_at_call 98;refine (HL.out _).mono ?_;rintro e w1 ⟨rfl,rfl⟩))
    go_ret
    exact ⟨ret_i (by rw[HV.out,HK.out];rfl),(Below.refl _ _).alloc (Nat.le_refl _) _⟩
 have g3:(n != 45)=true:=by simp[h3]
 cases d<;>cases b
 all_goals
   go_enter Tryz.func70,Tryz.ntmps70
   go_wp2_with (first
     | (go_at_call 71;(with_reducible refine (KT.out _).mono ?_);rintro e w1 ⟨rfl,rfl⟩)
     | (go_at_call 71;(with_reducible refine (KU.out _).mono ?_);rintro e w1 ⟨rfl,rfl⟩)
     | (go_at_call 71;(with_reducible refine (KS.out _).mono ?_);rintro e w1 ⟨rfl,rfl⟩)
     | (go_at_call 67;refine (HG.out _).mono ?_;rintro e w1 ⟨rfl,rfl⟩)
     | (go_at_call 98;refine (HL.out _).mono ?_;rintro e w1 ⟨rfl,rfl⟩))
   go_ret
   exact ⟨ret_i (by rw[HV.out,HK.out];simp[h1,h2,h3]),(Below.refl _ _).alloc (Nat.le_refl _) _⟩
theorem an_zero {a c:Int}(h:nxI a c≠0):anI a c=0:=by unfold anI;rw[if_pos h]
theorem at_take {a:Int} {l:List UInt8} (k:Nat) (hk:k<l.length) (h:At a (l.take k)) (hc:nxI a l[k].toNat≠0):At (nxI a l[k].toNat) (l.take (k+1)):=by
 rw[List.take_succ_eq_append_getElem hk]
 exact at_step h _ hc
end
section
open Go.RowKit
theorem rwords_any (W:World) :
   Calls Tryz.prog 100 #[] W fun e w'=>e=.returned (.slice (some ⟨W.heap.size,0,none⟩) 3 3)∧w'=W.alloc (.cells #[.string wT,.string wF,.string wN] 9):=by
 go_enter Tryz.func100,Tryz.ntmps100
 go_wp2
 go_ret
 exact ⟨rfl,rfl⟩
theorem hit_cases (lw l:List UInt8):hit lw l=1∨hit lw l=0∨hit lw l=2:=by unfold hit;(repeat' split)<;>simp
theorem opt (w x:ByteArray) :
   ((w.toList==x.toList)=true∧hit w.data.toList x.data.toList=1) ∨
   ((w.toList==x.toList)=false∧x.size<w.size∧((w.extract 0 x.size).toList==x.toList)=true∧hit w.data.toList x.data.toList=0) ∨
   ((w.toList==x.toList)=false∧x.size<w.size∧((w.extract 0 x.size).toList==x.toList)=false∧hit w.data.toList x.data.toList=2) ∨
   ((w.toList==x.toList)=false∧w.size≤x.size∧hit w.data.toList x.data.toList=2):=by
 rw[ByteArray.toList_eq,ByteArray.toList_eq,ByteArray.toList_eq,head_list]
 have e1:w.data.toList.length=w.size:=rfl
 have e2:x.data.toList.length=x.size:=rfl
 unfold hit
 by_cases h1:x.data.toList=w.data.toList
 ·exact .inl ⟨by rw[h1];simp,if_pos h1⟩
 rw[if_neg h1]
 have n1:(w.data.toList==x.data.toList)=false:=beq_eq_false_iff_ne.2 (Ne.symm h1)
 by_cases h2:x.size<w.size
 ·by_cases h3:w.data.toList.take x.size=x.data.toList
  ·exact .inr (.inl ⟨n1,h2,by rw[h3];simp,if_pos ⟨by omega,h3⟩⟩)
  ·exact .inr (.inr (.inl ⟨n1,h2,beq_eq_false_iff_ne.2 h3,if_neg (fun e=>h3 e.2)⟩))
 ·exact .inr (.inr (.inr ⟨n1,by omega,if_neg (fun e=>by omega)⟩))
theorem rstep_any (P:ByteArray) (c:UInt8) (W:World) (hs:P.size≤90000) :
   Calls Tryz.prog 72 #[.string P,.int .u8 c.toNat] W fun e w'=>e=.returned (.int .i64 (refL (P.data.toList++[c])))∧Below W.heap.size W w':=by
 have hcv:=conv_one
 have hz1:(strOfNums [(c.toNat:Int)]).size=1:=rfl
 obtain ⟨x,hx⟩:∃ x,P++strOfNums [(c.toNat:Int)]=x:=⟨_,rfl⟩
 have hxs:x.size≤90001:=by rw[← hx,ByteArray.size_append,hz1];omega
 have hxl:P.data.toList++[c]=x.data.toList:=by rw[← hx,cat_list,one_data]
 rw[hxl]
 unfold refL
 have HT:=hid (opt wT x)
 have HF:=hid (opt wF x)
 have HN:=hid (opt wN x)
 rw[show wT.data.toList=lT from rfl,zT] at HT
 rw[show wF.data.toList=lF from rfl,zF] at HF
 rw[show wN.data.toList=lN from rfl,zN] at HN
 clear hxl
 generalize hit lT x.data.toList=vT at *
 generalize hit lF x.data.toList=vF at *
 generalize hit lN x.data.toList=vN at *
 generalize (c.toNat:Int)=n at *
 have zt:=zT
 have zf:=zF
 have zn:=zN
 go_enter Tryz.func72,Tryz.ntmps72
 go_wp2_with (go_at_call 100;refine (rwords_any _).mono ?_;rintro e w' ⟨rfl,rfl⟩)
 rcases HT.out with ⟨q1,rfl⟩|⟨q1,q2,q3,rfl⟩|⟨q1,q2,q3,rfl⟩|⟨q1,q2,rfl⟩
 case inl =>
   refine wp_loop_rounds 4 ?_
   rw[rounds_succ]
   go_wp2
   go_ret
   exact ⟨rfl,below2 _ _ _⟩
 case inr.inl =>
   refine wp_loop_rounds 4 ?_
   rw[rounds_succ]
   go_wp2
   go_ret
   exact ⟨rfl,below2 _ _ _⟩
 all_goals
   rcases HF.out with ⟨p1,rfl⟩|⟨p1,p2,p3,rfl⟩|⟨p1,p2,p3,rfl⟩|⟨p1,p2,rfl⟩
   case inl =>
     refine wp_loop_rounds 4 ?_
     rw[rounds_succ]
     go_wp2
     rw[rounds_succ]
     go_wp2
     go_ret
     exact ⟨rfl,below2 _ _ _⟩
   case inr.inl =>
     refine wp_loop_rounds 4 ?_
     rw[rounds_succ]
     go_wp2
     rw[rounds_succ]
     go_wp2
     go_ret
     exact ⟨rfl,below2 _ _ _⟩
   all_goals
     rcases HN.out with ⟨r1,rfl⟩|⟨r1,r2,r3,rfl⟩|⟨r1,r2,r3,rfl⟩|⟨r1,r2,rfl⟩
     all_goals first
       | (exfalso;omega)
       | (refine wp_loop_rounds 4 ?_
          rw[rounds_succ]
          go_wp2
          rw[rounds_succ]
          go_wp2
          rw[rounds_succ]
          go_wp2
          (try (rw[rounds_succ];go_wp2))
          go_ret
          exact ⟨rfl,below2 _ _ _⟩)
theorem rkind_n (w:World) :
   Calls Tryz.prog 73 #[.string wN] w fun e w'=>e=.returned (.tuple #[.int .i64 0,.bool true])∧w=w':=by
 have e1:wN.toList=[110,117,108,108]:=by rw[ByteArray.toList_eq];rfl
 go_enter Tryz.func73,Tryz.ntmps73
 go_wp2
 go_ret2
 exact ⟨rfl,rfl⟩
theorem rkind_t (w:World) :
   Calls Tryz.prog 73 #[.string wT] w fun e w'=>e=.returned (.tuple #[.int .i64 1,.bool true])∧w=w':=by
 have e1:wT.toList=[116,114,117,101]:=by rw[ByteArray.toList_eq];rfl
 go_enter Tryz.func73,Tryz.ntmps73
 go_wp2
 go_ret2
 exact ⟨rfl,rfl⟩
theorem rkind_f (w:World) :
   Calls Tryz.prog 73 #[.string wF] w fun e w'=>e=.returned (.tuple #[.int .i64 1,.bool true])∧w=w':=by
 have e1:wF.toList=[102,97,108,115,101]:=by rw[ByteArray.toList_eq];rfl
 go_enter Tryz.func73,Tryz.ntmps73
 go_wp2
 go_ret2
 exact ⟨rfl,rfl⟩
end
section
open Go.RowKit
theorem getD_at (s:ByteArray) (k:Nat) (h:k<s.size):s.data.toList.getD k 0=s[k]:=by
 have hl:k<s.data.toList.length:=h
 rw[List.getD_eq_getElem?_getD,List.getElem?_eq_getElem hl]
 rfl
theorem drop_at (s:ByteArray)(k:Nat)(h:k<s.size):s.data.toList.drop k=s[k] :: s.data.toList.drop (k+1):=List.drop_eq_getElem_cons (l:=s.data.toList) h
theorem drop_none (s:ByteArray)(k:Nat)(h:s.size≤k):s.data.toList.drop k=[]:=List.drop_of_length_le h
theorem blankN_le:∀ l:List UInt8,blankN l≤l.length
 | []=>Nat.le_refl _
 | c :: t=>by
   unfold blankN
   split
   ·have:=blankN_le t;simp;omega
   ·omega
theorem blankR_le (l:List UInt8) (k:Nat) (h:k≤l.length):k≤blankR l k∧blankR l k≤l.length:=by
 have:=blankN_le (l.drop k)
 unfold blankR
 simp at this
 omega
theorem blankR_step (s:ByteArray) (k:Nat) (h:k<s.size):blankR s.data.toList k=if isBlankI s[k].toNat then blankR s.data.toList (k+1) else k:=by
 unfold blankR
 rw[drop_at s k h]
 show k+(if isBlankI s[k].toNat then blankN (s.data.toList.drop (k+1))+1 else 0)=_
 split<;>omega
theorem blankR_end (s:ByteArray) (k:Nat) (h:s.size≤k):blankR s.data.toList k=k:=by
 unfold blankR
 rw[drop_none s k h]
 rfl
def RelBkR (s:ByteArray)(k0:Nat)(a:Value):Prop:=∃ k:Nat,k≤s.size∧a=.int .i64 k∧blankR s.data.toList k0=blankR s.data.toList k
theorem rblankR_any (s:ByteArray) (k:Nat) (hk:k≤s.size) (hs:s.size≤100000) (W:World) :
   Calls Tryz.prog 29 #[.string s,.int .i64 k] W fun e w'=>e=.returned (.int .i64 (blankR s.data.toList k))∧W=w':=by
 go_enter Tryz.func29,Tryz.ntmps29
 go_wp2
 go_loop [1] (fun a=>RelBkR s k a) (fun a=>s.size-(intOf a).toNat)
 case atStart=>exact ⟨k,hk,rfl,rfl⟩
 case round =>
   obtain ⟨j,hj,rfl,hb⟩:=hrel
   by_cases hlt:j<s.size
   ·rw [blankR_step s j hlt] at hb
    by_cases hc:isBlankI s[j].toNat=true
    ·rw[if_pos hc] at hb
     have HB:=hid hb
     have HC:=hid hc
     clear hb hc
     go_wp2_with (go_at_call 45;refine (rblank_any _ _).mono ?_;rintro e w' ⟨rfl,rfl⟩;rw[HC.out])
     go_round
     case rel=>exact ⟨j+1,by omega,by go_num,HB.out⟩
     case measure=>simp[intOf];omega
    ·rw[if_neg hc] at hb
     have HB:=hid hb
     have HC:=hid (Bool.eq_false_iff.2 hc)
     clear hb hc
     go_wp2_with (go_at_call 45;refine (rblank_any _ _).mono ?_;rintro e w' ⟨rfl,rfl⟩;rw[HC.out])
     go_ret
     exact ⟨ret_i (by rw[HB.out]),rfl⟩
   ·rw[blankR_end s j (by omega)] at hb
    have HB:=hid hb
    clear hb
    go_wp2
    go_ret
    exact ⟨ret_i (by rw[HB.out]),rfl⟩
end
section
open Go.RowKit
theorem alive_text:ParseR [91,32,49,44,32,123,34,97,34,32,58,50,125,32,93] 9=(.mk 4 0 15 [] [.mk 2 2 3 [49] [] [],.mk 5 5 13 [] [.mk 2 11 12 [50] [] []] [[97]]] [],1,15):=by kernel_rfl
theorem hexI_bd (c:Int) (h:isHexI c=true):0≤hexI c∧hexI c≤15:=by
 unfold isHexI at h
 unfold hexI
 simp at h ⊢
 (repeat' split)<;>omega
theorem hexGo_cons (f:Nat)(c:UInt8)(t:List UInt8)(v:Int):hexGo (f+1) (c :: t) v=if isHexI c.toNat then ((hexGo f t (v*16+hexI c.toNat)).1+1,(hexGo f t (v*16+hexI c.toNat)).2) else (0,v):=rfl
theorem hexGo_nil (f:Nat)(v:Int):hexGo f [] v=(0,v):=by cases f<;>rfl
def RelHx (s:ByteArray) (v i:Value):Prop :=
 ∃ (k:Nat) (x:Int),k≤4∧k≤s.size∧i=.int .i64 k∧v=.int .i64 x∧0≤x∧x<((16 ^ k:Nat):Int)∧hexR s.data.toList=((hexGo (4-k) (s.data.toList.drop k) x).1+k,(hexGo (4-k) (s.data.toList.drop k) x).2)
theorem rhexR_any (s:ByteArray) (hs:s.size≤100000) (W:World) :
   Calls Tryz.prog 141 #[.string s] W fun e w'=>e=.returned (.tuple #[.int .i64 (hexR s.data.toList).1,.int .i64 (hexR s.data.toList).2])∧W=w':=by
 go_enter Tryz.func141,Tryz.ntmps141
 go_wp2
 go_loop [4,5] (fun v i=>RelHx s v i) (fun _ i=>5-(intOf i).toNat)
 case atStart=>exact ⟨0,0,by omega,Nat.zero_le _,rfl,rfl,by omega,by decide,rfl⟩
 case round =>
   obtain ⟨k,x,hk4,hks,rfl,rfl,h0,h1,hh⟩:=hrel
   have hp:16 ^ k≤16 ^ 4:=Nat.pow_le_pow_right (by decide) hk4
   have hpw:(16:Nat) ^ (k+1)=16 ^ k*16:=Nat.pow_succ _ _
   have hx:x≤65535:=by omega
   by_cases h4:k<4
   ·obtain ⟨f,hf⟩:∃ f,4-k=f+1:=⟨3-k,by omega⟩
    by_cases hlt:k<s.size
    ·rw [hf,drop_at s k hlt,hexGo_cons] at hh
     have hc0:(0:Int)≤s[k].toNat:=Int.natCast_nonneg _
     have hc1:(s[k].toNat:Int)≤255:=by have:=UInt8.toNat_lt s[k];omega
     by_cases hc:isHexI s[k].toNat=true
     ·rw[if_pos hc] at hh
      obtain ⟨d0,d1⟩:=hexI_bd _ hc
      have HH:=hid hh
      have HC:=hid hc
      have HP:=hid hpw
      have HX:=hid h1
      have kt:=hid (fun w=>rhex_any _ w hc0 hc1)
      clear hh hc hpw h1 hp
      generalize hexI s[k].toNat=d at *
      go_wp2_with (go_at_call 142;refine (kt.out _).mono ?_;rintro e w' ⟨rfl,rfl⟩;rw[HC.out])
      go_round
      case rel=>exact ⟨k+1,x*16+d,by omega,hlt,by go_num,by go_num,by omega,(by have:=HP.out;have:=HX.out;omega),(by rw[HH.out,show 4-(k+1)=f by omega];simp;omega)⟩
      case measure=>simp[intOf];omega
     ·rw[if_neg hc] at hh
      have HH:=hid hh
      have HC:=hid (Bool.eq_false_iff.2 hc)
      have kt:=hid (fun w=>rhex_any _ w hc0 hc1)
      clear hh hc hpw h1 hp
      go_wp2_with (go_at_call 142;refine (kt.out _).mono ?_;rintro e w' ⟨rfl,rfl⟩;rw[HC.out])
      go_ret2
      exact ⟨(by rw[HH.out];simp),rfl⟩
    ·rw[drop_none s k (by omega),hexGo_nil] at hh
     have HH:=hid hh
     clear hh hpw h1 hp
     go_wp2
     go_ret2
     exact ⟨(by rw[HH.out];simp),rfl⟩
   ·obtain rfl:k=4:=by omega
    have HH:=hid (show hexR s.data.toList=(4,x) by rw[hh];rfl)
    clear hh hpw h1 hp
    go_wp2
    go_ret2
    exact ⟨(by rw[HH.out];rfl),rfl⟩
end
section
open Go.RowKit
theorem rlet_47 (W:World):Calls Tryz.prog 123 #[.int .u8 47] W fun e w'=>e=.returned (.int .u8 47)∧Below W.heap.size W w':=by
 go_enter Tryz.func123,Tryz.ntmps123
 go_wp2
 refine wp_loop_rounds 9 ?_
 rw[rounds_succ]
 go_wp2
 rw[rounds_succ]
 go_wp2
 rw[rounds_succ]
 go_wp2
 go_ret
 exact ⟨rfl,below2 _ _ _⟩
theorem rlet_no (c:Int) (W:World) (h1:¬ (34:Int)=c) (h2:¬ (92:Int)=c) (h3:¬ (47:Int)=c) (h4:¬ (98:Int)=c) (h5:¬ (102:Int)=c) (h6:¬ (110:Int)=c) (h7:¬ (114:Int)=c) (h8:¬ (116:Int)=c) :
   Calls Tryz.prog 123 #[.int .u8 c] W fun e w'=>e=.returned (.int .u8 0)∧Below W.heap.size W w':=by
 have b1:((34:Int)==c)=false:=beq_eq_false_iff_ne.2 h1
 have b2:((92:Int)==c)=false:=beq_eq_false_iff_ne.2 h2
 have b3:((47:Int)==c)=false:=beq_eq_false_iff_ne.2 h3
 have b4:((98:Int)==c)=false:=beq_eq_false_iff_ne.2 h4
 have b5:((102:Int)==c)=false:=beq_eq_false_iff_ne.2 h5
 have b6:((110:Int)==c)=false:=beq_eq_false_iff_ne.2 h6
 have b7:((114:Int)==c)=false:=beq_eq_false_iff_ne.2 h7
 have b8:((116:Int)==c)=false:=beq_eq_false_iff_ne.2 h8
 go_enter Tryz.func123,Tryz.ntmps123
 go_wp2
 refine wp_loop_rounds 10 ?_
 rw[rounds_succ]
 go_wp2
 rw[rounds_succ]
 go_wp2
 rw[rounds_succ]
 go_wp2
 rw[rounds_succ]
 go_wp2
 rw[rounds_succ]
 go_wp2
 rw[rounds_succ]
 go_wp2
 rw[rounds_succ]
 go_wp2
 rw[rounds_succ]
 go_wp2
 rw[rounds_succ]
 go_wp2
 go_ret
 exact ⟨rfl,below2 _ _ _⟩
theorem u8_ne {c:UInt8} {n:Nat} (h:c≠UInt8.ofNat n):¬ ((n:Nat):Int)=c.toNat:=by
 intro e
 apply h
 have:n=c.toNat:=by omega
 rw[this]
 simp
theorem rletR_any (c:UInt8) (W:World):Calls Tryz.prog 123 #[.int .u8 c.toNat] W fun e w'=>e=.returned (.int .u8 (letR c).toNat)∧Below W.heap.size W w':=by
 by_cases h1:c=34
 ·subst h1;exact rlet_34 W
 by_cases h2:c=92
 ·subst h2;exact rlet_92 W
 by_cases h3:c=47
 ·subst h3;exact rlet_47 W
 by_cases h4:c=98
 ·subst h4;exact rlet_98 W
 by_cases h5:c=102
 ·subst h5;exact rlet_102 W
 by_cases h6:c=110
 ·subst h6;exact rlet_110 W
 by_cases h7:c=114
 ·subst h7;exact rlet_114 W
 by_cases h8:c=116
 ·subst h8;exact rlet_116 W
 have e:letR c=0:=by unfold letR;rw[if_neg h1,if_neg h2,if_neg h3,if_neg h4,if_neg h5,if_neg h6,if_neg h7,if_neg h8]
 rw[e]
 have ne:=fun (n:Nat) (hn:n<256) (h:c≠UInt8.ofNat n)=>u8_ne h
 exact rlet_no c.toNat W (ne 34 (by decide) h1) (ne 92 (by decide) h2) (ne 47 (by decide) h3) (ne 98 (by decide) h4) (ne 102 (by decide) h5) (ne 110 (by decide) h6) (ne 114 (by decide) h7) (ne 116 (by decide) h8)
end
end Go.Proofs.YtbpilcklglhloaaGreatDoor
