/- Lemmas. -/
import Derived.Test.YtmgdjlkndbejkaaGreatDoorJ27
import Derived.Test.YtmgdjlkndbejkaaGreatDoorJ26
set_option maxRecDepth 100000
set_option maxHeartbeats 8000000
set_option linter.unusedVariables false
set_option linter.unusedSimpArgs false
namespace Go.Proofs.YtmgdjlkndbejkaaGreatDoor
open Go.Lib (hid)
section
open Go.RowKit
def TxI (W:World)(acc:List UInt8)(w:World):Prop:=BldS w W.heap.size (fun k=>W.heap.size≤k) acc∧Below W.heap.size W w
theorem TxI.start (W:World):TxI W [] (W.alloc (.cells #[.pointer none,.slice none 0 0] 39)) :=
 ⟨BldS.fresh W (fun k=>W.heap.size≤k) (Nat.le_refl _),(Below.refl _ _).alloc (Nat.le_refl _) _⟩
theorem TxI.wr {W w w':World} {acc acc':List UInt8} (h:TxI W acc w) (g:Wr w W.heap.size (fun k=>W.heap.size≤k) acc' w'):TxI W acc' w':=by
 have hz:=h.2.size
 exact ⟨g.1.mono (fun k hk=>hk.elim id (fun h=>by omega)),h.2.trans (g.2.below (fun k _ h=>h) hz)⟩
theorem TxI.bound {W w:World} {acc:List UInt8} (h:TxI W acc w) (o:Obj):BldS (w.alloc o) W.heap.size (fun k=>W.heap.size≤k∧k<w.heap.size) acc :=
 h.1.bound.stay (G:=fun k=>w.heap.size≤k) (Touch.of_below (below1 w o) (fun k _ h=>h)) (fun k hk h e=>by omega)
theorem TxI.off {W w w':World} {acc acc':List UInt8} {o:Obj} (h:TxI W acc w) (g:Wr (w.alloc o) W.heap.size (fun k=>W.heap.size≤k∧k<w.heap.size) acc' w'):TxI W acc' w':=by
 have hz:=h.2.size
 have e:(w.alloc o).heap.size=w.heap.size+1:=by simp
 refine ⟨g.1.mono (fun k hk => ?_),(h.2.alloc hz o).trans (g.2.below (fun k _ h=>h.1) (by omega))⟩
 rcases hk with h|h
 ·exact h.1
 ·omega
theorem TxI.str {W w:World} {acc:List UInt8} (h:TxI W acc w) (hl:acc.length≤100000000000) :
   Calls Tryz.prog 13 #[.pointer (some ⟨W.heap.size,0,none⟩)] w fun e w'=>e=.returned (.string ⟨acc.toArray⟩)∧Below W.heap.size W w':=by
 have hz:=h.2.size
 refine (Tryz.Builder_String_any_k W.heap.size _ _ _ (BldS.is h.1 (B:=W.heap.size) (fun k hk=>hk)) (by omega)).mono ?_
 rintro e w3 ⟨rfl,hi,hb3,_⟩
 exact ⟨rfl,h.2.trans hb3⟩
theorem flatQ_snoc {xs:List Sgm} {k:Nat} (hk:k<xs.length):(xs.take (k+1)).flatMap sgmT=(xs.take k).flatMap sgmT++sgmT xs[k]:=by
 rw[List.take_succ_eq_append_getElem hk,List.flatMap_append,List.flatMap_cons,List.flatMap_nil,List.append_nil]
theorem selsT_one {ys:List Sel} {k:Nat} (hk:k<ys.length) (h0:k=0):selsT (ys.take (k+1))=selsT (ys.take k)++selT ys[k]:=by
 subst h0
 rw[List.take_succ_eq_append_getElem hk]
 rfl
theorem selsT_more {ys:List Sel} {k:Nat} (hk:k<ys.length) (h0:k≠0):selsT (ys.take (k+1))=(selsT (ys.take k)++[44])++selT ys[k]:=by
 have hne:ys.take k≠[]:=fun e=>by have h:=congrArg List.length e;rw[List.length_take,Nat.min_eq_left (by omega)] at h;exact h0 h
 rw[List.take_succ_eq_append_getElem hk,selsT_snoc _ _ hne]
 simp
theorem selsT_mid {ys:List Sel} (h1:ys.length≤1000) (h2:∀ y∈ys,y.name.size≤1000) (k:Nat):(selsT (ys.take k)).length≤6100000:=by
 have h:=selsP_mid h1 h2 k
 unfold selsP at h
 split at h
 ·rename_i he
  rw[he]
  simp[selsT]
 ·rw[List.length_cons] at h
  omega
def RelTxW (W:World)(xs:List Sgm)(i:Value)(wr:World):Prop:=∃ k:Nat,k≤xs.length∧i=.int .i64 k∧TxI W (36 :: (xs.take k).flatMap sgmT) wr
def RelTyW (W:World)(acc:List UInt8)(ys:List Sel)(i:Value)(wr:World):Prop:=∃ k:Nat,k≤ys.length∧i=.int .i64 k∧TxI W (acc++selsT (ys.take k)) wr
set_option maxHeartbeats 16000000 in
theorem wtext_yes (xs:List Sgm) (A:Option Addr) (n c:Nat) (W:World) (hT:Pow13 W) (hx:QRd W A n xs) (hs:SmQ xs) (hr:rightQ xs=true) :
   Calls Tryz.prog 6 #[.slice A n c] W fun e w'=>e=.returned (.string ⟨(putQ xs).toArray⟩)∧Below W.heap.size W w':=by
 have KR:=wright15_any xs A n c W hx hs
 rw[hr] at KR
 have KR:=hid KR
 have HP:=hid (show putQ xs=36 :: xs.flatMap sgmT from if_pos hr)
 have HR:=hid (show ∀ x∈xs,okG x=true from fun x h=>List.all_eq_true.1 (rightQ_is xs▸hr) x h)
 have hl:xs.length=n:=hx.1
 have h9:=hs.1
 have HS:=hid hs.2
 have HX:=hid hx
 have HT:=hid hT
 clear hx hs hr hT
 have tk0:True:=trivial
 go_enter Tryz.func6,Tryz.ntmps6
 go_wp2_with (first
   | (go_at_call 8;refine KR.out.mono ?_;rintro e w1 ⟨rfl,hb1⟩;have HB1:=hid hb1;clear hb1)
   | (go_at_call 11
      clear tk0
      go_must (
        refine (writeString_of w1.heap.size _ [] [36] _ rfl _ (TxI.start w1).1 (by show 0+1≤_;omega)).mono ?_
        rintro e w2 ⟨rfl,h1⟩
        have S1:=hid ((TxI.start w1).wr h1)
        clear h1)))
 go_loopw [14] (fun i wr=>RelTxW w1 xs i wr) (fun i _=>xs.length-(intOf i).toNat)
 case atStart=>exact ⟨0,Nat.zero_le _,rfl,S1.out⟩
 case round =>
   obtain ⟨k,hk,rfl,hI⟩:=hrel
   have hk9:(k:Int)≤1000:=by omega
   have HWB:=hid (HB1.out.trans (hI.2.mono HB1.out.size))
   by_cases hlt:k<xs.length
   rotate_left
   ·have hltI:¬ (k:Int)<n:=by omega
    have hfm:=flat_mid xs HS.out
    have hfm2:=Nat.mul_le_mul_right 6200000 h9
    rw[List.take_of_length_le (by omega)] at hI
    have HSS:=hid (TxI.str hI (by rw[List.length_cons];omega))
    clear hI hfm hfm2
    go_wp2_with (go_at_call 13;refine HSS.out.mono ?_;rintro e w2 ⟨rfl,h2⟩;have HB2:=hid (HB1.out.trans (h2.mono HB1.out.size));clear h2)
    go_ret
    rw[HP.out]
    exact ⟨rfl,HB2.out⟩
   have hltI:(k:Int)<n:=by omega
   obtain ⟨a,rfl,ha,hc⟩:=HX.out.2 (by omega)
   obtain ⟨B,m,cc,s0,s1,sr⟩:=hc k xs[k] (List.getElem?_eq_getElem hlt)
   have ha2:(a.add (k*2)).block<W.heap.size:=by rw[add_block14];exact ha
   have c0:=(HWB.out.cell ha2).trans s0
   have c1:=(HWB.out.cell (p:=⟨(a.add (k*2)).block,(a.add (k*2)).off+1,none⟩) ha2).trans s1
   have HSR:=hid sr
   have hok:=HR.out _ (List.getElem_mem hlt)
   obtain ⟨z1,z2⟩:=HS.out _ (List.getElem_mem hlt)
   have HFS:=hid (flatQ_snoc hlt)
   have hfm:=flat_mid (xs.take k) (fun x hx=>HS.out x (List.mem_of_mem_take hx))
   have hfl:(xs.take k).length≤1000:=by rw[List.length_take];omega
   have hfm2:=Nat.mul_le_mul_right 6200000 hfl
   have HLEN:=hid (show (36 :: (xs.take k).flatMap sgmT).length≤6200000001 by rw[List.length_cons];omega)
   have HREL:=hid (fun w' (h:TxI w1 (36 :: (xs.take (k+1)).flatMap sgmT) w')=>show RelTxW w1 xs (.int .i64 ((k+1:Nat):Int)) w' from ⟨k+1,hlt,rfl,h⟩)
   rw[HFS.out,← List.cons_append] at HREL
   clear hc s0 s1 sr HFS hfm hfm2 hfl
   generalize xs[k]=x at *
   generalize 36 :: (xs.take k).flatMap sgmT=acc at *
   obtain ⟨dp,ys⟩:=x
   obtain ⟨g1,g2⟩:ys≠[] ∧ ∀ y∈ys,goodB y=true:=by
     unfold okG at hok
     rw[Bool.and_eq_true] at hok
     exact ⟨fun e=>by rw[e] at hok;exact absurd hok.1 (by simp),List.all_eq_true.1 hok.2⟩
   have HG:=hid g2
   have HZ:=hid z2
   have hm:ys.length=m:=HSR.out.1
   have z1':ys.length≤1000:=z1
   have hm9:(m:Int)≤1000:=by omega
   have HMID:=hid (selsT_mid z1 z2)
   have HI:=hid hI
   have HB0:=hid (hI.bound (.cells #[.bool dp,.slice B m cc] 33))
   have HO:=hid (Own.fresh wr 33 #[.bool dp,.slice B m cc])
   have hnF:¬ (w1.heap.size≤wr.heap.size∧wr.heap.size<wr.heap.size):=by omega
   clear hok g2 z2 hI z1
   have tkA:True:=trivial
   have HGO:Hid (∀ acc2:List UInt8,acc++sgmT ⟨dp,ys⟩=(acc2++selsT ys)++[93]→acc2.length≤6200000004 → ∀ j:Nat,True):=hid (fun _ _ _ _=>trivial)
   clear HGO
   cases dp
   ·have HSG := hid (show acc++sgmT ⟨false,ys⟩=((acc++[91])++selsT ys)++[93] by simp[sgmT])
    rw[HSG.out] at HREL
    have HL2:=hid (show (acc++[91]).length≤6200000004 by have:=HLEN.out;simp;omega)
    clear HSG
    go_wp2_with (
      (go_at_call 11
       go_must (
         refine (writeString_of w1.heap.size _ _ [91] _ rfl _ HB0.out (by show acc.length+1≤_;have:=HLEN.out;omega)).mono ?_
         rintro e w2 ⟨rfl,h2⟩
         have o2:=h2.2.own HO.out hnF
         have d1:w2.cell? ⟨wr.heap.size,1,none⟩=some (.slice B m cc):=o2.at 1
         have H2:=hid (HI.out.off h2)
         clear h2 o2)))
    generalize acc++[91]=acc2 at *
    clear HB0 HO HI HLEN hnF
    go_loopw [25] (fun j w=>RelTyW w1 acc2 ys j w) (fun j _=>ys.length-(intOf j).toNat)
    case atStart=>exact ⟨0,Nat.zero_le _,rfl,by rw[List.take_zero];show TxI w1 (acc2++[]) w2;rw[List.append_nil];exact H2.out⟩
    case round =>
      obtain ⟨j,hj,rfl,hIj⟩:=hrel
      have hj9:(j:Int)≤1000:=by omega
      have HWJ:=hid (HB1.out.trans (hIj.2.mono HB1.out.size))
      by_cases hjl:j<ys.length
      rotate_left
      ·have hjI:¬ (j:Int)<m:=by omega
       rw[List.take_of_length_le (by omega)] at hIj
       have hmid:=HMID.out ys.length
       rw[List.take_of_length_le (Nat.le_refl _)] at hmid
       have HIJ:=hid hIj
       clear hIj
       go_wp2_with (
         (go_at_call 11
          go_must (
            refine (writeString_of w1.heap.size _ _ [93] _ rfl _ HIJ.out.1 (by have:=HL2.out;rw[List.length_append];show _+1≤_;omega)).mono ?_
            rintro e w4 ⟨rfl,h4⟩
            have H4:=hid (HIJ.out.wr h4)
            clear h4)))
       go_roundw
       case rel=>exact HREL.out _ H4.out
       case measure=>simp[intOf];omega
      have hjI:(j:Int)<m:=by omega
      obtain ⟨b2,rfl,hb2,d2⟩:=(HSR.out.stay HWJ.out).2 (by omega)
      obtain ⟨e0,e1,e2,e3,e4,e5,e6,e7⟩:=d2 j ys[j] (List.getElem?_eq_getElem hjl)
      have hzy:=HZ.out _ (List.getElem_mem hjl)
      have KX:=hid (fun w h=>selX_any ys[j] (HG.out _ (List.getElem_mem hjl)) w h hzy)
      have hmid:=HMID.out j
      have HT1:=hid (fun h=>selsT_one hjl h)
      have HT2:=hid (fun h=>selsT_more hjl h)
      have hzl:=selT_len ys[j]
      have hRJ:=fun w' (h:TxI w1 (acc2++selsT (ys.take (j+1))) w')=>show RelTyW w1 acc2 ys (.int .i64 ((j+1:Nat):Int)) w' from ⟨j+1,hjl,rfl,h⟩
      clear d2
      generalize ys[j]=y at *
      have HSZ:=hid (show (⟨(selT y).toArray⟩:ByteArray).size≤7000 from (by show (selT y).length≤_;omega))
      have HIJ:=hid hIj
      obtain ⟨yk,yn,yi,ys0,ye,yhs,yhe,ysd⟩:=y
      have HBJ:=hid (hIj.bound (.cells #[.int .i64 yk,.string yn,.int .i64 yi,.int .i64 ys0,.int .i64 ye,.bool yhs,.bool yhe,.int .i64 ysd] 35))
      have HOJ:=hid (Own.fresh wr 35 #[.int .i64 yk,.string yn,.int .i64 yi,.int .i64 ys0,.int .i64 ye,.bool yhs,.bool yhe,.int .i64 ysd])
      have hnJ:¬ (w1.heap.size≤wr.heap.size∧wr.heap.size<wr.heap.size):=by omega
      have HPJ:=hid (fun (w':World) (l:List UInt8) (g:Wr (wr.alloc (.cells #[.int .i64 yk,.string yn,.int .i64 yi,.int .i64 ys0,.int .i64 ye,.bool yhs,.bool yhe,.int .i64 ysd] 35)) w1.heap.size (fun k=>w1.heap.size≤k∧k<wr.heap.size) l w')=>HT.out.stay (HB1.out.trans ((HIJ.out.off g).2.mono HB1.out.size)))
      have HLJ:=hid (show (acc2++selsT (ys.take j)).length≤6300000004 by have:=HL2.out;rw[List.length_append];omega)
      clear hIj hzl hmid
      by_cases j0:j=0
      ·have hs1:=HT1.out j0
       have qj:¬ ((j:Int)>0):=by omega
       rw[hs1,← List.append_assoc] at hRJ
       have HRJ:=hid hRJ
       clear hRJ hs1 HT1 HT2 j0
       have tkC:True:=trivial
       generalize acc2++selsT (ys.take j)=acc3 at *
       generalize selT _=st at *
       go_wp2_with (first
         | (go_at_call 12
            go_must (
              refine (KX.out _ (HPJ.out _ _ (Wr.start HBJ.out (Below.refl _ _)))).mono ?_
              rintro e w5 ⟨rfl,hb5⟩
              have H5:=hid (Wr.start HBJ.out hb5)
              clear hb5))
         | (go_at_call 11
            go_must (
              refine (writeString_of w1.heap.size _ _ st _ rfl _ H5.out.1 (by have:=HLJ.out;have:=HSZ.out;omega)).mono ?_
              rintro e w6 ⟨rfl,h6⟩
              have H6:=hid (HIJ.out.off (H5.out.more h6))
              clear h6)))
       go_roundw
       case rel=>exact HRJ.out _ H6.out
       case measure=>simp[intOf];omega
      ·have hs2:=HT2.out j0
       have qj:(j:Int)>0:=by omega
       rw[hs2,← List.append_assoc,← List.append_assoc] at hRJ
       have HRJ:=hid hRJ
       clear hRJ hs2 HT1 HT2 j0
       have tkC:True:=trivial
       generalize acc2++selsT (ys.take j)=acc3 at *
       generalize selT _=st at *
       go_wp2_with (first
         | (go_at_call 11
            clear tkC
            go_must (
              refine (writeString_of w1.heap.size _ _ [44] _ rfl _ HBJ.out (by have:=HLJ.out;show _+1≤_;omega)).mono ?_
              rintro e w4 ⟨rfl,h4⟩
              have o4:=h4.2.own HOJ.out hnJ
              have f0:w4.cell? ⟨wr.heap.size,0,none⟩=some (.int .i64 yk):=o4.at 0
              have f1:w4.cell? ⟨wr.heap.size,1,none⟩=some (.string yn):=o4.at 1
              have f2:w4.cell? ⟨wr.heap.size,2,none⟩=some (.int .i64 yi):=o4.at 2
              have f3:w4.cell? ⟨wr.heap.size,3,none⟩=some (.int .i64 ys0):=o4.at 3
              have f4:w4.cell? ⟨wr.heap.size,4,none⟩=some (.int .i64 ye):=o4.at 4
              have f5:w4.cell? ⟨wr.heap.size,5,none⟩=some (.bool yhs):=o4.at 5
              have f6:w4.cell? ⟨wr.heap.size,6,none⟩=some (.bool yhe):=o4.at 6
              have f7:w4.cell? ⟨wr.heap.size,7,none⟩=some (.int .i64 ysd):=o4.at 7
              have H4:=hid h4
              clear h4 o4))
         | (go_at_call 12
            go_must (
              refine (KX.out _ (HPJ.out _ _ H4.out)).mono ?_
              rintro e w5 ⟨rfl,hb5⟩
              have H5:=hid (H4.out.more (Wr.start H4.out.1 hb5))
              clear hb5))
         | (go_at_call 11
            go_must (
              refine (writeString_of w1.heap.size _ _ st _ rfl _ H5.out.1 (by have:=HLJ.out;have:=HSZ.out;rw[List.length_append];show (_+1)+_≤_;omega)).mono ?_
              rintro e w6 ⟨rfl,h6⟩
              have H6:=hid (HIJ.out.off (H5.out.more h6))
              clear h6)))
       go_roundw
       case rel=>exact HRJ.out _ H6.out
       case measure=>simp[intOf];omega
   ·have HSG := hid (show acc++sgmT ⟨true,ys⟩=(((acc++[46,46])++[91])++selsT ys)++[93] by simp[sgmT])
    rw[HSG.out] at HREL
    have HL2:=hid (show ((acc++[46,46])++[91]).length≤6200000004 by have:=HLEN.out;simp;omega)
    clear HSG
    go_wp2_with (first
      | (go_at_call 11
         clear tkA
         go_must (
           refine (writeString_of w1.heap.size _ _ [46,46] _ rfl _ HB0.out (by show acc.length+2≤_;have:=HLEN.out;omega)).mono ?_
           rintro e w2 ⟨rfl,h2⟩
           have o2:=h2.2.own HO.out hnF
           have HO2:=hid o2
           have H2:=hid h2
           clear h2 o2))
      | (go_at_call 11
         go_must (
           refine (writeString_of w1.heap.size _ _ [91] _ rfl _ H2.out.1 (by have:=HLEN.out;simp only [List.length_append,List.length_cons,List.length_nil];show _+1≤_;omega)).mono ?_
           rintro e w3 ⟨rfl,h3⟩
           have h3:=H2.out.more h3
           have o3:=h3.2.own HO.out hnF
           have d1:w3.cell? ⟨wr.heap.size,1,none⟩=some (.slice B m cc):=o3.at 1
           have H3:=hid (HI.out.off h3)
           clear h3 o3)))
    generalize (acc++[46,46])++[91]=acc2 at *
    clear HB0 HO HI HLEN hnF H2 HO2
    go_loopw [25] (fun j w=>RelTyW w1 acc2 ys j w) (fun j _=>ys.length-(intOf j).toNat)
    case atStart=>exact ⟨0,Nat.zero_le _,rfl,by rw[List.take_zero];show TxI w1 (acc2++[]) w3;rw[List.append_nil];exact H3.out⟩
    case round =>
      obtain ⟨j,hj,rfl,hIj⟩:=hrel
      have hj9:(j:Int)≤1000:=by omega
      have HWJ:=hid (HB1.out.trans (hIj.2.mono HB1.out.size))
      by_cases hjl:j<ys.length
      rotate_left
      ·have hjI:¬ (j:Int)<m:=by omega
       rw[List.take_of_length_le (by omega)] at hIj
       have hmid:=HMID.out ys.length
       rw[List.take_of_length_le (Nat.le_refl _)] at hmid
       have HIJ:=hid hIj
       clear hIj
       go_wp2_with (
         (go_at_call 11
          go_must (
            refine (writeString_of w1.heap.size _ _ [93] _ rfl _ HIJ.out.1 (by have:=HL2.out;rw[List.length_append];show _+1≤_;omega)).mono ?_
            rintro e w4 ⟨rfl,h4⟩
            have H4:=hid (HIJ.out.wr h4)
            clear h4)))
       go_roundw
       case rel=>exact HREL.out _ H4.out
       case measure=>simp[intOf];omega
      have hjI:(j:Int)<m:=by omega
      obtain ⟨b2,rfl,hb2,d2⟩:=(HSR.out.stay HWJ.out).2 (by omega)
      obtain ⟨e0,e1,e2,e3,e4,e5,e6,e7⟩:=d2 j ys[j] (List.getElem?_eq_getElem hjl)
      have hzy:=HZ.out _ (List.getElem_mem hjl)
      have KX:=hid (fun w h=>selX_any ys[j] (HG.out _ (List.getElem_mem hjl)) w h hzy)
      have hmid:=HMID.out j
      have HT1:=hid (fun h=>selsT_one hjl h)
      have HT2:=hid (fun h=>selsT_more hjl h)
      have hzl:=selT_len ys[j]
      have hRJ:=fun w' (h:TxI w1 (acc2++selsT (ys.take (j+1))) w')=>show RelTyW w1 acc2 ys (.int .i64 ((j+1:Nat):Int)) w' from ⟨j+1,hjl,rfl,h⟩
      clear d2
      generalize ys[j]=y at *
      have HSZ:=hid (show (⟨(selT y).toArray⟩:ByteArray).size≤7000 from (by show (selT y).length≤_;omega))
      have HIJ:=hid hIj
      obtain ⟨yk,yn,yi,ys0,ye,yhs,yhe,ysd⟩:=y
      have HBJ:=hid (hIj.bound (.cells #[.int .i64 yk,.string yn,.int .i64 yi,.int .i64 ys0,.int .i64 ye,.bool yhs,.bool yhe,.int .i64 ysd] 35))
      have HOJ:=hid (Own.fresh wr 35 #[.int .i64 yk,.string yn,.int .i64 yi,.int .i64 ys0,.int .i64 ye,.bool yhs,.bool yhe,.int .i64 ysd])
      have hnJ:¬ (w1.heap.size≤wr.heap.size∧wr.heap.size<wr.heap.size):=by omega
      have HPJ:=hid (fun (w':World) (l:List UInt8) (g:Wr (wr.alloc (.cells #[.int .i64 yk,.string yn,.int .i64 yi,.int .i64 ys0,.int .i64 ye,.bool yhs,.bool yhe,.int .i64 ysd] 35)) w1.heap.size (fun k=>w1.heap.size≤k∧k<wr.heap.size) l w')=>HT.out.stay (HB1.out.trans ((HIJ.out.off g).2.mono HB1.out.size)))
      have HLJ:=hid (show (acc2++selsT (ys.take j)).length≤6300000004 by have:=HL2.out;rw[List.length_append];omega)
      clear hIj hzl hmid
      by_cases j0:j=0
      ·have hs1:=HT1.out j0
       have qj:¬ ((j:Int)>0):=by omega
       rw[hs1,← List.append_assoc] at hRJ
       have HRJ:=hid hRJ
       clear hRJ hs1 HT1 HT2 j0
       have tkC:True:=trivial
       generalize acc2++selsT (ys.take j)=acc3 at *
       generalize selT _=st at *
       go_wp2_with (first
         | (go_at_call 12
            go_must (
              refine (KX.out _ (HPJ.out _ _ (Wr.start HBJ.out (Below.refl _ _)))).mono ?_
              rintro e w5 ⟨rfl,hb5⟩
              have H5:=hid (Wr.start HBJ.out hb5)
              clear hb5))
         | (go_at_call 11
            go_must (
              refine (writeString_of w1.heap.size _ _ st _ rfl _ H5.out.1 (by have:=HLJ.out;have:=HSZ.out;omega)).mono ?_
              rintro e w6 ⟨rfl,h6⟩
              have H6:=hid (HIJ.out.off (H5.out.more h6))
              clear h6)))
       go_roundw
       case rel=>exact HRJ.out _ H6.out
       case measure=>simp[intOf];omega
      ·have hs2:=HT2.out j0
       have qj:(j:Int)>0:=by omega
       rw[hs2,← List.append_assoc,← List.append_assoc] at hRJ
       have HRJ:=hid hRJ
       clear hRJ hs2 HT1 HT2 j0
       have tkC:True:=trivial
       generalize acc2++selsT (ys.take j)=acc3 at *
       generalize selT _=st at *
       go_wp2_with (first
         | (go_at_call 11
            clear tkC
            go_must (
              refine (writeString_of w1.heap.size _ _ [44] _ rfl _ HBJ.out (by have:=HLJ.out;show _+1≤_;omega)).mono ?_
              rintro e w4 ⟨rfl,h4⟩
              have o4:=h4.2.own HOJ.out hnJ
              have f0:w4.cell? ⟨wr.heap.size,0,none⟩=some (.int .i64 yk):=o4.at 0
              have f1:w4.cell? ⟨wr.heap.size,1,none⟩=some (.string yn):=o4.at 1
              have f2:w4.cell? ⟨wr.heap.size,2,none⟩=some (.int .i64 yi):=o4.at 2
              have f3:w4.cell? ⟨wr.heap.size,3,none⟩=some (.int .i64 ys0):=o4.at 3
              have f4:w4.cell? ⟨wr.heap.size,4,none⟩=some (.int .i64 ye):=o4.at 4
              have f5:w4.cell? ⟨wr.heap.size,5,none⟩=some (.bool yhs):=o4.at 5
              have f6:w4.cell? ⟨wr.heap.size,6,none⟩=some (.bool yhe):=o4.at 6
              have f7:w4.cell? ⟨wr.heap.size,7,none⟩=some (.int .i64 ysd):=o4.at 7
              have H4:=hid h4
              clear h4 o4))
         | (go_at_call 12
            go_must (
              refine (KX.out _ (HPJ.out _ _ H4.out)).mono ?_
              rintro e w5 ⟨rfl,hb5⟩
              have H5:=hid (H4.out.more (Wr.start H4.out.1 hb5))
              clear hb5))
         | (go_at_call 11
            go_must (
              refine (writeString_of w1.heap.size _ _ st _ rfl _ H5.out.1 (by have:=HLJ.out;have:=HSZ.out;rw[List.length_append];show (_+1)+_≤_;omega)).mono ?_
              rintro e w6 ⟨rfl,h6⟩
              have H6:=hid (HIJ.out.off (H5.out.more h6))
              clear h6)))
       go_roundw
       case rel=>exact HRJ.out _ H6.out
       case measure=>simp[intOf];omega
end
end Go.Proofs.YtmgdjlkndbejkaaGreatDoor
