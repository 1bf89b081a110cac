/- Lemmas. -/
import Derived.Test.YtmgdjlkndbejkaaGreatDoorJ33
set_option maxRecDepth 100000
set_option maxHeartbeats 8000000
set_option linter.unusedVariables false
set_option linter.unusedSimpArgs false
namespace Go.Proofs.YtmgdjlkndbejkaaGreatDoor
open Go.Lib (hid)
section
open Go.RowKit
def SqI (W:World)(b:Nat)(acc r:List UInt8)(w:World):Prop:=b<W.heap.size∧BldS w W.heap.size (fun k=>W.heap.size≤k) acc∧Went W b r w
section
variable {W w w':World} {b:Nat} {acc r r':List UInt8}
theorem SqI.went (h:SqI W b acc r w) (hw:Went w b r' w'):SqI W b acc r' w':=by
 have hz:W.heap.size≤w.heap.size:=h.2.2.2.2.2.2.1
 exact ⟨h.1,h.2.1.bound.stay (G:=fun k=>k=b) (Touch.of_turned hw.2 rfl) (fun k hk h1 e=>by have:=h1.1;have:=h.1;omega) |>.mono (fun k h=>h.1),h.2.2.trans hw⟩
theorem SqI.start (h:RdR W b r):SqI W b [] r (W.alloc (.cells #[.pointer none,.slice none 0 0] 39)) :=
 ⟨h.inside,BldS.fresh W (fun k=>W.heap.size≤k) (Nat.le_refl _),Went.new h (below1 W _)⟩
theorem SqI.touch (h:SqI W b acc r w) {l:List UInt8} (hB:BldS w' W.heap.size (fun k=>W.heap.size≤k∨w.heap.size≤k) l) (ht:Touch (fun k=>W.heap.size≤k) w w'):SqI W b l r w':=by
 have hz:W.heap.size≤w.heap.size:=h.2.2.2.2.2.2.1
 refine ⟨h.1,hB.mono (fun k hk=>hk.elim id (fun h=>by omega)),ht.own h.2.2.1 (by have:=h.1;omega),?_⟩
 have t:=h.2.2.2
 exact ⟨ht.os.trans t.1,ht.tape.trans t.2.1,ht.output.trans t.2.2.1,Nat.le_trans t.2.2.2.1 ht.size,fun k hk hne=>(ht.block k (by omega) (by omega)).trans (t.2.2.2.2 k hk hne)⟩
theorem SqI.byte (h:SqI W b acc r w) (hl:acc.length≤1000000000) (c:UInt8) :
   Calls Tryz.prog 61 #[.pointer (some ⟨W.heap.size,0,none⟩),.int .u8 c.toNat] w fun e w'=>e=.returned .nilIface∧SqI W b (acc++[c]) r w':=by
 refine (writeByte_any _ _ acc c w h.2.1 (by omega)).mono ?_
 rintro e w' ⟨rfl,h1,h2⟩
 exact ⟨rfl,h.touch h1 h2⟩
theorem SqI.str (h:SqI W b acc r w) (hl:acc.length≤1000000000) (s:ByteArray) (hs:s.size≤10) :
   Calls Tryz.prog 11 #[.pointer (some ⟨W.heap.size,0,none⟩),.string s] w fun e w'=>e=.returned (.tuple #[.int .i64 s.size,.nilIface])∧SqI W b (acc++s.data.toList) r w':=by
 refine (writeString_any _ _ acc s w h.2.1 (by omega)).mono ?_
 rintro e w' ⟨rfl,h1,h2⟩
 exact ⟨rfl,h.touch h1 h2⟩
theorem SqI.text (h:SqI W b acc r w) (hl:acc.length≤1000000000) :
   Calls Tryz.prog 13 #[.pointer (some ⟨W.heap.size,0,none⟩)] w fun e w'=>e=.returned (.string ⟨acc.toArray⟩)∧Went W b r w':=by
 have hz:W.heap.size≤w.heap.size:=h.2.2.2.2.2.2.1
 refine (Tryz.Builder_String_any_k W.heap.size _ _ _ (BldS.is h.2.1 (B:=W.heap.size) (fun k hk=>hk)) (by omega)).mono ?_
 rintro e w3 ⟨rfl,hi,hb3,_⟩
 have t:=h.2.2.2
 exact ⟨rfl,Own.stay h.2.2.1 hb3 h.1,hb3.os.trans t.1,hb3.tape.trans t.2.1,hb3.output.trans t.2.2.1,Nat.le_trans t.2.2.2.1 hb3.size,fun k hk hne=>(hb3.block k hk).trans (t.2.2.2.2 k hk hne)⟩
theorem SqI.cell (h:SqI W b acc r w):w.cell? ⟨b,0,none⟩=some (.string ⟨r.toArray⟩):=h.2.2.1.at0
theorem SqI.free (h:SqI W b acc r w):w.frozen? ⟨b,0,none⟩=false:=h.2.2.1.free0
theorem SqI.yes {c:UInt8} (h:SqI W b acc (c :: r) w) :
   Calls Tryz.prog 15 #[.pointer (some ⟨b,0,none⟩),.string ⟨#[c]⟩] w fun e w'=>e=.returned (.bool true)∧SqI W b acc r w':=by
 refine (take_yes b c r w h.2.2.1).mono ?_
 rintro e w' ⟨rfl,hw⟩
 exact ⟨rfl,h.went hw⟩
theorem SqI.no {c:UInt8} (h:SqI W b acc r w) (hc:r.head?≠some c) :
   Calls Tryz.prog 15 #[.pointer (some ⟨b,0,none⟩),.string ⟨#[c]⟩] w fun e w'=>e=.returned (.bool false)∧SqI W b acc r w':=by
 refine (take_no b c r w h.2.2.1 hc).mono ?_
 rintro e w' ⟨rfl,hw⟩
 exact ⟨rfl,h.went hw⟩
theorem SqI.yes2 {c d:UInt8} (h:SqI W b acc (c :: d :: r) w) :
   Calls Tryz.prog 15 #[.pointer (some ⟨b,0,none⟩),.string ⟨#[c,d]⟩] w fun e w'=>e=.returned (.bool true)∧SqI W b acc r w':=by
 refine (take_two_yes b c d r w h.2.2.1).mono ?_
 rintro e w' ⟨rfl,hw⟩
 exact ⟨rfl,h.went hw⟩
theorem SqI.no2 {c d:UInt8} (h:SqI W b acc r w) (hc:r.take 2≠[c,d]) :
   Calls Tryz.prog 15 #[.pointer (some ⟨b,0,none⟩),.string ⟨#[c,d]⟩] w fun e w'=>e=.returned (.bool false)∧SqI W b acc r w':=by
 refine (take_two_no b c d r w h.2.2.1 hc).mono ?_
 rintro e w' ⟨rfl,hw⟩
 exact ⟨rfl,h.went hw⟩
end
def RelSq (b:Nat) (l:List UInt8) (W wr:World):Prop :=
 ∃ (r acc:List UInt8) (f:Nat),SqI W b acc r wr∧r.length<f∧r.length≤l.length∧acc.length≤2*(l.length-r.length)∧trL (l.length+1) l=(trL f r).map fun p=>(acc++p.1,p.2)
theorem RelSq.one {b:Nat} {l:List UInt8} {W w:World} {r r' acc x:List UInt8} {f:Nat} (h:SqI W b (acc++x) r' w) (hf:r.length<f+1) (hr:r.length≤l.length) (ha:acc.length≤2*(l.length-r.length))
   (ht:trL (l.length+1) l=(trL (f+1) r).map fun p=>(acc++p.1,p.2)) (hx:x.length≤2*(r.length-r'.length)) (hlt:r'.length<r.length) (hs:trL (f+1) r=(trL f r').map fun p=>(x++p.1,p.2)):RelSq b l W w:=by
 refine ⟨r',acc++x,f,h,by omega,by omega,by rw[List.length_append];omega,?_⟩
 rw[ht,hs]
 cases trL f r' with
 | none=>rfl
 | some p=>show some (acc++(x++p.1),p.2)=some (acc++x++p.1,p.2);rw[List.append_assoc]
theorem muR_sq {W w:World}{b:Nat}{acc r:List UInt8}(h:SqI W b acc r w):muR b w=r.length:=muR_is h.2.2.1
theorem single_any (b:Nat) (l:List UInt8) (W:World) (h:RdR W b l) (hl:l.length≤1000000) :
   Calls Tryz.prog 66 #[.pointer (some ⟨b,0,none⟩)] W (NmEnd (sngR l) b W):=by
 have HR0:=hid (show RelSq b l W (W.alloc (.cells #[.pointer none,.slice none 0 0] 39)) from ⟨l,[],l.length+1,SqI.start h,Nat.lt_succ_self _,Nat.le_refl _,by simp,by cases trL (l.length+1) l<;>rfl⟩)
 clear h
 go_enter Tryz.func66,Tryz.ntmps66
 go_wp2
 go_loopw [8] (fun _ wr=>RelSq b l W wr) (fun _ wr=>muR b wr)
 case atStart=>exact HR0.out
 case round =>
   obtain ⟨r,acc,f,hI,hf,hr,ha,ht⟩:=hrel
   have HI:=hid hI
   have hal:acc.length≤100000000:=by omega
   obtain ⟨f,rfl⟩:∃ g,f=g+1:=⟨f-1,by omega⟩
   cases r with
   | nil =>
     have HN:=hid (show trL (l.length+1) l=none from ht)
     have K39:=hid (fun w (h:SqI W b acc [] w)=>SqI.no (c:=39) h (by decide))
     clear hI hf hr ha ht
     go_wp2_with (go_at_call 15;with_reducible refine (K39.out _ HI.out).mono ?_;rintro e w1 ⟨rfl,hi1⟩;have c1:=hi1.cell;have f1:=hi1.free;have HI1:=hid hi1;clear hi1)
     go_ret2
     exact ⟨_,_,_,rfl,HI1.out.2.2,by unfold sngR;rw[HN.out];rfl⟩
   | cons c t =>
     have hne:=isEmpty_no (⟨(c :: t).toArray⟩:ByteArray) (by show (c :: t).length≠0;simp)
     have hne2:((⟨(c :: t).toArray⟩:ByteArray).size==0)=false:=rfl
     have ht2:=ht
     rw[trL_on] at ht2
     by_cases c39:c=39
     ·subst c39
      rw[if_pos rfl] at ht2
      have HN:=hid (show trL (l.length+1) l=some (acc,t) by rw[ht2];show some (acc++[],t)=_;rw[List.append_nil])
      have KY:=hid (fun w (h:SqI W b acc (39 :: t) w)=>SqI.yes h)
      have KS:=hid (fun w (h:SqI W b acc t w)=>SqI.str h (by omega) ⟨#[34]⟩ (by decide))
      have KT:=hid (fun w (h:SqI W b (acc++[34]) t w)=>SqI.text h (by rw[List.length_append];show acc.length+1≤_;omega))
      have KR:=hid (fun w=>read_any ⟨(acc++[34]).toArray⟩ w (by show (acc++[34]).length≤_;rw[List.length_append];show acc.length+1≤_;omega))
      rw[list_ba] at KR
      have hcase:∃ (u:List UInt8) (n:Nat) (j:Int) (ok:Bool),readR .plain (acc++[34]) [] 0=(u,n,j)∧(j==1)=ok∧match sngR l with
        | none=>ok=false
        | some (u',r')=>ok=true∧(⟨u.toArray⟩:ByteArray)=⟨u'.toArray⟩∧t=r':=by
        unfold sngR
        rw[HN.out]
        show ∃ (u:List UInt8) (n:Nat) (j:Int) (ok:Bool),readR .plain (acc++[34]) [] 0=(u,n,j)∧(j==1)=ok∧match (readQ .plain (acc++[34]) [] 0).map (fun u=>(u.1,t)) with
          | none=>ok=false
          | some (u',r')=>ok=true∧(⟨u.toArray⟩:ByteArray)=⟨u'.toArray⟩∧t=r'
        rcases readR_cases (acc++[34]) .plain [] 0 with ⟨u,m,h1,h2⟩|⟨h1,m,j,h2,h3,h4⟩
        ·rw[h1]
         exact ⟨u,m,1,true,h2,rfl,rfl,rfl,rfl⟩
        ·rw[h1]
         exact ⟨[],m,j,false,h2,beq_eq_false_iff_ne.2 h3,rfl⟩
      obtain ⟨u,n,j,ok,hr9,hj,hm⟩:=hcase
      rw[hr9] at KR
      have HM:=hid hm
      clear hI hf hr ha ht ht2 hr9 hm
      generalize acc++[34]=accq at *
      go_wp2_with (first
        | (go_at_call 15;with_reducible refine (KY.out _ HI.out).mono ?_;rintro e w1 ⟨rfl,hi1⟩;have c1:=hi1.cell;have f1:=hi1.free;have HI1:=hid hi1;clear hi1)
        | (go_at_call 11;refine (KS.out _ HI1.out).mono ?_;rintro e w2 ⟨rfl,hi2⟩;have HI2:=hid hi2;clear hi2)
        | (go_at_call 13;refine (KT.out _ HI2.out).mono ?_;rintro e w3 ⟨rfl,hi3⟩;have HI3:=hid hi3;clear hi3)
        | (go_at_call 82;refine (KR.out _).mono ?_;rintro e w4 ⟨rfl,hb4⟩;have HI4:=hid (HI3.out.trans (Went.new HI3.out.1 hb4));clear hb4))
      go_ret2
      exact ⟨_,_,_,rfl,HI4.out,HM.out⟩
     rw[if_neg c39] at ht2
     have K39:=hid (fun w (h:SqI W b acc (c :: t) w)=>SqI.no (c:=39) h (fun e=>c39 (Option.some.inj e)))
     by_cases c34:c=34
     ·subst c34
      rw[if_pos rfl] at ht2
      have HREL:=hid (fun w (h:SqI W b (acc++[92,34]) t w)=>show RelSq b l W w from RelSq.one h hf hr ha ht (by simp<;>omega) (by simp<;>omega) (by rw[trL_on,if_neg (by decide),if_pos rfl];rfl))
      have HME:=hid (show t.length<(34 :: t).length by simp<;>omega)
      have K2:=hid (fun w (h:SqI W b acc (34 :: t) w)=>SqI.no2 (c:=92) (d:=34) h (by intro e;injection e with e _;exact absurd e (by decide)))
      have K3:=hid (fun w (h:SqI W b acc (34 :: t) w)=>SqI.no2 (c:=92) (d:=39) h (by intro e;injection e with e _;exact absurd e (by decide)))
      have K4:=hid (fun w (h:SqI W b acc (34 :: t) w)=>SqI.no2 (c:=92) (d:=92) h (by intro e;injection e with e _;exact absurd e (by decide)))
      have K5:=hid (fun w (h:SqI W b acc (34 :: t) w)=>SqI.yes h)
      have KS:=hid (fun w (h:SqI W b acc t w)=>SqI.str h (by omega) ⟨#[92,34]⟩ (by decide))
      clear hI hf hr ha ht ht2
      go_wp2_with (first
        | (go_at_call 15;with_reducible refine (K39.out _ HI.out).mono ?_;rintro e w1 ⟨rfl,hi1⟩;have c1:=hi1.cell;have f1:=hi1.free;have HI1:=hid hi1;clear hi1)
        | (go_at_call 15;with_reducible refine (K2.out _ HI1.out).mono ?_;rintro e w2 ⟨rfl,hi2⟩;have c2:=hi2.cell;have f2:=hi2.free;have HI2:=hid hi2;clear hi2)
        | (go_at_call 15;with_reducible refine (K3.out _ HI2.out).mono ?_;rintro e w3 ⟨rfl,hi3⟩;have c3:=hi3.cell;have f3:=hi3.free;have HI3:=hid hi3;clear hi3)
        | (go_at_call 15;with_reducible refine (K4.out _ HI3.out).mono ?_;rintro e w4 ⟨rfl,hi4⟩;have c4:=hi4.cell;have f4:=hi4.free;have HI4:=hid hi4;clear hi4)
        | (go_at_call 15;with_reducible refine (K5.out _ HI4.out).mono ?_;rintro e w5 ⟨rfl,hi5⟩;have c5:=hi5.cell;have f5:=hi5.free;have HI5:=hid hi5;clear hi5)
        | (go_at_call 11;refine (KS.out _ HI5.out).mono ?_;rintro e w6 ⟨rfl,hi6⟩;have HI6:=hid hi6;clear hi6))
      go_roundw
      case rel=>exact HREL.out _ HI6.out
      case measure=>rw[muR_sq HI6.out,muR_sq HI.out];exact HME.out
     rw[if_neg c34] at ht2
     have K5:=hid (fun w (h:SqI W b acc (c :: t) w)=>SqI.no (c:=34) h (fun e=>c34 (Option.some.inj e)))
     by_cases c92:c=92
     ·subst c92
      rw[if_pos rfl] at ht2
      cases t with
      | nil =>
        have HREL:=hid (fun w (h:SqI W b (acc++[92]) [] w)=>show RelSq b l W w from RelSq.one h hf hr ha ht (by simp<;>omega) (by simp<;>omega) (by rw[trL_on,if_neg (by decide),if_neg (by decide),if_pos rfl];rfl))
        have HME:=hid (show ([]:List UInt8).length<[(92:UInt8)].length by simp<;>omega)
        have K2:=hid (fun w (h:SqI W b acc [92] w)=>SqI.no2 (c:=92) (d:=34) h (by intro e;injection e with _ e;cases e))
        have K3:=hid (fun w (h:SqI W b acc [92] w)=>SqI.no2 (c:=92) (d:=39) h (by intro e;injection e with _ e;cases e))
        have K4:=hid (fun w (h:SqI W b acc [92] w)=>SqI.no2 (c:=92) (d:=92) h (by intro e;injection e with _ e;cases e))
        have KB:=hid (fun w (h:SqI W b acc [92] w)=>SqI.byte h (by omega) 92)
        have hi9:(⟨[92].toArray⟩:ByteArray)[0]'(by show 0<[92].length;simp)=92:=rfl
        have hz9:(⟨[92].toArray⟩:ByteArray).size=[].length+1:=rfl
        have h09:(0:Int)<(⟨[92].toArray⟩:ByteArray).size:=by rw[hz9];omega
        have h19:(1:Int)≤(⟨[92].toArray⟩:ByteArray).size:=by rw[hz9];omega
        have HT:=hid (show (⟨[92].toArray⟩:ByteArray).extract 1 (⟨[92].toArray⟩:ByteArray).size=⟨[].toArray⟩ from ext_tail _ 1 (by rw[hz9];omega))
        have HT2:=hid (show (⟨[92].toArray⟩:ByteArray).extract 1 ([].length+1)=⟨[].toArray⟩ from HT.out)
        clear hz9
        clear hI hf hr ha ht ht2
        go_wp2_with (first
          | (go_at_call 15;with_reducible refine (K39.out _ HI.out).mono ?_;rintro e w1 ⟨rfl,hi1⟩;have c1:=hi1.cell;have f1:=hi1.free;have HI1:=hid hi1;clear hi1)
          | (go_at_call 15;with_reducible refine (K2.out _ HI1.out).mono ?_;rintro e w2 ⟨rfl,hi2⟩;have c2:=hi2.cell;have f2:=hi2.free;have HI2:=hid hi2;clear hi2)
          | (go_at_call 15;with_reducible refine (K3.out _ HI2.out).mono ?_;rintro e w3 ⟨rfl,hi3⟩;have c3:=hi3.cell;have f3:=hi3.free;have HI3:=hid hi3;clear hi3)
          | (go_at_call 15;with_reducible refine (K4.out _ HI3.out).mono ?_;rintro e w4 ⟨rfl,hi4⟩;have c4:=hi4.cell;have f4:=hi4.free;have HI4:=hid hi4;clear hi4)
          | (go_at_call 15;with_reducible refine (K5.out _ HI4.out).mono ?_;rintro e w5 ⟨rfl,hi5⟩;have c5:=hi5.cell;have f5:=hi5.free;have HI5:=hid hi5;clear hi5)
          | (go_at_call 61;refine (KB.out _ HI5.out).mono ?_;rintro e w6 ⟨rfl,hi6⟩;have c6:=hi6.cell;have f6:=hi6.free;have HI6:=hid hi6;clear hi6))
        have HI7:=hid (HI6.out.went (RdR.put0 (m:=[]) HI6.out.2.2.1))
        go_roundw
        case rel=>exact HREL.out _ HI7.out
        case measure=>exact (by rw[muR_sq HI7.out,muR_sq HI.out];exact HME.out:muR b (w6.setCell ⟨b,0,none⟩ (.string ⟨([]:List UInt8).toArray⟩))<muR b wr)
      | cons d u =>
        by_cases d34:d=34
        ·subst d34
         rw[if_pos (show (34 :: u).head?=some 34 from rfl)] at ht2
         have HN:=hid (show trL (l.length+1) l=none from ht2)
         have K2:=hid (fun w (h:SqI W b acc (92 :: 34 :: u) w)=>SqI.yes2 h)
         clear hI hf hr ha ht ht2
         go_wp2_with (first
           | (go_at_call 15;with_reducible refine (K39.out _ HI.out).mono ?_;rintro e w1 ⟨rfl,hi1⟩;have c1:=hi1.cell;have f1:=hi1.free;have HI1:=hid hi1;clear hi1)
           | (go_at_call 15;with_reducible refine (K2.out _ HI1.out).mono ?_;rintro e w2 ⟨rfl,hi2⟩;have c2:=hi2.cell;have f2:=hi2.free;have HI2:=hid hi2;clear hi2))
         go_ret2
         exact ⟨_,_,_,rfl,HI2.out.2.2,by unfold sngR;rw[HN.out];rfl⟩
        have K2:=hid (fun w (h:SqI W b acc (92 :: d :: u) w)=>SqI.no2 (c:=92) (d:=34) h (by intro e;injection e with _ e;injection e with e _;exact d34 e))
        rw[if_neg (show ¬ (d :: u).head?=some 34 from fun e=>d34 (Option.some.inj e))] at ht2
        by_cases d39:d=39
        ·subst d39
         have HREL:=hid (fun w (h:SqI W b (acc++[39]) u w)=>show RelSq b l W w from RelSq.one h hf hr ha ht (by simp<;>omega) (by simp<;>omega) (by rw[trL_on,if_neg (by decide),if_neg (by decide),if_pos rfl];rfl))
         have HME:=hid (show u.length<(92 :: 39 :: u).length by simp<;>omega)
         have K3:=hid (fun w (h:SqI W b acc (92 :: 39 :: u) w)=>SqI.yes2 h)
         have KS:=hid (fun w (h:SqI W b acc u w)=>SqI.str h (by omega) ⟨#[39]⟩ (by decide))
         clear hI hf hr ha ht ht2
         go_wp2_with (first
           | (go_at_call 15;with_reducible refine (K39.out _ HI.out).mono ?_;rintro e w1 ⟨rfl,hi1⟩;have c1:=hi1.cell;have f1:=hi1.free;have HI1:=hid hi1;clear hi1)
           | (go_at_call 15;with_reducible refine (K2.out _ HI1.out).mono ?_;rintro e w2 ⟨rfl,hi2⟩;have c2:=hi2.cell;have f2:=hi2.free;have HI2:=hid hi2;clear hi2)
           | (go_at_call 15;with_reducible refine (K3.out _ HI2.out).mono ?_;rintro e w3 ⟨rfl,hi3⟩;have c3:=hi3.cell;have f3:=hi3.free;have HI3:=hid hi3;clear hi3)
           | (go_at_call 11;refine (KS.out _ HI3.out).mono ?_;rintro e w4 ⟨rfl,hi4⟩;have HI4:=hid hi4;clear hi4))
         go_roundw
         case rel=>exact HREL.out _ HI4.out
         case measure=>rw[muR_sq HI4.out,muR_sq HI.out];exact HME.out
        have K3:=hid (fun w (h:SqI W b acc (92 :: d :: u) w)=>SqI.no2 (c:=92) (d:=39) h (by intro e;injection e with _ e;injection e with e _;exact d39 e))
        by_cases d92:d=92
        ·subst d92
         have HREL:=hid (fun w (h:SqI W b (acc++[92,92]) u w)=>show RelSq b l W w from RelSq.one h hf hr ha ht (by simp<;>omega) (by simp<;>omega) (by rw[trL_on,if_neg (by decide),if_neg (by decide),if_pos rfl];rfl))
         have HME:=hid (show u.length<(92 :: 92 :: u).length by simp<;>omega)
         have K4:=hid (fun w (h:SqI W b acc (92 :: 92 :: u) w)=>SqI.yes2 h)
         have KS:=hid (fun w (h:SqI W b acc u w)=>SqI.str h (by omega) ⟨#[92,92]⟩ (by decide))
         clear hI hf hr ha ht ht2
         go_wp2_with (first
           | (go_at_call 15;with_reducible refine (K39.out _ HI.out).mono ?_;rintro e w1 ⟨rfl,hi1⟩;have c1:=hi1.cell;have f1:=hi1.free;have HI1:=hid hi1;clear hi1)
           | (go_at_call 15;with_reducible refine (K2.out _ HI1.out).mono ?_;rintro e w2 ⟨rfl,hi2⟩;have c2:=hi2.cell;have f2:=hi2.free;have HI2:=hid hi2;clear hi2)
           | (go_at_call 15;with_reducible refine (K3.out _ HI2.out).mono ?_;rintro e w3 ⟨rfl,hi3⟩;have c3:=hi3.cell;have f3:=hi3.free;have HI3:=hid hi3;clear hi3)
           | (go_at_call 15;with_reducible refine (K4.out _ HI3.out).mono ?_;rintro e w4 ⟨rfl,hi4⟩;have c4:=hi4.cell;have f4:=hi4.free;have HI4:=hid hi4;clear hi4)
           | (go_at_call 11;refine (KS.out _ HI4.out).mono ?_;rintro e w5 ⟨rfl,hi5⟩;have HI5:=hid hi5;clear hi5))
         go_roundw
         case rel=>exact HREL.out _ HI5.out
         case measure=>rw[muR_sq HI5.out,muR_sq HI.out];exact HME.out
        have K4:=hid (fun w (h:SqI W b acc (92 :: d :: u) w)=>SqI.no2 (c:=92) (d:=92) h (by intro e;injection e with _ e;injection e with e _;exact d92 e))
        have HREL:=hid (fun w (h:SqI W b (acc++[92]) (d :: u) w)=>show RelSq b l W w from RelSq.one h hf hr ha ht (by simp<;>omega) (by simp<;>omega) (by rw[trL_on,if_neg (by decide),if_neg (by decide),if_pos rfl,if_neg (show ¬ (d :: u).head?=some 34 from fun e=>d34 (Option.some.inj e)),if_neg (show ¬ (d :: u).head?=some 39 from fun e=>d39 (Option.some.inj e)),if_neg (show ¬ (d :: u).head?=some 92 from fun e=>d92 (Option.some.inj e))];rfl))
        have HME:=hid (show (d :: u).length<(92 :: d :: u).length by simp<;>omega)
        generalize d :: u=t at *
        have KB:=hid (fun w (h:SqI W b acc (92 :: t) w)=>SqI.byte h (by omega) 92)
        have hi9:(⟨(92 :: t).toArray⟩:ByteArray)[0]'(by show 0<(92 :: t).length;simp)=92:=rfl
        have hz9:(⟨(92 :: t).toArray⟩:ByteArray).size=t.length+1:=rfl
        have h09:(0:Int)<(⟨(92 :: t).toArray⟩:ByteArray).size:=by rw[hz9];omega
        have h19:(1:Int)≤(⟨(92 :: t).toArray⟩:ByteArray).size:=by rw[hz9];omega
        have HT:=hid (show (⟨(92 :: t).toArray⟩:ByteArray).extract 1 (⟨(92 :: t).toArray⟩:ByteArray).size=⟨t.toArray⟩ from ext_tail _ 1 (by rw[hz9];omega))
        have HT2:=hid (show (⟨(92 :: t).toArray⟩:ByteArray).extract 1 (t.length+1)=⟨t.toArray⟩ from HT.out)
        clear hz9
        clear hI hf hr ha ht ht2
        go_wp2_with (first
          | (go_at_call 15;with_reducible refine (K39.out _ HI.out).mono ?_;rintro e w1 ⟨rfl,hi1⟩;have c1:=hi1.cell;have f1:=hi1.free;have HI1:=hid hi1;clear hi1)
          | (go_at_call 15;with_reducible refine (K2.out _ HI1.out).mono ?_;rintro e w2 ⟨rfl,hi2⟩;have c2:=hi2.cell;have f2:=hi2.free;have HI2:=hid hi2;clear hi2)
          | (go_at_call 15;with_reducible refine (K3.out _ HI2.out).mono ?_;rintro e w3 ⟨rfl,hi3⟩;have c3:=hi3.cell;have f3:=hi3.free;have HI3:=hid hi3;clear hi3)
          | (go_at_call 15;with_reducible refine (K4.out _ HI3.out).mono ?_;rintro e w4 ⟨rfl,hi4⟩;have c4:=hi4.cell;have f4:=hi4.free;have HI4:=hid hi4;clear hi4)
          | (go_at_call 15;with_reducible refine (K5.out _ HI4.out).mono ?_;rintro e w5 ⟨rfl,hi5⟩;have c5:=hi5.cell;have f5:=hi5.free;have HI5:=hid hi5;clear hi5)
          | (go_at_call 61;refine (KB.out _ HI5.out).mono ?_;rintro e w6 ⟨rfl,hi6⟩;have c6:=hi6.cell;have f6:=hi6.free;have HI6:=hid hi6;clear hi6))
        have HI7:=hid (HI6.out.went (RdR.put0 (m:=t) HI6.out.2.2.1))
        go_roundw
        case rel=>(first|rw[HT.out]|rw[HT2.out]);exact HREL.out _ HI7.out
        case measure=>(first|rw[HT.out]|rw[HT2.out]);rw[muR_sq HI7.out,muR_sq HI.out];exact HME.out
     ·have HREL:=hid (fun w (h:SqI W b (acc++[c]) t w)=>show RelSq b l W w from RelSq.one h hf hr ha ht (by simp<;>omega) (by simp<;>omega) (by rw[trL_on,if_neg c39,if_neg c34,if_neg c92];rfl))
      have HME:=hid (show t.length<(c :: t).length by simp<;>omega)
      have K2:=hid (fun w (h:SqI W b acc (c :: t) w)=>SqI.no2 (c:=92) (d:=34) h (by intro e;cases t<;>(injection e with e _;exact c92 e)))
      have K3:=hid (fun w (h:SqI W b acc (c :: t) w)=>SqI.no2 (c:=92) (d:=39) h (by intro e;cases t<;>(injection e with e _;exact c92 e)))
      have K4:=hid (fun w (h:SqI W b acc (c :: t) w)=>SqI.no2 (c:=92) (d:=92) h (by intro e;cases t<;>(injection e with e _;exact c92 e)))
      have KB:=hid (fun w (h:SqI W b acc (c :: t) w)=>SqI.byte h (by omega) c)
      have hi9:(⟨(c :: t).toArray⟩:ByteArray)[0]'(by show 0<(c :: t).length;simp)=c:=rfl
      have hz9:(⟨(c :: t).toArray⟩:ByteArray).size=t.length+1:=rfl
      have h09:(0:Int)<(⟨(c :: t).toArray⟩:ByteArray).size:=by rw[hz9];omega
      have h19:(1:Int)≤(⟨(c :: t).toArray⟩:ByteArray).size:=by rw[hz9];omega
      have HT:=hid (show (⟨(c :: t).toArray⟩:ByteArray).extract 1 (⟨(c :: t).toArray⟩:ByteArray).size=⟨t.toArray⟩ from ext_tail _ 1 (by rw[hz9];omega))
      have HT2:=hid (show (⟨(c :: t).toArray⟩:ByteArray).extract 1 (t.length+1)=⟨t.toArray⟩ from HT.out)
      clear hz9
      clear hI hf hr ha ht ht2
      go_wp2_with (first
        | (go_at_call 15;with_reducible refine (K39.out _ HI.out).mono ?_;rintro e w1 ⟨rfl,hi1⟩;have c1:=hi1.cell;have f1:=hi1.free;have HI1:=hid hi1;clear hi1)
        | (go_at_call 15;with_reducible refine (K2.out _ HI1.out).mono ?_;rintro e w2 ⟨rfl,hi2⟩;have c2:=hi2.cell;have f2:=hi2.free;have HI2:=hid hi2;clear hi2)
        | (go_at_call 15;with_reducible refine (K3.out _ HI2.out).mono ?_;rintro e w3 ⟨rfl,hi3⟩;have c3:=hi3.cell;have f3:=hi3.free;have HI3:=hid hi3;clear hi3)
        | (go_at_call 15;with_reducible refine (K4.out _ HI3.out).mono ?_;rintro e w4 ⟨rfl,hi4⟩;have c4:=hi4.cell;have f4:=hi4.free;have HI4:=hid hi4;clear hi4)
        | (go_at_call 15;with_reducible refine (K5.out _ HI4.out).mono ?_;rintro e w5 ⟨rfl,hi5⟩;have c5:=hi5.cell;have f5:=hi5.free;have HI5:=hid hi5;clear hi5)
        | (go_at_call 61;refine (KB.out _ HI5.out).mono ?_;rintro e w6 ⟨rfl,hi6⟩;have c6:=hi6.cell;have f6:=hi6.free;have HI6:=hid hi6;clear hi6))
      have HI7:=hid (HI6.out.went (RdR.put0 (m:=t) HI6.out.2.2.1))
      go_roundw
      case rel=>(first|rw[HT.out]|rw[HT2.out]);exact HREL.out _ HI7.out
      case measure=>(first|rw[HT.out]|rw[HT2.out]);rw[muR_sq HI7.out,muR_sq HI.out];exact HME.out
end
end Go.Proofs.YtmgdjlkndbejkaaGreatDoor
