/- Lemmas. -/
import Derived.Test.YtbpilcklglhloaaGreatDoorJ24
import Derived.Deep.CutRange
set_option maxRecDepth 100000
set_option maxHeartbeats 8000000
set_option linter.unusedVariables false
namespace Go.Proofs.YtbpilcklglhloaaGreatDoor
open Go.Lib (hid)
section
open Go.RowKit
theorem outL_len (k:Nat) (c:UInt8):(outL k c).1.length≤1:=by
 unfold outL
 (repeat' split)<;>simp
theorem LX_num (k a a' f:Int) (dg dg':Value):(((LX k false 9 f zq a dg ⟨#[]⟩ 0).toArray.setIfInBounds 76 (.int .i64 a')).setIfInBounds 77 dg')=(LX k false 9 f zq a' dg' ⟨#[]⟩ 0).toArray:=by
 simp[LX,zq_len]
theorem Tab.touch {w w':World} {F:Nat→Prop} (h:Tab w) (ht:Touch F w w') (h0:¬ F 0):Tab w':=by
 obtain ⟨t,h⟩:=h
 exact ⟨t,ht.own h h0⟩
theorem Touch.undrew {F:Nat→Prop}{w w':World}(h:Touch F w.drew w'):Touch F w w':=⟨h.os,h.tape,h.output,h.size,h.block⟩
theorem tok_over {w w3:World} {F:Nat→Prop} {e b:Nat} {T:TypeId} {cs:Array Value} {k0 f0 t0:Int} {b0:Bool} {s0:ByteArray} (h:Own w3 e 54 #[.int .i64 k0,.bool b0,.int .i64 f0,.int .i64 t0,.string s0]) (hb:Own w3 b T cs) (ht:Touch F w w3) (hne:e≠b) (hle:w.heap.size≤e) (kd:Int) (bg:Bool) (f t:Int) (s:ByteArray) :
   Own (((((w3.setCell ⟨e,0,none⟩ (.int .i64 kd)).setCell ⟨e,1,none⟩ (.bool bg)).setCell ⟨e,2,none⟩ (.int .i64 f)).setCell ⟨e,3,none⟩ (.int .i64 t)).setCell ⟨e,4,none⟩ (.string s)) e 54 #[.int .i64 kd,.bool bg,.int .i64 f,.int .i64 t,.string s] ∧
   Own (((((w3.setCell ⟨e,0,none⟩ (.int .i64 kd)).setCell ⟨e,1,none⟩ (.bool bg)).setCell ⟨e,2,none⟩ (.int .i64 f)).setCell ⟨e,3,none⟩ (.int .i64 t)).setCell ⟨e,4,none⟩ (.string s)) b T cs ∧
   Touch F w (((((w3.setCell ⟨e,0,none⟩ (.int .i64 kd)).setCell ⟨e,1,none⟩ (.bool bg)).setCell ⟨e,2,none⟩ (.int .i64 f)).setCell ⟨e,3,none⟩ (.int .i64 t)).setCell ⟨e,4,none⟩ (.string s)):=by
 have hbe:b≠e:=fun x=>hne x.symm
 refine ⟨by simpa using ((((h.put 0 (.int .i64 kd)).put 1 (.bool bg)).put 2 (.int .i64 f)).put 3 (.int .i64 t)).put 4 (.string s),?_,?_⟩
 ·exact ((((hb.past (p:=⟨e,0,none⟩) hbe _).past (p:=⟨e,1,none⟩) hbe _).past (p:=⟨e,2,none⟩) hbe _).past (p:=⟨e,3,none⟩) hbe _).past (p:=⟨e,4,none⟩) hbe _
 ·exact ((((ht.setCell (p:=⟨e,0,none⟩) (.inr hle) _).setCell (p:=⟨e,1,none⟩) (.inr hle) _).setCell (p:=⟨e,2,none⟩) (.inr hle) _).setCell (p:=⟨e,3,none⟩) (.inr hle) _).setCell (p:=⟨e,4,none⟩) (.inr hle) _
section
variable (w:World) (b k f:Nat) (F:Nat→Prop) (a:Int) (p:List UInt8) (c:UInt8)
theorem num_bad (h:LexIs w b F k (.num a f p)) (hn:nxI a c.toNat=0) (hw:(whI a && !stickI c.toNat)=false) :
   Calls Tryz.prog 61 #[.pointer (some ⟨b,0,none⟩),.int .u8 c.toNat] w (TakeEnd w b F k ([],5,.dead)):=by
 have ha:=hid h.any
 obtain ⟨hF,hst,g,c',ho,hr,hg,hne⟩:=h
 have c76:=ho.at 76
 rw[(LZ_get ..).1] at c76
 have hS:=fnum_stays b c.toNat a w c76 hst hn
 rw[hw] at hS
 have HS:=hid hS
 clear hS ho hr
 go_enter Tryz.func61,Tryz.ntmps61
 go_wp2_with (go_at_call 89;refine HS.out.mono ?_;rintro e w1 ⟨rfl,rfl⟩)
 go_ret2
 exact ⟨_,rfl,TRow.nil _ _,Touch.refl _ _,(fun e=>by cases e),fun _=>ha.out⟩
theorem num_on (h:LexIs w b F k (.num a f p)) (hn:nxI a c.toNat≠0) (hp:p.length≤1000000000) :
   Calls Tryz.prog 61 #[.pointer (some ⟨b,0,none⟩),.int .u8 c.toNat] w (TakeEnd w b F k ([],0,.num (nxI a c.toNat) f (p++[c]))):=by
 obtain ⟨hF,hst,g,c1,ho,hr,hg,hne⟩:=h
 have c76:=ho.at 76
 rw[(LZ_get ..).1] at c76
 have HST:=stA_next a c.toNat
 have HS:=fnum_goes b c.toNat a w c76 (ho.free 76) hst hn
 generalize nxI a c.toNat=a' at *
 have hin:=ho.inside
 have hO:Own (w.setCell ⟨b,76,none⟩ (.int .i64 a')) b 98 ((LX k false 9 f zq a (.slice (some ⟨g,0,none⟩) p.length c1) ⟨#[]⟩ 0).toArray.setIfInBounds 76 (.int .i64 a')):=ho.put 76 _
 have hTu:Turned b w (w.setCell ⟨b,76,none⟩ (.int .i64 a')):=(Turned.refl b w).put 76 _
 have hR:=(Touch.of_turned (F:=fun j=>j=b) hTu rfl).row hr (fun g' e=>by
   obtain rfl:=ownBlock_is e
   exact hne)
 generalize hw1:w.setCell ⟨b,76,none⟩ (.int .i64 a')=w1 at *
 have c77:=hO.at 77
 have f77:=hO.free 77
 rw[show ((LX k false 9 f zq a (.slice (some ⟨g,0,none⟩) p.length c1) ⟨#[]⟩ 0).toArray.setIfInBounds 76 (.int .i64 a'))[77]?=some (.slice (some ⟨g,0,none⟩) p.length c1) by simp[LX,zq_len]] at c77
 have hrd:=Rd.of_list (l:=[.int .u8 c.toNat]) (Own.fresh w1 5 #[.int .u8 c.toNat]) rfl
 have hb1:=below1 w1 (.cells #[.int .u8 c.toNat] 5)
 have hgl:=(hr.lt g rfl).2
 have hR2:=(Touch.of_new (F:=fun _=>False) hb1).row hR (fun _ _ h=>h)
 have HO:=hid (hO.stay hb1 hO.inside)
 have HT:=hid hTu
 have HB:=hid hb1
 have hin1:=hO.inside
 replace HS:=hid HS
 clear hn ho hr hO hTu hw1 c76 hb1
 go_enter Tryz.func61,Tryz.ntmps61
 go_wp2_with (first
   | (go_at_call 89;refine HS.out.mono ?_;rintro e w1 ⟨rfl,rfl⟩)
   | (at_builtin;go_must (
      refine dig_append _ rfl (.tmp 20) (.tmp 22) rfl (.slice (some ⟨g,0,none⟩) p.length c1) p rfl hR2 _ _ 1 1 [c] rfl hrd (by decide) (by omega) ?_
      intro g2 c2 w2 hr2 hg2 hor
      have ho2:Own w2 b _ _:=(hg2.block b (by have:=HB.out.size;omega) (by simp[Value.ownBlock];exact fun e=>hne e.symm)).trans HO.out
      have HO2:=hid ho2
      have d77:=ho2.at 77
      rw[show ((LX k false 9 f zq a (.slice (some ⟨g,0,none⟩) p.length c1) ⟨#[]⟩ 0).toArray.setIfInBounds 76 (.int .i64 a'))[77]?=some (.slice (some ⟨g,0,none⟩) p.length c1) by simp[LX,zq_len]] at d77
      have f77:=ho2.free 77
      have HR:=hid hr2
      have HG:=hid hor
      have HGR:=hid hg2
      clear hr2 hor hg2 ho2 hrd hR2 hR c77)))
 go_ret2
 have hz1:w.heap.size≤w1.heap.size:=HT.out.2.2.2.1
 have hgn:(g2=g∨g2=w1.heap.size+1):=by
   rcases HG.out with h|h
   ·exact .inl (ownBlock_is h)
   ·exact .inr (by simpa using h)
 have hne2:g2≠b:=by
   rcases hgn with h|h
   ·rw[h];exact hne
   ·omega
 have t3:Turned b w2 (w2.setCell ⟨b,77,none⟩ (.slice (some ⟨g2,0,none⟩) (p++[c]).length c2)):=(Turned.refl b w2).put 77 _
 have o3:=HO2.out.put 77 (.slice (some ⟨g2,0,none⟩) (p++[c]).length c2)
 rw[LX_num] at o3
 have r3:=(Touch.of_turned (F:=fun j=>j=b) t3 rfl).row HR.out (fun g' e=>by
   obtain rfl:=ownBlock_is e
   exact hne2)
 have ht:Touch F w _:=((((Touch.of_turned HT.out hF).trans (Touch.of_new (F:=F) HB.out) (fun _ _ h=>h))).grown HGR.out (fun j e=>.inl (by
   obtain rfl:=ownBlock_is e
   exact hg))).trans (Touch.of_turned t3 hF) (fun _ _ h=>h)
 have el:(p++[c]).length=p.length+1:=by simp
 rw[← el]
 refine ⟨_,rfl,TRow.nil _ _,ht,fun _=>⟨.inl hF,HST,g2,c2,o3,r3,?_,hne2⟩,fun e=>absurd rfl e⟩
 rcases hgn with h|h
 ·rw[h];exact .inl hg
 ·exact .inr (by omega)
theorem num_end (h:LexIs w b F k (.num a f p)) (hT:Tab w) (hF0:¬ F 0) (hFb:∀ j,F j→j<w.heap.size) (hn:nxI a c.toNat=0) (hw:(whI a && !stickI c.toNat)=true) (hkb:k≤1000000000) :
   Calls Tryz.prog 61 #[.pointer (some ⟨b,0,none⟩),.int .u8 c.toNat] w (TakeEnd w b F k (⟨9,false,f,k,p⟩ :: (outL k c).1,(outL k c).2.1,(outL k c).2.2)):=by
 obtain ⟨hF,hst,g,c1,ho,hr,hg,hne⟩:=h
 have c76:=ho.at 76
 rw[(LZ_get ..).1] at c76
 have hS:=fnum_stays b c.toNat a w c76 hst hn
 rw[hw] at hS
 have HS:=hid hS
 have hr1:w.drew.ownsRow 0 5 1 (.slice (some ⟨g,0,none⟩) p.length c1) p.length (byteCells p):=hr
 have hcv:=Buf.conv (w:=w.drew) ⟨g,c1,rfl,hr1⟩
 have hcs:=lx_cs (w:=w.drew) zq_len ho
 have c0:=(lx_cs (w:=w) zq_len ho).c0
 have d0:=hcs.c0
 have d77:=ho.at 77
 rw[(LZ_get ..).2.1] at d77
 have e77:w.drew.cell? ⟨b,77,none⟩=some (.slice (some ⟨g,0,none⟩) p.length c1):=d77
 have HCA:=hid hcs
 have HCB:=hid (hcs.stay (w':=(w.alloc (.cells #[.int .i64 0,.bool false,.int .i64 0,.int .i64 0,.string ⟨#[]⟩] 54)).drew) ((below1 w _).block b hcs.inside))
 have hin:b<w.heap.size:=hcs.inside
 have hnb:w.heap.size≠b:=by omega
 have hcvB:=Buf.conv (w:=(w.alloc (.cells #[.int .i64 0,.bool false,.int .i64 0,.int .i64 0,.string ⟨#[]⟩] 54)).drew) ⟨g,c1,rfl,(Touch.of_new (F:=fun _=>False) (below1 w _).drew).row hr (fun _ _ h=>h)⟩
 have HF:=hid (Own.fresh w 54 #[.int .i64 0,.bool false,.int .i64 0,.int .i64 0,.string ⟨#[]⟩])
 clear hS ho hr hr1 hcs
 go_enter Tryz.func61,Tryz.ntmps61
 go_upto_region 7 with (go_at_call 89;refine HS.out.mono ?_;rintro e w1 ⟨rfl,rfl⟩)
 go_cut [6] from 28 (fun x wc => ∃ e0:Nat,x=.pointer (some ⟨e0,0,none⟩)∧w.heap.size≤e0∧Own wc e0 54 #[.int .i64 9,.bool false,.int .i64 f,.int .i64 k,.string ⟨p.toArray⟩]∧Own wc b 98 (LZ k false).toArray∧Touch F w wc)
 case first =>
   go_region_with (first
     | (go_at_call 37;refine (leave_cs _ _ _ _ _ _ _ HCA.out).mono ?_;rintro e w3 ⟨rfl,h3,t3⟩;have H3:=hid h3;have T3:=hid t3;clear h3 t3)
     | (go_at_call 37;refine (leave_cs _ _ _ _ _ _ _ HCB.out).mono ?_;rintro e w3 ⟨rfl,h3,t3⟩
        have ht:Own w3 w.heap.size _ _:=(t3.2.2.2.2 _ HF.out.inside hnb).trans HF.out
        have a0:=ht.at 0
        have a1:=ht.at 1
        have a2:=ht.at 2
        have a3:=ht.at 3
        have a4:=ht.at 4
        have g0:=ht.free 0
        have g1:=ht.free 1
        have g2:=ht.free 2
        have g3:=ht.free 3
        have g4:=ht.free 4
        simp at a0 a1 a2 a3 a4
        have H3:=hid h3;have T3:=hid t3;have HT3:=hid ht;have wayB:True:=trivial;clear h3 t3 ht))
   all_goals
     go_wp2
     go_meet
     case rel=>first
       | (have:=wayB;exact ⟨w.heap.size,rfl,Nat.le_refl _,tok_over HT3.out H3.out ((Touch.of_new (F:=F) (below1 w _).drew).trans (Touch.of_turned T3.out hF) (fun _ _ h=>h)) hnb (Nat.le_refl _) 9 false f k ⟨p.toArray⟩⟩)
       | exact ⟨w3.heap.size,rfl,T3.out.2.2.2.1,Own.fresh w3 _ _,H3.out.over _,(Touch.undrew (Touch.of_turned T3.out hF)).alloc _⟩
 case rest =>
   obtain ⟨e0,rfl,hle,hE,hO,hTo⟩:=hcut
   have hTc:=hT.touch hTo hF0
   have HK:=outside_any wc b k F c ⟨hF,hO⟩ hTc hkb
   have hts:=outL_len k c
   generalize outL k c=r at *
   obtain ⟨ts,n,st'⟩:=r
   have hts:ts.length≤1:=hts
   replace HK:=hid HK
   have hEn:¬ F e0:=fun h=>by have:=hFb _ h;omega
   have HE:=hid hE
   have HTO:=hid hTo
   clear hE hO hTo hT hTc hst hg hne hcv c0 d0 d77 e77 HCA HCB hcvB HF hin hnb
   go_wp2_with (first
     | (go_at_call 63;refine HK.out.mono ?_;rintro e w4 ⟨v,rfl,h1,h2,h3,h4⟩
        obtain ⟨A,cc,rfl,_⟩:=h1.form
        have hE4:=h2.own HE.out hEn
        have a0:=hE4.at 0
        have a1:=hE4.at 1
        have a2:=hE4.at 2
        have a3:=hE4.at 3
        have a4:=hE4.at 4
        simp at a0 a1 a2 a3 a4
        have hz4:w.heap.size≤w4.heap.size:=Nat.le_trans HTO.out.size h2.size
        have hrd:=(h1.stay (w':=w4.alloc (.cells #[.int .i64 9,.bool false,.int .i64 f,.int .i64 k,.string ⟨p.toArray⟩] 54)) (fun g hg=>(below1 w4 _).block g (h1.low hg).2)).rd
        have H2:=hid h2;have H3:=hid h3;have H4:=hid h4
        clear h1 h2 h3 h4 hE4)
     | (at_builtin;go_must (
        refine tok_append _ rfl (.tmp 46) (.tmp 47) rfl w.heap.size (.slice (some ⟨w4.heap.size,0,none⟩) 1 1) [⟨9,false,f,k,p⟩] rfl (TRow.one w4 ⟨9,false,f,k,p⟩ hz4) A ts.length cc ts rfl hrd (by simp;omega) (by simp;omega) ?_
        intro v' w6 hr6 hg6 hor6
        have hb6:=(below1 w4 (.cells #[.int .i64 9,.bool false,.int .i64 f,.int .i64 k,.string ⟨p.toArray⟩] 54)).grown hg6 (by simp) (fun j hj=>by rw[ownBlock_is hj];omega)
        have HR6:=hid hr6;have HB6:=hid hb6
        clear hr6 hg6 hor6 hb6 hrd)))
   go_ret2
   refine ⟨_,rfl,HR6.out,(HTO.out.trans H2.out (fun _ _ h=>h)).trans (Touch.of_new (F:=F) HB6.out) (fun _ _ h=>h),fun e => ?_,fun e=>(H4.out e).stay (HB6.out.block b (H4.out e).inside)⟩
   refine (((H3.out e).stay (Touch.of_new (F:=fun _=>False) HB6.out) (fun _ _ _ h=>h))).mono (fun j _ h => ?_)
   rcases h with h|h
   ·exact .inl h
   ·exact .inr (Nat.le_trans HTO.out.size h)
end
end
end Go.Proofs.YtbpilcklglhloaaGreatDoor
