/- Lemmas. -/
import Derived.Test.YtmgdjlkndbejkaaGreatDoorJ38
import Derived.Test.YtmgdjlkndbejkaaGreatDoorJ32
set_option maxRecDepth 100000
set_option maxHeartbeats 8000000
set_option linter.unusedVariables false
set_option linter.unusedSimpArgs false
namespace Go.Proofs.YtmgdjlkndbejkaaGreatDoor
open Go.Lib (hid)
section
open Go.RowKit
theorem QaEnd.no {l:List UInt8}{W w':World}(h:queQ l=none)(hb:Below W.heap.size W w'):QaEnd l W (.returned (.tuple #[.slice none 0 0,.bool false])) w':=qa_of (QpEnd.no h hb)
theorem QaEnd.yes {l:List UInt8} {W w':World} {base:Nat} {v:Value} {xs:List Sgm} (h:queQ l=some xs) (hq:QIs w' base v xs) (hl:xs.length≤l.length) (hb:Below W.heap.size W w'):QaEnd l W (.returned (.tuple #[v,.bool true])) w':=by
 obtain ⟨A,c,rfl,hr⟩:=qrd_of hq
 exact ⟨A,xs.length,c,by rw[h];rfl,by rw[h];exact hr,hl,hb⟩
theorem RdR.start (W:World) (s:ByteArray):RdR (W.alloc (.cells #[.string s] 47)) W.heap.size s.data.toList:=by
 unfold RdR
 rw[ba_list]
 exact Own.fresh W 47 #[.string s]
theorem Went.turn {W w:World}{b:Nat}{l:List UInt8}(h:Went W b l w):Turned b W w:=h.2
def RelPq (s:ByteArray) (W:World) (vo vq:Value) (wr:World):Prop :=
 ∃ (ok:Bool) (r:List UInt8) (acc:List Sgm) (ss:List SegV) (f:Nat) (V:Value),V=vq∧vo=.bool ok∧RdR wr W.heap.size r∧Below W.heap.size W wr∧(ok=false→queQ s.data.toList=none) ∧
   (ok=true→badU r = -1∧queR f r acc=queQ s.data.toList∧r.length<f∧acc.length+r.length≤s.size ∧
     GRow sgmK wr (W.heap.size+1) vq ss∧ss.length=acc.length ∧ ∀ (i:Nat) (x:SegV) (y:Sgm),ss[i]?=some x→acc[i]?=some y→x.deep=y.deep∧GRow selK wr (W.heap.size+1) (.slice x.A x.n x.c) y.sels)
def okMu (b:Nat) (vo:Value) (wr:World):Nat:=match vo with
 | .bool true=>muR b wr+1
 | _=>0
theorem sgm_lt {l r:List UInt8} {x:Sgm} (hv:badU l = -1) (h:sgmP l=some (x,r)):r.length<l.length:=by
 rw[← sgmq_eq l hv] at h
 cases hq:sgmQ l with
 | none=>rw[hq] at h;cases h
 | some p =>
   rw[hq] at h
   obtain ⟨h1,h2⟩:=sgmQ_in hq
   injection h with h
   injection h with _ h3
   rw[← h3,List.length_drop]
   omega
theorem GRow.pastq {α:Type} {K:RowK α} {wr w2:World} {base b:Nat} {v:Value} {l:List α} (h:GRow K wr base v l) (hb:b<base) {o1:Obj} (ht:Turned b (wr.alloc o1) w2) (u0 u1:Value) (o:Obj) :
   GRow K (((w2.setCell ⟨wr.heap.size,0,none⟩ u0).setCell ⟨wr.heap.size,1,none⟩ u1).alloc o) base v l:=h.stay fun g hg=>by
 have hl:=h.low hg
 have hz:=ht.2.2.2.1
 have hz1:(wr.alloc o1).heap.size=wr.heap.size+1:=by simp
 rw[Below.heap_alloc _ o g (by simp[World.setCell];omega),Below.heap_setCell _ ⟨wr.heap.size,1,none⟩ u1 g (by show g≠wr.heap.size;omega),Below.heap_setCell _ ⟨wr.heap.size,0,none⟩ u0 g (by show g≠wr.heap.size;omega),ht.2.2.2.2 g (by omega) (by omega),Below.heap_alloc wr o1 g hl.2]
theorem GRow.fresh {α:Type} {K:RowK α} {w2:World} {n:Nat} {v:Value} {l:List α} (h:GRow K w2 (n+1) v l) (u0 u1:Value) (o:Obj):GRow K (((w2.setCell ⟨n,0,none⟩ u0).setCell ⟨n,1,none⟩ u1).alloc o) (n+1) v l:=h.stay fun g hg=>by
 have hl:=h.low hg
 rw[Below.heap_alloc _ o g (by simp[World.setCell];omega),Below.heap_setCell _ ⟨n,1,none⟩ u1 g (by show g≠n;omega),Below.heap_setCell _ ⟨n,0,none⟩ u0 g (by show g≠n;omega)]
theorem RdR.past {w:World}{b n:Nat}{r:List UInt8}(h:RdR w b r)(hn:b≠n)(u0 u1:Value)(o:Obj):RdR (((w.setCell ⟨n,0,none⟩ u0).setCell ⟨n,1,none⟩ u1).alloc o) b r:=Own.over (Own.past (Own.past h (p:=⟨n,0,none⟩) hn u0) (p:=⟨n,1,none⟩) hn u1) o
theorem below_pq {W wr w2:World} {o1:Obj} (hb:Below W.heap.size W wr) (hlt:W.heap.size<wr.heap.size) (ht:Turned W.heap.size (wr.alloc o1) w2) (u0 u1:Value) (o:Obj):Below W.heap.size W (((w2.setCell ⟨wr.heap.size,0,none⟩ u0).setCell ⟨wr.heap.size,1,none⟩ u1).alloc o):=by
 have h1:=(hb.alloc hb.size o1).trans (ht.below (Nat.le_refl _) (by simp;omega))
 have h2:=((h1.setCell (p:=⟨wr.heap.size,0,none⟩) (by show W.heap.size≤wr.heap.size;omega) u0).setCell (p:=⟨wr.heap.size,1,none⟩) (by show W.heap.size≤wr.heap.size;omega) u1)
 exact h2.alloc h2.size o
theorem parseq_bad (s:ByteArray) (W:World) (h9:s.size≤100000) (hbad:badU s.data.toList ≠ -1) :
   Calls Tryz.prog 7 #[.string s] W (QaEnd s.data.toList W):=by
 have HBad:=hid (fun w=>bad_any s w (by unfold maxLen;omega))
 have HR:=hid (RdR.start W s)
 have hn:queQ s.data.toList=none:=by rw[queQ_is,if_neg (fun h=>hbad h.1)]
 have HN:=hid hn
 have hge:=(runU_ge s.data.toList 0 0).1
 have hge : -1≤badU s.data.toList:=hge
 generalize badU s.data.toList=bu at *
 have gI:¬ bu<0:=by omega
 clear hn hge hbad
 go_enter Tryz.func7,Tryz.ntmps7
 go_wp2_with (first
   | (go_at_call 14;with_reducible refine (HBad.out _).mono ?_;rintro e w1 ⟨rfl,hb1⟩;have HB1:=hid ((below1 W (.cells #[.string s] 47)).trans (hb1.mono (by simp)));have HR1:=hid (Went.new HR.out hb1);clear hb1))
 have HREL0:=hid (show RelPq s W (.bool false) (.slice none 0 0) w1 from ⟨false,_,[],[],0,_,rfl,rfl,HR1.out.1,HB1.out,fun _=>HN.out,fun h=>by cases h⟩)
 go_loopw [5,6] (fun vo vq wr=>RelPq s W vo vq wr) (fun vo _ wr=>okMu W.heap.size vo wr)
 case atStart=>exact HREL0.out
 case round =>
   obtain ⟨ok,r,acc,ss,f,V,rfl,rfl,hrd,hb,hno,hyes⟩:=hrel
   cases ok with
   | false =>
     have HP:=hid (hno rfl)
     have HB:=hid hb
     clear hno hyes hb hrd
     go_wp2
     go_ret2
     exact QaEnd.no HP.out HB.out
   | true =>
     obtain ⟨hv,hgo,hf,hal,q1,q2,q3⟩:=hyes rfl
     clear hno hyes
     obtain ⟨f,rfl⟩:∃ g,f=g+1:=⟨f-1,by omega⟩
     have hin:=hrd.inside
     have c0:=hrd.at0
     cases r with
     | nil =>
       have HG:=hid (show queQ s.data.toList=some acc from hgo.symm)
       have HQ:=hid (show QIs wr (W.heap.size+1) V acc from ⟨ss,q1,q2,q3⟩)
       have HB:=hid hb
       have HL:=hid (show acc.length≤s.data.toList.length by have:acc.length+0≤s.data.toList.length:=hal;omega)
       clear hgo hv hf hal q1 q2 q3 hb hrd
       go_wp2
       go_ret2
       exact QaEnd.yes HG.out HQ.out HL.out HB.out
     | cons ch t =>
       rw[queR_on,if_neg (by intro e;cases e)] at hgo
       have hE:=isEmpty_no (⟨(ch :: t).toArray⟩:ByteArray) (by show (ch :: t).length≠0;simp)
       have hz9:(ch :: t).isEmpty=false:=rfl
       generalize hrr:ch :: t=r at *
       clear hrr
       have hmu:=muR_is hrd
       have hr9:r.length≤1000000:=by omega
       have hrd1:RdR (wr.alloc (.cells #[.bool false,.slice none 0 0] 33)) W.heap.size r:=Own.over hrd _
       have HSM:=hid (segment_any W.heap.size r _ hrd1 hr9)
       have HB:=hid hb
       have HIN:=hid hin
       have hss:ss.length≤1000000:=by omega
       have HLOW:=hid (fun g' hg'=>(q1.low (g:=g') hg').1)
       have Q1:=hid q1
       have Q2:=hid q2
       have Q3:=hid q3
       have HO:=hid (Own.fresh wr 33 #[.bool false,.slice none 0 0])
       have HMU:=hid hmu
       have HRS:=hid (show ∀ (o:Bool) (x:Sgm) (r':List UInt8) (w:World) (vq:Value) (ss':List SegV),RdR w W.heap.size r'→Below W.heap.size W w→(match sgmP (skB r) with|none=>o=false|some (x',r'')=>o=true∧x'=x∧r'=r'') →
           (QIs w (W.heap.size+1) vq (acc++[x]))→RelPq s W (.bool o) vq w∧okMu W.heap.size (.bool o) w<okMu W.heap.size (.bool true) wr from by
         intro o x r' w vq ss' hrdw hbw hm hq
         cases hx:sgmP (skB r) with
         | none =>
           rw[hx] at hm hgo
           obtain rfl:o=false:=hm
           exact ⟨⟨false,r',[],[],0,vq,rfl,rfl,hrdw,hbw,fun _=>hgo.symm,fun h=>by cases h⟩,Nat.succ_pos _⟩
         | some p =>
           obtain ⟨x',r''⟩:=p
           rw[hx] at hm hgo
           obtain ⟨rfl,rfl,rfl⟩:=hm
           have hlt:=sgm_lt (bad_skB _ hv) hx
           have hsk:=skB_le r
           obtain ⟨ss1,p1,p2,p3⟩:=hq
           refine ⟨⟨true,r',_,ss1,f,vq,rfl,rfl,hrdw,hbw,(fun h=>by cases h),fun _=>⟨sgm_bad (bad_skB _ hv) hx,hgo,by omega,by rw[List.length_append];show acc.length+1+_≤_;omega,p1,p2,p3⟩⟩,?_⟩
           show muR _ w+1<muR _ wr+1
           rw[muR_is hrdw,HMU.out]
           omega)
       clear hgo hv hf hal q1 q2 q3 hb hrd hmu hrd1
       go_wp2_with (first
         | (go_at_call 16
            go_must (
              refine HSM.out.mono ?_
              rintro e w2 ⟨d,A,c,ok,xs,r',rfl,hw2,hr2,hl2,hm2⟩
              have ho:=Own.turned HO.out hw2.2 (by have:=HIN.out;omega)
              have a0:w2.cell? ⟨wr.heap.size,0,none⟩=some (.bool false):=ho.at 0
              have a1:w2.cell? ⟨wr.heap.size,1,none⟩=some (.slice none 0 0):=ho.at 1
              have g0:=ho.free 0
              have g1:=ho.free 1
              have hp:Own ((w2.setCell ⟨wr.heap.size,0,none⟩ (.bool d)).setCell ⟨wr.heap.size,1,none⟩ (.slice A xs.length c)) wr.heap.size 33 #[.bool d,.slice A xs.length c]:=by simpa using (ho.put 0 (.bool d)).put 1 (.slice A xs.length c)
              have z0:=hp.at 0
              have z1:=hp.at 1
              simp at z0 z1
              have hz1:(wr.alloc (.cells #[.bool false,.slice none 0 0] 33)).heap.size=wr.heap.size+1:=by simp
              rw[hz1] at hr2
              have HBW:=hid (fun o=>below_pq HB.out HIN.out hw2.2 (.bool d) (.slice A xs.length c) o)
              have HRW:=hid (fun o=>hw2.1.past (n:=wr.heap.size) (by have:=HIN.out;omega) (.bool d) (.slice A xs.length c) o)
              have HQ1:=hid (fun o=>Q1.out.pastq (Nat.lt_succ_self _) hw2.2 (.bool d) (.slice A xs.length c) o)
              have HQ3:=hid (fun o i x y hx hy=>And.intro (Q3.out i x y hx hy).1 ((Q3.out i x y hx hy).2.pastq (Nat.lt_succ_self _) hw2.2 (.bool d) (.slice A xs.length c) o))
              have HRX:=hid (fun o=>(hr2.fresh (.bool d) (.slice A xs.length c) o).mono (show W.heap.size+1≤wr.heap.size+1 by have:=HIN.out;omega))
              have hnew:=new_seg ((w2.setCell ⟨wr.heap.size,0,none⟩ (.bool d)).setCell ⟨wr.heap.size,1,none⟩ (.slice A xs.length c)) d A xs.length c
              have hz2:((w2.setCell ⟨wr.heap.size,0,none⟩ (.bool d)).setCell ⟨wr.heap.size,1,none⟩ (.slice A xs.length c)).heap.size=w2.heap.size:=by simp[World.setCell]
              rw[hz2] at hnew
              have HNEW:=hid hnew
              have HSZ:=hid (show ∀ o,W.heap.size+1≤(((w2.setCell ⟨wr.heap.size,0,none⟩ (.bool d)).setCell ⟨wr.heap.size,1,none⟩ (.slice A xs.length c)).alloc o).heap.size from fun o=>by have h1:=HIN.out;have h2:=hw2.2.2.2.2.1;rw[hz1] at h2;simp[World.setCell];omega)
              have HM2:=hid hm2
              clear ho hp hw2 hr2 hnew hz1 hz2 hm2))
         | (at_builtin
            go_must (
              refine row_append (K:=sgmK) _ rfl (.tmp 26) (.tmp 28) rfl (W.heap.size+1) _ ss rfl (HQ1.out _) _ 1 1 [⟨d,A,xs.length,c⟩] rfl HNEW.out (by omega) (HSZ.out _) ?_
              intro v4 w4 row4 grown4 at4
              have hb4:=below_grown (HBW.out _) grown4 (HBW.out _).size (fun g hg=>Nat.le_of_succ_le (HLOW.out g hg))
              have hq4:QIs w4 (W.heap.size+1) v4 (acc++[⟨d,xs⟩]):=QIs.snoc (x:=⟨d,xs⟩) (HQ1.out _) Q2.out (fun i s y hs hy=>HQ3.out _ i s y hs hy) (HRX.out _) row4 grown4 (HSZ.out _)
              have hrd4:RdR w4 W.heap.size r':=(grown4.block W.heap.size (by have:=HSZ.out;exact Nat.lt_of_succ_le (HSZ.out _)) (fun e=>by have:=HLOW.out _ e.symm;omega)).trans (HRW.out _)
              have HFIN:=hid (HRS.out ok ⟨d,xs⟩ r' w4 v4 ss hrd4 hb4 (by have hm:=HM2.out;revert hm;cases sgmP (skB r) with|none=>exact id|some p=>exact fun hm=>⟨hm.1,hm.2.1,hm.2.2⟩) hq4)
              clear hb4 hq4 hrd4 row4 grown4 at4)))
       go_roundw
       case rel=>exact HFIN.out.1
       case measure=>exact HFIN.out.2
theorem parseq_no (s:ByteArray) (W:World) (h9:s.size≤100000) (hbad:badU s.data.toList = -1) (h36:s.data.toList.head?≠some 36) :
   Calls Tryz.prog 7 #[.string s] W (QaEnd s.data.toList W):=by
 have HBad:=hid (fun w=>bad_any s w (by unfold maxLen;omega))
 have HR:=hid (RdR.start W s)
 rw[hbad] at HBad
 have hn:queQ s.data.toList=none:=by rw[queQ_is,if_neg (fun h=>h36 h.2)]
 have HN:=hid hn
 clear hn
 go_enter Tryz.func7,Tryz.ntmps7
 go_wp2_with (first
   | (go_at_call 14;with_reducible refine (HBad.out _).mono ?_;rintro e w1 ⟨rfl,hb1⟩;have HB1:=hid ((below1 W (.cells #[.string s] 47)).trans (hb1.mono (by simp)));have HR1:=hid (Went.new HR.out hb1);clear hb1)
   | (go_at_call 15;go_must (with_reducible refine (Went.no HR1.out h36).mono ?_;rintro e w2 ⟨rfl,t2,i2⟩;have HB2:=hid (HB1.out.trans ((Went.turn t2).below (Nat.le_refl _) HB1.out.size));have HR2:=hid i2;clear t2 i2)))
 have HREL0:=hid (show RelPq s W (.bool false) (.slice none 0 0) w2 from ⟨false,_,[],[],0,_,rfl,rfl,HR2.out.1,HB2.out,fun _=>HN.out,fun h=>by cases h⟩)
 go_loopw [5,6] (fun vo vq wr=>RelPq s W vo vq wr) (fun vo _ wr=>okMu W.heap.size vo wr)
 case atStart=>exact HREL0.out
 case round =>
   obtain ⟨ok,r,acc,ss,f,V,rfl,rfl,hrd,hb,hno,hyes⟩:=hrel
   cases ok with
   | false =>
     have HP:=hid (hno rfl)
     have HB:=hid hb
     clear hno hyes hb hrd
     go_wp2
     go_ret2
     exact QaEnd.no HP.out HB.out
   | true =>
     obtain ⟨hv,hgo,hf,hal,q1,q2,q3⟩:=hyes rfl
     clear hno hyes
     obtain ⟨f,rfl⟩:∃ g,f=g+1:=⟨f-1,by omega⟩
     have hin:=hrd.inside
     have c0:=hrd.at0
     cases r with
     | nil =>
       have HG:=hid (show queQ s.data.toList=some acc from hgo.symm)
       have HQ:=hid (show QIs wr (W.heap.size+1) V acc from ⟨ss,q1,q2,q3⟩)
       have HB:=hid hb
       have HL:=hid (show acc.length≤s.data.toList.length by have:acc.length+0≤s.data.toList.length:=hal;omega)
       clear hgo hv hf hal q1 q2 q3 hb hrd
       go_wp2
       go_ret2
       exact QaEnd.yes HG.out HQ.out HL.out HB.out
     | cons ch t =>
       rw[queR_on,if_neg (by intro e;cases e)] at hgo
       have hE:=isEmpty_no (⟨(ch :: t).toArray⟩:ByteArray) (by show (ch :: t).length≠0;simp)
       have hz9:(ch :: t).isEmpty=false:=rfl
       generalize hrr:ch :: t=r at *
       clear hrr
       have hmu:=muR_is hrd
       have hr9:r.length≤1000000:=by omega
       have hrd1:RdR (wr.alloc (.cells #[.bool false,.slice none 0 0] 33)) W.heap.size r:=Own.over hrd _
       have HSM:=hid (segment_any W.heap.size r _ hrd1 hr9)
       have HB:=hid hb
       have HIN:=hid hin
       have hss:ss.length≤1000000:=by omega
       have HLOW:=hid (fun g' hg'=>(q1.low (g:=g') hg').1)
       have Q1:=hid q1
       have Q2:=hid q2
       have Q3:=hid q3
       have HO:=hid (Own.fresh wr 33 #[.bool false,.slice none 0 0])
       have HMU:=hid hmu
       have HRS:=hid (show ∀ (o:Bool) (x:Sgm) (r':List UInt8) (w:World) (vq:Value) (ss':List SegV),RdR w W.heap.size r'→Below W.heap.size W w→(match sgmP (skB r) with|none=>o=false|some (x',r'')=>o=true∧x'=x∧r'=r'') →
           (QIs w (W.heap.size+1) vq (acc++[x]))→RelPq s W (.bool o) vq w∧okMu W.heap.size (.bool o) w<okMu W.heap.size (.bool true) wr from by
         intro o x r' w vq ss' hrdw hbw hm hq
         cases hx:sgmP (skB r) with
         | none =>
           rw[hx] at hm hgo
           obtain rfl:o=false:=hm
           exact ⟨⟨false,r',[],[],0,vq,rfl,rfl,hrdw,hbw,fun _=>hgo.symm,fun h=>by cases h⟩,Nat.succ_pos _⟩
         | some p =>
           obtain ⟨x',r''⟩:=p
           rw[hx] at hm hgo
           obtain ⟨rfl,rfl,rfl⟩:=hm
           have hlt:=sgm_lt (bad_skB _ hv) hx
           have hsk:=skB_le r
           obtain ⟨ss1,p1,p2,p3⟩:=hq
           refine ⟨⟨true,r',_,ss1,f,vq,rfl,rfl,hrdw,hbw,(fun h=>by cases h),fun _=>⟨sgm_bad (bad_skB _ hv) hx,hgo,by omega,by rw[List.length_append];show acc.length+1+_≤_;omega,p1,p2,p3⟩⟩,?_⟩
           show muR _ w+1<muR _ wr+1
           rw[muR_is hrdw,HMU.out]
           omega)
       clear hgo hv hf hal q1 q2 q3 hb hrd hmu hrd1
       go_wp2_with (first
         | (go_at_call 16
            go_must (
              refine HSM.out.mono ?_
              rintro e w2 ⟨d,A,c,ok,xs,r',rfl,hw2,hr2,hl2,hm2⟩
              have ho:=Own.turned HO.out hw2.2 (by have:=HIN.out;omega)
              have a0:w2.cell? ⟨wr.heap.size,0,none⟩=some (.bool false):=ho.at 0
              have a1:w2.cell? ⟨wr.heap.size,1,none⟩=some (.slice none 0 0):=ho.at 1
              have g0:=ho.free 0
              have g1:=ho.free 1
              have hp:Own ((w2.setCell ⟨wr.heap.size,0,none⟩ (.bool d)).setCell ⟨wr.heap.size,1,none⟩ (.slice A xs.length c)) wr.heap.size 33 #[.bool d,.slice A xs.length c]:=by simpa using (ho.put 0 (.bool d)).put 1 (.slice A xs.length c)
              have z0:=hp.at 0
              have z1:=hp.at 1
              simp at z0 z1
              have hz1:(wr.alloc (.cells #[.bool false,.slice none 0 0] 33)).heap.size=wr.heap.size+1:=by simp
              rw[hz1] at hr2
              have HBW:=hid (fun o=>below_pq HB.out HIN.out hw2.2 (.bool d) (.slice A xs.length c) o)
              have HRW:=hid (fun o=>hw2.1.past (n:=wr.heap.size) (by have:=HIN.out;omega) (.bool d) (.slice A xs.length c) o)
              have HQ1:=hid (fun o=>Q1.out.pastq (Nat.lt_succ_self _) hw2.2 (.bool d) (.slice A xs.length c) o)
              have HQ3:=hid (fun o i x y hx hy=>And.intro (Q3.out i x y hx hy).1 ((Q3.out i x y hx hy).2.pastq (Nat.lt_succ_self _) hw2.2 (.bool d) (.slice A xs.length c) o))
              have HRX:=hid (fun o=>(hr2.fresh (.bool d) (.slice A xs.length c) o).mono (show W.heap.size+1≤wr.heap.size+1 by have:=HIN.out;omega))
              have hnew:=new_seg ((w2.setCell ⟨wr.heap.size,0,none⟩ (.bool d)).setCell ⟨wr.heap.size,1,none⟩ (.slice A xs.length c)) d A xs.length c
              have hz2:((w2.setCell ⟨wr.heap.size,0,none⟩ (.bool d)).setCell ⟨wr.heap.size,1,none⟩ (.slice A xs.length c)).heap.size=w2.heap.size:=by simp[World.setCell]
              rw[hz2] at hnew
              have HNEW:=hid hnew
              have HSZ:=hid (show ∀ o,W.heap.size+1≤(((w2.setCell ⟨wr.heap.size,0,none⟩ (.bool d)).setCell ⟨wr.heap.size,1,none⟩ (.slice A xs.length c)).alloc o).heap.size from fun o=>by have h1:=HIN.out;have h2:=hw2.2.2.2.2.1;rw[hz1] at h2;simp[World.setCell];omega)
              have HM2:=hid hm2
              clear ho hp hw2 hr2 hnew hz1 hz2 hm2))
         | (at_builtin
            go_must (
              refine row_append (K:=sgmK) _ rfl (.tmp 26) (.tmp 28) rfl (W.heap.size+1) _ ss rfl (HQ1.out _) _ 1 1 [⟨d,A,xs.length,c⟩] rfl HNEW.out (by omega) (HSZ.out _) ?_
              intro v4 w4 row4 grown4 at4
              have hb4:=below_grown (HBW.out _) grown4 (HBW.out _).size (fun g hg=>Nat.le_of_succ_le (HLOW.out g hg))
              have hq4:QIs w4 (W.heap.size+1) v4 (acc++[⟨d,xs⟩]):=QIs.snoc (x:=⟨d,xs⟩) (HQ1.out _) Q2.out (fun i s y hs hy=>HQ3.out _ i s y hs hy) (HRX.out _) row4 grown4 (HSZ.out _)
              have hrd4:RdR w4 W.heap.size r':=(grown4.block W.heap.size (by have:=HSZ.out;exact Nat.lt_of_succ_le (HSZ.out _)) (fun e=>by have:=HLOW.out _ e.symm;omega)).trans (HRW.out _)
              have HFIN:=hid (HRS.out ok ⟨d,xs⟩ r' w4 v4 ss hrd4 hb4 (by have hm:=HM2.out;revert hm;cases sgmP (skB r) with|none=>exact id|some p=>exact fun hm=>⟨hm.1,hm.2.1,hm.2.2⟩) hq4)
              clear hb4 hq4 hrd4 row4 grown4 at4)))
       go_roundw
       case rel=>exact HFIN.out.1
       case measure=>exact HFIN.out.2
theorem parseq_yes (s:ByteArray) (W:World) (h9:s.size≤100000) (hbad:badU s.data.toList = -1) (h36:s.data.toList.head?=some 36) :
   Calls Tryz.prog 7 #[.string s] W (QaEnd s.data.toList W):=by
 have HBad:=hid (fun w=>bad_any s w (by unfold maxLen;omega))
 have HR:=hid (RdR.start W s)
 rw[hbad] at HBad
 have HN:=hid (show queQ s.data.toList=queR (s.data.toList.length+1) s.data.toList.tail [] by rw[queQ_is,if_pos ⟨hbad,h36⟩])
 have HV:=hid (show badU s.data.toList.tail = -1 from tail_head hbad h36 (by decide))
 have HL:=hid (show s.data.toList.tail.length<s.data.toList.length+1∧([]:List Sgm).length+s.data.toList.tail.length≤s.size by rw[List.length_tail];have e:s.data.toList.length=s.size:=rfl;simp;omega)
 go_enter Tryz.func7,Tryz.ntmps7
 go_wp2_with (first
   | (go_at_call 14;with_reducible refine (HBad.out _).mono ?_;rintro e w1 ⟨rfl,hb1⟩;have HB1:=hid ((below1 W (.cells #[.string s] 47)).trans (hb1.mono (by simp)));have HR1:=hid (Went.new HR.out hb1);clear hb1)
   | (go_at_call 15;go_must (with_reducible refine (Went.yes HR1.out h36).mono ?_;rintro e w2 ⟨rfl,t2,i2⟩;have HB2:=hid (HB1.out.trans ((Went.turn t2).below (Nat.le_refl _) HB1.out.size));have HR2:=hid i2;clear t2 i2)))
 have HREL0:=hid (show RelPq s W (.bool true) (.slice none 0 0) w2 from ⟨true,_,[],[],_,_,rfl,rfl,HR2.out.1,HB2.out,(fun h=>by cases h),fun _=>⟨HV.out,HN.out.symm,HL.out.1,HL.out.2,GRow.nil _ _,rfl,fun i x y hx=>by simp at hx⟩⟩)
 go_loopw [5,6] (fun vo vq wr=>RelPq s W vo vq wr) (fun vo _ wr=>okMu W.heap.size vo wr)
 case atStart=>exact HREL0.out
 case round =>
   obtain ⟨ok,r,acc,ss,f,V,rfl,rfl,hrd,hb,hno,hyes⟩:=hrel
   cases ok with
   | false =>
     have HP:=hid (hno rfl)
     have HB:=hid hb
     clear hno hyes hb hrd
     go_wp2
     go_ret2
     exact QaEnd.no HP.out HB.out
   | true =>
     obtain ⟨hv,hgo,hf,hal,q1,q2,q3⟩:=hyes rfl
     clear hno hyes
     obtain ⟨f,rfl⟩:∃ g,f=g+1:=⟨f-1,by omega⟩
     have hin:=hrd.inside
     have c0:=hrd.at0
     cases r with
     | nil =>
       have HG:=hid (show queQ s.data.toList=some acc from hgo.symm)
       have HQ:=hid (show QIs wr (W.heap.size+1) V acc from ⟨ss,q1,q2,q3⟩)
       have HB:=hid hb
       have HL:=hid (show acc.length≤s.data.toList.length by have:acc.length+0≤s.data.toList.length:=hal;omega)
       clear hgo hv hf hal q1 q2 q3 hb hrd
       go_wp2
       go_ret2
       exact QaEnd.yes HG.out HQ.out HL.out HB.out
     | cons ch t =>
       rw[queR_on,if_neg (by intro e;cases e)] at hgo
       have hE:=isEmpty_no (⟨(ch :: t).toArray⟩:ByteArray) (by show (ch :: t).length≠0;simp)
       have hz9:(ch :: t).isEmpty=false:=rfl
       generalize hrr:ch :: t=r at *
       clear hrr
       have hmu:=muR_is hrd
       have hr9:r.length≤1000000:=by omega
       have hrd1:RdR (wr.alloc (.cells #[.bool false,.slice none 0 0] 33)) W.heap.size r:=Own.over hrd _
       have HSM:=hid (segment_any W.heap.size r _ hrd1 hr9)
       have HB:=hid hb
       have HIN:=hid hin
       have hss:ss.length≤1000000:=by omega
       have HLOW:=hid (fun g' hg'=>(q1.low (g:=g') hg').1)
       have Q1:=hid q1
       have Q2:=hid q2
       have Q3:=hid q3
       have HO:=hid (Own.fresh wr 33 #[.bool false,.slice none 0 0])
       have HMU:=hid hmu
       have HRS:=hid (show ∀ (o:Bool) (x:Sgm) (r':List UInt8) (w:World) (vq:Value) (ss':List SegV),RdR w W.heap.size r'→Below W.heap.size W w→(match sgmP (skB r) with|none=>o=false|some (x',r'')=>o=true∧x'=x∧r'=r'') →
           (QIs w (W.heap.size+1) vq (acc++[x]))→RelPq s W (.bool o) vq w∧okMu W.heap.size (.bool o) w<okMu W.heap.size (.bool true) wr from by
         intro o x r' w vq ss' hrdw hbw hm hq
         cases hx:sgmP (skB r) with
         | none =>
           rw[hx] at hm hgo
           obtain rfl:o=false:=hm
           exact ⟨⟨false,r',[],[],0,vq,rfl,rfl,hrdw,hbw,fun _=>hgo.symm,fun h=>by cases h⟩,Nat.succ_pos _⟩
         | some p =>
           obtain ⟨x',r''⟩:=p
           rw[hx] at hm hgo
           obtain ⟨rfl,rfl,rfl⟩:=hm
           have hlt:=sgm_lt (bad_skB _ hv) hx
           have hsk:=skB_le r
           obtain ⟨ss1,p1,p2,p3⟩:=hq
           refine ⟨⟨true,r',_,ss1,f,vq,rfl,rfl,hrdw,hbw,(fun h=>by cases h),fun _=>⟨sgm_bad (bad_skB _ hv) hx,hgo,by omega,by rw[List.length_append];show acc.length+1+_≤_;omega,p1,p2,p3⟩⟩,?_⟩
           show muR _ w+1<muR _ wr+1
           rw[muR_is hrdw,HMU.out]
           omega)
       clear hgo hv hf hal q1 q2 q3 hb hrd hmu hrd1
       go_wp2_with (first
         | (go_at_call 16
            go_must (
              refine HSM.out.mono ?_
              rintro e w2 ⟨d,A,c,ok,xs,r',rfl,hw2,hr2,hl2,hm2⟩
              have ho:=Own.turned HO.out hw2.2 (by have:=HIN.out;omega)
              have a0:w2.cell? ⟨wr.heap.size,0,none⟩=some (.bool false):=ho.at 0
              have a1:w2.cell? ⟨wr.heap.size,1,none⟩=some (.slice none 0 0):=ho.at 1
              have g0:=ho.free 0
              have g1:=ho.free 1
              have hp:Own ((w2.setCell ⟨wr.heap.size,0,none⟩ (.bool d)).setCell ⟨wr.heap.size,1,none⟩ (.slice A xs.length c)) wr.heap.size 33 #[.bool d,.slice A xs.length c]:=by simpa using (ho.put 0 (.bool d)).put 1 (.slice A xs.length c)
              have z0:=hp.at 0
              have z1:=hp.at 1
              simp at z0 z1
              have hz1:(wr.alloc (.cells #[.bool false,.slice none 0 0] 33)).heap.size=wr.heap.size+1:=by simp
              rw[hz1] at hr2
              have HBW:=hid (fun o=>below_pq HB.out HIN.out hw2.2 (.bool d) (.slice A xs.length c) o)
              have HRW:=hid (fun o=>hw2.1.past (n:=wr.heap.size) (by have:=HIN.out;omega) (.bool d) (.slice A xs.length c) o)
              have HQ1:=hid (fun o=>Q1.out.pastq (Nat.lt_succ_self _) hw2.2 (.bool d) (.slice A xs.length c) o)
              have HQ3:=hid (fun o i x y hx hy=>And.intro (Q3.out i x y hx hy).1 ((Q3.out i x y hx hy).2.pastq (Nat.lt_succ_self _) hw2.2 (.bool d) (.slice A xs.length c) o))
              have HRX:=hid (fun o=>(hr2.fresh (.bool d) (.slice A xs.length c) o).mono (show W.heap.size+1≤wr.heap.size+1 by have:=HIN.out;omega))
              have hnew:=new_seg ((w2.setCell ⟨wr.heap.size,0,none⟩ (.bool d)).setCell ⟨wr.heap.size,1,none⟩ (.slice A xs.length c)) d A xs.length c
              have hz2:((w2.setCell ⟨wr.heap.size,0,none⟩ (.bool d)).setCell ⟨wr.heap.size,1,none⟩ (.slice A xs.length c)).heap.size=w2.heap.size:=by simp[World.setCell]
              rw[hz2] at hnew
              have HNEW:=hid hnew
              have HSZ:=hid (show ∀ o,W.heap.size+1≤(((w2.setCell ⟨wr.heap.size,0,none⟩ (.bool d)).setCell ⟨wr.heap.size,1,none⟩ (.slice A xs.length c)).alloc o).heap.size from fun o=>by have h1:=HIN.out;have h2:=hw2.2.2.2.2.1;rw[hz1] at h2;simp[World.setCell];omega)
              have HM2:=hid hm2
              clear ho hp hw2 hr2 hnew hz1 hz2 hm2))
         | (at_builtin
            go_must (
              refine row_append (K:=sgmK) _ rfl (.tmp 26) (.tmp 28) rfl (W.heap.size+1) _ ss rfl (HQ1.out _) _ 1 1 [⟨d,A,xs.length,c⟩] rfl HNEW.out (by omega) (HSZ.out _) ?_
              intro v4 w4 row4 grown4 at4
              have hb4:=below_grown (HBW.out _) grown4 (HBW.out _).size (fun g hg=>Nat.le_of_succ_le (HLOW.out g hg))
              have hq4:QIs w4 (W.heap.size+1) v4 (acc++[⟨d,xs⟩]):=QIs.snoc (x:=⟨d,xs⟩) (HQ1.out _) Q2.out (fun i s y hs hy=>HQ3.out _ i s y hs hy) (HRX.out _) row4 grown4 (HSZ.out _)
              have hrd4:RdR w4 W.heap.size r':=(grown4.block W.heap.size (by have:=HSZ.out;exact Nat.lt_of_succ_le (HSZ.out _)) (fun e=>by have:=HLOW.out _ e.symm;omega)).trans (HRW.out _)
              have HFIN:=hid (HRS.out ok ⟨d,xs⟩ r' w4 v4 ss hrd4 hb4 (by have hm:=HM2.out;revert hm;cases sgmP (skB r) with|none=>exact id|some p=>exact fun hm=>⟨hm.1,hm.2.1,hm.2.2⟩) hq4)
              clear hb4 hq4 hrd4 row4 grown4 at4)))
       go_roundw
       case rel=>exact HFIN.out.1
       case measure=>exact HFIN.out.2
theorem parseq_any (s:ByteArray) (W:World) (h9:s.size≤100000) :
   Calls Tryz.prog 7 #[.string s] W (QaEnd s.data.toList W):=by
 by_cases hbad:badU s.data.toList = -1
 ·by_cases h36:s.data.toList.head?=some 36
  ·exact parseq_yes s W h9 hbad h36
  ·exact parseq_no s W h9 hbad h36
 ·exact parseq_bad s W h9 hbad
theorem queC:QueC (fun _=>True) where
 stay:=fun _ _ _ _=>trivial
 int:=fun s w _ hs=>intq_any s w (by omega)
 parse:=fun s w _ hs=>parseq_any s w hs
end
end Go.Proofs.YtmgdjlkndbejkaaGreatDoor
