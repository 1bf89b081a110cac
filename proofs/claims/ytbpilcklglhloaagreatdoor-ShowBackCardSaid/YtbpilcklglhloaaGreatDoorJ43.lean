/- Lemmas. -/
import Derived.Test.YtbpilcklglhloaaGreatDoorJ41
import Derived.Deep.LoopGhost
set_option maxRecDepth 100000
set_option maxHeartbeats 8000000
set_option linter.unusedVariables false
namespace Go.Proofs.YtbpilcklglhloaaGreatDoor
open Go.Lib (hid)
section
open Go.RowKit
theorem WI.fresh (W0:World) (ln:Bool):WI W0.heap.size (W0.alloc (.cells #[.pointer none,.slice none 0 0,.bool ln,.slice none 0 0] 75)) W0.heap.size ln [] (.slice none 0 0) [] :=
 ⟨⟨_,_,.inl rfl,Own.fresh _ _ _,⟨rfl,.inl ⟨rfl,rfl⟩⟩,⟨Nat.le_refl _,by simp[Value.ownBlock]⟩,fun g hg=>by simp[Value.ownBlock] at hg⟩,GRow.nil _ _,by simp⟩
theorem goOn_any {W0 w:World} {b:Nat} {ln:Bool} {out:List UInt8} {g M c:Nat} {fl:List (Addr×Nat)} {p:Addr} {i:Nat} {t:Tree} {ss:List (Tree×Nat)} {m0:Nat} (hm:fl.length=m0)
   (h:WI W0.heap.size w b ln out (.slice (some ⟨g,0,none⟩) M c) ((p,i) :: fl).reverse) (hb0:Below W0.heap.size W0 w) (hs:StkIs W0 ((p,i) :: fl) ((t,i) :: ss)) (T:List UInt8) (hT:out++remS ln ((t,i) :: ss)=T) (hTl:T.length≤100000000000) (hfl:fl.length≤900000) :
   Calls Tryz.prog 26 #[.pointer (some ⟨b,0,none⟩),.pointer (some ⟨g,m0*2,none⟩)] w fun e w'=>e=.returned (.tuple #[])∧Below W0.heap.size w w' ∧
     ∃ out' v' fl' ss',WI W0.heap.size w' b ln out' v' fl'.reverse∧StkIs W0 fl' ss'∧out'++remS ln ss'=T∧muS ss'<muS ((t,i) :: ss):=by
 unfold StkIs at hs
 obtain ⟨_,hp,hk,hok,hi,hst⟩:=hs
 rw[List.reverse_cons] at h
 have hml:fl.reverse.length=m0:=by rw[List.length_reverse,hm]
 have hlen:=hst.len
 have hol:out.length≤100000000000:=by
   have:(out++remS ln ((t,i) :: ss)).length=T.length:=by rw[hT]
   rw[List.length_append] at this
   omega
 obtain ⟨kd,fr,to',tx,items,names⟩:=t
 obtain ⟨hn5,hn4,hnn,hni⟩:=hok.parts
 by_cases he:i=items.length
 ·subst he
  have hc:WrO W0.heap.size w b ln (out++closeT ln fl.reverse.length (decide (0<items.length)) (decide (kd=5))) fl.reverse=WrO W0.heap.size w b ln (out++closeT ln fl.reverse.length (decide (0<items.length)) (decide (kd=5))) fl.reverse:=rfl
  have fin:∀ e w',WrO W0.heap.size w b ln (out++closeT ln fl.reverse.length (decide (0<items.length)) (decide (kd=5))) fl.reverse e w'→e=.returned (.tuple #[])∧Below W0.heap.size w w' ∧
    ∃ out' v' fl' ss',WI W0.heap.size w' b ln out' v' fl'.reverse∧StkIs W0 fl' ss'∧out'++remS ln ss'=T∧muS ss'<muS ((.mk kd fr to' tx items names,items.length) :: ss):=by
    rintro e w' ⟨v',rfl,h',hb'⟩
    refine ⟨rfl,hb',_,v',fl,ss,h',hst,?_,?_⟩
    ·rw[← hT]
     show _=out++(restT ln ss.length (.mk kd fr to' tx items names) items.length++remS ln ss)
     have:=rest_end ln ss.length (.mk kd fr to' tx items names)
     have this:restT ln ss.length (.mk kd fr to' tx items names) items.length=closeT ln ss.length (decide (0<items.length)) (decide (kd=5)):=this
     rw[this,List.length_reverse,hlen,List.append_assoc]
    ·show muS ss<1+cntL (items.drop items.length)+muS ss
     omega
  rcases hk with hk|hk
  ·have hk:kd=4:=hk
   subst hk
   exact (goOn_end4 hml h hb0 hp hol (by rw[List.length_reverse];exact hfl)).mono fin
  ·have hk:kd=5:=hk
   subst hk
   exact (goOn_end5 hml h hb0 hp hol (by rw[List.length_reverse];exact hfl)).mono fin
 ·have hi:i≤items.length:=hi
  have hlt:i<items.length:=by omega
  obtain ⟨u,hu⟩:∃ u,items[i]?=some u:=⟨_,List.getElem?_eq_getElem hlt⟩
  have hou:OkT u:=OkT.item hok hu
  obtain ⟨hu1,hu2⟩:=hou.head
  obtain ⟨hm1,hm2⟩:=mu_item (.mk kd fr to' tx items names) i u hu ss
  have hri:=rest_item ln ss.length (.mk kd fr to' tx items names) i u hu
  have hst1:StkIs W0 ((p,i+1) :: fl) ((.mk kd fr to' tx items names,i+1) :: ss):=by
    unfold StkIs
    exact ⟨rfl,hp,hk,hok,hlt,hst⟩
  have hul:∀ hh:¬ (u.kd=4∨u.kd=5),u.items=[]:=fun hh=>by
    obtain ⟨k1,f1,o1,x1,i1,n1⟩:=u
    exact hou.parts.2.1 hh
  have fin:∀ (o2:List UInt8),o2++(txtT ln (ss.length+1) u++remS ln ((.mk kd fr to' tx items names,i+1) :: ss))=T → ∀ e w',(∃ pu,PtIs W0 pu u∧WrO W0.heap.size w b ln (o2++headT u) (fl.reverse++[(p,i+1)]++pushT pu u) e w')→e=.returned (.tuple #[])∧Below W0.heap.size w w' ∧
    ∃ out' v' fl' ss',WI W0.heap.size w' b ln out' v' fl'.reverse∧StkIs W0 fl' ss'∧out'++remS ln ss'=T∧muS ss'<muS ((.mk kd fr to' tx items names,i) :: ss):=by
    rintro o2 ho2 e w' ⟨pu,hpu,v',rfl,h',hb'⟩
    obtain ⟨fl',hf1,hf2⟩:=begin_stk hst1 hpu hou
    rw[List.reverse_cons] at hf1
    rw[hf1] at h'
    refine ⟨rfl,hb',_,v',fl',_,h',hf2,?_,?_⟩
    ·rw[begin_rem ln u _ o2 hul]
     exact ho2
    ·by_cases hh:u.kd=4∨u.kd=5
     ·rw[if_pos hh]
      show muS ((u,0) :: (.mk kd fr to' tx items names,i+1) :: ss)<_
      omega
     ·rw[if_neg hh]
      exact hm2
  have hT2:T=out++((if i=0 then [] else [44])++(nlT ln (2*(ss.length+1))++((if kd=5 then nameTx ln ((names.drop i).headD []) else [])++(txtT ln (ss.length+1) u++(restT ln ss.length (.mk kd fr to' tx items names) (i+1)++remS ln ss))))):=by
    rw[← hT]
    show out++(restT ln ss.length (.mk kd fr to' tx items names) i++remS ln ss)=_
    rw[hri]
    show out++(((if i=0 then [] else [44])++(nlT ln (2*(ss.length+1))++((if kd=5 then nameTx ln ((names.drop i).headD []) else [])++(txtT ln (ss.length+1) u++restT ln ss.length (.mk kd fr to' tx items names) (i+1)))))++remS ln ss)=_
    simp only [List.append_assoc]
  have hl1:(fl.reverse++[(p,i+1)]).length=ss.length+1:=by simp[hlen]
  have hrf:fl.reverse.length≤900000:=by rw[List.length_reverse];exact hfl
  rcases hk with hk|hk
  ·have hk:kd=4:=hk
   subst hk
   rw[if_neg (show ¬ (4:Int)=5 by decide)] at hT2
   by_cases h0:i=0
   ·refine (goOn_40 hml h hb0 hp hol hrf (by omega) u hu (by omega) (by omega) (by omega)).mono (fin _ ?_)
    rw[hT2,if_pos h0,hl1]
    simp only [List.append_assoc,List.nil_append]
    rfl
   ·refine (goOn_4s hml h hb0 hp hol hrf (by omega) u hu (by omega) (by omega) (by omega)).mono (fin _ ?_)
    rw[hT2,if_neg h0,hl1]
    simp only [List.append_assoc,List.nil_append]
    rfl
  ·have hk:kd=5:=hk
   subst hk
   rw[if_pos (show (5:Int)=5 from rfl)] at hT2
   have hin:i<names.length:=by rw[hn5 rfl];exact hlt
   have hnm:names[i]?=some ((names.drop i).headD []):=by
     rw[List.drop_eq_getElem_cons hin,List.getElem?_eq_getElem hin]
     rfl
   have hnl:=hnn _ (List.mem_of_getElem? hnm)
   have hnt:=strT_le ((names.drop i).headD [])
   by_cases h0:i=0
   ·refine (goOn_50 hml h hb0 hp hol hrf (by omega) u hu (by omega) (by omega) (by omega) _ hnm (by omega) (by omega)).mono (fin _ ?_)
    rw[hT2,if_pos h0,hl1]
    simp only [List.append_assoc,List.nil_append]
    rfl
   ·refine (goOn_5s hml h hb0 hp hol hrf (by omega) u hu (by omega) (by omega) (by omega) _ hnm (by omega) (by omega)).mono (fin _ ?_)
    rw[hT2,if_neg h0,hl1]
    simp only [List.append_assoc]
    rfl
theorem mu_len:∀ ss:List (Tree×Nat),ss.length≤muS ss
 | []=>Nat.le_refl _
 | (t,i) :: ss=>by
   have:=mu_len ss
   show ss.length+1≤1+cntL (t.items.drop i)+muS ss
   omega
def RelWr (W0:World) (ln:Bool) (T:List UInt8) (k:Nat) (wr:World):Prop :=
 ∃ out v fl ss,WI W0.heap.size wr W0.heap.size ln out v (List.reverse fl)∧StkIs W0 fl ss∧out++remS ln ss=T∧muS ss≤k∧k≤900000∧Below W0.heap.size W0 wr
set_option maxHeartbeats 16000000 in
theorem write_any (t:Tree) (x:V6) (ln:Bool) (W:World) (hv:VIs W t x) (hok:OkT t) (hcnt:cntT t≤800000) (hne:txtT ln 0 t≠[]) (hT:(txtT ln 0 t).length≤100000000000) :
   Calls Tryz.prog 11 #[.agg #[.int .i64 x.kd,.int .i64 x.fr,.int .i64 x.to,.string ⟨x.tx.toArray⟩,.slice x.A x.n x.c,.slice x.B x.m x.d],.bool ln] W fun e w'=>e=.returned (.string ⟨(txtT ln 0 t).toArray⟩)∧Below W.heap.size W w':=by
 have hp:PtIs (W.alloc (.cells (v6Cells x).toArray 27)) ⟨W.heap.size,0,none⟩ t:=⟨x,CellsAt.of_own (Own.fresh W _ _),VIs.stay (below1 W _) t x hv⟩
 obtain ⟨W0,hW0⟩:∃ W0,W.alloc (.cells (v6Cells x).toArray 27)=W0:=⟨_,rfl⟩
 have hz:W.heap.size+1=W0.heap.size:=by rw[← hW0];simp
 have hb1:Below W.heap.size W W0:=by rw[← hW0];exact below1 W _
 rw[hW0] at hp
 have hfr:=WI.fresh W0 ln
 have hbw:Below W0.heap.size W0 (W0.alloc (.cells #[.pointer none,.slice none 0 0,.bool ln,.slice none 0 0] 75)):=below1 W0 _
 have hW0':W.alloc (.cells #[.int .i64 x.kd,.int .i64 x.fr,.int .i64 x.to,.string ⟨x.tx.toArray⟩,.slice x.A x.n x.c,.slice x.B x.m x.d] 27)=W0:=hW0
 obtain ⟨ho1,ho2⟩:=hok.head
 have HBG:=hid (begin_any hfr hbw hp (by omega) (by omega) (by simp) (by simp))
 have hul:¬ (t.kd=4∨t.kd=5)→t.items=[]:=fun hh=>by
   obtain ⟨k1,f1,o1,x1,i1,n1⟩:=t
   exact hok.parts.2.1 hh
 have hcn:muS ((if t.kd=4∨t.kd=5 then [(t,0)] else [])++[])≤900000:=by
   split
   ·show 1+cntL t.items+0≤_
    have e3:cntT t=1+cntL t.items:=by cases t;rfl
    omega
   ·exact Nat.zero_le _
 have hst:=begin_stk (W0:=W0) (fl:=[]) (ss:=[]) (by unfold StkIs;trivial) hp hok
 have hrem:=begin_rem ln t [] [] hul
 have hR:[]++(txtT ln ([]:List (Tree×Nat)).length t++remS ln [])=txtT ln 0 t:=by show txtT ln 0 t++[]=_;rw[List.append_nil]
 rw[hR] at hrem
 generalize txtT ln 0 t=T at *
 have HST:=hid hst
 have HREM:=hid hrem
 have HNE:=hid hne
 have HT:=hid hT
 have HB1:=hid hb1
 have HBW:=hid hbw
 have HCN:=hid hcn
 have HZ:=hid hz
 clear hp hW0 hz hb1 hfr hbw hul hcn hst hrem hR hok hcnt hne hT ho1 ho2 hv
 go_enter Tryz.func11,Tryz.ntmps11
 go_wp2_with (
   go_at_call 25
   go_must (
     refine HBG.out.mono ?_
     rintro e w1 ⟨v1,rfl,h1,hb1⟩
     obtain ⟨fl1,hf1,hf2⟩:=HST.out
     have hR0:RelWr W0 ln T 900000 w1:=⟨_,v1,fl1,_,(by rw[← hf1];exact h1),hf2,HREM.out,HCN.out,Nat.le_refl _,HBW.out.trans hb1⟩
     have HR0:=hid hR0
     clear h1 hb1 hf1 hf2 hR0))
 go_loopg [12] 900000 (fun k _ wr=>RelWr W0 ln T k wr)
 case atStart=>exact HR0.out
 case round =>
   clear HR0 HBG HST HREM HCN
   obtain ⟨out,v,fl,ss,hw,hs,ho,hmu,hk9,hbw⟩:=hrel
   obtain ⟨c2,c3,f3,hin,hNb⟩:=hw.facts
   cases fl with
   | nil =>
     cases ss with
     | cons q ss=>unfold StkIs at hs;exact hs.elim
     | nil =>
       obtain ⟨A,c,rfl,_,_⟩:=hw.form
       have ho:out=T:=by rw[← ho];show out=out++[];rw[List.append_nil]
       subst ho
       have c3:wr.cell? ⟨W0.heap.size,3,none⟩=some (.slice A 0 c):=c3
       have HS:=hid (stringW_any W0.heap.size (FW W0.heap.size (.slice A ([]:List (Addr×Nat)).reverse.length c)) out wr hw.bld HNE.out W.heap.size (fun k hk=>by have:=hk.1;have:=HZ.out;omega) (by have:=HT.out;omega))
       have HBW2:=hid (HB1.out.trans (hbw.mono (by have:=HZ.out;omega)))
       clear hw hs hmu hbw
       go_wp2_with (
         go_at_call 27
         go_must (
           refine HS.out.mono ?_
           rintro e w2 ⟨rfl,hb2⟩
           have H2:=hid (HBW2.out.trans hb2)
           clear hb2))
       go_ret
       exact ⟨rfl,H2.out⟩
   | cons q fl =>
     obtain ⟨p,i⟩:=q
     cases ss with
     | nil=>unfold StkIs at hs;exact hs.elim
     | cons r ss =>
       obtain ⟨t2,j⟩:=r
       have hij:i=j:=by unfold StkIs at hs;exact hs.1
       subst hij
       obtain ⟨g,c,rfl⟩:∃ g c,v=.slice (some ⟨g,0,none⟩) ((p,i) :: fl).reverse.length c:=by
         have hw':=hw
         rw[List.reverse_cons] at hw' ⊢
         exact hw'.open_form
       obtain ⟨m0,hm0⟩:∃ m0,fl.length=m0:=⟨_,rfl⟩
       obtain ⟨m,hm⟩:∃ m,((p,i) :: fl).reverse.length=m:=⟨_,rfl⟩
       have hmm:m=m0+1:=by rw[← hm,← hm0];simp
       have hsl:=hs.len
       have hml:=mu_len ((t2,i) :: ss)
       have hfl:fl.length≤900000:=by simp at hsl hml;omega
       have hm9:m0≤900000:=by omega
       have HG:=hid (goOn_any hm0 hw hbw hs T ho HT.out hfl)
       rw[hm] at c3
       have HK:=hid (And.intro hmu (And.intro hk9 hbw))
       clear hw hs ho hmu hk9 hbw hm hm0 hsl hml hfl
       subst hmm
       go_wp2_with (
         go_at_call 26
         go_must (
           refine HG.out.mono ?_
           rintro e w2 ⟨rfl,hb2,out',v',fl',ss',h',hs',ho',hmu'⟩
           have H2:=hid (And.intro hb2 (And.intro h' (And.intro hs' (And.intro ho' hmu'))))
           clear hb2 h' hs' ho' hmu'))
       go_roundg (muS ss')
       case measure=>have:=H2.out.2.2.2.2;have:=HK.out.1;omega
       case rel=>exact ⟨out',v',fl',ss',H2.out.2.1,H2.out.2.2.1,H2.out.2.2.2.1,Nat.le_refl _,(by have:=H2.out.2.2.2.2;have:=HK.out.1;have:=HK.out.2.1;omega),HK.out.2.2.trans H2.out.1⟩
end
section
open Go.RowKit
theorem text_any (t:Tree) (x:V6) (W:World) (hv:VIs W t x) (hok:OkT t) (hcnt:cntT t≤800000) (hne:showT t≠[]) (hT:(showT t).length≤100000000000) :
   Calls Tryz.prog 6 #[.agg #[.int .i64 x.kd,.int .i64 x.fr,.int .i64 x.to,.string ⟨x.tx.toArray⟩,.slice x.A x.n x.c,.slice x.B x.m x.d]] W fun e w'=>e=.returned (.string ⟨(showT t).toArray⟩)∧Below W.heap.size W w':=by
 have HW:=hid (fun (w:World) (h:VIs w t x)=>write_any t x false w h hok hcnt hne hT)
 have HV:=hid (VIs.stay (below1 W (.cells #[.int .i64 x.kd,.int .i64 x.fr,.int .i64 x.to,.string ⟨x.tx.toArray⟩,.slice x.A x.n x.c,.slice x.B x.m x.d] 27)) t x hv)
 clear hv hok hcnt hne hT
 go_enter Tryz.func6,Tryz.ntmps6
 go_wp2_with (
   go_at_call 11
   go_must (
     refine (HW.out _ HV.out).mono ?_
     rintro e w1 ⟨rfl,hb1⟩
     have H1:=hid ((below1 W _).trans (hb1.mono (by simp)))
     clear hb1))
 go_ret
 exact ⟨rfl,H1.out⟩
theorem lines_any (t:Tree) (x:V6) (W:World) (hv:VIs W t x) (hok:OkT t) (hcnt:cntT t≤800000) (hne:lineT 0 t≠[]) (hT:(lineT 0 t).length≤100000000000) :
   Calls Tryz.prog 7 #[.agg #[.int .i64 x.kd,.int .i64 x.fr,.int .i64 x.to,.string ⟨x.tx.toArray⟩,.slice x.A x.n x.c,.slice x.B x.m x.d]] W fun e w'=>e=.returned (.string ⟨(lineT 0 t).toArray⟩)∧Below W.heap.size W w':=by
 have HW:=hid (fun (w:World) (h:VIs w t x)=>write_any t x true w h hok hcnt hne hT)
 have HV:=hid (VIs.stay (below1 W (.cells #[.int .i64 x.kd,.int .i64 x.fr,.int .i64 x.to,.string ⟨x.tx.toArray⟩,.slice x.A x.n x.c,.slice x.B x.m x.d] 27)) t x hv)
 clear hv hok hcnt hne hT
 go_enter Tryz.func7,Tryz.ntmps7
 go_wp2_with (
   go_at_call 11
   go_must (
     refine (HW.out _ HV.out).mono ?_
     rintro e w1 ⟨rfl,hb1⟩
     have H1:=hid ((below1 W _).trans (hb1.mono (by simp)))
     clear hb1))
 go_ret
 exact ⟨rfl,H1.out⟩
end
end Go.Proofs.YtbpilcklglhloaaGreatDoor
