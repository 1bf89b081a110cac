/- Lemmas. -/
import Derived.Test.YtbpilcklglhloaaGreatDoorJ39
import Derived.Defers
set_option maxRecDepth 100000
set_option maxHeartbeats 8000000
set_option linter.unusedVariables false
namespace Go.Proofs.YtbpilcklglhloaaGreatDoor
open Go.Lib (hid)
section
open Go.RowKit
theorem inNumber_any (w:World) (b k f:Nat) (F:Nat→Prop) (a:Int) (p:List UInt8) (c:UInt8) (h:LexIs w b F k (.num a f p)) (hT:Tab w) (hF0:¬ F 0) (hFb:∀ j,F j→j<w.heap.size) (hp:p.length≤1000000000) (hkb:k≤1000000000) :
   Calls Tryz.prog 61 #[.pointer (some ⟨b,0,none⟩),.int .u8 c.toNat] w (TakeEnd w b F k (stepL (.num a f p) k c)):=by
 show Calls _ _ _ _ (TakeEnd w b F k (if nxI a c.toNat≠0 then ([],0,LSt.num (nxI a c.toNat) f (p++[c])) else
     if whI a && !stickI c.toNat then (⟨9,false,f,k,p⟩ :: (outL k c).1,(outL k c).2.1,(outL k c).2.2) else ([],5,.dead)))
 by_cases hn:nxI a c.toNat=0
 ·rw [if_neg (by simp[hn])]
  cases hw:(whI a && !stickI c.toNat)
  ·rw[if_neg (by decide)]
   exact num_bad w b k f F a p c h hn hw
  ·rw[if_pos rfl]
   exact num_end w b k f F a p c h hT hF0 hFb hn hw hkb
 ·rw[if_pos hn]
  exact num_on w b k f F a p c h hn hp
section
variable (w:World) (b k:Nat) (F:Nat→Prop) (c:UInt8) (r:List Tok×Int×LSt) (c2:Int)
theorem take_0 (hc:w.cell? ⟨b,2,none⟩=some (.int .i64 0)) (h:Calls Tryz.prog 63 #[.pointer (some ⟨b,0,none⟩),.int .u8 c.toNat] w (TakeEnd w b F k r)) :
   Calls Tryz.prog 34 #[.pointer (some ⟨b,0,none⟩),.int .u8 c.toNat] w (TakeEnd w b F k r):=by
 have HK:=hid h
 clear h
 go_enter Tryz.func34,Tryz.ntmps34
 go_wp2_with (go_at_call 63;refine HK.out.mono ?_;rintro e w1 ⟨v,rfl,h⟩;have H:=hid h;clear h)
 go_ret2
 exact ⟨_,rfl,H.out⟩
theorem take_8 (hc:w.cell? ⟨b,2,none⟩=some (.int .i64 8)) (h:Calls Tryz.prog 60 #[.pointer (some ⟨b,0,none⟩),.int .u8 c.toNat] w (TakeEnd w b F k r)) :
   Calls Tryz.prog 34 #[.pointer (some ⟨b,0,none⟩),.int .u8 c.toNat] w (TakeEnd w b F k r):=by
 have HK:=hid h
 clear h
 go_enter Tryz.func34,Tryz.ntmps34
 go_wp2_with (go_at_call 60;refine HK.out.mono ?_;rintro e w1 ⟨v,rfl,h⟩;have H:=hid h;clear h)
 go_ret2
 exact ⟨_,rfl,H.out⟩
theorem take_9 (hc:w.cell? ⟨b,2,none⟩=some (.int .i64 9)) (h:Calls Tryz.prog 61 #[.pointer (some ⟨b,0,none⟩),.int .u8 c.toNat] w (TakeEnd w b F k r)) :
   Calls Tryz.prog 34 #[.pointer (some ⟨b,0,none⟩),.int .u8 c.toNat] w (TakeEnd w b F k r):=by
 have HK:=hid h
 clear h
 go_enter Tryz.func34,Tryz.ntmps34
 go_wp2_with (go_at_call 61;refine HK.out.mono ?_;rintro e w1 ⟨v,rfl,h⟩;have H:=hid h;clear h)
 go_ret2
 exact ⟨_,rfl,H.out⟩
theorem take_10 (hc:w.cell? ⟨b,2,none⟩=some (.int .i64 10)) (h:Calls Tryz.prog 62 #[.pointer (some ⟨b,0,none⟩),.int .u8 c.toNat] w (TakeEnd w b F k r)) :
   Calls Tryz.prog 34 #[.pointer (some ⟨b,0,none⟩),.int .u8 c.toNat] w (TakeEnd w b F k r):=by
 have HK:=hid h
 clear h
 go_enter Tryz.func34,Tryz.ntmps34
 go_wp2_with (go_at_call 62;refine HK.out.mono ?_;rintro e w1 ⟨v,rfl,h⟩;have H:=hid h;clear h)
 go_ret2
 exact ⟨_,rfl,H.out⟩
end
theorem LexCs.c2 {w:World} {b:Nat} {k wi f:Int} (h:LexCs w b k wi f):w.cell? ⟨b,2,none⟩=some (.int .i64 wi):=by
 obtain ⟨cs,h,h1,h2,h3,_⟩:=h
 rw[h.at]
 simpa using h3
theorem LexIs.notOver {w:World} {b k:Nat} {F:Nat→Prop} {st:LSt} (h:LexIs w b F k st) (hd:st≠.dead):w.cell? ⟨b,1,none⟩=some (.bool false):=by
 cases st with
 | dead=>exact absurd rfl hd
 | out=>rw[h.2.at];rfl
 | num a f p =>
   obtain ⟨_,_,g,c,ho,_⟩:=h
   rw[ho.at];rfl
 | word f p =>
   obtain ⟨_,t,j,_,_,_,_,ho⟩:=h
   rw[ho.at];rfl
 | str q f acc =>
   obtain ⟨_,_,hw,a,sg,lf,num,cnt,fst,⟨last,signs,loose,ps,hq,_⟩,_⟩:=h
   rw[hq.2.2.at];rfl
theorem take_any (w:World) (b k:Nat) (F:Nat→Prop) (st:LSt) (c:UInt8) (h:LexIs w b F k st) (hd:st≠.dead) (hT:Tab w) (hF0:¬ F 0) (hFb:∀ j,F j→j<w.heap.size) (hs:Short k st) (hkb:k≤1000000000) :
   Calls Tryz.prog 34 #[.pointer (some ⟨b,0,none⟩),.int .u8 c.toNat] w (TakeEnd w b F k (stepL st k c)):=by
 cases st with
 | dead=>exact absurd rfl hd
 | out=>exact take_0 w b k F c _ (by rw[h.2.at];rfl) (outside_any w b k F c h hT hkb)
 | num a f p =>
   refine take_9 w b k F c _ ?_ (inNumber_any w b k f F a p c h hT hF0 hFb (Nat.le_trans hs hkb) hkb)
   obtain ⟨_,_,g,c,ho,_⟩:=h
   exact (lx_cs zq_len ho).c2
 | word f p =>
   refine take_10 w b k F c _ ?_ (inWord_any w b k f F p c h hkb)
   obtain ⟨_,t,j,_,_,_,_,ho⟩:=h
   exact (lx_cs zq_len ho).c2
 | str q f acc=>exact take_8 w b k F c _ (isQ_cs h.2.2).c2 (inString_any w b k f F q acc c h hs hkb)
def StepEnd (w:World) (b:Nat) (F:Nat→Prop) (k:Nat) (r:List Tok×Int×LSt) (e:Ending) (w':World):Prop :=
 ∃ v,e=.returned (.tuple #[v,.int .i64 r.2.1])∧TRow w' w.heap.size v r.1∧Touch F w w'∧LexIs w' b (fun j=>F j∨w.heap.size≤j) (if r.2.1=0 then k+1 else k) (if r.2.1=0 then r.2.2 else .dead)
theorem TRow.set {w:World} {base:Nat} {v:Value} {ts:List Tok} {b i:Nat} {u:Value} (h:TRow w base v ts) (hb:b<base):TRow (w.setCell ⟨b,i,none⟩ u) base v ts :=
 h.stay (fun g hg=>Below.heap_setCell w ⟨b,i,none⟩ u g (fun e=>by have:=(h.low hg).1;have:g=b:=e;omega))
theorem outL_alive (k:Nat) (c:UInt8):(outL k c).2.1=0→(outL k c).2.2≠.dead:=by
 unfold outL
 (repeat' split)<;>simp
theorem stepL_alive (st:LSt) (k:Nat) (c:UInt8) (hd:st≠.dead):(stepL st k c).2.1=0→(stepL st k c).2.2≠.dead:=by
 cases st with
 | dead=>exact absurd rfl hd
 | out=>exact outL_alive k c
 | num a f p =>
   show (if nxI a c.toNat≠0 then (([],0,LSt.num (nxI a c.toNat) f (p++[c])):List Tok×Int×LSt) else if whI a && !stickI c.toNat then (⟨9,false,f,k,p⟩ :: (outL k c).1,(outL k c).2.1,(outL k c).2.2) else ([],5,.dead)).2.1=0→(if nxI a c.toNat≠0 then (([],0,LSt.num (nxI a c.toNat) f (p++[c])):List Tok×Int×LSt) else if whI a && !stickI c.toNat then (⟨9,false,f,k,p⟩ :: (outL k c).1,(outL k c).2.1,(outL k c).2.2) else ([],5,.dead)).2.2≠.dead
   split
   ·intro _ e;cases e
   split
   ·exact outL_alive k c
   ·intro e;cases e
 | word f p =>
   show (if refL (p++[c])=2 then (([],6,.dead):List Tok×Int×LSt) else if refL (p++[c])=1 then ([⟨10,false,f,k+1,p++[c]⟩],0,.out) else ([],0,.word f (p++[c]))).2.1=0→(if refL (p++[c])=2 then (([],6,.dead):List Tok×Int×LSt) else if refL (p++[c])=1 then ([⟨10,false,f,k+1,p++[c]⟩],0,.out) else ([],0,.word f (p++[c]))).2.2≠.dead
   (repeat' split)<;>intro e<;>first|(cases e;done)|(intro e2;cases e2)
 | str q f acc =>
   show (strL q f acc k c (stepQ q c)).2.1=0→(strL q f acc k c (stepQ q c)).2.2≠.dead
   cases hs:stepQ q c with
   | none=>intro e;exact absurd e (faultQ_ne q c).2
   | some p =>
     obtain ⟨q',x⟩:=p
     cases q'<;>intro _ e<;>cases e
theorem step_lex (w:World) (b k:Nat) (F:Nat→Prop) (st:LSt) (c:UInt8) (h:LexIs w b F k st) (hd:st≠.dead) (hT:Tab w) (hF0:¬ F 0) (hFb:∀ j,F j→j<w.heap.size) (hs:Short k st) (hkb:k≤1000000000) :
   Calls Tryz.prog 21 #[.pointer (some ⟨b,0,none⟩),.int .u8 c.toNat] w (StepEnd w b F k (stepL st k c)):=by
 have c1:=h.notOver hd
 have hF:=h.has
 have hin:=h.inside
 have hal:=stepL_alive st k c hd
 have HK:=hid (take_any w b k F st c h hd hT hF0 hFb hs hkb)
 clear h hT hs
 generalize stepL st k c=r at *
 obtain ⟨ts,n,st'⟩:=r
 by_cases hn:n=0
 ·subst hn
  have halv:=hid (show st'≠.dead from hal rfl)
  clear hal
  go_enter Tryz.func21,Tryz.ntmps21
  go_wp2_with (first
    | (go_at_call 34;refine HK.out.mono ?_;rintro e w1 ⟨v,rfl,h1,h2,h3,h4⟩
       obtain ⟨cs,ho,hl,h0⟩:=(h3 rfl).any
       have c0:=ho.at 0
       have f0:=ho.free 0
       simp[h0] at c0
       have H1:=hid h1;have H2:=hid h2;have H3:=hid (h3 rfl)
       clear h1 h2 h3 h4 ho hl h0))
  go_ret2
  exact ⟨_,rfl,H1.out.set hin,H2.out.setCell (p:=⟨b,0,none⟩) (.inl hF) _,H3.out.bump halv.out⟩
 ·have g0:(n==0)=false:=beq_eq_false_iff_ne.2 hn
  go_enter Tryz.func21,Tryz.ntmps21
  go_wp2_with (first
    | (go_at_call 34;refine HK.out.mono ?_;rintro e w1 ⟨v,rfl,h1,h2,h3,h4⟩
       obtain ⟨cs,ho,hl,h0⟩:=h4 hn
       have H1:=hid h1;have H2:=hid h2
       have HE:=hid (end_any b k cs w1 ho hl h0)
       clear h1 h2 h3 h4 ho hl h0)
    | (go_at_call 35;refine HE.out.mono ?_;rintro e w2 ⟨rfl,h5,h6⟩
       have H5:=hid h5;have H6:=hid h6
       clear h5 h6))
  go_ret2
  refine ⟨_,rfl,H1.out.stay (fun g hg=>H6.out.2.2.2.2 g (H1.out.low hg).2 (by have:=(H1.out.low hg).1;omega)),H2.out.trans (Touch.of_turned H6.out hF) (fun _ _ h=>h),?_⟩
  show LexIs w2 b _ (if n=0 then k+1 else k) (if n=0 then st' else .dead)
  rw[if_neg hn,if_neg hn]
  exact ⟨.inl hF,H5.out⟩
end
section
open Go.RowKit
theorem end_deferred (b:Nat) (k:Nat) (u:FrameMode) (w:World) (h:LexAny w b k) :
   CallsD Tryz.prog 35 #[.pointer (some ⟨b,0,none⟩)] u w fun e u' w'=>u'=u∧(e=.returned (.tuple #[])∧Own w' b 98 (LZ k true).toArray∧Turned b w w'):=by
 obtain ⟨cs,h,hl,h0⟩:=h
 have c0:=h.at 0
 have f0:=h.free 0
 simp[h0] at c0
 obtain ⟨hst,ho,ht⟩:=own_row h (LZ k true) (by simp[LZ_len,hl]) (LZ_one _ _)
 have HO:=hid ho
 have HT:=hid ht
 have hz0:=fun w=>zero_lex w
 have hz2:=LZ_put k true
 have hz1:(LZ 0 false).toArray.size=80:=by simp[LZ_len]
 generalize (LZ 0 false).toArray=z at *
 have hz3:¬ z = #[]:=fun e=>by rw[e] at hz1;simp at hz1
 have hz4:¬ z.size<2:=by omega
 clear h ho ht
 go_enter_d Tryz.func35,Tryz.ntmps35
 go_wp2
 go_end0
 exact ⟨rfl,HO.out,HT.out⟩
def CloseEnd (w:World) (b:Nat) (F:Nat→Prop) (k:Nat) (r:List Tok×Int) (e:Ending) (w':World):Prop :=
 ∃ v,e=.returned (.tuple #[v,.int .i64 r.2])∧TRow w' w.heap.size v r.1∧Touch F w w'∧LexIs w' b (fun j=>F j∨w.heap.size≤j) k .dead
section
variable (w:World) (b k f:Nat) (F:Nat→Prop)
theorem close_out (hF:F b) (h:LexCs w b k 0 0) (c1:w.cell? ⟨b,1,none⟩=some (.bool false)) :
   Calls Tryz.prog 22 #[.pointer (some ⟨b,0,none⟩)] w (CloseEnd w b F k ([],1)):=by
 have c2:=h.c2
 have HA:=hid h.any
 clear h
 go_enter_defers Tryz.func22,Tryz.ntmps22
 go_wp2
 refine leaves_cons (f:=35) (args:=#[.pointer (some ⟨b,0,none⟩)]) (by simp) (by simp[go_sem]) ?_
 refine (end_deferred b k .returning _ HA.out).mono ?_
 rintro e u' w' ⟨rfl,rfl,ho,ht⟩
 exact ⟨_,results_tmp2 rfl _ _ _,_,rfl,TRow.nil _ _,Touch.of_turned ht hF,.inl hF,ho⟩
theorem close_cut (hF:F b) (wi fr:Int) (hw:wi=8∨wi=10) (h:LexCs w b k wi fr) (c1:w.cell? ⟨b,1,none⟩=some (.bool false)) :
   Calls Tryz.prog 22 #[.pointer (some ⟨b,0,none⟩)] w (CloseEnd w b F k ([],10)):=by
 have c2:=h.c2
 have HA:=hid h.any
 clear h
 rcases hw with rfl|rfl
 all_goals
   go_enter_defers Tryz.func22,Tryz.ntmps22
   go_wp2
   refine leaves_cons (f:=35) (args:=#[.pointer (some ⟨b,0,none⟩)]) (by simp) (by simp[go_sem]) ?_
   refine (end_deferred b k .returning _ HA.out).mono ?_
   rintro e u' w' ⟨rfl,rfl,ho,ht⟩
   exact ⟨_,results_tmp2 rfl _ _ _,_,rfl,TRow.nil _ _,Touch.of_turned ht hF,.inl hF,ho⟩
theorem close_half (hF:F b) (fr a:Int) (ha:StA a) (hw:whI a=false) (h:LexCs w b k 9 fr) (c76:w.cell? ⟨b,76,none⟩=some (.int .i64 a)) (c1:w.cell? ⟨b,1,none⟩=some (.bool false)) :
   Calls Tryz.prog 22 #[.pointer (some ⟨b,0,none⟩)] w (CloseEnd w b F k ([],10)):=by
 have c2:=h.c2
 have HA:=hid h.any
 have HW:=fwhole b a w c76 ha
 rw[hw] at HW
 replace HW:=hid HW
 clear h c76
 go_enter_defers Tryz.func22,Tryz.ntmps22
 go_wp2_with (go_at_call 36;refine HW.out.mono ?_;rintro e w' ⟨rfl,rfl⟩)
 refine leaves_cons (f:=35) (args:=#[.pointer (some ⟨b,0,none⟩)]) (by simp) (by simp[go_sem]) ?_
 refine (end_deferred b k .returning _ HA.out).mono ?_
 rintro e u' w' ⟨rfl,rfl,ho,ht⟩
 exact ⟨_,results_tmp2 rfl _ _ _,_,rfl,TRow.nil _ _,Touch.of_turned ht hF,.inl hF,ho⟩
theorem close_num (a:Int) (p:List UInt8) (h:LexIs w b F k (.num a f p)) (hw:whI a=true) (hkb:k≤1000000000) :
   Calls Tryz.prog 22 #[.pointer (some ⟨b,0,none⟩)] w (CloseEnd w b F k ([⟨9,false,f,k,p⟩],1)):=by
 have c1:=h.notOver (by simp)
 obtain ⟨hF,hst,g,cc,ho,hr,hg,hne⟩:=h
 have c76:=ho.at 76
 rw[(LZ_get ..).1] at c76
 have HW:=fwhole b a w c76 hst
 rw[hw] at HW
 replace HW:=hid HW
 have hr1:w.drew.ownsRow 0 5 1 (.slice (some ⟨g,0,none⟩) p.length cc) p.length (byteCells p):=hr
 have hcv:=Buf.conv (w:=w.drew) ⟨g,cc,rfl,hr1⟩
 have hcs:=lx_cs (w:=w.drew) zq_len ho
 have c0:=(lx_cs (w:=w) zq_len ho).c0
 have c2:=(lx_cs (w:=w) zq_len ho).c2
 have d0:=hcs.c0
 have d77:=ho.at 77
 rw[(LZ_get ..).2.1] at d77
 have e77:w.drew.cell? ⟨b,77,none⟩=some (.slice (some ⟨g,0,none⟩) p.length cc):=d77
 have hin:b<w.heap.size:=hcs.inside
 have HCA:=hid hcs
 clear ho hr hr1 hcs c76
 go_enter_defers Tryz.func22,Tryz.ntmps22
 go_wp2_with (go_at_call 36;refine HW.out.mono ?_;rintro e w' ⟨rfl,rfl⟩)
 go_still_tail 10,(by kernel_rfl)
 change wpList _ _ _ _ _ w.drew
 go_wp2_with (go_at_call 37;refine (leave_cs _ _ _ _ _ _ _ HCA.out).mono ?_;rintro e w3 ⟨rfl,h3,t3⟩;have H3:=hid h3;have T3:=hid t3;clear h3 t3)
 have hb3:Below w3.heap.size w3 (w3.alloc (.cells #[.int .i64 9,.bool false,.int .i64 f,.int .i64 k,.string ⟨p.toArray⟩] 54)):=below1 w3 _
 have t1:Touch F w w3:=Touch.undrew (Touch.of_turned T3.out hF)
 have ho3:=H3.out.stay hb3 H3.out.inside
 refine leaves_cons (f:=35) (args:=#[.pointer (some ⟨b,0,none⟩)]) (by simp) (by simp[go_sem]) ?_
 refine (end_deferred b k .returning _ ⟨_,ho3,LZ_len _ _,rfl⟩).mono ?_
 rintro e u' w' ⟨rfl,rfl,ho,ht⟩
 refine ⟨_,results_tmp2 rfl _ _ _,_,rfl,?_,(t1.trans (Touch.of_new (F:=F) hb3) (fun _ _ h=>h)).trans (Touch.of_turned ht hF) (fun _ _ h=>h),.inl hF,ho⟩
 exact (TRow.one w3 ⟨9,false,f,k,p⟩ t1.size).stay (fun j hj=>by
   obtain rfl:=ownBlock_is hj
   exact ht.2.2.2.2 _ (by simp) (by have:=t1.size;omega))
end
theorem close_any (w:World) (b k:Nat) (F:Nat→Prop) (st:LSt) (h:LexIs w b F k st) (hd:st≠.dead) (hkb:k≤1000000000) :
   Calls Tryz.prog 22 #[.pointer (some ⟨b,0,none⟩)] w (CloseEnd w b F k (closeL st k)):=by
 have c1:=h.notOver hd
 have hF:=h.has
 cases st with
 | dead=>exact absurd rfl hd
 | out=>exact close_out w b k F hF ⟨_,h.2,LZ_len _ _,rfl,rfl,rfl⟩ c1
 | num a f p =>
   show Calls _ _ _ _ (CloseEnd w b F k (if whI a then ([⟨9,false,f,k,p⟩],1) else ([],10)))
   cases hw:whI a
   ·rw[if_neg (by decide)]
    obtain ⟨_,hst,g,c,ho,_⟩:=h
    exact close_half w b k F hF f a hst hw (lx_cs zq_len ho) (by rw[ho.at];exact (LZ_get ..).1) c1
   ·rw[if_pos rfl]
    exact close_num w b k f F a p h hw hkb
 | word f p =>
   obtain ⟨_,t,j,_,_,_,_,ho⟩:=h
   exact close_cut w b k F hF 10 f (.inr rfl) (lx_cs zq_len ho) c1
 | str q f acc=>exact close_cut w b k F hF 8 f (.inl rfl) (isQ_cs h.2.2) c1
theorem at_any (w:World) (b:Nat) (k:Int) (c0:w.cell? ⟨b,0,none⟩=some (.int .i64 k)) :
   Calls Tryz.prog 20 #[.pointer (some ⟨b,0,none⟩)] w fun e w'=>e=.returned (.int .i64 k)∧w=w':=by
 go_enter Tryz.func20,Tryz.ntmps20
 go_wp2
 go_ret
 exact ⟨rfl,rfl⟩
theorem new_any (w:World) :
   Calls Tryz.prog 14 #[] w fun e w'=>e=.returned (.pointer (some ⟨w.heap.size,0,none⟩))∧w'=w.alloc (.cells (LZ 0 false).toArray 98):=by
 have hz0:=fun w=>zero_lex w
 have hz1:(LZ 0 false).toArray.size=80:=by simp[LZ_len]
 generalize (LZ 0 false).toArray=z at *
 have hz3:¬ z = #[]:=fun e=>by rw[e] at hz1;simp at hz1
 go_enter Tryz.func14,Tryz.ntmps14
 go_wp2
 go_ret
 exact ⟨rfl,rfl⟩
end
end Go.Proofs.YtbpilcklglhloaaGreatDoor
