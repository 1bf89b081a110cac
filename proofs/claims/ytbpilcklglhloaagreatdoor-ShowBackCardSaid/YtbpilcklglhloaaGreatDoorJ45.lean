/- Lemmas. -/
import Derived.Test.YtbpilcklglhloaaGreatDoorJ44
import Derived.BigRegion
set_option maxRecDepth 100000
set_option maxHeartbeats 8000000
set_option linter.unusedVariables false
namespace Go.Proofs.YtbpilcklglhloaaGreatDoor
open Go.Lib (hid)
section
open Go.RowKit
theorem results_ctc {P:Program} {fn:Func} {t p q:Tmp} {ty tz:TypeId} (h:fn.results = #[.cell p ty,.tmp t,.cell q tz]) (tmps:Array Value) (w:World) (g:Nat) (T:TypeId) (cs:Array Value) (fr:Nat×Nat) (d:TypeDesc) (g':Nat) (T':TypeId) (cs':Array Value) (fr':Nat×Nat) (d':TypeDesc)
   (hp:tmps.getD p undef=.pointer (some ⟨g,0,none⟩)) (hg:w.heap[g]?=some (.cells cs T fr)) (hu:P.underlying ty=some d) (hd:(match d with | .struct _ | .array _ _=>true|_=>false)=true) (hi:(P.info? ty).map (·.size)=some cs.size)
   (hp':tmps.getD q undef=.pointer (some ⟨g',0,none⟩)) (hg':w.heap[g']?=some (.cells cs' T' fr')) (hu':P.underlying tz=some d') (hd':(match d' with | .struct _ | .array _ _=>true|_=>false)=true) (hi':(P.info? tz).map (·.size)=some cs'.size) :
   (results fn tmps).run P w=.ok (.tuple #[.agg cs,tmps.getD t undef,.agg cs']) w:=by
 have h1:tmps[p]?.getD undef=.pointer (some ⟨g,0,none⟩):=by simpa using hp
 have h2:tmps[q]?.getD undef=.pointer (some ⟨g',0,none⟩):=by simpa using hp'
 simp[results,h,h1,h2,asAddr,run_loadVar_row w g T ty cs fr d hg hu hd hi,run_loadVar_row w g' T' tz cs' fr' d' hg' hu' hd' hi',Result.andThen]
theorem own_drew {w:World}{b:Nat}{T:TypeId}{cs:Array Value}(h:Own w b T cs):Own w.drew b T cs:=h
theorem Touch.drew1 {F:Nat→Prop}{w w':World}(h:Touch F w w'):Touch F w w'.drew:=h.drewN 1
theorem put6_own' {w:World} {b:Nat} {T:TypeId} {y:V6} (h:Own w b T (v6Cells y).toArray) (x:V6):Own (put6 w b x) b T (v6Cells x).toArray:=by
 have:=(((((h.put 0 (.int .i64 x.kd)).put 1 (.int .i64 x.fr)).put 2 (.int .i64 x.to)).put 3 (.string ⟨x.tx.toArray⟩)).put 4 (.slice x.A x.n x.c)).put 5 (.slice x.B x.m x.d)
 unfold put6
 simpa [v6Cells] using this
theorem six_two {w:World} {b b':Nat} {T T':TypeId} {x:V6} {k a:Int} (h:Own w b T (v6Cells x).toArray) (h':Own w b' T' #[.int .i64 k,.int .i64 a]):w.cell? ⟨b,0,none⟩=some (.int .i64 x.kd)∧w.cell? ⟨b,1,none⟩=some (.int .i64 x.fr)∧w.cell? ⟨b,2,none⟩=some (.int .i64 x.to)∧w.cell? ⟨b,3,none⟩=some (.string ⟨x.tx.toArray⟩)∧w.cell? ⟨b,4,none⟩=some (.slice x.A x.n x.c)∧w.cell? ⟨b,5,none⟩=some (.slice x.B x.m x.d)∧w.cell? ⟨b',0,none⟩=some (.int .i64 k)∧w.cell? ⟨b',1,none⟩=some (.int .i64 a) :=
 ⟨h.at 0,h.at 1,h.at 2,h.at 3,h.at 4,h.at 5,h'.at 0,h'.at 1⟩
def muPa (n g:Nat)(w:World):Nat:=if intOf ((w.cell? ⟨g,0,none⟩).getD undef)=0 then n+1-(intOf ((w.cell? ⟨g,1,none⟩).getD undef)).toNat else 0
theorem muPa_own {w:World} {g:Nat} {T:TypeId} {a b:Int} (n:Nat) (h:Own w g T #[.int .i64 a,.int .i64 b]):muPa n g w=if a=0 then n+1-b.toNat else 0:=by
 unfold muPa
 rw[h.at 0,h.at 1]
 simp[intOf]
theorem part_fin {l:List UInt8} {d:Int} {W w wN w9:World} {kd:Int} {at_:Nat} (h:StopPa l d W w kd at_) {yk:Int} {yf yt:Nat} {yx:List UInt8} {yA:Option Addr} {yn yc:Nat} {yB:Option Addr} {ym yd:Nat} (o:Bool) (hb:Below w.heap.size w wN)
   (hv:kd=1 → ∀ w'',wN.heap.size≤w''.heap.size→(∀ q,w.heap.size≤q→q<wN.heap.size→w''.heap[q]?=wN.heap[q]?)→VIs w'' (treeP l d) ⟨yk,yf,yt,yx,yA,yn,yc,yB,ym,yd⟩)
   (t:Touch (fun q=>q=W.heap.size∨q=W.heap.size+1) wN w9):PartEnd l d W (.returned (.tuple #[.agg #[.int .i64 yk,.int .i64 yf,.int .i64 yt,.string ⟨yx.toArray⟩,.slice yA yn yc,.slice yB ym yd],.bool o,.agg #[.int .i64 kd,.int .i64 at_]])) w9:=by
 have hi:=h.res8.inside
 have hs:=h.bel.size
 have hs2:=hb.size
 refine ⟨yk,yf,yt,yx,yA,yn,yc,yB,ym,yd,o,by rw[h.kd_],fun hh w8 hs8 hk8 => ?_,(h.bel.trans (hb.mono hs)).trans (t.below (fun q _ hq=>by rcases hq with e|e<;>omega) (by omega))⟩
 rw[h.kd_] at hh
 exact hv hh w8 (Nat.le_trans t.size hs8) (fun q hq hql=>(hk8 q (by omega) (Nat.lt_of_lt_of_le hql t.size)).trans (t.block q hql (fun e=>by rcases e with e|e<;>omega)))
theorem part_any (A:Option Addr) (len cap:Nat) (l:List UInt8) (d:Int) (W:World) (hx:Rd W W.heap.size A len (byteCells l)) (h2:len≤100000000) (d1:1≤d) (d2:d≤1000) (hT:Tab W) :
   Calls Tryz.prog 10 #[.slice A len cap,.int .i64 d,.bool true] W (PartEnd l d W):=by
 have hlen:l.length=len:=by have:=hx.1;rwa [byteCells_length] at this
 have hmf:∀ (fn:Fn) (first cap:Array Value) (w:World),(Instr.makeFunc fn first cap).run Tryz.prog w=.ok (.func fn first cap) w:=fun _ _ _ _=>rfl
 have HS:=hid (run_start l d d1 d2 W)
 have HX:=hid hx
 have HT:=hid hT
 have HL:=hid hlen
 have HN:=hid (fun w=>NIs.new d w (by omega) (by omega))
 clear hx hT hlen
 go_enter Tryz.func10,Tryz.ntmps10
 go_upto_region 2 with fail
 have HNW:=hid (new_any (((W.alloc (.cells zeroV.toArray 27)).alloc (.cells #[.int .i64 0,.int .i64 0] 29)).alloc (.cells #[.pointer none,.slice none 0 0] 47)))
 unfold zeroV at HNW HS
 go_upto_region 4 with (first
   | (go_at_call 14;refine HNW.out.mono ?_;rintro e w1 ⟨rfl,rfl⟩)
   | (go_at_call 15;refine (HN.out _).mono ?_;rintro e w2 ⟨nb,rfl,hn,hb⟩
      have HR:=hid (HS.out w2 _ nb hn hb rfl)
      clear hn hb))
 have hR:RelPa l d W w2.heap.size (w2.heap.size+1) nb ((w2.alloc (.cells #[.pointer (some ⟨W.heap.size+1+1+1,0,none⟩)] 48)).alloc (.cells #[.pointer (some ⟨nb,0,none⟩)] 50)):=HR.out
 clear HR HS HNW HN hmf
 generalize (w2.alloc (.cells #[.pointer (some ⟨W.heap.size+1+1+1,0,none⟩)] 48)).alloc (.cells #[.pointer (some ⟨nb,0,none⟩)] 50)=w4 at hR ⊢
 generalize hnx:w2.heap.size+1=nx at hR ⊢
 generalize hlx:w2.heap.size=lx at hR ⊢
 clear hnx hlx w2
 rename_i hK
 have HK:=hid hK
 clear hK
 go_loopw [26] (fun _ wr=>RelPa l d W lx nx nb wr) (fun _ wr=>muPa len (W.heap.size+1) wr)
 case atStart=>exact hR
 case round =>
   clear hR
   rcases hrel with ⟨k,st,n,bl,s,es,FL,FN,FM,h⟩|⟨kd,at_,hk1,h⟩
   ·have bxc : wr.cell? ⟨lx,0,none⟩=some (.pointer (some ⟨W.heap.size+1+1+1,0,none⟩)):=by exact h.box.at 0
    have r0:wr.cell? ⟨W.heap.size+1,0,none⟩=some (.int .i64 0):=by exact h.res8.at 0
    have HAT:=hid (at_any wr (W.heap.size+1+1+1) k (lex_cell h.lex))
    by_cases hlt:k<l.length
    ·have hc := List.drop_eq_getElem_cons hlt
     have hD:=h.drew
     have hll:=HL.out
     obtain ⟨ad,hA,had,hbytes⟩:=HX.out.2 (by omega)
     have hcell:W.cell? (ad.add k)=some (.int .u8 l[k].toNat):=hbytes k (.int .u8 l[k].toNat) (by unfold byteCells;rw[List.getElem?_map,List.getElem?_eq_getElem hlt];rfl)
     have hadk:(ad.add k).block=ad.block:=by unfold Addr.add;split<;>rfl
     have HBY:=hid (fun (w':World) (hb:Below W.heap.size W w')=>show w'.cell? (ad.add k)=some (.int .u8 l[k].toNat) from (hb.cell (p:=ad.add k) (by rw[hadk];exact had)).trans hcell)
     have HPS:=hid (fun (w1:World) (v:Value) (hv:TRow w1 wr.drew.heap.size v (stepL st k l[k]).1) (t1:Touch FL wr.drew w1) l1=>part_step hD HT.out (by omega) hc (w1:=w1) (v:=v) hv t1 l1)
     have HST:=hid (step_lex wr.drew (W.heap.size+1+1+1) k FL st l[k] hD.lex (fit_alive h.fit) (HT.out.stay hD.bel (HT.out.elim fun _ h=>h.inside)) (fun hf=>by have:=(h.lbnd 0 hf).1;omega) (fun j hj=>(h.lbnd j hj).2.1) h.short (by omega))
     have HATD:=hid (at_any wr.drew (W.heap.size+1+1+1) k (lex_cell hD.lex))
     have HMU:=hid (muPa_own len h.res8)
     have HH:=hid h
     have hS0:wr.drew.cell? ⟨lx,0,none⟩=some (.pointer (some ⟨W.heap.size+1+1+1,0,none⟩))∧wr.drew.cell? (ad.add k)=some (.int .u8 l[k].toNat):=⟨bxc,HBY.out _ hD.bel⟩
     have hltI:(k:Int)<len:=by omega
     have hkI:(0:Int)≤k:=by omega
     have HLT:=hid hlt
     subst hA
     clear hc hD hll had hbytes hcell hadk h
     generalize l[k]=c at *
     clear hlt
     generalize stepL st k c=r at *
     go_upto_region 5 with (first
       | (go_at_call 20;refine HAT.out.mono ?_;rintro e w' ⟨rfl,rfl⟩))
     go_region_held3 (fun w'=>w'.cell? ⟨lx,0,none⟩=some (.pointer (some ⟨W.heap.size+1+1+1,0,none⟩))∧w'.cell? (ad.add k)=some (.int .u8 c.toNat))
       (first|(exact hS0)|(exact hS1)|(exact hS2)|(exact hS3))
       (first
         | (go_at_call 20;refine HATD.out.mono ?_;rintro e w' ⟨rfl,rfl⟩)
         | (go_at_call 21;refine HST.out.mono ?_;rintro e w1 ⟨v,rfl,h1,h2,h3⟩
            have HC1:=hid (HPS.out w1 v h1 h2 h3)
            have hS1:w1.cell? ⟨lx,0,none⟩=some (.pointer (some ⟨W.heap.size+1+1+1,0,none⟩))∧w1.cell? (ad.add k)=some (.int .u8 c.toNat):=⟨(h2.own HH.out.drew.box (fun hf=>(HH.out.lbnd lx hf).2.2.1 rfl)).at 0,HBY.out _ (HH.out.drew.bel.trans (h2.below (fun j _ hj=>by have:=(HH.out.lbnd j hj).1;omega) HH.out.drew.bel.size))⟩
            clear h1 h2 h3)
         | (go_at_call 16;refine HC1.out.mono ?_;rintro e w2 ⟨kd,at_,rfl,hb2,hbel2,ho2,hrel2,hm2⟩
            have hS2:w2.cell? ⟨lx,0,none⟩=some (.pointer (some ⟨W.heap.size+1+1+1,0,none⟩))∧w2.cell? (ad.add k)=some (.int .u8 c.toNat):=⟨hb2.at 0,HBY.out _ hbel2⟩
            have q0:=ho2.at 0
            have q1:=ho2.at 1
            simp at q0 q1
            have g0:=ho2.free 0
            have g1:=ho2.free 1
            have hlow:=HH.out.low
            have t3:=putV_touch w2 (W.heap.size+1) kd at_
            have hz:=ho2.inside
            have hS3:(putV w2 (W.heap.size+1) kd at_).cell? ⟨lx,0,none⟩=some (.pointer (some ⟨W.heap.size+1+1+1,0,none⟩))∧(putV w2 (W.heap.size+1) kd at_).cell? (ad.add k)=some (.int .u8 c.toNat):=⟨(t3.own hb2 (fun e=>by have e:lx=W.heap.size+1:=e;omega)).at 0,HBY.out _ (hbel2.trans (t3.below (fun j _ hj=>by have hj:j=W.heap.size+1:=hj;omega) hbel2.size))⟩
            unfold putV at hS3
            have HREL:=hid hrel2
            have HM3:=hid (show muPa len (W.heap.size+1) (putV w2 (W.heap.size+1) kd at_)<muPa len (W.heap.size+1) wr from by
              have hll:=HL.out
              have hlt:=HLT.out
              rw[HMU.out,muPa_own len (putV_own ho2 kd at_),if_pos trivial]
              rcases hm2 with hm|rfl
              ·rw[if_neg hm];omega
              ·split<;>omega)
            clear hrel2 hm2 t3 hlow hz ho2 hb2 hbel2))
     all_goals
       go_wp2
       go_roundw
       case rel=>exact HREL.out
       case measure=>exact HM3.out
    ·have hke:k=l.length:=by have:=h.le;omega
     have hkn:¬ (k:Int)<len:=by have:=HL.out;omega
     have hcl:=close_any wr (W.heap.size+1+1+1) k FL st h.lex (fit_alive h.fit) (by have:=HL.out;omega)
     unfold CloseEnd at hcl
     have hpc:=fun (w1:World) (v:Value) (hv:TRow w1 wr.heap.size v (closeL st k).1) (t1:Touch FL wr w1) l1=>part_close h HT.out (by have:=HL.out;omega) hke (w1:=w1) (v:=v) hv t1 l1
     have hlow:=h.low
     have bxc1:=fun (w1:World) (t1:Touch FL wr w1)=>(t1.own h.box (fun hf=>(h.lbnd lx hf).2.2.1 rfl)).at 0
     rcases (closing st n k h.fit).2 with hkd|hkd
     ·rw [hkd] at hcl hpc
      have HCL:=hid hcl
      have HPC:=hid hpc
      have HLOW:=hid hlow
      clear h hke hlt hcl hpc hkd bxc1 hlow
      go_wp2_with (first
        | (go_at_call 20;refine HAT.out.mono ?_;rintro e w' ⟨rfl,rfl⟩))
      refine HK.out _ _ ?_
      clear HK HAT
      go_upto_region 10 with (first
        | (go_at_call 22;refine HCL.out.mono ?_;rintro e w1 ⟨v,rfl,h1,h2,h3⟩
           have HC1:=hid (HPC.out w1 v h1 h2 h3)
           clear h1 h2 h3)
        | (go_at_call 16;refine HC1.out.mono ?_;rintro e w2 ⟨rfl,n',FN',hon,hns,hFN,hnxl,hbr,hci,ho2,_,hfin⟩
           have q0:=ho2.at 0
           have q1:=ho2.at 1
           simp at q0 q1
           have g0:=ho2.free 0
           have g1:=ho2.free 1
           have t3:=putV_touch w2 (W.heap.size+1) 1 k
           have o3:=putV_own ho2 1 k
           have qn:=(t3.own hon (fun e=>by have e:nx=W.heap.size+1:=e;omega)).at 0
           have hns3:=hns.move t3 (fun j _ hj e=>by have:=hFN j hj;have e:j=W.heap.size+1:=e;omega)
           have HNC:=hid (close_nst hns3 hbr hci)
           have q03:=o3.at 0
           have g03:=o3.free 0
           simp at q03 qn
           have HSTOP:=hid (hfin (closeN n') ((putV w2 (W.heap.size+1) 1 k).setCell ⟨W.heap.size+1,0,none⟩ (.int .i64 (closeN n'))) (t3.setCell (p:=⟨W.heap.size+1,0,none⟩) (.inl rfl) _) (by have:=o3.put 0 (.int .i64 (closeN n'));simpa using this) rfl)
           have HNOW:=hid (HSTOP.out.now (by have:=HL.out;omega))
           unfold putV at qn HNC q03 g03 HNOW HSTOP
           generalize closeN n'=kd at *
           clear hon hns hFN hnxl hbr hci ho2 hfin t3 o3 hns3)
        | (go_at_call 23;refine HNC.out.mono ?_;rintro e w' ⟨rfl,rfl⟩))
      go_upto_region 11 with (first
        | (go_at_call 24;refine HNOW.out.mono ?_;rintro e w5 ⟨yk,yf,yt,yx,yA,yn,yc,yB,ym,yd,o,rfl,hb5,hv5⟩
           have o6:=HSTOP.out.res6.stay hb5 HSTOP.out.res6.inside
           have o8:=HSTOP.out.res8.stay hb5 HSTOP.out.res8.inside
           have y0:=o6.at 0
           have y1:=o6.at 1
           have y2:=o6.at 2
           have y3:=o6.at 3
           have y4:=o6.at 4
           have y5:=o6.at 5
           simp[zeroV] at y0 y1 y2 y3 y4 y5
           have f0:=o6.free 0
           have f1:=o6.free 1
           have f2:=o6.free 2
           have f3:=o6.free 3
           have f4:=o6.free 4
           have f5:=o6.free 5
           have HO6:=hid o6
           have HO8:=hid o8
           have HB5:=hid hb5
           have HV5:=hid hv5
           clear o6 o8 hb5 hv5))
      change Code.wp _ _ _ _ (put6 w5 W.heap.size ⟨yk,yf,yt,yx,yA,yn,yc,yB,ym,yd⟩)
      rename_i hK2
      have HK2:=hid hK2
      clear hK2
      have hs5:=HO8.out.inside
      have tP:=put6_touch w5 W.heap.size ⟨yk,yf,yt,yx,yA,yn,yc,yB,ym,yd⟩
      have o6P:=put6_own HO6.out ⟨yk,yf,yt,yx,yA,yn,yc,yB,ym,yd⟩
      have o8P:=tP.own HO8.out (fun e=>by have e:W.heap.size+1=W.heap.size:=e;omega)
      clear y0 y1 y2 y3 y4 y5 f0 f1 f2 f3 f4 f5
      generalize put6 w5 W.heap.size ⟨yk,yf,yt,yx,yA,yn,yc,yB,ym,yd⟩=wP at tP o6P o8P ⊢
      have tQ:=put6_touch wP W.heap.size ⟨yk,yf,yt,yx,yA,yn,yc,yB,ym,yd⟩
      have q6:=put6_own' o6P ⟨yk,yf,yt,yx,yA,yn,yc,yB,ym,yd⟩
      have q8:=tQ.own o8P (fun e=>by have e:W.heap.size+1=W.heap.size:=e;omega)
      have tR:=putV_touch (put6 wP W.heap.size ⟨yk,yf,yt,yx,yA,yn,yc,yB,ym,yd⟩) (W.heap.size+1) kd k
      have z8:=putV_own q8 kd k
      have z6:=tR.own q6 (fun e=>by have e:W.heap.size=W.heap.size+1:=e;omega)
      have hS0:=six_two o6P o8P
      have f0:=o6P.free 0
      have f1:=o6P.free 1
      have f2:=o6P.free 2
      have f3:=o6P.free 3
      have f4:=o6P.free 4
      have f5:=o6P.free 5
      have g0:=o8P.free 0
      have g1:=o8P.free 1
      have FIN:=part_fin HSTOP.out o HB5.out HV5.out (((tP.mono (G:=fun q=>q=W.heap.size∨q=W.heap.size+1) (fun q _ e=>.inl e)).trans ((tQ.mono (G:=fun q=>q=W.heap.size∨q=W.heap.size+1) (fun q _ e=>.inl e)).trans (tR.mono (G:=fun q=>q=W.heap.size∨q=W.heap.size+1) (fun q _ e=>.inr e)) (fun _ _ h=>h)) (fun _ _ h=>h)).drew1)
      have Z6:=hid (own_drew z6)
      have Z8:=hid (own_drew z8)
      unfold putV put6 at FIN Z6 Z8
      dsimp only at hS0 FIN Z6 Z8
      obtain ⟨y0,y1,y2,y3,y4,y5,r0,r1⟩:=hS0
      have HFIN:=hid FIN
      clear tP o6P o8P tQ q6 q8 tR z8 z6 FIN HO6 HO8 HB5 HV5 HNOW HSTOP hs5
      go_region
      all_goals
        try go_wp2
        refine HK2.out _ _ ?_
        go_wp2
        refine bodyPost_ret (results_ctc rfl _ _ W.heap.size _ _ (0,0) _ (W.heap.size+1) _ _ (0,0) _ rfl Z6.out Tryz.underlying27 rfl val_size rfl Z8.out Tryz.underlying29 rfl verd_size) rfl ?_
        exact HFIN.out
     ·rw [hkd] at hcl hpc
      have HCL:=hid hcl
      have HPC:=hid hpc
      have HLOW:=hid hlow
      clear h hke hlt hcl hpc hkd bxc1 hlow
      go_wp2_with (first
        | (go_at_call 20;refine HAT.out.mono ?_;rintro e w' ⟨rfl,rfl⟩))
      refine HK.out _ _ ?_
      clear HK HAT
      go_upto_region 10 with (first
        | (go_at_call 22;refine HCL.out.mono ?_;rintro e w1 ⟨v,rfl,h1,h2,h3⟩
           have HC1:=hid (HPC.out w1 v h1 h2 h3)
           clear h1 h2 h3)
        | (go_at_call 16;refine HC1.out.mono ?_;rintro e w2 ⟨rfl,n',FN',hon,hns,hFN,hnxl,hbr,hci,ho2,_,hfin⟩
           have q0:=ho2.at 0
           have q1:=ho2.at 1
           simp at q0 q1
           have g0:=ho2.free 0
           have g1:=ho2.free 1
           have HSTOP:=hid (hfin 10 (putV w2 (W.heap.size+1) 10 k) (putV_touch w2 (W.heap.size+1) 10 k) (putV_own ho2 10 k) (by simp))
           have HNOW:=hid (HSTOP.out.now (by have:=HL.out;omega))
           unfold putV at HNOW HSTOP
           clear hon hns hFN hnxl hbr hci ho2 hfin))
      go_upto_region 11 with (first
        | (go_at_call 24;refine HNOW.out.mono ?_;rintro e w5 ⟨yk,yf,yt,yx,yA,yn,yc,yB,ym,yd,o,rfl,hb5,hv5⟩
           have o6:=HSTOP.out.res6.stay hb5 HSTOP.out.res6.inside
           have o8:=HSTOP.out.res8.stay hb5 HSTOP.out.res8.inside
           have y0:=o6.at 0
           have y1:=o6.at 1
           have y2:=o6.at 2
           have y3:=o6.at 3
           have y4:=o6.at 4
           have y5:=o6.at 5
           simp[zeroV] at y0 y1 y2 y3 y4 y5
           have f0:=o6.free 0
           have f1:=o6.free 1
           have f2:=o6.free 2
           have f3:=o6.free 3
           have f4:=o6.free 4
           have f5:=o6.free 5
           have HO6:=hid o6
           have HO8:=hid o8
           have HB5:=hid hb5
           have HV5:=hid hv5
           clear o6 o8 hb5 hv5))
      change Code.wp _ _ _ _ (put6 w5 W.heap.size ⟨yk,yf,yt,yx,yA,yn,yc,yB,ym,yd⟩)
      rename_i hK2
      have HK2:=hid hK2
      clear hK2
      have hs5:=HO8.out.inside
      have tP:=put6_touch w5 W.heap.size ⟨yk,yf,yt,yx,yA,yn,yc,yB,ym,yd⟩
      have o6P:=put6_own HO6.out ⟨yk,yf,yt,yx,yA,yn,yc,yB,ym,yd⟩
      have o8P:=tP.own HO8.out (fun e=>by have e:W.heap.size+1=W.heap.size:=e;omega)
      clear y0 y1 y2 y3 y4 y5 f0 f1 f2 f3 f4 f5
      generalize put6 w5 W.heap.size ⟨yk,yf,yt,yx,yA,yn,yc,yB,ym,yd⟩=wP at tP o6P o8P ⊢
      have tQ:=put6_touch wP W.heap.size ⟨yk,yf,yt,yx,yA,yn,yc,yB,ym,yd⟩
      have q6:=put6_own' o6P ⟨yk,yf,yt,yx,yA,yn,yc,yB,ym,yd⟩
      have q8:=tQ.own o8P (fun e=>by have e:W.heap.size+1=W.heap.size:=e;omega)
      have tR:=putV_touch (put6 wP W.heap.size ⟨yk,yf,yt,yx,yA,yn,yc,yB,ym,yd⟩) (W.heap.size+1) 10 k
      have z8:=putV_own q8 10 k
      have z6:=tR.own q6 (fun e=>by have e:W.heap.size=W.heap.size+1:=e;omega)
      have hS0:=six_two o6P o8P
      have f0:=o6P.free 0
      have f1:=o6P.free 1
      have f2:=o6P.free 2
      have f3:=o6P.free 3
      have f4:=o6P.free 4
      have f5:=o6P.free 5
      have g0:=o8P.free 0
      have g1:=o8P.free 1
      have FIN:=part_fin HSTOP.out o HB5.out HV5.out (((tP.mono (G:=fun q=>q=W.heap.size∨q=W.heap.size+1) (fun q _ e=>.inl e)).trans ((tQ.mono (G:=fun q=>q=W.heap.size∨q=W.heap.size+1) (fun q _ e=>.inl e)).trans (tR.mono (G:=fun q=>q=W.heap.size∨q=W.heap.size+1) (fun q _ e=>.inr e)) (fun _ _ h=>h)) (fun _ _ h=>h)).drew1)
      have Z6:=hid (own_drew z6)
      have Z8:=hid (own_drew z8)
      unfold putV put6 at FIN Z6 Z8
      dsimp only at hS0 FIN Z6 Z8
      obtain ⟨y0,y1,y2,y3,y4,y5,r0,r1⟩:=hS0
      have HFIN:=hid FIN
      clear tP o6P o8P tQ q6 q8 tR z8 z6 FIN HO6 HO8 HB5 HV5 HNOW HSTOP hs5
      go_region
      all_goals
        try go_wp2
        refine HK2.out _ _ ?_
        go_wp2
        refine bodyPost_ret (results_ctc rfl _ _ W.heap.size _ _ (0,0) _ (W.heap.size+1) _ _ (0,0) _ rfl Z6.out Tryz.underlying27 rfl val_size rfl Z8.out Tryz.underlying29 rfl verd_size) rfl ?_
        exact HFIN.out
   ·have r0:wr.cell? ⟨W.heap.size+1,0,none⟩=some (.int .i64 kd):=by exact h.res8.at 0
    have hkb:(kd==0)=false:=beq_eq_false_iff_ne.2 h.k0
    have HSTOP:=hid h
    have HNOW:=hid (h.now (by have:=HL.out;omega))
    clear h hk1
    go_wp2
    refine HK.out _ _ ?_
    clear HK
    go_upto_region 11 with (first
      | (go_at_call 24;refine HNOW.out.mono ?_;rintro e w5 ⟨yk,yf,yt,yx,yA,yn,yc,yB,ym,yd,o,rfl,hb5,hv5⟩
         have o6:=HSTOP.out.res6.stay hb5 HSTOP.out.res6.inside
         have o8:=HSTOP.out.res8.stay hb5 HSTOP.out.res8.inside
         have y0:=o6.at 0
         have y1:=o6.at 1
         have y2:=o6.at 2
         have y3:=o6.at 3
         have y4:=o6.at 4
         have y5:=o6.at 5
         simp[zeroV] at y0 y1 y2 y3 y4 y5
         have f0:=o6.free 0
         have f1:=o6.free 1
         have f2:=o6.free 2
         have f3:=o6.free 3
         have f4:=o6.free 4
         have f5:=o6.free 5
         have HO6:=hid o6
         have HO8:=hid o8
         have HB5:=hid hb5
         have HV5:=hid hv5
         clear o6 o8 hb5 hv5))
    change Code.wp _ _ _ _ (put6 w5 W.heap.size ⟨yk,yf,yt,yx,yA,yn,yc,yB,ym,yd⟩)
    rename_i hK2
    have HK2:=hid hK2
    clear hK2
    have hs5:=HO8.out.inside
    have tP:=put6_touch w5 W.heap.size ⟨yk,yf,yt,yx,yA,yn,yc,yB,ym,yd⟩
    have o6P:=put6_own HO6.out ⟨yk,yf,yt,yx,yA,yn,yc,yB,ym,yd⟩
    have o8P:=tP.own HO8.out (fun e=>by have e:W.heap.size+1=W.heap.size:=e;omega)
    clear y0 y1 y2 y3 y4 y5 f0 f1 f2 f3 f4 f5
    generalize put6 w5 W.heap.size ⟨yk,yf,yt,yx,yA,yn,yc,yB,ym,yd⟩=wP at tP o6P o8P ⊢
    have tQ:=put6_touch wP W.heap.size ⟨yk,yf,yt,yx,yA,yn,yc,yB,ym,yd⟩
    have q6:=put6_own' o6P ⟨yk,yf,yt,yx,yA,yn,yc,yB,ym,yd⟩
    have q8:=tQ.own o8P (fun e=>by have e:W.heap.size+1=W.heap.size:=e;omega)
    have tR:=putV_touch (put6 wP W.heap.size ⟨yk,yf,yt,yx,yA,yn,yc,yB,ym,yd⟩) (W.heap.size+1) kd at_
    have z8:=putV_own q8 kd at_
    have z6:=tR.own q6 (fun e=>by have e:W.heap.size=W.heap.size+1:=e;omega)
    have hS0:=six_two o6P o8P
    have f0:=o6P.free 0
    have f1:=o6P.free 1
    have f2:=o6P.free 2
    have f3:=o6P.free 3
    have f4:=o6P.free 4
    have f5:=o6P.free 5
    have g0:=o8P.free 0
    have g1:=o8P.free 1
    have FIN:=part_fin HSTOP.out o HB5.out HV5.out (((tP.mono (G:=fun q=>q=W.heap.size∨q=W.heap.size+1) (fun q _ e=>.inl e)).trans ((tQ.mono (G:=fun q=>q=W.heap.size∨q=W.heap.size+1) (fun q _ e=>.inl e)).trans (tR.mono (G:=fun q=>q=W.heap.size∨q=W.heap.size+1) (fun q _ e=>.inr e)) (fun _ _ h=>h)) (fun _ _ h=>h)).drew1)
    have Z6:=hid (own_drew z6)
    have Z8:=hid (own_drew z8)
    unfold putV put6 at FIN Z6 Z8
    dsimp only at hS0 FIN Z6 Z8
    obtain ⟨y0,y1,y2,y3,y4,y5,r0,r1⟩:=hS0
    have HFIN:=hid FIN
    clear tP o6P o8P tQ q6 q8 tR z8 z6 FIN HO6 HO8 HB5 HV5 HNOW HSTOP hs5
    go_region
    all_goals
      try go_wp2
      refine HK2.out _ _ ?_
      go_wp2
      refine bodyPost_ret (results_ctc rfl _ _ W.heap.size _ _ (0,0) _ (W.heap.size+1) _ _ (0,0) _ rfl Z6.out Tryz.underlying27 rfl val_size rfl Z8.out Tryz.underlying29 rfl verd_size) rfl ?_
      exact HFIN.out
end
section
open Go.RowKit
theorem results_cc {P:Program} {fn:Func} {p q:Tmp} {ty tz:TypeId} (h:fn.results = #[.cell p ty,.cell q tz]) (tmps:Array Value) (w:World) (g:Nat) (T:TypeId) (cs:Array Value) (fr:Nat×Nat) (d:TypeDesc) (g':Nat) (T':TypeId) (cs':Array Value) (fr':Nat×Nat) (d':TypeDesc)
   (hp:tmps.getD p undef=.pointer (some ⟨g,0,none⟩)) (hg:w.heap[g]?=some (.cells cs T fr)) (hu:P.underlying ty=some d) (hd:(match d with | .struct _ | .array _ _=>true|_=>false)=true) (hi:(P.info? ty).map (·.size)=some cs.size)
   (hp':tmps.getD q undef=.pointer (some ⟨g',0,none⟩)) (hg':w.heap[g']?=some (.cells cs' T' fr')) (hu':P.underlying tz=some d') (hd':(match d' with | .struct _ | .array _ _=>true|_=>false)=true) (hi':(P.info? tz).map (·.size)=some cs'.size) :
   (results fn tmps).run P w=.ok (.tuple #[.agg cs,.agg cs']) w:=by
 have h1:tmps[p]?.getD undef=.pointer (some ⟨g,0,none⟩):=by simpa using hp
 have h2:tmps[q]?.getD undef=.pointer (some ⟨g',0,none⟩):=by simpa using hp'
 simp[results,h,h1,h2,asAddr,run_loadVar_row w g T ty cs fr d hg hu hd hi,run_loadVar_row w g' T' tz cs' fr' d' hg' hu' hd' hi',Result.andThen]
theorem own_two {w w3:World}{b:Nat}{T:TypeId}{cs:Array Value}(h:Own w b T cs)(hb:Below w.heap.size w w3)(o p:Obj):Own ((w3.alloc o).alloc p) b T cs:=((h.stay hb h.inside).over o).over p
theorem fresh_one (w:World)(T:TypeId)(cs:Array Value)(p:Obj):Own ((w.alloc (.cells cs T)).alloc p) w.heap.size T cs:=(Own.fresh w T cs).over p
theorem fresh_two (w:World) (T:TypeId) (cs:Array Value) (o:Obj):Own ((w.alloc o).alloc (.cells cs T)) (w.heap.size+1) T cs:=by
 have:=Own.fresh (w.alloc o) T cs
 rwa [show (w.alloc o).heap.size=w.heap.size+1 by simp] at this
def ParseEnd (kk:Int)(pp:Nat)(tr:Tree)(w:World)(e:Ending)(w':World):Prop:=∃ x:V6,e=.returned (.tuple #[.agg (v6Cells x).toArray,.agg #[.int .i64 kk,.int .i64 pp]])∧(kk=1→VIs w' tr x)∧Below w.heap.size w w'
theorem parse_any (A : Option Addr) (len cap:Nat) (l:List UInt8) (d:Int) (W:World) (hx:Rd W W.heap.size A len (byteCells l)) (h2:len≤100000000) (d1:1≤d) (d2:d≤1000) (hT:Tab W) :
   Calls Tryz.prog 5 #[.slice A len cap,.int .i64 d] W (ParseEnd (parseP l d).2.1 (parseP l d).2.2 (treeP l d) W):=by
 have hb:Below W.heap.size W ((W.alloc (.cells zeroV.toArray 27)).alloc (.cells #[.int .i64 0,.int .i64 0] 29)):=((Below.refl _ _).alloc (Nat.le_refl _) _).alloc (by simp) _
 have hp:=part_any A len cap l d ((W.alloc (.cells zeroV.toArray 27)).alloc (.cells #[.int .i64 0,.int .i64 0] 29)) ((hx.stay hb).more hb.size) h2 d1 d2 (hT.stay hb (hT.elim fun _ h=>h.inside))
 have o4:=fresh_one W 27 zeroV.toArray (.cells #[.int .i64 0,.int .i64 0] 29)
 have o5:=fresh_two W 29 #[.int .i64 0,.int .i64 0] (.cells zeroV.toArray 27)
 have zz:((W.alloc (.cells zeroV.toArray 27)).alloc (.cells #[.int .i64 0,.int .i64 0] 29)).heap.size=W.heap.size+2:=by simp
 unfold PartEnd at hp
 generalize (parseP l d).2.1=kk at hp ⊢
 generalize (parseP l d).2.2=pp at hp ⊢
 generalize treeP l d=tr at hp ⊢
 have HP:=hid hp
 have HB:=hid hb
 have HO4:=hid o4
 have HO5:=hid o5
 have HZ:=hid zz
 clear hp hb hx hT o4 o5 zz
 unfold zeroV at HP HB HO4 HO5 HZ
 go_enter Tryz.func5,Tryz.ntmps5
 go_upto_region 2 with (go_at_call 10;refine HP.out.mono ?_;rintro e w3 ⟨yk,yf,yt,yx,yA,yn,yc,yB,ym,yd,o,rfl,hv,hb3⟩
                        have HV:=hid hv
                        have HB3:=hid hb3
                        clear hv hb3)
 change Code.wp _ _ _ _ ((w3.alloc (.cells #[.int .i64 yk,.int .i64 yf,.int .i64 yt,.string ⟨yx.toArray⟩,.slice yA yn yc,.slice yB ym yd] 27)).alloc (.cells #[.int .i64 kk,.int .i64 pp] 29))
 have o4:Own _ W.heap.size 27 (v6Cells zeroX).toArray:=own_two HO4.out HB3.out (.cells #[.int .i64 yk,.int .i64 yf,.int .i64 yt,.string ⟨yx.toArray⟩,.slice yA yn yc,.slice yB ym yd] 27) (.cells #[.int .i64 kk,.int .i64 pp] 29)
 have o5:=own_two HO5.out HB3.out (.cells #[.int .i64 yk,.int .i64 yf,.int .i64 yt,.string ⟨yx.toArray⟩,.slice yA yn yc,.slice yB ym yd] 27) (.cells #[.int .i64 kk,.int .i64 pp] 29)
 have o6:=fresh_one w3 27 #[.int .i64 yk,.int .i64 yf,.int .i64 yt,.string ⟨yx.toArray⟩,.slice yA yn yc,.slice yB ym yd] (.cells #[.int .i64 kk,.int .i64 pp] 29)
 have o8:=fresh_two w3 29 #[.int .i64 kk,.int .i64 pp] (.cells #[.int .i64 yk,.int .i64 yf,.int .i64 yt,.string ⟨yx.toArray⟩,.slice yA yn yc,.slice yB ym yd] 27)
 have b4:Below w3.heap.size w3 ((w3.alloc (.cells #[.int .i64 yk,.int .i64 yf,.int .i64 yt,.string ⟨yx.toArray⟩,.slice yA yn yc,.slice yB ym yd] 27)).alloc (.cells #[.int .i64 kk,.int .i64 pp] 29)):=((Below.refl _ _).alloc (Nat.le_refl _) _).alloc (by simp) _
 have hsz:W.heap.size+2≤w3.heap.size:=by have:=HB3.out.size;have:=HZ.out;omega
 generalize (w3.alloc (.cells #[.int .i64 yk,.int .i64 yf,.int .i64 yt,.string ⟨yx.toArray⟩,.slice yA yn yc,.slice yB ym yd] 27)).alloc (.cells #[.int .i64 kk,.int .i64 pp] 29)=wP at o4 o5 o6 o8 b4 ⊢
 have x0:=o6.at 0
 have x1:=o6.at 1
 have x2:=o6.at 2
 have x3:=o6.at 3
 have x4:=o6.at 4
 have x5:=o6.at 5
 simp at x0 x1 x2 x3 x4 x5
 have r0:=o8.at 0
 have r1:=o8.at 1
 simp at r0 r1
 have y0:=o4.at 0
 have y1:=o4.at 1
 have y2:=o4.at 2
 have y3:=o4.at 3
 have y4:=o4.at 4
 have y5:=o4.at 5
 simp[v6Cells,zeroX] at y0 y1 y2 y3 y4 y5
 have f0:=o4.free 0
 have f1:=o4.free 1
 have f2:=o4.free 2
 have f3:=o4.free 3
 have f4:=o4.free 4
 have f5:=o4.free 5
 have s0:=o5.at 0
 have s1:=o5.at 1
 simp at s0 s1
 have g0:=o5.free 0
 have g1:=o5.free 1
 -- the end, whatever is stored
 have END:=hid (fun (x:V6)=>show Own (putV (put6 wP W.heap.size x) (W.heap.size+1) kk pp) W.heap.size 27 (v6Cells x).toArray∧Own (putV (put6 wP W.heap.size x) (W.heap.size+1) kk pp) (W.heap.size+1) 29 #[.int .i64 kk,.int .i64 pp]∧Touch (fun q=>q=W.heap.size∨q=W.heap.size+1) wP (putV (put6 wP W.heap.size x) (W.heap.size+1) kk pp) from by
   have t1:=put6_touch wP W.heap.size x
   have t2:=putV_touch (put6 wP W.heap.size x) (W.heap.size+1) kk pp
   exact ⟨t2.own (put6_own' o4 x) (fun e=>by have e:W.heap.size=W.heap.size+1:=e;omega),putV_own (t1.own o5 (fun e=>by have e:W.heap.size+1=W.heap.size:=e;omega)) kk pp,(t1.mono (G:=fun q=>q=W.heap.size∨q=W.heap.size+1) (fun q _ e=>.inl e)).trans (t2.mono (G:=fun q=>q=W.heap.size∨q=W.heap.size+1) (fun q _ e=>.inr e)) (fun _ _ h=>h)⟩)
 have FIN:=hid (fun (x:V6) (w9:World) (t:Touch (fun q=>q=W.heap.size∨q=W.heap.size+1) wP w9) (hv:kk=1→x=⟨yk,yf,yt,yx,yA,yn,yc,yB,ym,yd⟩)=>show (kk=1→VIs w9 tr x)∧Below W.heap.size W w9 from by
   have hzz:=HZ.out
   have hb4s:=b4.size
   have hB:=(HB.out.trans (HB3.out.mono HB.out.size)).trans (b4.mono (by omega))
   refine ⟨fun hk => ?_,hB.trans (t.below (fun q _ hq=>by rcases hq with e|e<;>omega) (by omega))⟩
   rw[hv hk]
   exact HV.out hk w9 (Nat.le_trans hb4s t.size) (fun q hq hql=>(t.block q (by omega) (fun e=>by rcases e with e|e<;>omega)).trans (b4.block q hql)))
 have n1:¬ w3.heap.size=W.heap.size:=by omega
 have n2:¬ w3.heap.size=W.heap.size+1:=by omega
 have n3:¬ w3.heap.size+1=W.heap.size:=by omega
 have n4:¬ w3.heap.size+1=W.heap.size+1:=by omega
 have n5:¬ W.heap.size=w3.heap.size:=by omega
 have n6:¬ W.heap.size+1=w3.heap.size:=by omega
 have n7:¬ W.heap.size=w3.heap.size+1:=by omega
 have n8:¬ W.heap.size+1=w3.heap.size+1:=by omega
 clear o4 o5 o6 o8 HP HB HO4 HO5 HZ HB3 HV b4 hsz
 by_cases hk:kk=1
 ·subst hk
  go_upto_region 4 with fail
  go_region
  rename_i hK
  obtain ⟨e6,e8,et⟩:=END.out ⟨yk,yf,yt,yx,yA,yn,yc,yB,ym,yd⟩
  have h9:=FIN.out ⟨yk,yf,yt,yx,yA,yn,yc,yB,ym,yd⟩ _ (Touch.drew1 et) (fun _=>rfl)
  have Z6:=own_drew e6
  have Z8:=own_drew e8
  unfold putV put6 at Z6 Z8 h9
  dsimp only at Z6 Z8 h9
  have HZ6:=hid Z6
  have HZ8:=hid Z8
  have H9:=hid h9
  clear x0 x1 x2 x3 x4 x5 y0 y1 y2 y3 y4 y5 f0 f1 f2 f3 f4 f5 g0 g1 r0 r1 s0 s1 n1 n2 n3 n4 n5 n6 n7 n8 e6 e8 et h9 Z6 Z8 END FIN
  refine hK _ _ ?_
  go_wp2
  refine bodyPost_ret (results_cc rfl _ _ W.heap.size _ _ (0,0) _ (W.heap.size+1) _ _ (0,0) _ rfl HZ6.out Tryz.underlying27 rfl val_size rfl HZ8.out Tryz.underlying29 rfl verd_size) rfl ?_
  exact ⟨⟨yk,yf,yt,yx,yA,yn,yc,yB,ym,yd⟩,rfl,fun _=>H9.out.1 trivial,H9.out.2⟩
 ·have hkb:(kk != 1)=true:=bne_iff_ne.2 hk
  go_upto_region 3 with fail
  go_region
  rename_i hK
  obtain ⟨e6,e8,et⟩:=END.out zeroX
  have h9:=FIN.out zeroX _ (Touch.drew1 et) (fun h=>absurd h hk)
  have Z6:=own_drew e6
  have Z8:=own_drew e8
  unfold putV put6 at Z6 Z8 h9
  try dsimp only [zeroX] at Z6
  try dsimp only [zeroX] at Z8
  try dsimp only [zeroX] at h9
  have HZ6:=hid Z6
  have HZ8:=hid Z8
  have H9:=hid h9
  clear x0 x1 x2 x3 x4 x5 y0 y1 y2 y3 y4 y5 f0 f1 f2 f3 f4 f5 g0 g1 r0 r1 s0 s1 n1 n2 n3 n4 n5 n6 n7 n8 e6 e8 et h9 Z6 Z8 END FIN
  refine hK _ _ ?_
  go_wp2
  refine bodyPost_ret (results_cc rfl _ _ W.heap.size _ _ (0,0) _ (W.heap.size+1) _ _ (0,0) _ rfl HZ6.out Tryz.underlying27 rfl val_size rfl HZ8.out Tryz.underlying29 rfl verd_size) rfl ?_
  exact ⟨zeroX,rfl,H9.out.1,H9.out.2⟩
end
end Go.Proofs.YtbpilcklglhloaaGreatDoor
