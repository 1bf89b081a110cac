/- Lemmas. -/
import Derived.Test.YtbpilcklglhloaaGreatDoorJ15
import Derived.Deep.CutRange
import Derived.Deep.CutBlock
set_option maxRecDepth 100000
set_option maxHeartbeats 8000000
set_option linter.unusedVariables false
namespace Go.Proofs.YtbpilcklglhloaaGreatDoor
open Go.Lib (hid)
section
open Go.RowKit
theorem AtSm.last {R:Bool} {W wr:World} {base:Nat} {rest:List Pr} {e:Pr} {v:Value} (h:AtSm R W wr base (rest++[e]) v) :
   ∃ g c:Nat,v=.slice (some ⟨g,0,none⟩) (rest.length+1) c∧rest.length+1≤c∧base≤g∧g<wr.heap.size∧wr.cell? ⟨g,rest.length*2,none⟩=some (.pointer (some e.p))∧wr.cell? ⟨g,rest.length*2+1,none⟩=some (.pointer (some e.q)) ∧
     GRow pairK wr base (.slice (some ⟨g,0,none⟩) rest.length c) (prRow rest)∧PrOk W e∧(∀ d∈rest,PrOk W d):=by
 have hl:(prRow (rest++[e])).length=rest.length+1:=by simp[prRow]
 obtain ⟨A,c,rfl,hc,_,hg⟩:=h.row.form
 obtain ⟨g,rfl,hb,hlt⟩:=hg (by omega)
 have hr:=h.row
 rw[hl] at hc hr ⊢
 have hx:(prRow (rest++[e]))[rest.length]?=some (e.p,e.q):=by
   unfold prRow
   rw[List.map_append,List.getElem?_append_right (by simp)]
   simp
 have h0:=(hr.rd).at rfl hx (j:=0) rfl
 have h1:=(hr.rd).at rfl hx (j:=1) rfl
 simp[show pairK.n=2 from rfl] at h0 h1
 have hcut:=hr.cut (k:=rest.length) (by omega)
 have e1:(prRow (rest++[e])).take rest.length=prRow rest:=by
   unfold prRow
   rw[List.map_append,List.take_append_of_le_length (by simp),List.take_of_length_le (by simp)]
 rw[e1] at hcut
 exact ⟨g,c,rfl,hc,hb,hlt,h0,h1,hcut,h.ok e (by simp),fun d hd=>h.ok d (by simp[hd])⟩
theorem bel_drewN {B:Nat}{w w':World}(h:Below B w w')(q:Nat):Below B w (w'.drewN q):=⟨h.os,h.tape,h.output,h.size,h.block⟩
theorem AtSk.next {W wr w0 w9:World} {base pb:Nat} {rest ks:List (Addr×Addr)} {p q:Addr} {k:Nat} {v v9:Value} {d:Addr×Addr} (h:AtSk W wr base pb rest ks p q k v) (hk:k+1≤ks.length) (he:ks.take (k+1)=ks.take k++[d]) (hb:Below wr.heap.size wr w0) (hW:W.heap.size≤base)
   (row:GRow pairK w9 base v9 (rest++ks.take k++[d])) (hg:w0.grownBy w9 v.ownBlock) (ha:v9.ownBlock=v.ownBlock∨v9.ownBlock=some w0.heap.size):AtSk W w9 base pb rest ks p q (k+1) v9:=by
 have hs:=hb.size
 have ht:Touch (fun j=>v.ownBlock=some j) w0 w9:=(Touch.refl _ w0).grown hg (fun j e=>.inl e)
 refine ⟨hk,by rw[he,← List.append_assoc];exact row,fun g hg => ?_,?_,?_⟩
 ·rcases ha with e|e
  ·exact h.off g (e▸hg)
  ·have:=h.own.inside
   rw[e] at hg
   injection hg with hg
   omega
 ·exact ht.own (h.own.stay hb h.own.inside) (fun e=>h.off pb e rfl)
 ·have hbs:=h.bel.size
  exact (h.bel.trans (hb.mono hbs)).trans (ht.below (fun j _ e=>by have:=(h.row.low e).1;omega) (by omega))
theorem same_any (t u : Tree) (x y:V6) (W:World) (hx:VIs W t x) (hy:VIs W u y) (hz:sizeT t≤420000000) :
   Calls Tryz.prog 8 #[.agg (v6Cells x).toArray,.agg (v6Cells y).toArray] W fun e w'=>e=.returned (.bool (sameT t u))∧Below W.heap.size W w':=by
 obtain ⟨W1,hW1⟩:∃ W1,W1=(W.alloc (.cells (v6Cells x).toArray 27)).alloc (.cells (v6Cells y).toArray 27):=⟨_,rfl⟩
 have hb1:Below W.heap.size W W1:=by subst hW1;exact below2 _ _ _
 have hs1:W1.heap.size=W.heap.size+2:=by subst hW1;simp
 have o1:Own W1 W.heap.size 27 (v6Cells x).toArray:=by subst hW1;exact (Own.fresh _ _ _).over _
 have o2:Own W1 (W.heap.size+1) 27 (v6Cells y).toArray:=by
   subst hW1
   have:=Own.fresh (W.alloc (.cells (v6Cells x).toArray 27)) 27 (v6Cells y).toArray
   rwa [show (W.alloc (.cells (v6Cells x).toArray 27)).heap.size=W.heap.size+1 by simp] at this
 have H0:AtSm (sameT t u) W1 (W1.alloc (.cells #[.pointer (some ⟨W.heap.size,0,none⟩),.pointer (some ⟨W.heap.size+1,0,none⟩)] 41)) W1.heap.size [⟨⟨W.heap.size,0,none⟩,t,x,⟨W.heap.size+1,0,none⟩,u,y⟩] (.slice (some ⟨W1.heap.size,0,none⟩) 1 1):=by
   refine ⟨GRow.made (K:=pairK) (l:=[(⟨W.heap.size,0,none⟩,⟨W.heap.size+1,0,none⟩)]) W1 _ rfl (by simp[maxLen]) (Nat.le_refl _),fun e he => ?_,(Below.refl _ _).alloc (Nat.le_refl _) _,by simp[prSame]⟩
   obtain rfl:e=_:=by simpa using he
   exact ⟨CellsAt.of_own o1,hx.stay hb1,CellsAt.of_own o2,hy.stay hb1⟩
 have HB1:=hid hb1
 have HZ:=hid hz
 have HS1:=hid hs1
 have hp0:prSize [⟨⟨W.heap.size,0,none⟩,t,x,⟨W.heap.size+1,0,none⟩,u,y⟩]=sizeT t:=by simp[prSize]
 have H0':=hid (show RelSm (sameT t u) W1 W1.heap.size (sizeT t) (.slice (some ⟨W1.heap.size,0,none⟩) 1 1) _ from ⟨_,hp0,hz,H0⟩)
 generalize sameT t u=R at *
 generalize sizeT t=z0 at *
 generalize (v6Cells x).toArray=cx at *
 generalize (v6Cells y).toArray=cy at *
 clear hx hy hb1 hs1 o1 o2 H0 hp0 hz
 have e1:(W.alloc (.cells cx 27)).heap.size=W.heap.size+1:=by simp
 go_enter Tryz.func8,Tryz.ntmps8
 go_wp2
 rw[← hW1]
 rw[show W.heap.size+1+1=W1.heap.size by rw[HS1.out]]
 generalize hw3:World.alloc W1 _=w3
 rw[hw3] at H0'
 clear hw3 hW1 e1
 go_loopg [5] z0 (fun k v wr=>RelSm R W1 W1.heap.size k v wr)
 case atStart=>exact H0'.out
 case round =>
   obtain ⟨es,hk,hk9,hat⟩:=hrel
   rcases List.eq_nil_or_concat es with rfl|⟨rest,e,rfl⟩
   ·obtain ⟨A,c,rfl,_⟩:=hat.row.form
    have hR:=hid hat.same
    have hbl:=hid hat.bel
    clear hat hk hk9
    go_wp2
    go_ret
    exact ⟨by rw[hR.out];rfl,HB1.out.trans (hbl.out.mono (by have:=HS1.out;omega))⟩
   ·rw [List.concat_eq_append] at hat hk
    obtain ⟨g,c,rfl,hc,hgb,hg,d0,d1,hcut,hoke,hokr⟩:=hat.last
    obtain ⟨ts,us,xs,ys,nt,nu,rA,rB,lt,lu,rn,rm,hse,hsm⟩:=hoke.parts
    have hszr:=prSize_app rest [e]
    have hR:=hat.same
    rw[prSame_app] at hR
    have hone:prSame [e]=sameT e.t e.u:=by simp[prSame]
    have hone2:prSize [e]=sizeT e.t:=by simp[prSize]
    rw[hone,hsm] at hR
    have hrl:=prSize_len rest
    have hxn:e.x.n=ts.length:=by rw[← rA.1,lt.len]
    have hyn:e.y.n=us.length:=by rw[← rB.1,lu.len]
    obtain ⟨cp,_,cq,_⟩:=hoke
    have hbel:=hat.bel
    have hnt:nt.length≤1000000000:=by omega
    obtain ⟨n1,hn1⟩:∃ n,n=rest.length+1:=⟨_,rfl⟩
    rw[← hn1]
    have s1:(n1:Int)-1=(rest.length:Int):=by omega
    have s2:(0:Int)≤(rest.length:Int):=by omega
    have s3:(rest.length:Int)<n1:=by omega
    have s4:(n1:Int)≤420000001:=by omega
    have s5:(n1:Int)≤c:=by omega
    have s6:(rest.length:Int)≤c:=by omega
    have s7:(0:Int)<(n1:Int):=by omega
    obtain ⟨w1,hw1⟩:∃ w1,w1=wr.alloc (.cells #[.pointer (some e.p),.pointer (some e.q)] 41):=⟨_,rfl⟩
    have hbw:Below wr.heap.size wr w1:=by subst hw1;exact (Below.refl _ _).alloc (Nat.le_refl _) _
    have hb2:Below W1.heap.size W1 w1:=hbel.trans (hbw.mono hbel.size)
    have hsz1:w1.heap.size=wr.heap.size+1:=by subst hw1;simp
    have hpo:Own w1 wr.heap.size 41 #[.pointer (some e.p),.pointer (some e.q)]:=by subst hw1;exact Own.fresh _ _ _
    have hcut1:=hcut.stay (w':=w1) (fun j hj=>hbw.block j (hcut.low hj).2)
    have HA:=hid (alike_any e.x e.y nt nu e.p e.q w1 (cp.below hb2) (cq.below hb2) (rn.below hb2) (rm.below hb2) hnt)
    have p0:=hpo.at 0
    have p1:=hpo.at 1
    simp at p0 p1
    have HR:=hid hR
    have HPO:=hid hpo
    have HB2:=hid hb2
    have HC1:=hid hcut1
    have HRL:=hid (show rest.length+sizeT e.t≤420000000 by omega)
    have HSZ:=hid (show prSize rest+1+nt.length+sizeL ts=gk by omega)
    have HOK:=hid hokr
    have HW1:=hid hw1
    clear hw1 hR hpo hb2 hcut1 hse hsm hszr hone hone2 hrl hcut hbel hat hn1 hk
    by_cases hal:(decide (e.x.kd=e.y.kd)&&decide (e.x.tx=e.y.tx)&&decide (nt=nu)&&decide (e.x.n=e.y.n))=true
    ·rw [hal] at HA
     have hn:e.x.n=e.y.n:=by
       rw[Bool.and_eq_true] at hal
       exact of_decide_eq_true hal.2
     have HT:=hid (show R=(prSame rest&&sameL ts us) by
       rw[HR.out]
       rw[Bool.and_eq_true] at hal
       rw[hal.1,Bool.true_and])
     obtain ⟨bA,oA,bB,oB,hAB⟩:∃ bA oA bB oB:Nat,0<ts.length→e.x.A=some ⟨bA,oA,none⟩∧e.y.A=some ⟨bB,oB,none⟩:=by
       by_cases h0:0<ts.length
       ·obtain ⟨bA,oA,e1,_⟩:=rA.2 (by omega)
        obtain ⟨bB,oB,e2,_⟩:=rB.2 (by omega)
        exact ⟨bA,oA,bB,oB,fun _=>⟨e1,e2⟩⟩
       ·exact ⟨0,0,0,0,fun h=>absurd h h0⟩
     have hll:ts.length=us.length:=by omega
     have hlx:xs.length=ts.length:=lt.len
     have hly:ys.length=us.length:=lu.len
     obtain ⟨kz,ks,kl⟩:=kids_size bA oA bB oB 0 ts xs us ys hll hlx hly
     have krow:=kids_row bA oA bB oB 0 ts xs us ys hll hlx hly
     have kok:∀ d∈kids bA oA bB oB 0 ts xs us ys,PrOk W1 d:=kids_ok 0 ts xs us ys lt lu (fun k x hk=>by
       have hlt:k<xs.length:=(List.getElem?_eq_some_iff.1 hk).1
       obtain ⟨b,o,e1,h⟩:=rA.item hk
       rw[(hAB (by omega)).1] at e1
       injection e1 with e1
       injection e1 with e1 e2
       subst e1 e2
       rwa [Nat.zero_add]) (fun k y hk=>by
       have hlt:k<ys.length:=(List.getElem?_eq_some_iff.1 hk).1
       obtain ⟨b,o,e1,h⟩:=rB.item hk
       rw[(hAB (by omega)).2] at e1
       injection e1 with e1
       injection e1 with e1 e2
       subst e1 e2
       rwa [Nat.zero_add])
     have KZ:=hid kz
     have KS:=hid ks
     have KL:=hid (show (prRow (kids bA oA bB oB 0 ts xs us ys)).length=ts.length by rw[← kl];simp[prRow])
     have KR:=hid krow
     have KO:=hid kok
     generalize kids bA oA bB oB 0 ts xs us ys=kd at *
     obtain ⟨b1,o1,hp1,hb1,_,_,_,_,a4,_⟩:=cp.six
     obtain ⟨b2,o2,hp2,hb2,_,_,_,_,c4,_⟩:=cq.six
     have A4:=hid (fun w (hb:Below W1.heap.size W1 w)=>(hb.cell (p:=⟨b1,o1+4,none⟩) hb1).trans a4)
     have C4:=hid (fun w (hb:Below W1.heap.size W1 w)=>(hb.cell (p:=⟨b2,o2+4,none⟩) hb2).trans c4)
     generalize e.p=pp at *
     generalize e.q=pq at *
     subst hp1 hp2
     clear a4 c4 hb1 hb2
     have tsl:ts.length≤420000000:=by
       have:=sizeL_len ts
       have:=HSZ.out
       omega
     have HOFF:=hid (show wr.heap.size≠g by omega)
     have HXN:=hid (show e.x.n=ts.length by omega)
     have HYN:=hid (show e.y.n=ts.length by omega)
     have HAB:=hid hAB
     clear hAB hal kz ks krow kok kl lt lu rA rB rn rm hlx hly cp cq HR hxn hyn
     go_wp2_with (go_at_call 12;rw[← HW1.out];refine HA.out.mono ?_;rintro e w5 ⟨rfl,q,rfl⟩
                  have HB5:=hid (show Below W1.heap.size W1 (w1.drewN q) from bel_drewN HB2.out q)
                  have HC5:=hid (show GRow pairK (w1.drewN q) W1.heap.size _ _ from HC1.out)
                  have HPO5:=hid (show Own (w1.drewN q) wr.heap.size 41 _ from HPO.out)
                  have a4:=A4.out _ HB5.out
                  have q0:(w1.drewN q).cell? ⟨wr.heap.size,0,none⟩=_:=p0
                  clear p0 p1 HC1 HPO HB2
                  generalize w1.drewN q=w6 at *)
     clear hn hll
     obtain ⟨pb,hpb⟩:∃ pb,pb=wr.heap.size:=⟨_,rfl⟩
     rw[← hpb] at HPO5 HOFF q0 ⊢
     clear hpb
     go_loopw [5,36] (fun v i w=>RelSk W1 W1.heap.size pb (prRow rest) (prRow kd) ⟨b1,o1,none⟩ ⟨b2,o2,none⟩ v i w) (fun _ i _=>ts.length-(intOf i).toNat)
     case atStart=>exact ⟨0,rfl,Nat.zero_le _,by simpa using HC5.out,(fun g' hg'=>by obtain rfl:=ownBlock_is hg';exact Ne.symm HOFF.out),HPO5.out,HB5.out⟩
     case round =>
       obtain ⟨k,rfl,h⟩:=hrel
       obtain ⟨A',c',rfl,hc1',hc2',_⟩:=h.row.form
       have hkl:=h.le
       rw[KL.out] at hkl
       have hll:=hc1'
       rw[List.length_append,List.length_take,Nat.min_eq_left (by rw[KL.out];exact hkl)] at hll
       have hrl:(prRow rest).length=rest.length:=by simp[prRow]
       have hxn:=HXN.out
       have hyn:=HYN.out
       by_cases hlt:k<ts.length
       ·obtain ⟨eA,eB⟩:=HAB.out (by omega)
        have a4':=A4.out _ h.bel
        have c4':=C4.out _ h.bel
        have p0':=h.own.at 0
        have p1':=h.own.at 1
        simp at p0' p1'
        rw[eA] at a4'
        rw[eB] at c4'
        clear eA eB
        have l1:(k:Int)<(e.x.n:Int):=by omega
        have l2:(k:Int)<(e.y.n:Int):=by omega
        have l3:(0:Int)≤(k:Int):=by omega
        have l4:(k:Int)<(ts.length:Int):=by omega
        have l5:(k:Int)≤420000000:=by omega
        have hnew:(prRow kd).take (k+1)=(prRow kd).take k++[(⟨bA,oA+k*6,none⟩,⟨bB,oB+k*6,none⟩)]:=by
          have e1:=KR.out k hlt
          rw[Nat.zero_add] at e1
          rw[List.take_add_one,e1]
          rfl
        have hbw2:Below wr.heap.size wr (wr.alloc (.cells #[.pointer (some ⟨bA,oA+k*6,none⟩),.pointer (some ⟨bB,oB+k*6,none⟩)] 41)).drew:=((Below.refl _ _).alloc (Nat.le_refl _) _).drew
        have ROW:=hid (h.row.stay (fun j hj=>hbw2.block j (h.row.low hj).2))
        have NEW:=hid (show RdG pairK (wr.alloc (.cells #[.pointer (some ⟨bA,oA+k*6,none⟩),.pointer (some ⟨bB,oB+k*6,none⟩)] 41)).drew (some ⟨wr.heap.size,0,none⟩) 1 [(⟨bA,oA+k*6,none⟩,⟨bB,oB+k*6,none⟩)] from (GRow.made (K:=pairK) (base:=0) (l:=[(⟨bA,oA+k*6,none⟩,⟨bB,oB+k*6,none⟩)]) wr #[.pointer (some ⟨bA,oA+k*6,none⟩),.pointer (some ⟨bB,oB+k*6,none⟩)] rfl (by simp[maxLen]) (Nat.zero_le _)).rd)
        have HNEW:=hid hnew
        have HI:=hid h
        have HB2:=hid hbw2
        have HLL:=hid hll
        have hrs:=HRL.out
        have hsp:=sizeT_pos e.t
        have hgrow:(prRow rest++(prRow kd).take k).length+1≤1000000000:=by
          rw[List.length_append,List.length_take,Nat.min_eq_left (by rw[KL.out];exact hkl)]
          omega
        have HGR:=hid hgrow
        clear h hnew hbw2 hll hrs hsp hgrow hxn hyn hrl hc1' hc2'
        generalize hL9:prRow rest++(prRow kd).take k=L9 at *
        have HL9:=hid hL9
        have l6:(L9.length:Int)≤1000000000:=by have:=HGR.out;omega
        clear hL9
        go_upto_block 3 with fail
        go_cut [5,7] from 38 to 56 (fun v _ wc=>AtSk W1 wc W1.heap.size pb (prRow rest) (prRow kd) ⟨b1,o1,none⟩ ⟨b2,o2,none⟩ (k+1) v)
        case first =>
          go_wp2
          go_region_law (
            (refine step_row_app (KK:=pairK) rfl (.tmp 39) (.tmp 55) rfl W1.heap.size _ L9 rfl ROW.out _ 1 1 [(⟨bA,oA+k*6,none⟩,⟨bB,oB+k*6,none⟩)] rfl NEW.out HGR.out (by have:=HI.out.bel.size;have:=HB2.out.size;omega) ?_
             intro v9 w9 row9 grown9 at9
             have HR9:=hid row9
             have HG9:=hid grown9
             have HA9:=hid at9
             clear row9 grown9 at9))
          all_goals
            go_wp2
            go_meet
            case rel=>exact HI.out.next (by rw[KL.out];exact hlt) HNEW.out HB2.out (Nat.le_refl _) (by rw[HL9.out];exact HR9.out) HG9.out HA9.out
        case rest =>
          have HC:=hid hcut
          clear hcut
          go_wp2
          go_roundw
          case rel=>exact ⟨k+1,by go_num,HC.out⟩
          case measure=>simp[intOf];omega
       ·have hke:k=ts.length:=by omega
        subst hke
        have hall:(prRow kd).take ts.length=prRow kd:=List.take_of_length_le (by rw[KL.out];exact Nat.le_refl _)
        have hrw:=h.row
        have hl9:((prRow rest++(prRow kd).take ts.length).length:Int)≤1000000000:=by
          rw[List.length_append,List.length_take,Nat.min_eq_left (by rw[KL.out];exact Nat.le_refl _)]
          have:=HRL.out
          have:=sizeT_pos e.t
          omega
        generalize (prRow rest++(prRow kd).take ts.length).length=m9 at *
        have HRW:=hid (show GRow pairK wr W1.heap.size (.slice A' m9 c') (prRow (rest++kd)) by
          rw[hall] at hrw
          unfold prRow at hrw ⊢
          rw[List.map_append]
          exact hrw)
        clear hrw
        have HBW:=hid h.bel
        have no1:¬ (ts.length:Int)<(e.y.n:Int):=by omega
        have no2:¬ (ts.length:Int)<(e.x.n:Int):=by omega
        clear h hall hll hc1' hc2' hrl hkl hxn hyn
        go_wp2
        go_roundg (prSize rest+prSize kd)
        case measure=>have:=HSZ.out;have:=KZ.out;omega
        case rel=>exact ⟨rest++kd,prSize_app _ _,by have:=HSZ.out;have:=KZ.out;omega,HRW.out,(fun d hd=>(List.mem_append.1 hd).elim (HOK.out d) (KO.out d)),HBW.out,by rw[prSame_app,HT.out,KS.out]⟩
    ·have hal:(decide (e.x.kd=e.y.kd)&&decide (e.x.tx=e.y.tx)&&decide (nt=nu)&&decide (e.x.n=e.y.n))=false:=by simpa using hal
     have HF:=hid (show R=false by
       rw[HR.out]
       by_cases h4:e.x.n=e.y.n
       ·rw[decide_eq_true h4,Bool.and_true] at hal
        rw[hal]
        simp
       ·rw[sameL_len ts us (by omega)]
        simp)
     rw[hal] at HA
     clear hal
     go_wp2_with (go_at_call 12;rw[← HW1.out];refine HA.out.mono ?_;rintro e w5 ⟨rfl,q,rfl⟩)
     go_ret
     refine ⟨by rw[HF.out];rfl,?_⟩
     have h1:=HB1.out
     have h2:=HB2.out
     have h3:=HS1.out
     exact h1.trans ((show Below W1.heap.size W1 (w1.drewN q) from ⟨h2.os,h2.tape,h2.output,h2.size,h2.block⟩).mono (B':=W.heap.size) (by omega))
end
section
open Go.RowKit
theorem RowK.all_split {α:Type} (K:RowK α):∀ (l:List α) (j:Nat) (u:Value),(K.all l)[j]?=some u → ∃ (k r:Nat) (a:α),l[k]?=some a∧r<K.n∧j=k*K.n+r∧(K.enc a)[r]?=some u
 | [],j,u,h=>by cases h
 | a :: t,j,u,h=>by
   by_cases hj:j<K.n
   ·refine ⟨0,j,a,rfl,hj,by omega,?_⟩
    have:(K.enc a++K.all t)[j]?=some u:=h
    rwa [List.getElem?_append_left (by rw[K.len];exact hj)] at this
   ·have:(K.enc a++K.all t)[j]?=some u:=h
    rw[List.getElem?_append_right (by rw[K.len];omega),K.len] at this
    obtain ⟨k,r,b,h1,h2,h3,h4⟩:=RowK.all_split K t _ u this
    exact ⟨k+1,r,b,by simpa using h1,h2,by rw[Nat.add_mul];omega,h4⟩
theorem rdg_of_cells {w:World} {g o:Nat} {xs:List V6} (hg:0<xs.length→g<w.heap.size) (h:∀ k x,xs[k]?=some x→CellsAt w ⟨g,o+k*6,none⟩ x):RdG valK w (some ⟨g,o,none⟩) xs.length xs :=
 ⟨rfl,fun hm=>⟨g,o,rfl,hg hm,fun j u hu=>by
   obtain ⟨k,r,a,h1,h2,h3,h4⟩:=RowK.all_split valK xs j u hu
   obtain ⟨b,o',e,_,hc⟩:=h k a h1
   injection e with e1 e2
   subst e1 e2
   have:=hc r u h4
   rw[h3,show valK.n=6 from rfl,← Nat.add_assoc]
   exact this⟩⟩
structure Pd where
 p:Addr
 t:Tree
 x:V6
def pdRow (es:List Pd):List (Option Addr):=es.map fun e=>some e.p
def pdSize:List Pd→Nat
 | []=>0
 | e :: r=>sizeT e.t+pdSize r
theorem pdSize_app:∀ a b:List Pd,pdSize (a++b)=pdSize a+pdSize b
 | [],b=>by simp[pdSize]
 | e :: a,b=>by
   show sizeT e.t+pdSize (a++b)=sizeT e.t+pdSize a+pdSize b
   rw[pdSize_app a b]
   omega
theorem pdSize_len:∀ es:List Pd,es.length≤pdSize es
 | []=>Nat.le_refl _
 | e :: r=>by
   have:=pdSize_len r
   have:=sizeT_pos e.t
   unfold pdSize
   simp
   omega
def pds (g:Nat):Nat→List Tree→List V6→List Pd
 | i,t :: ts,x :: xs=>⟨⟨g,i*6,none⟩,t,x⟩ :: pds g (i+1) ts xs
 | _,_,_=>[]
theorem pds_size (g:Nat):∀ (i:Nat) (ts:List Tree) (xs:List V6),xs.length=ts.length→pdSize (pds g i ts xs)=sizeL ts∧(pds g i ts xs).length=ts.length
 | i,[],xs,h=>by cases xs<;>exact ⟨rfl,rfl⟩
 | i,t :: ts,x :: xs,h=>by
   obtain ⟨g1,g2⟩:=pds_size g (i+1) ts xs (by simpa using h)
   exact ⟨by show sizeT t+pdSize _=sizeT t+sizeL ts;rw[g1],by show (pds g (i+1) ts xs).length+1=ts.length+1;rw[g2]⟩
theorem pds_row (g:Nat):∀ (i:Nat) (ts:List Tree) (xs:List V6),xs.length=ts.length → ∀ k,k<ts.length→(pdRow (pds g i ts xs))[k]?=some (some ⟨g,(i+k)*6,none⟩)
 | i,t :: ts,x :: xs,h,0,_=>rfl
 | i,t :: ts,x :: xs,h,k+1,hk=>by
   have:=pds_row g (i+1) ts xs (by simpa using h) k (by simpa using hk)
   rw[show i+(k+1)=i+1+k by omega]
   exact this
theorem pds_mem {W:World} (g:Nat):∀ (i:Nat) (ts:List Tree) (xs:List V6),VLs W ts xs → ∀ e∈pds g i ts xs,∃ k,xs[k]?=some e.x∧e.p=⟨g,(i+k)*6,none⟩∧VIs W e.t e.x
 | i,[],xs,_=>by unfold pds;simp
 | i,t :: ts,[],h=>by
   unfold VLs at h
   obtain ⟨x,r,h,_⟩:=h
   cases h
 | i, t :: ts,x :: xs,h=>by
   unfold VLs at h
   obtain ⟨_,_,e1,v1,l1⟩:=h
   injection e1 with ea eb
   subst ea eb
   intro e he
   rcases List.mem_cons.1 he with rfl|he
   ·exact ⟨0,rfl,rfl,v1⟩
   ·obtain ⟨k,h1,h2,h3⟩:=pds_mem g (i+1) ts xs l1 e he
    exact ⟨k+1,by simpa using h1,by rw[h2,show i+(k+1)=i+1+k by omega],h3⟩
def Apart (p q:Addr):Prop:=p.block≠q.block∨p.off+6≤q.off∨q.off+6≤p.off
theorem pds_low (g:Nat):∀ (i:Nat) (ts:List Tree) (xs:List V6),∀ e∈pds g i ts xs,e.p.block=g∧i*6≤e.p.off
 | i,[],xs=>by unfold pds;simp
 | i,t :: ts,[]=>by unfold pds;simp
 | i, t :: ts,x :: xs=>by
   intro e he
   rcases List.mem_cons.1 he with rfl|he
   ·exact ⟨rfl,Nat.le_refl _⟩
   ·obtain ⟨h1,h2⟩:=pds_low g (i+1) ts xs e he
    exact ⟨h1,by omega⟩
theorem pds_sep (g:Nat):∀ (i:Nat) (ts:List Tree) (xs:List V6),(pds g i ts xs).Pairwise fun a b=>Apart a.p b.p
 | i,[],xs=>by unfold pds;exact List.Pairwise.nil
 | i,t :: ts,[]=>by unfold pds;exact List.Pairwise.nil
 | i,t :: ts,x :: xs=>by
   refine List.Pairwise.cons (fun e he => ?_) (pds_sep g (i+1) ts xs)
   obtain ⟨h1,h2⟩:=pds_low g (i+1) ts xs e he
   exact .inr (.inl (show i*6+6≤e.p.off by omega))
theorem pds_back {w:World} (g:Nat):∀ (i:Nat) (ts:List Tree) (xs:List V6),xs.length=ts.length→(∀ e∈pds g i ts xs,∃ x,CellsAt w e.p x∧VIs w e.t x) → ∃ ys:List V6,ys.length=ts.length∧VLs w ts ys ∧ ∀ k y,ys[k]?=some y→CellsAt w ⟨g,(i+k)*6,none⟩ y
 | i,[],xs,_,_=>⟨[],rfl,by unfold VLs;rfl,fun k y h=>by cases h⟩
 | i, t :: ts,x :: xs,hl,h=>by
   obtain ⟨y,h1,h2⟩:=h ⟨⟨g,i*6,none⟩,t,x⟩ (by unfold pds;simp)
   obtain ⟨ys,g1,g2,g3⟩:=pds_back (w:=w) g (i+1) ts xs (by simpa using hl) (fun e he=>h e (by unfold pds;simp[he]))
   refine ⟨y :: ys,by simp[g1],by unfold VLs;exact ⟨y,ys,rfl,h2,g2⟩,fun k z hz => ?_⟩
   cases k with
   | zero =>
     obtain rfl:y=z:=by simpa using hz
     exact h1
   | succ k =>
     have:=g3 k z (by simpa using hz)
     rwa [show i+(k+1)=i+1+k by omega]
def inC (p:Addr)(b o:Nat):Prop:=p.block=b∧p.off≤o∧o<p.off+6
structure ClInv (W wr:World) (base:Nat) (D:Nat→Prop) (root:Nat) (T:Tree) (es:List Pd):Prop where
 dom:∀ b,D b→base≤b∧b<wr.heap.size
 rt:D root
 ok:∀ e∈es,∃ b o:Nat,e.p=⟨b,o,none⟩∧D b∧(∀ j u,(v6Cells e.x)[j]?=some u→wr.cell? ⟨b,o+j,none⟩=some u)∧(∀ i,wr.frozen? ⟨b,i,none⟩=false)∧VIs W e.t e.x
 sep:es.Pairwise fun a b=>Apart a.p b.p
 bel:Below W.heap.size W wr
 wand:∀ w':World,(∀ b,D b→b<w'.heap.size)→(∀ b o,D b→(∀ e∈es,¬ inC e.p b o)→w'.cell? ⟨b,o,none⟩=wr.cell? ⟨b,o,none⟩)→(∀ e∈es,∃ x,CellsAt w' e.p x∧VIs w' e.t x) → ∃ X,CellsAt w' ⟨root,0,none⟩ X∧VIs w' T X
theorem ClInv.stay {W wr w':World} {base:Nat} {D:Nat→Prop} {root:Nat} {T:Tree} {es:List Pd} (h:ClInv W wr base D root T es) (hb:Below W.heap.size W w') (hs:wr.heap.size≤w'.heap.size) (hD:∀ b,D b→w'.heap[b]?=wr.heap[b]?):ClInv W w' base D root T es:=by
 have hc:∀ b o,D b→w'.cell? ⟨b,o,none⟩=wr.cell? ⟨b,o,none⟩:=fun b o hb=>by
   unfold World.cell?
   rw[show w'.heap[(⟨b,o,none⟩:Addr).block]?=wr.heap[(⟨b,o,none⟩:Addr).block]? from hD b hb]
 refine ⟨fun b hb=>⟨(h.dom b hb).1,Nat.lt_of_lt_of_le (h.dom b hb).2 hs⟩,h.rt,fun e he => ?_,h.sep,hb,fun w'' h1 h2 h3 => ?_⟩
 ·obtain ⟨b,o,e1,hDb,hcc,hf,hv⟩:=h.ok e he
  refine ⟨b,o,e1,hDb,fun j u hu=>(hc b _ hDb).trans (hcc j u hu),fun i => ?_,hv⟩
  rw[← hf i]
  unfold World.frozen?
  rw[show w'.heap[(⟨b,i,none⟩:Addr).block]?=wr.heap[(⟨b,i,none⟩:Addr).block]? from hD b hDb]
 ·exact h.wand w'' h1 (fun b o hb hn=>(h2 b o hb hn).trans (hc b o hb)) h3
end
section
open Go.RowKit
theorem v6_lt {x:V6} {j:Nat} {u:Value} (h:(v6Cells x)[j]?=some u):j<6:=by
 have:=(List.getElem?_eq_some_iff.1 h).1
 simpa [v6Cells] using this
theorem ClInv.step {W wr w4:World} {base:Nat} {D:Nat→Prop} {root:Nat} {T:Tree} {rest:List Pd} {p:Addr} {t:Tree} {x:V6} {b o:Nat} {items:List Tree} {names:List (List UInt8)} {xs:List V6} {A B:Option Addr} {c d g:Nat}
   (h:ClInv W wr base D root T (rest++[⟨p,t,x⟩])) (hp:p=⟨b,o,none⟩) (ht:t=.mk t.kd t.fr t.to t.tx items names) (hn:x.n=xs.length) (hm:x.m=names.length) (hvl:VLs W items xs) (hbase:base≤wr.heap.size)
   (hA:GRow valK w4 wr.heap.size (.slice A x.n c) xs) (hB:GRow namK w4 wr.heap.size (.slice B x.m d) names) (hg:0<xs.length→A=some ⟨g,0,none⟩) (hAB:∀ k,(Value.slice A x.n c).ownBlock=some k→(Value.slice B x.m d).ownBlock≠some k) (hnc:x.n≤c) (hmd:x.m≤d)
   (c4:w4.cell? ⟨b,o+4,none⟩=some (.slice A x.n c)) (c5:w4.cell? ⟨b,o+5,none⟩=some (.slice B x.m d))
   (hk:∀ b' o',b'<wr.heap.size→D b'→¬ (b'=b∧(o'=o+4∨o'=o+5))→w4.cell? ⟨b',o',none⟩=wr.cell? ⟨b',o',none⟩) (hf:∀ b' i,D b'→w4.frozen? ⟨b',i,none⟩=wr.frozen? ⟨b',i,none⟩)
   (hbel:Below W.heap.size W w4) (hs:wr.heap.size≤w4.heap.size) :
   ClInv W w4 base (fun k=>D k∨(wr.heap.size≤k∧k<w4.heap.size)) root T (rest++pds g 0 items xs):=by
 subst hp
 have hlx:=hvl.len
 obtain ⟨b1,o1,e1,hDb,hcc,hfz,hv⟩:=h.ok ⟨⟨b,o,none⟩,t,x⟩ (by simp)
 injection e1 with e1 e2
 subst e1 e2
 have hbw:=(h.dom b hDb).2
 have hsep:=List.pairwise_append.1 h.sep
 have hA0:0<xs.length→wr.heap.size≤g∧g<w4.heap.size:=fun h0=>hA.low (g:=g) (by rw[hg h0];rfl)
 have kid:=pds_mem (W:=W) g 0 items xs hvl
 refine ⟨fun k hk => ?_,.inl h.rt,fun e he => ?_,?_,hbel,fun w' h1 h2 h3 => ?_⟩
 ·rcases hk with hk|hk
  ·exact ⟨(h.dom k hk).1,Nat.lt_of_lt_of_le (h.dom k hk).2 hs⟩
  ·exact ⟨Nat.le_trans hbase hk.1,hk.2⟩
 ·rcases List.mem_append.1 he with he|he
  ·obtain ⟨b',o',e1,hDb',hcc',hfz',hv'⟩:=h.ok e (by simp[he])
   have hap:=hsep.2.2 e he ⟨⟨b,o,none⟩,t,x⟩ (by simp)
   rw[e1] at hap
   refine ⟨b',o',e1,.inl hDb',fun j u hu => ?_,fun i=>by rw[hf b' i hDb'];exact hfz' i,hv'⟩
   have hj:=v6_lt hu
   rw [hk b' (o'+j) (h.dom b' hDb').2 hDb' (fun hh=>by
     obtain ⟨h1,h2⟩:=hh
     subst h1
     unfold Apart at hap
     simp at hap
     omega)]
   exact hcc' j u hu
  ·obtain ⟨k,g1,g2,g3⟩:=kid e he
   have hkl:k<xs.length:=(List.getElem?_eq_some_iff.1 g1).1
   have hA':=hg (by omega)
   subst hA'
   rw[Nat.zero_add] at g2
   refine ⟨g,k*6,g2,.inr (hA0 (by omega)),fun j u hu => ?_,fun i=>hA.free i,g3⟩
   have hrd:=hA.rd
   have:=hrd.at rfl g1 hu
   simpa [show valK.n=6 from rfl,Nat.add_assoc] using this
 ·refine List.pairwise_append.2 ⟨hsep.1,pds_sep g 0 items xs,fun a ha e he => ?_⟩
  obtain ⟨b',o',e1,hDb',_⟩:=h.ok a (by simp[ha])
  obtain ⟨k,g1,g2,g3⟩:=kid e he
  have hkl:k<xs.length:=(List.getElem?_eq_some_iff.1 g1).1
  refine .inl ?_
  rw[e1,g2]
  have:=(h.dom b' hDb').2
  have:=(hA0 (by omega)).1
  show b'≠g
  omega
 ·-- the wand
  have old:∀ b' o',D b'→(∀ e∈rest,¬ inC e.p b' o')→w'.cell? ⟨b',o',none⟩=w4.cell? ⟨b',o',none⟩:=fun b' o' hD hr=>h2 b' o' (.inl hD) (fun e he=>by
    rcases List.mem_append.1 he with he|he
    ·exact hr e he
    ·obtain ⟨k,g1,g2,g3⟩:=kid e he
     have hkl:k<xs.length:=(List.getElem?_eq_some_iff.1 g1).1
     rintro ⟨i1,_⟩
     rw[g2] at i1
     have i1:g=b':=i1
     have:=(h.dom b' hD).2
     have:=(hA0 (by omega)).1
     omega)
  have new:∀ b' o',wr.heap.size≤b'→b'<w4.heap.size→(0<xs.length→b'≠g)→w'.cell? ⟨b',o',none⟩=w4.cell? ⟨b',o',none⟩:=fun b' o' hl hu hne=>h2 b' o' (.inr ⟨hl,hu⟩) (fun e he=>by
    rcases List.mem_append.1 he with he|he
    ·obtain ⟨b2,o2,e1,hDb',_⟩:=h.ok e (by simp[he])
     rintro ⟨i1,_⟩
     rw[e1] at i1
     have i1:b2=b':=i1
     have:=(h.dom b2 hDb').2
     omega
    ·obtain ⟨k,g1,g2,g3⟩:=kid e he
     have hkl:k<xs.length:=(List.getElem?_eq_some_iff.1 g1).1
     rintro ⟨i1,_⟩
     rw[g2] at i1
     exact hne (by omega) (Eq.symm i1))
  refine h.wand w' (fun b' hb'=>h1 b' (.inl hb')) (fun b' o' hD hr => ?_) (fun e he => ?_)
  ·rw[old b' o' hD (fun e he=>hr e (by simp[he]))]
   refine hk b' o' (h.dom b' hD).2 hD (fun hh => ?_)
   refine hr ⟨⟨b,o,none⟩,t,x⟩ (by simp) ⟨hh.1.symm,?_⟩
   rcases hh.2 with h|h
   ·exact ⟨by show o≤o';omega,by show o'<o+6;omega⟩
   ·exact ⟨by show o≤o';omega,by show o'<o+6;omega⟩
  ·rcases List.mem_append.1 he with he|he
   ·exact h3 e (by simp[he])
   ·obtain rfl:e=⟨⟨b,o,none⟩,t,x⟩:=by simpa using he
    obtain ⟨ys,y1,y2,y3⟩:=pds_back (w:=w') g 0 items xs hlx (fun e he=>h3 e (by simp[he]))
    have hin:∀ j,j<6 → ∀ e∈rest,¬ inC e.p b (o+j):=fun j hj e he hh=>by
      have hap:=hsep.2.2 e he ⟨⟨b,o,none⟩,t,x⟩ (by simp)
      obtain ⟨i1,i2,i3⟩:=hh
      unfold Apart at hap
      simp only at hap
      omega
    refine ⟨{ x with A:=A,c:=c,B:=B,d:=d },⟨b,o,rfl,h1 b (.inl hDb),fun j u hu => ?_⟩,?_⟩
    ·have hj:=v6_lt hu
     rw[old b (o+j) hDb (hin j hj)]
     have hj6:j=0∨j=1∨j=2∨j=3∨j=4∨j=5:=by omega
     rcases hj6 with rfl|rfl|rfl|rfl|rfl|rfl
     ·exact (hk b _ hbw hDb (by omega)).trans (hcc 0 u hu)
     ·exact (hk b _ hbw hDb (by omega)).trans (hcc 1 u hu)
     ·exact (hk b _ hbw hDb (by omega)).trans (hcc 2 u hu)
     ·exact (hk b _ hbw hDb (by omega)).trans (hcc 3 u hu)
     ·rw[c4];exact hu
     ·rw[c5];exact hu
    ·rw [ht] at hv ⊢
     unfold VIs at hv ⊢
     obtain ⟨v1,v2,v3,v4,_,_,_,_⟩:=hv
     refine ⟨v1,v2,v3,v4,hnc,hmd,?_,ys,?_,y2⟩
     ·have hr:=hB.rd
      refine ⟨hm.symm,fun h0 => ?_⟩
      have h0:0<x.m:=h0
      obtain ⟨b3,o3,e3,g3,g4⟩:=hr.2 (by omega)
      have hl3:=hB.low (g:=b3) (by rw[e3];rfl)
      refine ⟨b3,o3,e3,h1 b3 (.inr hl3),fun j u hu => ?_⟩
      rw[new b3 _ hl3.1 hl3.2 (fun h0 hh=>hAB g (by rw[hg h0];rfl) (by rw[e3,hh];rfl))]
      exact g4 j u hu
     ·show RdG valK w' A x.n ys
      by_cases h0:0<xs.length
      ·have:=rdg_of_cells (w:=w') (g:=g) (o:=0) (xs:=ys) (fun _=>h1 g (.inr (hA0 h0))) (fun k y hy=>by have:=y3 k y hy;simpa using this)
       rw[hg h0,hn,hlx,← y1]
       exact this
      ·have:ys=[]:=List.eq_nil_of_length_eq_zero (by omega)
       subst this
       exact ⟨by rw[hn];simp;omega,fun h=>absurd h (by omega)⟩
end
end Go.Proofs.YtbpilcklglhloaaGreatDoor
