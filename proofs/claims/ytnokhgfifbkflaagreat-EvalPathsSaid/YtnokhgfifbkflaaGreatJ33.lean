/- Lemmas. -/
import Derived.Test.YtnokhgfifbkflaaGreatProg
import Derived.Test.YtnokhgfifbkflaaGreatJ32
set_option maxRecDepth 100000
set_option maxHeartbeats 8000000
set_option linter.unusedVariables false
set_option linter.unusedSimpArgs false
namespace Go.Proofs.YtnokhgfifbkflaaGreat
open Go.Lib (hid)
section
open Go.RowKit
theorem enter_push {M:Nat} {v:Tree} {q:List Sgm} {once:Bool} {qA:Option Addr} {qc:Nat} {V0:World} {bw bm:Nat} {W:World} {c:Cfg} {vO vS vR:Value} {vs:List VisV} {L:List Pst} {ns:List NdV}
   (h:MemE M q once qA q.length qc V0 bw bm W c vO vS vR vs L ns) (hA:InvA M v q c) (hM:M≤1000000) (hQ:q.length≤1000) {u:Vis} {st:List Vis} (hc:c.st=u :: st) {i:Nat} {s:Sgm} {r:List Sgm} (hi:ItmV M v q u.n i (s :: r)) {sb so:Nat} {x:V6} (hx:PtrV V0 sb so x) (hv:VIs V0 u.n.t x) (hi9:i≤1000)
   (h5:u.n.t.kd=5→i<u.n.t.names.length) (hst:st.length≤100000) (hro:c.row.length≤100000) (ho:c.ov (itmT u.n.t i).fr (numV q (s :: r))=false) (hne:(itmT u.n.t i).items.length≠0) :
   Calls Tryz.prog 42 #[.pointer (some ⟨bw,0,none⟩),.pointer (some ⟨sb,so,none⟩),.int .i64 i,.int .i64 (numV q (s :: r))] W fun e w'=>e=.returned (.tuple #[]) ∧ ∃ vO' vS' vs' L',MemE M q once qA q.length qc V0 bw bm w' ⟨⟨itmN u.n i,s,r,0,[],c.row.length⟩ :: c.st,c.ov,c.row⟩ vO' vS' vR vs' L' ns:=by
 obtain ⟨ib,io,y,hxA,hy,hvy⟩:=ptr_item hv hi.inn
 have hxn:x.n=u.n.t.items.length:=by
   generalize u.n.t=tt at hv
   obtain ⟨kd,fr,td,tx,items,names⟩:=tt
   exact hv.many.1
 have hin:(i:Int)<x.n:=by have:=hi.inn;omega
 have hfy:y.fr=(itmT u.n.t i).fr:=(vis_fr hvy).1
 have hlt:=hi.lt
 have HSTV:=hid (fun w (hb:Below V0.heap.size V0 w)=>estep_any u.n.t x sb so i w (hx.stay' hb hx.1) (hv.stay hb) h5 (by omega))
 obtain ⟨xk,xf,xt,xx,xA,xn,xc,xB,xm,xd⟩:=x
 replace hxA:xA=some ⟨ib,io,none⟩:=hxA
 subst hxA
 replace hin:(i:Int)<xn:=hin
 rw[← hfy] at ho hlt
 obtain ⟨pre,hpre⟩:=hi.suf
 have hkq:=num_lt hpre
 have hyn:y.n≠0:=by
   have:y.n=(itmT u.n.t i).items.length:=by
     generalize itmT u.n.t i=tt at hvy
     obtain ⟨kd,fr,td,tx,items,names⟩:=tt
     exact hvy.many.1
   omega
 have hyn0:((y.n:Int)==0)=false:=beq_eq_false_iff_ne.2 (by omega)
 have hkl:(((numV q (s :: r):Nat):Int)==(q.length:Int))=false:=beq_eq_false_iff_ne.2 (by omega)
 obtain ⟨k,hkk⟩:∃ k,k=numV q (s :: r):=⟨_,rfl⟩
 rw[← hkk] at ho hkq hkl ⊢
 have HKK:=hid hkk
 have hl:∀ m,(Instr.lookup 93 (.map (some bm)) (.agg #[.int .i64 y.fr,.int .i64 k]) false).run Tryz.prog ((W.alloc (.cells #[.int .i64 y.fr,.int .i64 k] 129)).drewN m)=.ok (.bool false) ((W.alloc (.cells #[.int .i64 y.fr,.int .i64 k] 129)).drewN m):=fun m=>by
   have:=over_look (w:=(W.alloc (.cells #[.int .i64 y.fr,.int .i64 k] 129)).drewN m) (h.ovr.stay ((below1 W _).block bm h.ovr.lt)) (f:=y.fr) (k:=k) (by omega) (by omega)
   rw[ho] at this
   exact this
 have hxs:=hx.stay' h.bel hx.1
 have hys:=hy.stay' h.bel hy.1
 obtain ⟨_,p0,p1,p2,p3,p4,p5⟩:=hxs
 obtain ⟨_,y0,y1,y2,y3,y4,y5⟩:=hys
 replace p4:W.cell? ⟨sb,so+4,none⟩=some (.slice (some ⟨ib,io,none⟩) xn xc):=p4
 obtain ⟨w1,hw1⟩:∃ w1,w1=W.alloc (.cells #[.int .i64 y.fr,.int .i64 k] 129):=⟨_,rfl⟩
 rw[← hw1] at hl
 have hbw1:Below W.heap.size W w1:=by rw[hw1];exact below1 W _
 have m1:=h.below hbw1
 have c2:=m1.own.at 2
 have c3:=m1.own.at 3
 have c0:=m1.own.at 0
 simp at c2 c3 c0
 obtain ⟨AO,kO,hO,_⟩:=m1.opn.form
 have hl1:vs.length=st.length+1:=by rw[h.lenO,hc];rfl
 rw[hO,hl1] at c3
 rw[hl1] at hO
 have HO2:=hid hO
 have HVL:=hid (show vs.length≤100001 by omega)
 obtain ⟨AS,kS,hS,hLk,_⟩:=h.stp.form
 obtain ⟨AR,kR,hR,_⟩:=h.row.form
 rw[h.lenR] at hR
 have hpl:u.n.p.length=st.length:=by have:=hA.chn;rw[hc] at this;exact this.1
 have htop:=h.top u st hc
 rw[hpl] at htop
 have hLn:st.length≤L.length:=by
   have:=congrArg List.length htop
   rw[List.length_take,hpl] at this
   omega
 have hoT:Own w1 W.heap.size 129 #[.int .i64 y.fr,.int .i64 k]:=by rw[hw1];exact Own.fresh W _ _
 have HTW:=hid hoT
 have HNE:=hid (show W.heap.size≠bw from fun e=>by have:=h.own.inside;omega)
 have t0:=hoT.at 0
 have t1:=hoT.at 1
 simp at t0 t1
 have hi0:(0:Int)≤i:=by omega
 have HIP:=hid (show (itmN u.n i).p=L.take st.length++[stpT u.n.t i] by rw[← htop];rfl)
 have HPL:=hid hpl
 have HLN:=hid hLn
 have hcut:GRow stpK W V0.heap.size (.slice AS st.length kS) (L.take st.length):=by have:=h.stp;rw[hS] at this;exact this.cut hLn
 have hln:(L.take st.length).length=st.length:=by rw[List.length_take];omega
 have hrdl:RdG stpK W AS st.length (L.take st.length):=by have:=hcut.rd;rwa [hln] at this
 have hsl:∀ w,(Instr.slice 47 (.slice AS L.length kS) none (some (.int .i64 (st.length:Int))) none).run Tryz.prog w=.ok (.slice AS st.length kS) w:=slice_upto stpK AS L.length kS st.length (by omega)
 have HLT:=hid (show (L.take st.length).length≤100000 by rw[hln];exact hst)
 have HRL:=hid (show ns.length≤100000 by rw[h.lenR];exact hro)
 have HVY:=hid (show VIs V0 (itmN u.n i).t y from hvy)
 have HFY:=hid hfy
 have HO:=hid (show c.ov y.fr k=false from ho)
 have HLTM:=hid hlt
 have HYP:=hid hy
 have hn9:(st.length:Int)≤100000:=by omega
 have hst':=hst
 have HW1:=hid hw1
 have Y4:=hid ((hy.stay' (h.bel.trans (hbw1.mono h.bel.size)) hy.1).2.2.2.2.2.1)
 have RD1:=hid (hrdl.below hbw1)
 have HM1:=hid m1
 have hq9:(q.length:Int)≤1000:=by omega
 have HCC:=hid hc
 clear m1 h hx hy hv hvy hxn ho hoT p0 p1 p2 p3 p5 y0 y2 y3 y4 y5 hfy hlt hO hrdl hcut hw1 htop hpl hLn hln hst' hl1 hbw1 hc hkk hpre hyn hne
 have HS:=hid hS
 have HR:=hid hR
 clear hS hR
 obtain ⟨Ln,hLnn⟩:∃ Ln,Ln=L.take st.length:=⟨_,rfl⟩
 rw[← hLnn] at HIP HLT RD1
 generalize hnl:st.length=n at *
 have HLNN:=hid hLnn.symm
 clear hnl hLnn
 have hwr:IntKind.i64.wrap (n:Int)=n:=by rw[IntKind.wrap_i64];omega
 go_enter Tryz.func42,Tryz.ntmps42
 go_wp2
 rw[← HW1.out]
 go_quiet (fail)
 obtain ⟨w3,hw3⟩:∃ w3,w3=w1.drewN nq:=⟨_,rfl⟩
 rw[← hw3]
 have m3:=HM1.out.below (w':=w3) (by rw[hw3];exact below_drewN (Below.refl _ _) _)
 have d3:w3.cell? ⟨bw,3,none⟩=some (.slice AO (n+1) kO):=by rw[hw3];exact c3
 have d0:w3.cell? ⟨bw,0,none⟩=some (.slice qA q.length qc):=by rw[hw3];exact c0
 have e0:w3.cell? ⟨W.heap.size,0,none⟩=some (.int .i64 y.fr):=by rw[hw3];exact t0
 have e1:w3.cell? ⟨W.heap.size,1,none⟩=some (.int .i64 k):=by rw[hw3];exact t1
 have RDL:=hid (show RdG stpK w3 AS n Ln from RD1.out.below (by rw[hw3];exact below_drewN (Below.refl _ _) _))
 rw[HS.out,HR.out] at m3
 have HM:=hid m3
 have HST:=hid (fun w (hb:Below w3.heap.size w3 w)=>HSTV.out w (m3.bel.trans (hb.mono m3.bel.size)))
 have u4:w3.cell? ⟨ib,io+i*6+4,none⟩=some (.slice y.A y.n y.c):=by rw[hw3];exact Y4.out
 have HTN:=hid (show Own w3 W.heap.size 129 #[.int .i64 y.fr,.int .i64 k] by rw[hw3];exact HTW.out)
 clear hw3 c0 c2 c3 t0 t1 hl m3
 have HS4:=hid (fun w' (hb:Below w3.heap.size w3 w')=>show w'.cell? ⟨bw,4,none⟩=some (.slice AS L.length kS) from (HM.out.own.stay hb HM.out.own.inside).at 4)
 have HOW:=hid (fun w6 w9 (hb:Below w3.heap.size w3 w6) (hg:w6.grownBy w9 (Value.slice AS L.length kS).ownBlock)=>show Own w9 bw 99 #[.slice qA q.length qc,.bool once,.map (some bm),vO,.slice AS L.length kS,.slice AR c.row.length kR] from by
   have m6:=HM.out.below hb
   exact (grown_keeps m6.stp hg bw _ _ _ m6.own (by decide)).trans m6.own)
 have HCUT:=hid (fun w6 (hb:Below w3.heap.size w3 w6)=>show GRow stpK w6 V0.heap.size (.slice AS n kS) Ln from by
   rw[← HLNN.out]
   exact (HM.out.below hb).stp.cut (HLN.out))
 go_wp2
 -- BEGIN9
 refine til_region (z:=14) (S:=(fun w'=>w'.cell? ⟨bw,4,none⟩=some (.slice AS L.length kS))) (by kernel_rfl) (HS4.out _ (Below.refl _ _).drew) (fun hHeld => ?_)
 refine til_take (i:=0) (d:=82) (v:=.pointer (some ⟨bw,0,none⟩)) rfl rfl (by kernel_rfl) (by kernel_rfl) (by kernel_rfl) (by kernel_rfl) (by kernel_rfl) (fun _ _ _ h=>h) (Or.inl ⟨by rfl,?_⟩) hHeld ?_
 ·intro w hSw
  (try dsimp only at hSw)
  go_simp
 (try dsimp only)
 (try simp only [Act.put,List.setIfInBounds_toArray,List.set_cons_zero,List.set_cons_succ])
 refine til_take (i:=1) (d:=83) (v:=.pointer (some ⟨bw,0,none⟩)) rfl rfl (by kernel_rfl) (by kernel_rfl) (by kernel_rfl) (by kernel_rfl) (by kernel_rfl) (fun _ _ _ h=>h) (Or.inl ⟨by rfl,?_⟩) hHeld ?_
 ·intro w hSw
  (try dsimp only at hSw)
  go_simp
 (try dsimp only)
 (try simp only [Act.put,List.setIfInBounds_toArray,List.set_cons_zero,List.set_cons_succ])
 refine til_take (i:=2) (d:=84) (v:=.pointer (some ⟨bw,0,none⟩)) rfl rfl (by kernel_rfl) (by kernel_rfl) (by kernel_rfl) (by kernel_rfl) (by kernel_rfl) (fun _ _ _ h=>h) (Or.inl ⟨by rfl,?_⟩) hHeld ?_
 ·intro w hSw
  (try dsimp only at hSw)
  go_simp
 (try dsimp only)
 (try simp only [Act.put,List.setIfInBounds_toArray,List.set_cons_zero,List.set_cons_succ])
 refine til_take (i:=3) (d:=85) (v:=.pointer (some ⟨bw,4,none⟩)) rfl rfl (by kernel_rfl) (by kernel_rfl) (by kernel_rfl) (by kernel_rfl) (by kernel_rfl) (fun _ _ _ h=>h) (Or.inl ⟨by rfl,?_⟩) hHeld ?_
 ·intro w hSw
  (try dsimp only at hSw)
  go_simp
 (try dsimp only)
 (try simp only [Act.put,List.setIfInBounds_toArray,List.set_cons_zero,List.set_cons_succ])
 refine til_take (i:=4) (d:=86) (v:=.slice AS L.length kS) rfl rfl (by kernel_rfl) (by kernel_rfl) (by kernel_rfl) (by kernel_rfl) (by kernel_rfl) (fun _ _ _ h=>h) (Or.inl ⟨by rfl,?_⟩) hHeld ?_
 ·intro w hSw
  (try dsimp only at hSw)
  go_simp
 (try dsimp only)
 (try simp only [Act.put,List.setIfInBounds_toArray,List.set_cons_zero,List.set_cons_succ])
 refine til_take (i:=5) (d:=87) (v:=.int .i64 n) rfl rfl (by kernel_rfl) (by kernel_rfl) (by kernel_rfl) (by kernel_rfl) (by kernel_rfl) (fun _ _ _ h=>h) (Or.inl ⟨by rfl,?_⟩) hHeld ?_
 ·intro w hSw
  (try dsimp only at hSw)
  go_simp
 (try dsimp only)
 (try simp only [Act.put,List.setIfInBounds_toArray,List.set_cons_zero,List.set_cons_succ])
 refine til_take (i:=6) (d:=88) (v:=.slice AS n kS) rfl rfl (by kernel_rfl) (by kernel_rfl) (by kernel_rfl) (by kernel_rfl) (by kernel_rfl) (fun _ _ _ h=>h) (Or.inl ⟨by rfl,?_⟩) hHeld ?_
 ·intro w hSw
  (try dsimp only at hSw)
  go_simp
 (try dsimp only)
 (try simp only [Act.put,List.setIfInBounds_toArray,List.set_cons_zero,List.set_cons_succ])
 refine til_take (i:=7) (d:=89) (v:=.pointer (some ⟨sb,so,none⟩)) rfl rfl (by kernel_rfl) (by kernel_rfl) (by kernel_rfl) (by kernel_rfl) (by kernel_rfl) (fun _ _ _ h=>h) (Or.inl ⟨by rfl,?_⟩) hHeld ?_
 ·intro w hSw
  (try dsimp only at hSw)
  go_simp
 (try dsimp only)
 (try simp only [Act.put,List.setIfInBounds_toArray,List.set_cons_zero,List.set_cons_succ])
 refine til_take (i:=8) (d:=90) (v:=.int .i64 i) rfl rfl (by kernel_rfl) (by kernel_rfl) (by kernel_rfl) (by kernel_rfl) (by kernel_rfl) (fun _ _ _ h=>h) (Or.inl ⟨by rfl,?_⟩) hHeld ?_
 ·intro w hSw
  (try dsimp only at hSw)
  go_simp
 (try dsimp only)
 (try simp only [Act.put,List.setIfInBounds_toArray,List.set_cons_zero,List.set_cons_succ])
 refine til_one (i:=9) (by kernel_rfl) rfl (fun K9 hK9 => ?_)
 go_simp
 go_at_call 62
 refine (HST.out _ (Below.refl w3.heap.size w3).drew).mono ?_
 rintro e w5 ⟨rfl,hb5⟩
 have h5:Below w3.heap.size w3 w5:=(Below.refl w3.heap.size w3).drew.trans hb5
 have HS5:=hid (HS4.out w5 h5)
 have H5:=hid h5
 clear hb5 h5
 refine hK9.out _ _ (fun _=>HS5.out) ?_
 (try dsimp only)
 (try simp only [Act.put,List.setIfInBounds_toArray,List.set_cons_zero,List.set_cons_succ])
 refine til_one (i:=10) (by kernel_rfl) rfl (fun K10 hK10 => ?_)
 go_simp
 have h5a:Below w3.heap.size w3 (w5.alloc (.cells #[.bool (stpT u.n.t i).named,.string ⟨(stpT u.n.t i).name.toArray⟩,.int .i64 (stpT u.n.t i).index] 86)):=H5.out.trans ((below1 w5 _).mono H5.out.size)
 have H5A:=hid h5a
 have NEW:=hid ((GRow.made (K:=stpK) (base:=0) (l:=[stpT u.n.t i]) w5 #[.bool (stpT u.n.t i).named,.string ⟨(stpT u.n.t i).name.toArray⟩,.int .i64 (stpT u.n.t i).index] rfl (by simp[maxLen]) (Nat.zero_le _)).rd)
 have ROWS:=hid (HCUT.out _ h5a)
 have HS5A:=hid (HS4.out _ h5a)
 clear h5a
 refine hK10.out _ _ (fun _=>HS5A.out) ?_
 (try dsimp only)
 (try simp only [Act.put,List.setIfInBounds_toArray,List.set_cons_zero,List.set_cons_succ])
 refine til_one (i:=11) (by kernel_rfl) rfl (fun K11 hK11 => ?_)
 refine step_row_append (KK:=stpK) rfl (.tmp 88) (.tmp 92) rfl V0.heap.size (.slice AS n kS) Ln rfl ROWS.out _ 1 1 [stpT u.n.t i] rfl NEW.out (by have:=HLT.out;omega) (Nat.le_trans HM.out.bel.size H5A.out.size) ?_
 intro v9 w9 row9 grown9 at9
 obtain ⟨A9,c9,hv9,_⟩:=row9.form
 generalize hm9:(Ln++[stpT u.n.t i]).length=m9 at hv9
 subst hv9
 have grown9b:(w5.alloc (.cells #[.bool (stpT u.n.t i).named,.string ⟨(stpT u.n.t i).name.toArray⟩,.int .i64 (stpT u.n.t i).index] 86)).grownBy w9 (Value.slice AS L.length kS).ownBlock:=by cases AS<;>exact grown9
 have o9:=HOW.out _ _ H5A.out grown9b
 have k4:=o9.at 4
 have z4:=o9.free 4
 simp at k4
 have K4:=hid k4
 have hms:=HM.out.steps H5A.out rfl HLN.out (fun a b hab=>by rw[HCC.out] at hab;injection hab with h1 h2;subst h1;exact HPL.out) (x:=stpT u.n.t i) (by rw[HLNN.out];exact row9) grown9 at9
 have HMS:=hid hms
 clear row9 grown9 grown9b at9 o9 hms hm9
 refine hK11.out _ _ (fun _=>K4.out) ?_
 (try dsimp only)
 (try simp only [Act.put,List.setIfInBounds_toArray,List.set_cons_zero,List.set_cons_succ])
 refine til_take (i:=12) (d:=94) (v:=.pointer (some ⟨bw,0,none⟩)) rfl rfl (by kernel_rfl) (by kernel_rfl) (by kernel_rfl) (by kernel_rfl) (by kernel_rfl) (fun _ _ _ h=>h) (Or.inl ⟨by rfl,?_⟩) K4.out ?_
 ·intro w hSw
  (try dsimp only at hSw)
  go_simp
 (try dsimp only)
 (try simp only [Act.put,List.setIfInBounds_toArray,List.set_cons_zero,List.set_cons_succ])
 refine til_take (i:=13) (d:=95) (v:=.pointer (some ⟨bw,4,none⟩)) rfl rfl (by kernel_rfl) (by kernel_rfl) (by kernel_rfl) (by kernel_rfl) (by kernel_rfl) (fun _ _ _ h=>h) (Or.inl ⟨by rfl,?_⟩) K4.out ?_
 ·intro w hSw
  (try dsimp only at hSw)
  go_simp
 (try dsimp only)
 (try simp only [Act.put,List.setIfInBounds_toArray,List.set_cons_zero,List.set_cons_succ])
 refine til_one (i:=14) (by kernel_rfl) rfl (fun K14 hK14 => ?_)
 go_simp
 refine hK14.out _ _ (fun h=>absurd h (by decide)) ?_
 (try dsimp only)
 (try simp only [Act.put,List.setIfInBounds_toArray,List.set_cons_zero,List.set_cons_succ])
 refine til_done (by kernel_rfl) ?_ _
 -- END9
 obtain ⟨w10,hw10⟩:∃ w10,w10=w9.setCell ⟨bw,4,none⟩ (.slice A9 m9 c9):=⟨_,rfl⟩
 have HW10:=hid hw10
 rw[← hw10,HO2.out] at HMS
 rw[← HW10.out]
 have HM2:=HMS
 have HS3:=hid (fun w' (hb:Below w10.heap.size w10 w')=>show w'.cell? ⟨bw,3,none⟩=some (.slice AO (n+1) kO)∧w'.cell? ⟨bw,5,none⟩=some (.slice AR c.row.length kR) from by
   have o:=HM2.out.own.stay hb HM2.out.own.inside
   exact ⟨o.at 3,o.at 5⟩)
 have HOW2:=hid (fun w6 w9 (hb:Below w10.heap.size w10 w6) (hg:w6.grownBy w9 (Value.slice AO (n+1) kO).ownBlock)=>show Own w9 bw 99 #[.slice qA q.length qc,.bool once,.map (some bm),.slice AO (n+1) kO,.slice A9 m9 c9,.slice AR c.row.length kR] from by
   have m6:=HM2.out.below hb
   exact (grown_keeps m6.opn hg bw _ _ _ m6.own (by decide)).trans m6.own)
 have HTOP:=hid (show (itmN u.n i).p=(L.take n++[stpT u.n.t i]).take (itmN u.n i).p.length by
   rw[HIP.out,← HLNN.out,List.take_length])
 clear hw10 HMS k4 z4
 go_wp2
 -- BEGIN10
 refine til_region (z:=17) (S:=(fun w'=>w'.cell? ⟨bw,3,none⟩=some (.slice AO (n+1) kO)∧w'.cell? ⟨bw,5,none⟩=some (.slice AR c.row.length kR))) (by kernel_rfl) (HS3.out _ (Below.refl _ _).drew) (fun hHeld => ?_)
 refine til_take (i:=0) (d:=96) (v:=.pointer (some ⟨bw,0,none⟩)) rfl rfl (by kernel_rfl) (by kernel_rfl) (by kernel_rfl) (by kernel_rfl) (by kernel_rfl) (fun _ _ _ h=>h) (Or.inl ⟨by rfl,?_⟩) hHeld ?_
 ·intro w hSw
  (try dsimp only at hSw)
  go_simp
 (try dsimp only)
 (try simp only [Act.put,List.setIfInBounds_toArray,List.set_cons_zero,List.set_cons_succ])
 refine til_take (i:=1) (d:=97) (v:=.pointer (some ⟨bw,0,none⟩)) rfl rfl (by kernel_rfl) (by kernel_rfl) (by kernel_rfl) (by kernel_rfl) (by kernel_rfl) (fun _ _ _ h=>h) (Or.inl ⟨by rfl,?_⟩) hHeld ?_
 ·intro w hSw
  (try dsimp only at hSw)
  go_simp
 (try dsimp only)
 (try simp only [Act.put,List.setIfInBounds_toArray,List.set_cons_zero,List.set_cons_succ])
 refine til_take (i:=2) (d:=98) (v:=.pointer (some ⟨bw,0,none⟩)) rfl rfl (by kernel_rfl) (by kernel_rfl) (by kernel_rfl) (by kernel_rfl) (by kernel_rfl) (fun _ _ _ h=>h) (Or.inl ⟨by rfl,?_⟩) hHeld ?_
 ·intro w hSw
  (try dsimp only at hSw)
  go_simp
 (try dsimp only)
 (try simp only [Act.put,List.setIfInBounds_toArray,List.set_cons_zero,List.set_cons_succ])
 refine til_take (i:=3) (d:=99) (v:=.pointer (some ⟨bw,3,none⟩)) rfl rfl (by kernel_rfl) (by kernel_rfl) (by kernel_rfl) (by kernel_rfl) (by kernel_rfl) (fun _ _ _ h=>h) (Or.inl ⟨by rfl,?_⟩) hHeld ?_
 ·intro w hSw
  (try dsimp only at hSw)
  go_simp
 (try dsimp only)
 (try simp only [Act.put,List.setIfInBounds_toArray,List.set_cons_zero,List.set_cons_succ])
 refine til_take (i:=4) (d:=100) (v:=.slice AO (n+1) kO) rfl rfl (by kernel_rfl) (by kernel_rfl) (by kernel_rfl) (by kernel_rfl) (by kernel_rfl) (fun _ _ _ h=>h) (Or.inl ⟨by rfl,?_⟩) hHeld ?_
 ·intro w hSw
  (try dsimp only at hSw)
  go_simp
 (try dsimp only)
 (try simp only [Act.put,List.setIfInBounds_toArray,List.set_cons_zero,List.set_cons_succ])
 refine til_take (i:=5) (d:=101) (v:=.pointer (some ⟨ib,io+i*6,none⟩)) rfl rfl (by kernel_rfl) (by kernel_rfl) (by kernel_rfl) (by kernel_rfl) (by kernel_rfl) (fun _ _ _ h=>h) (Or.inl ⟨by rfl,?_⟩) hHeld ?_
 ·intro w hSw
  (try dsimp only at hSw)
  go_simp
 (try dsimp only)
 (try simp only [Act.put,List.setIfInBounds_toArray,List.set_cons_zero,List.set_cons_succ])
 refine til_take (i:=6) (d:=102) (v:=.int .i64 k) rfl rfl (by kernel_rfl) (by kernel_rfl) (by kernel_rfl) (by kernel_rfl) (by kernel_rfl) (fun _ _ _ h=>h) (Or.inl ⟨by rfl,?_⟩) hHeld ?_
 ·intro w hSw
  (try dsimp only at hSw)
  go_simp
 (try dsimp only)
 (try simp only [Act.put,List.setIfInBounds_toArray,List.set_cons_zero,List.set_cons_succ])
 refine til_take (i:=7) (d:=103) (v:=.pointer (some ⟨bw,0,none⟩)) rfl rfl (by kernel_rfl) (by kernel_rfl) (by kernel_rfl) (by kernel_rfl) (by kernel_rfl) (fun _ _ _ h=>h) (Or.inl ⟨by rfl,?_⟩) hHeld ?_
 ·intro w hSw
  (try dsimp only at hSw)
  go_simp
 (try dsimp only)
 (try simp only [Act.put,List.setIfInBounds_toArray,List.set_cons_zero,List.set_cons_succ])
 refine til_take (i:=8) (d:=104) (v:=.pointer (some ⟨bw,0,none⟩)) rfl rfl (by kernel_rfl) (by kernel_rfl) (by kernel_rfl) (by kernel_rfl) (by kernel_rfl) (fun _ _ _ h=>h) (Or.inl ⟨by rfl,?_⟩) hHeld ?_
 ·intro w hSw
  (try dsimp only at hSw)
  go_simp
 (try dsimp only)
 (try simp only [Act.put,List.setIfInBounds_toArray,List.set_cons_zero,List.set_cons_succ])
 refine til_take (i:=9) (d:=105) (v:=.pointer (some ⟨bw,5,none⟩)) rfl rfl (by kernel_rfl) (by kernel_rfl) (by kernel_rfl) (by kernel_rfl) (by kernel_rfl) (fun _ _ _ h=>h) (Or.inl ⟨by rfl,?_⟩) hHeld ?_
 ·intro w hSw
  (try dsimp only at hSw)
  go_simp
 (try dsimp only)
 (try simp only [Act.put,List.setIfInBounds_toArray,List.set_cons_zero,List.set_cons_succ])
 refine til_take (i:=10) (d:=106) (v:=.slice AR c.row.length kR) rfl rfl (by kernel_rfl) (by kernel_rfl) (by kernel_rfl) (by kernel_rfl) (by kernel_rfl) (fun _ _ _ h=>h) (Or.inl ⟨by rfl,?_⟩) hHeld ?_
 ·intro w hSw
  (try dsimp only at hSw)
  go_simp
 (try dsimp only)
 (try simp only [Act.put,List.setIfInBounds_toArray,List.set_cons_zero,List.set_cons_succ])
 refine til_take (i:=11) (d:=107) (v:=.int .i64 c.row.length) rfl rfl (by kernel_rfl) (by kernel_rfl) (by kernel_rfl) (by kernel_rfl) (by kernel_rfl) (fun _ _ _ h=>h) (Or.inl ⟨by rfl,?_⟩) hHeld ?_
 ·intro w hSw
  (try dsimp only at hSw)
  go_simp
 (try dsimp only)
 (try simp only [Act.put,List.setIfInBounds_toArray,List.set_cons_zero,List.set_cons_succ])
 refine til_take (i:=12) (d:=108) (v:=.agg #[.pointer (some ⟨ib,io+i*6,none⟩),.int .i64 k,.int .i64 0,.slice none 0 0,.int .i64 c.row.length]) rfl rfl (by kernel_rfl) (by kernel_rfl) (by kernel_rfl) (by kernel_rfl) (by kernel_rfl) (fun _ _ _ h=>h) (Or.inl ⟨by rfl,?_⟩) hHeld ?_
 ·intro w hSw
  (try dsimp only at hSw)
  go_simp
 (try dsimp only)
 (try simp only [Act.put,List.setIfInBounds_toArray,List.set_cons_zero,List.set_cons_succ])
 refine til_one (i:=13) (by kernel_rfl) rfl (fun K13 hK13 => ?_)
 go_simp
 have h15:Below w10.heap.size w10 (w10.drew.alloc (.cells #[.pointer (some ⟨ib,io+i*6,none⟩),.int .i64 k,.int .i64 0,.slice none 0 0,.int .i64 c.row.length] 96)):=(Below.refl w10.heap.size w10).drew.trans (below1 w10.drew _)
 have H15:=hid h15
 have NEWV:=hid ((GRow.made (K:=visK) (base:=0) (l:=[(⟨ib,io+i*6,k,0,none,0,0,c.row.length⟩:VisV)]) w10.drew #[.pointer (some ⟨ib,io+i*6,none⟩),.int .i64 k,.int .i64 0,.slice none 0 0,.int .i64 c.row.length] rfl (by simp[maxLen]) (Nat.zero_le _)).rd)
 have ROWV:=hid (HM2.out.opn.belowR h15)
 have HS15:=hid (HS3.out _ h15)
 clear h15
 refine hK13.out _ _ (fun _=>HS15.out) ?_
 (try dsimp only)
 (try simp only [Act.put,List.setIfInBounds_toArray,List.set_cons_zero,List.set_cons_succ])
 refine til_one (i:=14) (by kernel_rfl) rfl (fun K14 hK14 => ?_)
 refine step_row_append (KK:=visK) rfl (.tmp 100) (.tmp 109) rfl V0.heap.size (.slice AO (n+1) kO) vs rfl ROWV.out _ 1 1 [(⟨ib,io+i*6,k,0,none,0,0,c.row.length⟩:VisV)] rfl NEWV.out (by have:=HVL.out;omega) (Nat.le_trans HM2.out.bel.size H15.out.size) ?_
 intro v19 w19 row19 grown19 at19
 obtain ⟨A19,c19,hv19,_⟩:=row19.form
 generalize (vs++[(⟨ib,io+i*6,k,0,none,0,0,c.row.length⟩:VisV)]).length=m19 at hv19
 subst hv19
 have o19:=HOW2.out _ _ H15.out grown19
 have k3:=o19.at 3
 have k5:=o19.at 5
 have z3:=o19.free 3
 simp at k3 k5
 have K35:=hid (And.intro k3 k5)
 have HMP:=hid (HM2.out.push H15.out (u:=⟨itmN u.n i,s,r,0,[],c.row.length⟩) (s:=⟨ib,io+i*6,k,0,none,0,0,c.row.length⟩) ⟨HKK.out,rfl,rfl,y,HYP.out,HVY.out⟩ ⟨rfl,rfl,rfl,rfl⟩ HTOP.out row19 grown19)
 clear row19 grown19 at19 o19
 refine hK14.out _ _ (fun _=>K35.out) ?_
 (try dsimp only)
 (try simp only [Act.put,List.setIfInBounds_toArray,List.set_cons_zero,List.set_cons_succ])
 refine til_take (i:=15) (d:=111) (v:=.pointer (some ⟨bw,0,none⟩)) rfl rfl (by kernel_rfl) (by kernel_rfl) (by kernel_rfl) (by kernel_rfl) (by kernel_rfl) (fun _ _ _ h=>h) (Or.inl ⟨by rfl,?_⟩) K35.out ?_
 ·intro w hSw
  (try dsimp only at hSw)
  go_simp
 (try dsimp only)
 (try simp only [Act.put,List.setIfInBounds_toArray,List.set_cons_zero,List.set_cons_succ])
 refine til_take (i:=16) (d:=112) (v:=.pointer (some ⟨bw,3,none⟩)) rfl rfl (by kernel_rfl) (by kernel_rfl) (by kernel_rfl) (by kernel_rfl) (by kernel_rfl) (fun _ _ _ h=>h) (Or.inl ⟨by rfl,?_⟩) K35.out ?_
 ·intro w hSw
  (try dsimp only at hSw)
  go_simp
 (try dsimp only)
 (try simp only [Act.put,List.setIfInBounds_toArray,List.set_cons_zero,List.set_cons_succ])
 refine til_one (i:=17) (by kernel_rfl) rfl (fun K17 hK17 => ?_)
 go_simp
 refine hK17.out _ _ (fun h=>absurd h (by decide)) ?_
 (try dsimp only)
 (try simp only [Act.put,List.setIfInBounds_toArray,List.set_cons_zero,List.set_cons_succ])
 refine til_done (by kernel_rfl) ?_ _
 -- END10
 go_wp2
 go_end0
 rw[HR.out]
 exact ⟨rfl,_,_,_,_,HMP.out⟩
end
section
open Go.RowKit
theorem eenter_any {M:Nat} {v:Tree} {q:List Sgm} {once:Bool} {qA:Option Addr} {qc:Nat} {V0:World} {bw bm:Nat} {W:World} {c:Cfg} {vO vS vR:Value} {vs:List VisV} {L:List Pst} {ns:List NdV}
   (h:MemE M q once qA q.length qc V0 bw bm W c vO vS vR vs L ns) (hA:InvA M v q c) (hM:M≤1000000) (hQ:q.length≤1000) {u:Vis} {st:List Vis} (hc:c.st=u :: st) {i:Nat} {rest:List Sgm} (hi:ItmV M v q u.n i rest) {sb so:Nat} {x:V6} (hx:PtrV V0 sb so x) (hv:VIs V0 u.n.t x) (hi9:i≤1000)
   (h5:u.n.t.kd=5→i<u.n.t.names.length) (hst:st.length≤100000) (hro:c.row.length≤100000) :
   Calls Tryz.prog 42 #[.pointer (some ⟨bw,0,none⟩),.pointer (some ⟨sb,so,none⟩),.int .i64 i,.int .i64 (numV q rest)] W fun e w'=>e=.returned (.tuple #[]) ∧ ∃ vO' vS' vR' vs' L' ns',MemE M q once qA q.length qc V0 bw bm w' (entC q once u.n i rest c) vO' vS' vR' vs' L' ns':=by
 refine ent_cases (P:=fun cf=>Calls Tryz.prog 42 #[.pointer (some ⟨bw,0,none⟩),.pointer (some ⟨sb,so,none⟩),.int .i64 i,.int .i64 (numV q rest)] W fun e w'=>e=.returned (.tuple #[]) ∧ ∃ vO' vS' vR' vs' L' ns',MemE M q once qA q.length qc V0 bw bm w' cf vO' vS' vR' vs' L' ns') (fun ho => ?_) (fun hr ho => ?_) (fun s r hr ho he => ?_) (fun s r hr ho he => ?_)
 ·exact (enter_over h hM hQ hi hx hv hi9 ho).mono fun e w' ⟨h1,h2⟩=>⟨h1,_,_,_,_,_,_,h2⟩
 ·subst hr
  exact (enter_find h hA hM hQ hc hi hx hv hi9 h5 hst hro ho).mono fun e w' ⟨h1,_,_,h2⟩=>⟨h1,_,_,_,_,_,_,h2⟩
 ·exact (enter_bare h hM hQ hi hx hv hi9 ho (by rw[hr];simp) he (by rw[hc];simp;omega)).mono fun e w' ⟨h1,h2⟩=>⟨h1,_,_,_,_,_,_,h2⟩
 ·subst hr
  exact (enter_push h hA hM hQ hc hi hx hv hi9 h5 hst hro ho he).mono fun e w' ⟨h1,_,_,_,_,h2⟩=>⟨h1,_,_,_,_,_,_,h2⟩
theorem MemE.visit {M:Nat} {q:List Sgm} {once:Bool} {qA:Option Addr} {qn qc:Nat} {V0:World} {bw bm:Nat} {w w':World} {c:Cfg} {vO vS vR:Value} {vs:List VisV} {L:List Pst} {ns:List NdV}
   (h:MemE M q once qA qn qc V0 bw bm w c vO vS vR vs L ns) {u:Vis} {st:List Vis} (hc:c.st=u :: st) {g n k:Nat} (hO:vO=.slice (some ⟨g,0,none⟩) n k) (hT:Turned g w w') {s s1:VisV} (hi:vs[st.length]?=some s) (hs:s1.b=s.b∧s1.o=s.o∧s1.k=s.k∧s1.h=s.h)
   (hrow:GRow visK w' V0.heap.size vO (vs.set st.length s1)) {a:Nat} {l:List Nat} (ha:s1.a=a) (hl:ItRd w' V0.heap.size s1.A s1.m s1.c l) :
   MemE M q once qA qn qc V0 bw bm w' ⟨⟨u.n,u.s,u.r,a,l,u.h⟩ :: st,c.ov,c.row⟩ vO vS vR (vs.set st.length s1) L ns:=by
 obtain ⟨cur,hcu⟩:=h.opn.typed (g:=g) (by rw[hO];rfl)
 have hg:V0.heap.size≤g:=(h.opn.low (g:=g) (by rw[hO];rfl)).1
 have hk:∀ (g':Nat) (cs:Array Value) (T:TypeId) (fz:Nat×Nat),w.heap[g']?=some (Obj.cells cs T fz)→T≠visK.T→w'.heap[g']?=w.heap[g']?:=fun g' cs T fz hgc hT' =>
   hT.2.2.2.2 g' (Array.getElem?_eq_some_iff.1 hgc).1 (fun e=>typed_ne hgc hcu hT' e)
 have hu:c.st.reverse[st.length]?=some u:=by rw[hc,List.reverse_cons,List.getElem?_append_right (by simp)];simp
 refine {
   own:=(hk bw _ _ _ h.own (by decide)).trans h.own
   opn:=hrow
   lenO:=by rw[List.length_set,h.lenO,hc];rfl
   vis:=fun i t x h1 h2 => ?_
   stp:=h.stp.move fun g cs fz hc=>hk g cs _ fz hc (by decide)
   top:=fun x st' e => ?_
   row:=h.row.move fun g cs fz hc=>hk g cs _ fz hc (by decide)
   lenR:=h.lenR
   fnd:=fun i t e h1 h2=>⟨(h.fnd i t e h1 h2).1,(h.fnd i t e h1 h2).2.1.move fun g cs fz hc=>hk g cs _ fz hc (by decide),(h.fnd i t e h1 h2).2.2⟩
   ovr:=h.ovr.stay (hT.2.2.2.2 bm h.ovr.lt (fun e=>(h.ovr.not hcu) e.symm))
   bel:=h.bel.trans (hT.below hg (Nat.le_of_lt (Array.getElem?_eq_some_iff.1 hcu).1))
   lowW:=h.lowW
   lowM:=h.lowM }
 ·have h2:(st.reverse++[(⟨u.n,u.s,u.r,a,l,u.h⟩:Vis)])[i]?=some x:=by rw[← List.reverse_cons];exact h2
  rcases Nat.lt_or_ge i st.length with hlt|hge
  ·rw[List.getElem?_set_ne (by omega)] at h1
   rw[List.getElem?_append_left (by rw[List.length_reverse];exact hlt)] at h2
   refine (h.vis i t x h1 ?_).move hT.2.2.2.1 fun g cs fz hc=>hk g cs _ fz hc (by decide)
   rw[hc,List.reverse_cons,List.getElem?_append_left (by rw[List.length_reverse];exact hlt)]
   exact h2
  ·have hie:i=st.length:=by
     have:=(List.getElem?_eq_some_iff.1 h2).1
     rw[List.length_append,List.length_reverse] at this
     simp at this
     omega
   subst hie
   rw[List.getElem?_set_self (List.getElem?_eq_some_iff.1 hi).1] at h1
   rw[List.getElem?_append_right (by simp)] at h2
   obtain rfl:s1=t:=by simpa using h1
   obtain rfl:_=x:=by simpa using h2
   obtain ⟨g1,g2,g3,g4,g5⟩:=h.vis _ s u hi hu
   obtain ⟨e1,e2,e3,e4⟩:=hs
   exact ⟨by rw[e3];exact g1,ha,by rw[e4];exact g3,by rw[e1,e2];exact g4,hl⟩
 ·have e:(⟨u.n,u.s,u.r,a,l,u.h⟩:Vis) :: st=x :: st':=e
  injection e with e1 e2
  subst e1
  exact h.top u st hc
end
end Go.Proofs.YtnokhgfifbkflaaGreat
