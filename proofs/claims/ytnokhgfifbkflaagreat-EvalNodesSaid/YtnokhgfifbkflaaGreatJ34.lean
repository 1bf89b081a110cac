/- Lemmas. -/
import Derived.Test.YtnokhgfifbkflaaGreatProg
import Derived.Test.YtnokhgfifbkflaaGreatJ33
set_option maxRecDepth 100000
set_option maxHeartbeats 8000000
set_option linter.unusedVariables false
set_option linter.unusedSimpArgs false
namespace Go.Proofs.YtnokhgfifbkflaaGreat
open Go.Lib (hid)
section
open Go.RowKit
def LkEnd (v:Tree) (q:List Sgm) (once:Bool) (W:World) (e:Ending) (w':World):Prop :=
 ∃ (u:Value) (ns:List NdV) (l:List Nd),e=.returned u∧GRow fndK w' W.heap.size u ns∧ns.length=l.length∧(∀ (i:Nat) (s:NdV) (d:Nd),ns[i]?=some s→l[i]?=some d→VIs w' d.t s.x∧GRow stpK w' W.heap.size (.slice s.S s.n s.c) d.p)∧Below W.heap.size W w' ∧
   (once=false→l=rowT v q)∧(once=true→(∀ m,m∈l↔m∈rowT v q)∧l.Pairwise fun a b=>a.t.fr≠b.t.fr)
def RelLk (M:Nat) (v:Tree) (q:List Sgm) (once:Bool) (A:Option Addr) (n c:Nat) (V0:World) (bw bm:Nat) (k:Nat) (wr:World):Prop :=
 ∃ (cf:Cfg) (vO vS vR:Value) (vs:List VisV) (L:List Pst) (ns:List NdV),RunM q once v cf∧MemE M q once A n c V0 bw bm wr cf vO vS vR vs L ns∧k=costC cf
theorem suf_at {q pre r:List Sgm} {s:Sgm} (h:q=pre++s :: r):q[numV q (s :: r)]?=some s:=by
 have e:numV q (s :: r)=pre.length:=by unfold numV;rw[h];simp
 rw[e,h,List.getElem?_append_right (Nat.le_refl _)]
 simp
theorem step_some {q:List Sgm} {once:Bool} {c:Cfg} {u:Vis} {st:List Vis} (hc:c.st=u :: st) {i a:Nat} {l:List Nat} (hn:nxtV u.n.t u.s (u.s.sels.length+1-u.a) u.a u.l=some (i,a,l)) :
   stepC q once c=entC q once u.n i (segV u.s u.r a) ⟨⟨u.n,u.s,u.r,a,l,u.h⟩ :: st,c.ov,c.row⟩:=by
 unfold stepC
 rw[hc]
 show (match nxtV u.n.t u.s (u.s.sels.length+1-u.a) u.a u.l with|none=>_|some (i,a,l)=>_)=_
 rw[hn]
theorem step_none {q:List Sgm} {once:Bool} {c:Cfg} {u:Vis} {st:List Vis} (hc:c.st=u :: st) (hn:nxtV u.n.t u.s (u.s.sels.length+1-u.a) u.a u.l=none):stepC q once c=leaC q u st c.ov c.row:=by
 unfold stepC
 rw[hc]
 show (match nxtV u.n.t u.s (u.s.sels.length+1-u.a) u.a u.l with|none=>_|some (i,a,l)=>_)=_
 rw[hn]
theorem num_seg {q pre r:List Sgm} {s:Sgm} (h:q=pre++s :: r) (a:Nat):(if a≤s.sels.length then numV q (s :: r)+1 else numV q (s :: r))=numV q (segV s r a):=by
 unfold segV
 split
 ·exact (num_step h).symm
 ·rfl
theorem invA_end {M:Nat} {v:Tree} {q:List Sgm} {c:Cfg} {u:Vis} {st:List Vis} (h:InvA M v q c) (hc:c.st=u :: st) {a:Nat} (ha:a≤u.s.sels.length+1):InvA M v q ⟨⟨u.n,u.s,u.r,a,[],u.h⟩ :: st,c.ov,c.row⟩:=by
 have hch:=h.chn
 rw[hc] at hch
 refine ⟨fun x hx => ?_,hch,h.dom⟩
 have hu:=h.vis u (by rw[hc];exact List.mem_cons_self)
 rcases List.mem_cons.1 hx with rfl|hx
 ·exact ⟨hu.way,hu.suf,fun j hj=>(by cases hj),ha,hu.had,hu.free⟩
 ·exact h.vis x (by rw[hc];exact List.mem_cons_of_mem _ hx)
theorem elook_any (v:Tree) (x:V6) (q:List Sgm) (once:Bool) (A:Option Addr) (n c M:Nat) (W:World) (hv:VIs W v x) (hq:QRd W A n q) (hfit:∀ w,wayT v w→((atT v w).kd=5→(atT v w).names.length=(atT v w).items.length)∧(atT v w).items.length≤1000) (har:ArmT v) (ho:OrdT v 0 M) (hM:M≤1000) (hQ:q.length≤1000)
   (hsel:∀ g∈q,g.sels.length≤8 ∧ ∀ y∈g.sels,RightI y) (hrow:once=false→(rowT v q).length≤2000) :
   Calls Tryz.prog 21 #[.agg #[.int .i64 x.kd,.int .i64 x.fr,.int .i64 x.to,.string ⟨x.tx.toArray⟩,.slice x.A x.n x.c,.slice x.B x.m x.d],.slice A n c,.bool once] W (LkEnd v q once W):=by
 have hnq:q.length=n:=hq.1
 subst hnq
 have HQR:=hid hq
 obtain ⟨V0,hV0⟩:∃ V0,V0=W.alloc (.cells #[.int .i64 x.kd,.int .i64 x.fr,.int .i64 x.to,.string ⟨x.tx.toArray⟩,.slice x.A x.n x.c,.slice x.B x.m x.d] 29):=⟨_,rfl⟩
 have hbV:Below W.heap.size W V0:=by rw[hV0];exact below1 W _
 have hvV:=hv.stay hbV
 have hoV:Own V0 W.heap.size 29 #[.int .i64 x.kd,.int .i64 x.fr,.int .i64 x.to,.string ⟨x.tx.toArray⟩,.slice x.A x.n x.c,.slice x.B x.m x.d]:=by rw[hV0];exact Own.fresh W _ _
 have hpx:PtrV V0 W.heap.size 0 x:=⟨hoV.inside,hoV.at 0,hoV.at 1,hoV.at 2,hoV.at 3,hoV.at 4,hoV.at 5⟩
 have zV:V0.heap.size=W.heap.size+1:=by rw[hV0];simp
 have p0:=hoV.at 0
 have p1:=hoV.at 1
 have p2:=hoV.at 2
 have p3:=hoV.at 3
 have p4:=hoV.at 4
 have p5:=hoV.at 5
 simp at p0 p1 p2 p3 p4 p5
 have HV0:=hid hV0
 have hq9:(q.length:Int)≤1000:=by omega
 cases q with
 | nil =>
   have HE:=hid (show LkEnd v [] once W (.returned (.slice (some ⟨V0.heap.size,0,none⟩) 1 1)) (V0.alloc (.cells (ndCells ⟨x,none,0,0⟩).toArray 66)) from by
     have hb:Below W.heap.size W (V0.alloc (.cells (ndCells ⟨x,none,0,0⟩).toArray 66)):=hbV.trans ((below1 V0 _).mono hbV.size)
     refine ⟨_,[⟨x,none,0,0⟩],[⟨v,[]⟩],rfl,(GRow.made (K:=fndK) (l:=[(⟨x,none,0,0⟩:NdV)]) V0 _ rfl (show 1≤maxLen by decide) (hbV.size)),rfl,fun i s d h1 h2 => ?_,hb,fun _=>rfl,fun _=>⟨fun m=>Iff.rfl,List.pairwise_singleton _ _⟩⟩
     have hi:i=0:=by have:=(List.getElem?_eq_some_iff.1 h1).1;simp at this;exact this
     subst hi
     obtain rfl:_=s:=by simpa using h1
     obtain rfl:_=d:=by simpa using h2
     exact ⟨hvV.stay (below1 V0 _),GRow.nil _ _⟩)
   unfold ndCells at HE
   rw[zV] at HE
   clear hv hq hvV hoV hpx hbV hV0 hfit har ho hrow hsel
   go_enter Tryz.func21,Tryz.ntmps21
   go_wp2
   rw[← HV0.out]
   go_wp2
   go_ret
   exact HE.out
 | cons s r =>
   obtain ⟨wM,hwM⟩:∃ wM,wM=V0.alloc (.map #[] 0):=⟨_,rfl⟩
   obtain ⟨wO,hwO⟩:∃ wO,wO=wM.alloc (.cells #[.pointer (some ⟨W.heap.size,0,none⟩),.int .i64 0,.int .i64 0,.slice none 0 0,.int .i64 0] 96):=⟨_,rfl⟩
   obtain ⟨wW,hwW⟩:∃ wW,wW=wO.alloc (.cells #[.slice A (s :: r).length c,.bool once,.map (some (W.heap.size+1)),.slice (some ⟨W.heap.size+1+1,0,none⟩) 1 1,.slice none 0 0,.slice none 0 0] 99):=⟨_,rfl⟩
   have zM:wM.heap.size=V0.heap.size+1:=by rw[hwM];simp
   have zO:wO.heap.size=V0.heap.size+2:=by rw[hwO];simp;omega
   have bM:Below V0.heap.size V0 wM:=by rw[hwM];exact below1 V0 _
   have bO:Below wM.heap.size wM wO:=by rw[hwO];exact below1 wM _
   have bW:Below wO.heap.size wO wW:=by rw[hwW];exact below1 wO _
   have hm0:MemE M (s :: r) once A (s :: r).length c V0 (W.heap.size+1+1+1) (W.heap.size+1) wW ⟨[⟨⟨v,[]⟩,s,r,0,[],0⟩],fun _ _=>false,[]⟩ (.slice (some ⟨W.heap.size+1+1,0,none⟩) 1 1) (.slice none 0 0) (.slice none 0 0) [⟨W.heap.size,0,0,0,none,0,0,0⟩] [] []:={
     own:=by rw[hwW,show W.heap.size+1+1+1=wO.heap.size by omega];exact Own.fresh wO _ _
     opn:=by
       have:=GRow.made (K:=visK) (base:=V0.heap.size) (l:=[(⟨W.heap.size,0,0,0,none,0,0,0⟩:VisV)]) wM #[.pointer (some ⟨W.heap.size,0,none⟩),.int .i64 0,.int .i64 0,.slice none 0 0,.int .i64 0] rfl (show 1≤maxLen by decide) (by omega)
       change GRow visK (wM.alloc (.cells #[.pointer (some ⟨W.heap.size,0,none⟩),.int .i64 0,.int .i64 0,.slice none 0 0,.int .i64 0] 96)) _ _ _ at this
       rw[← hwO,show wM.heap.size=W.heap.size+1+1 by omega] at this
       exact this.belowR bW
     lenO:=rfl
     vis:=fun i t u h1 h2=>by
       have hi:i=0:=by have:=(List.getElem?_eq_some_iff.1 h1).1;simp at this;exact this
       subst hi
       obtain rfl:_=t:=by simpa using h1
       obtain rfl:_=u:=by simpa using h2
       exact ⟨by unfold numV;simp,rfl,rfl,⟨x,hpx,hvV⟩,⟨⟨rfl,fun h=>absurd h (Nat.lt_irrefl 0)⟩,Nat.le_refl _,Nat.zero_le _,fun _ _ e=>by cases e⟩⟩
     stp:=GRow.nil _ _
     top:=fun u st e=>by
       injection e with e1 _
       subst e1
       rfl
     row:=GRow.nil _ _
     lenR:=rfl
     fnd:=fun i t d h1 h2=>by simp at h1
     ovr:=by
       have:=over_made M (s :: r).length V0
       rw[← hwM,zV] at this
       exact (this.stay (bO.block _ this.lt)).stay (bW.block _ (Nat.lt_of_lt_of_le this.lt bO.size))
     bel:=bM.trans ((bO.trans (bW.mono bO.size)).mono bM.size)
     lowW:=by omega
     lowM:=by omega }
   have HM0:=hid hm0
   have HWM:=hid hwM
   have HWO:=hid hwO
   have HWW:=hid hwW
   have HBV:=hid hbV
   have HZ:=hid (And.intro zV (And.intro zM zO))
   have HHO:=hid ho
   have HFIT:=hid hfit
   have HSE:=hid hsel
   have HRW:=hid hrow
   have HAR:=hid har
   have HQV:=hid (hq.stay hbV)
   have hq0:((((s :: r).length:Nat):Int)==0)=false:=beq_eq_false_iff_ne.2 (by simp;omega)
   clear hv hq hvV hoV hpx hbV hV0 hm0 hwM hwO hwW bM bO bW hfit hsel hrow har ho
   have hqp:0<(s :: r).length:=by simp
   clear hq0
   generalize hqq:s :: r=qq at *
   have HQQ:=hid hqq.symm
   clear hqq
   have hq0:((qq.length:Int)==0)=false:=beq_eq_false_iff_ne.2 (by omega)
   have hmm:=@run_makeMap Tryz.prog
   go_enter Tryz.func21,Tryz.ntmps21
   go_wp2
   rw[← HV0.out,← HWM.out,← HWO.out,← HWW.out]
   obtain ⟨bw,hbw⟩:∃ bw,bw=W.heap.size+1+1+1:=⟨_,rfl⟩
   have HBW:=hid hbw
   rw[← hbw] at HM0
   rw[← HBW.out]
   obtain ⟨bm,hbm⟩:∃ bm,bm=W.heap.size+1:=⟨_,rfl⟩
   have hv0m:V0.heap.size=bm:=by rw[hbm];exact zV
   have hmem:∃ cf vO vS vR vs L ns,RunM qq once v cf∧MemE M qq once A qq.length c V0 bw bm wW cf vO vS vR vs L ns:=by
     rw[hbm]
     exact ⟨_,_,_,_,_,_,_,RunM.start s r HQQ.out,HM0.out⟩
   obtain ⟨cf0,vO0,vS0,vR0,vs0,L0,ns0,hrun0,hmm0⟩:=hmem
   have HST0:=hid (show RelLk M v qq once A qq.length c V0 bw bm (costC cf0) wW from ⟨cf0,vO0,vS0,vR0,vs0,L0,ns0,hrun0,hmm0,rfl⟩)
   clear hbw hmm0 hrun0 hmm
   go_loopg [8] (costC cf0) (fun k _ wr=>RelLk M v qq once A qq.length c V0 bw bm k wr)
   case atStart=>exact HST0.out
   case round =>
     obtain ⟨cf,vO,vS,vR,vs,L,ns,hrun,hm,hk⟩:=hrel
     have hA:=invA_run HAR.out HHO.out hrun
     have hrl:cf.row.length≤100000:=by
       cases once
       ·have h1:=row_short HAR.out HHO.out hrun
        have h2:=HRW.out rfl
        omega
       ·have h1:=once_short HAR.out HHO.out hrun
        omega
     have hsl:=open_short HHO.out hA
     obtain ⟨AO,kO,hO,_,_,hg⟩:=hm.opn.form
     have c3:=hm.own.at 3
     have c5:=hm.own.at 5
     simp at c3 c5
     rw[hO] at c3
     cases hst:cf.st with
     | nil =>
       have hvl:vs.length=0:=by rw[hm.lenO,hst];rfl
       rw[hvl] at c3
       have HE:=hid (show LkEnd v qq once W (.returned vR) wr from ⟨vR,ns,cf.row,rfl,hm.row.mono HBV.out.size,hm.lenR,fun i s d h1 h2=>⟨(hm.fnd i s d h1 h2).1.stay hm.bel,(hm.fnd i s d h1 h2).2.1.mono HBV.out.size⟩,HBV.out.trans (hm.bel.mono HBV.out.size),fun e=>by subst e;exact row_done HAR.out HHO.out hrun hst,fun e=>by subst e;exact once_done HAR.out HHO.out hrun hst⟩)
       clear hm hrun hA hO hg hst hvl hk hrl hsl
       go_wp2
       go_ret
       exact HE.out
     | cons u st =>
       have hvl:vs.length=st.length+1:=by rw[hm.lenO,hst];rfl
       obtain ⟨g,hAO,hgb,hgs⟩:=hg (by omega)
       subst hAO
       rw[hvl] at c3 hO
       have hi:vs[st.length]?=some (vs[st.length]'(by omega)):=List.getElem?_eq_getElem (by omega)
       generalize (vs[st.length]'(by omega))=s0 at hi
       have hu:cf.st.reverse[st.length]?=some u:=by rw[hst,List.reverse_cons,List.getElem?_append_right (by simp)];simp
       obtain ⟨k1,k2,k3,⟨y,hpy,hvy⟩,hit⟩:=hm.vis _ s0 u hi hu
       have hrw:=hm.opn
       rw[hO] at hrw
       have hgu:=hA.vis u (by rw[hst];exact List.mem_cons_self)
       obtain ⟨w,hw,ew⟩:=hgu.way
       obtain ⟨pre,hpre⟩:=hgu.suf
       have hfw:=HFIT.out w hw
       have hut:u.n.t=atT v w:=congrArg Nd.t ew
       rw[← hut] at hfw
       have hkat:=suf_at hpre
       have hklt:=num_lt hpre
       obtain ⟨a,hAa,hab,hcl⟩:=HQV.out.2 hqp
       subst hAa
       obtain ⟨B,m2,c2,hd,hB,hsr⟩:=hcl _ u.s hkat
       have hab2:(a.add (numV qq (u.s :: u.r)*2)).block<V0.heap.size:=by rw[add_block14];exact hab
       have e0:=(hm.bel.cell hab2).trans hd
       have e1:=(hm.bel.cell (p:=⟨(a.add (numV qq (u.s :: u.r)*2)).block,(a.add (numV qq (u.s :: u.r)*2)).off+1,none⟩) hab2).trans hB
       have hsg:=HSE.out u.s (by rw[hpre];simp)
       have hstl:st.length+1≤1000:=by
         have h:=hsl
         rw[hst] at h
         simp at h
         omega
       have hva:=vis_at hrw hi rfl
       obtain ⟨v0,v1,_,_,_⟩:=hva
       have KN:=enext_any u.n.t y u.s s0 u.l vs g (st.length*5) st.length (st.length+1) kO B m2 c2 V0 wr hm.bel hgb rfl (by omega) hrw hi hpy hvy hit hsr hsg.2 hsg.1 (by rw[k2];exact hgu.few) (by rw[k1];omega) hfw.1 hfw.2
       rw[k2] at KN
       have hcs:=cost_step (once:=once) HAR.out HHO.out hA (by rw[hst];simp)
       have HCS:=hid (show costC (stepC qq once cf)<gk by rw[hk];exact hcs)
       have hrun2:=RunM.step cf hrun (by rw[hst];simp)
       have hwr:IntKind.i64.wrap (st.length:Int)=st.length:=by rw[IntKind.wrap_i64];omega
       have hn9:(st.length:Int)≤1000:=by omega
       have hn91:st.length≤100000:=by omega
       rw[k1] at v1
       cases hnx:nxtV u.n.t u.s (u.s.sels.length+1-u.a) u.a u.l with
       | none =>
         rw[hnx] at KN
         have KL:=hid (fun (s1:VisV) (w5:World) (hs:s1.b=s0.b∧s1.o=s0.o∧s1.k=s0.k∧s1.h=s0.h) (hT:Turned g wr w5) (hr5:GRow visK w5 V0.heap.size (.slice (some ⟨g,0,none⟩) (st.length+1) kO) (vs.set st.length s1)) (ha1:s1.a≤u.s.sels.length+1) (hit5:ItRd w5 V0.heap.size s1.A s1.m s1.c []) =>
           show Calls Tryz.prog 43 #[.pointer (some ⟨bw,0,none⟩)] w5 (fun e w6=>e=.returned (.tuple #[])∧RelLk M v qq once (some a) qq.length c V0 bw bm (costC (stepC qq once cf)) w6) from
           (eleave_any (hm.visit hst hO hT hi hs (by rw[hO];exact hr5) rfl hit5) (invA_end hA hst ha1) (by omega) (by omega) HHO.out rfl (by omega) (show cf.row.length≤1000000 by omega)).mono (fun e w6 hh=>by
             obtain ⟨h1,vO',vs',h2⟩:=hh
             exact ⟨h1,stepC qq once cf,_,_,_,_,_,_,hrun2,by rw[step_none hst hnx];exact h2,rfl⟩))
         have HKN:=hid KN
         unfold NxEnd at HKN
         clear KN hm hrun hA hO hg hst hvl hk hrl hsl hi hu k1 k2 k3 hpy hvy hit hrw hgu hw ew hfw hut hkat hcl hd hB hsr hab hab2 hsg hcs hrun2 hnx hn91 hpre hstl hgb hgs
         generalize st.length=n1 at *
         generalize numV qq (u.s :: u.r)=kk at *
         have hk0:(kk:Int)<qq.length:=by omega
         go_wp2_with (first
           | (go_at_call 41
              go_must (
                refine HKN.out.mono ?_
                rintro e w5 ⟨s1,hs,hT,hr5,rfl,ha1,hit5⟩
                have KL5:=hid (KL.out s1 w5 hs hT hr5 ha1 hit5)
                clear hs hT hr5 ha1 hit5))
           | (go_at_call 43
              go_must (
                refine KL5.out.mono ?_
                rintro e w6 ⟨rfl,hr6⟩
                have HR6:=hid hr6
                clear hr6)))
         go_roundg (costC (stepC qq once cf))
         case measure=>exact HCS.out
         case rel=>exact HR6.out
       | some r3 =>
         obtain ⟨i,aa,l⟩:=r3
         rw[hnx] at KN
         obtain ⟨hA2,hin⟩:=nxt_good HAR.out hA hst hnx
         have hitv:=itm_good (a:=aa) HHO.out hgu hin
         have KL:=hid (fun (s1:VisV) (w5:World) (hs:s1.b=s0.b∧s1.o=s0.o∧s1.k=s0.k∧s1.h=s0.h) (hT:Turned g wr w5) (hr5:GRow visK w5 V0.heap.size (.slice (some ⟨g,0,none⟩) (st.length+1) kO) (vs.set st.length s1)) (ha1:s1.a=aa) (hit5:ItRd w5 V0.heap.size s1.A s1.m s1.c l) =>
           show Calls Tryz.prog 42 #[.pointer (some ⟨bw,0,none⟩),.pointer (some ⟨s0.b,s0.o,none⟩),.int .i64 i,.int .i64 (numV qq (segV u.s u.r aa))] w5 (fun e w6=>e=.returned (.tuple #[])∧RelLk M v qq once (some a) qq.length c V0 bw bm (costC (stepC qq once cf)) w6) from
           (eenter_any (u:=⟨u.n,u.s,u.r,aa,l,u.h⟩) (hm.visit hst hO hT hi hs (by rw[hO];exact hr5) ha1 hit5) hA2 (by omega) (by omega) rfl hitv hpy hvy (by omega) (fun h=>by rw[hfw.1 h];exact hin) (by omega) (show cf.row.length≤100000 by omega)).mono (fun e w6 hh=>by
             obtain ⟨h1,vO',vS',vR',vs',L',ns',h2⟩:=hh
             exact ⟨h1,stepC qq once cf,_,_,_,_,_,_,hrun2,by rw[step_some hst hnx];exact h2,rfl⟩))
         have HV5:=hid (fun (s1:VisV) (w5:World) (hs:s1.b=s0.b∧s1.o=s0.o∧s1.k=s0.k∧s1.h=s0.h) (hr5:GRow visK w5 V0.heap.size (.slice (some ⟨g,0,none⟩) (st.length+1) kO) (vs.set st.length s1)) =>
           show w5.cell? ⟨g,st.length*5,none⟩=some (.pointer (some ⟨s0.b,s0.o,none⟩)) from by
             have h:=(vis_at hr5 (List.getElem?_set_self (List.getElem?_eq_some_iff.1 hi).1) rfl).1
             rw[hs.1,hs.2.1] at h
             exact h)
         have hsq:(if aa≤u.s.sels.length then s0.k+1 else s0.k)=numV qq (segV u.s u.r aa):=by rw[k1];exact num_seg hpre aa
         have HKN:=hid KN
         unfold NxEnd at HKN
         simp only [hsq] at HKN
         clear KN hm hrun hA hO hg hst hvl hk hrl hsl hi hu k1 k2 k3 hpy hvy hit hrw hgu hw ew hfw hut hkat hcl hd hB hsr hab hab2 hsg hcs hrun2 hnx hn91 hpre hstl hgb hgs hA2 hin hitv hsq
         generalize st.length=n1 at *
         generalize numV qq (segV u.s u.r aa)=kk2 at *
         generalize numV qq (u.s :: u.r)=kk at *
         have hk0:(kk:Int)<qq.length:=by omega
         go_wp2_with (first
           | (go_at_call 41
              go_must (
                refine HKN.out.mono ?_
                rintro e w5 ⟨s1,hs,hT,hr5,rfl,ha1,hit5⟩
                have KL5:=hid (KL.out s1 w5 hs hT hr5 ha1 hit5)
                have hv5:=HV5.out s1 w5 hs hr5
                clear hs hT hr5 ha1 hit5))
           | (go_at_call 42
              go_must (
                refine KL5.out.mono ?_
                rintro e w6 ⟨rfl,hr6⟩
                have HR6:=hid hr6
                clear hr6)))
         go_roundg (costC (stepC qq once cf))
         case measure=>exact HCS.out
         case rel=>exact HR6.out
end
section
open Go.RowKit
structure EnV where
 S:Option Addr
 n:Nat
 c:Nat
 fr:Nat
 td:Nat
def enK:RowK EnV where
 T:=49
 S:=33
 n:=3
 bytes:=40
 zero:=.agg #[.slice none 0 0,.int .i64 0,.int .i64 0]
 enc:=fun s=>[.slice s.S s.n s.c,.int .i64 s.fr,.int .i64 s.td]
 pos:=by decide
 len:=fun _=>rfl
 one:=fun x u h=>by
   simp at h
   rcases h with rfl|rfl|rfl<;>rfl
 under:=Tryz.underlying33
 info:=by kernel_rfl
 zlen:=rfl
 small:=by decide
theorem grow_rd16 {α:Type} {K:RowK α} {w:World} {base:Nat} {A:Option Addr} {m c:Nat} {l:List α} (h:GRow K w base (.slice A m c) l):RdG K w A m l:=by
 obtain ⟨A',c',e,_⟩:=h.form
 injection e with e1 e2 e3
 subst e1 e2
 exact h.rd
def EsRd (w:World) (A:Option Addr) (m:Nat) (l:List Nd):Prop :=
 ∃ ns:List EnV,RdG enK w A m ns∧ns.length=l.length ∧ ∀ (i:Nat) (s:EnV) (d:Nd),ns[i]?=some s→l[i]?=some d→s.fr=d.t.fr∧s.td=d.t.to∧RdG stpK w s.S s.n d.p
end
section
open Go.RowKit
def enOf (s:NdV):EnV:=⟨s.S,s.n,s.c,s.x.fr,s.x.to⟩
theorem make_room {α:Type} (K:RowK α) (w:World) (n:Nat) (hn:n≤1000000) :
   (Instr.makeSlice K.S (.int .i64 0) (.int .i64 n)).run Tryz.prog w=.ok (.slice (some ⟨w.heap.size,0,none⟩) 0 n) (w.alloc (.cells (madeCells K.zero.cells (n*K.n)) K.T)):=by
 have hinfo:=K.info
 cases hq:Tryz.prog.info? K.T with
 | none=>rw[hq] at hinfo;cases hinfo
 | some i =>
   rw[hq] at hinfo
   simp only [Option.map_some,Option.some.injEq,Prod.mk.injEq] at hinfo
   obtain ⟨h1,h2,h3⟩:=hinfo
   have hs:=K.small
   have hb:(i.bytes:Int)*(n:Int)≤281474976710656:=by
     have h4:i.bytes*n≤1000*1000000:=Nat.mul_le_mul (by omega) hn
     have h5:(i.bytes:Int)*(n:Int)=((i.bytes*n:Nat):Int):=by simp
     rw[h5]
     omega
   have:=run_make (P:=Tryz.prog) w K.S K.T i K.zero K.under hq h1 .i64 .i64 0 n (by omega) (by omega) hb (by omega)
   rw[h2] at this
   simpa using this
theorem made_room {α:Type} (K:RowK α) (w:World) (n:Nat) (hn:n≤1000000) (base:Nat) (hb:base≤w.heap.size):GRow K (w.alloc (.cells (madeCells K.zero.cells (n*K.n)) K.T)) base (.slice (some ⟨w.heap.size,0,none⟩) 0 n) [] :=
 ⟨by simp[RowK.all],.inr ⟨w.heap.size,n,_,rfl,hb,heap_alloc_new w _,Nat.zero_le _,by unfold maxLen;omega,by simp[madeCells],by simp[RowK.all]⟩⟩
def RelNs (W:World) (ns:List NdV) (vo i:Value) (wr:World):Prop :=
 ∃ (k:Nat) (V:Value),V=vo∧k≤ns.length∧i=.int .i64 k∧GRow enK wr W.heap.size vo ((ns.take k).map enOf)∧Below W.heap.size W wr
theorem enodes_row (A:Option Addr) (m c:Nat) (ns:List NdV) (W:World) (hr:RdG fndK W A m ns) (h9:ns.length≤100000) :
   Calls Tryz.prog 25 #[.slice A m c] W fun e w' => ∃ u,e=.returned u∧GRow enK w' W.heap.size u (ns.map enOf)∧Below W.heap.size W w':=by
 have hm:ns.length=m:=hr.1
 subst hm
 have HR:=hid hr
 have hmk:=make_room enK W ns.length (by omega)
 have HMD:=hid (made_room enK W ns.length (by omega) W.heap.size (Nat.le_refl _))
 change (Instr.makeSlice 33 (.int .i64 0) (.int .i64 (ns.length:Int))).run Tryz.prog W=.ok (.slice (some ⟨W.heap.size,0,none⟩) 0 ns.length) (W.alloc (.cells (madeCells enK.zero.cells (ns.length*enK.n)) 49)) at hmk
 have hb0:=below1 W (.cells (madeCells enK.zero.cells (ns.length*enK.n)) 49)
 have HB0:=hid hb0
 generalize (madeCells enK.zero.cells (ns.length*enK.n))=cur0 at *
 have h9I:(ns.length:Int)≤100000:=by omega
 clear hr hb0
 go_enter Tryz.func25,Tryz.ntmps25
 go_wp2
 go_loopw [3,11] (fun vo i wr=>RelNs W ns vo i wr) (fun _ i _=>ns.length-(intOf i).toNat)
 case atStart=>exact ⟨0,_,rfl,Nat.zero_le _,rfl,HMD.out,HB0.out⟩
 case round =>
   obtain ⟨k,V,rfl,hk,rfl,hq,hb⟩:=hrel
   have hk9:(k:Int)≤100000:=by omega
   by_cases hlt:k<ns.length
   rotate_left
   ·have hltI:¬ (k:Int)<ns.length:=by omega
    have HQ:=hid (show GRow enK wr W.heap.size V (ns.map enOf) by
      have e:ns.take k=ns:=List.take_of_length_le (by omega)
      rwa [e] at hq)
    have HB:=hid hb
    clear hq hb hmk
    go_wp2
    go_ret
    exact ⟨_,rfl,HQ.out,HB.out⟩
   have hltI:(k:Int)<ns.length:=by omega
   have rr:=HR.out.below hb
   obtain ⟨b,o,hA,hbs,_⟩:=rr.2 (by omega)
   subst hA
   have cc:∀ j u,(ndCells ns[k])[j]?=some u→wr.cell? ⟨b,o+(k*7+j),none⟩=some u:=fun j u hu=>rr.at rfl (List.getElem?_eq_getElem hlt) (j:=j) (u:=u) hu
   have HTK:=hid (show (ns.take (k+1)).map enOf=(ns.take k).map enOf++[enOf ns[k]] by rw[List.take_succ_eq_append_getElem hlt,List.map_append];rfl)
   generalize ns[k]=s at *
   obtain ⟨⟨xk,xf,xt,xx,xA,xn,xc,xB,xm,xd⟩,sS,sn,sc⟩:=s
   have a0:wr.cell? ⟨b,o+k*7,none⟩=some (.int .i64 xk):=cc 0 _ rfl
   have a1:wr.cell? ⟨b,o+k*7+1,none⟩=some (.int .i64 xf):=by rw[Nat.add_assoc];exact cc 1 _ rfl
   have a2:wr.cell? ⟨b,o+k*7+2,none⟩=some (.int .i64 xt):=by rw[Nat.add_assoc];exact cc 2 _ rfl
   have a3:wr.cell? ⟨b,o+k*7+3,none⟩=some (.string ⟨xx.toArray⟩):=by rw[Nat.add_assoc];exact cc 3 _ rfl
   have a4:wr.cell? ⟨b,o+k*7+4,none⟩=some (.slice xA xn xc):=by rw[Nat.add_assoc];exact cc 4 _ rfl
   have a5:wr.cell? ⟨b,o+k*7+5,none⟩=some (.slice xB xm xd):=by rw[Nat.add_assoc];exact cc 5 _ rfl
   have a6:wr.cell? ⟨b,o+k*7+6,none⟩=some (.slice sS sn sc):=by rw[Nat.add_assoc];exact cc 6 _ rfl
   obtain ⟨w2,hw2⟩:∃ w2,w2=wr.alloc (.cells #[.int .i64 xk,.int .i64 xf,.int .i64 xt,.string ⟨xx.toArray⟩,.slice xA xn xc,.slice xB xm xd,.slice sS sn sc] 66):=⟨_,rfl⟩
   have hb2:Below wr.heap.size wr w2:=by rw[hw2];exact below1 wr _
   have hb3:=below1 w2 (.cells #[.slice sS sn sc,.int .i64 xf,.int .i64 xt] 49)
   have HB5:=hid (hb.trans ((hb2.trans (hb3.mono hb2.size)).mono hb.size))
   have HQ5:=hid (hq.belowR (hb2.trans (hb3.mono hb2.size)))
   have HN5:=hid ((GRow.made (K:=enK) (base:=0) (l:=[(⟨sS,sn,sc,xf,xt⟩:EnV)]) w2 #[.slice sS sn sc,.int .i64 xf,.int .i64 xt] rfl (by simp[maxLen]) (Nat.zero_le _)).rd)
   have htl:((ns.take k).map enOf).length≤100000:=by rw[List.length_map,List.length_take];omega
   have HTL:=hid htl
   have z2:w2.heap.size=wr.heap.size+1:=by rw[hw2];simp
   rw[z2] at HN5
   rw[hw2] at HB5 HQ5 HN5
   have hwz:=hb.size
   clear cc rr hq hmk hw2 hb2 hb3 htl hbs z2
   go_wp2_with (first
     | (at_builtin
        go_must (
          refine row_append (K:=enK) _ rfl (.tmp 15) (.tmp 25) rfl W.heap.size _ ((ns.take k).map enOf) rfl HQ5.out _ 1 1 [(⟨sS,sn,sc,xf,xt⟩:EnV)] rfl HN5.out (by have:=HTL.out;omega) HB5.out.size ?_
          intro v6 w6 row6 grown6 at6
          have HB6:=hid (below_grown HB5.out grown6 HB5.out.size (fun g' hg'=>(HQ5.out.low (g:=g') hg').1))
          have R6:=hid row6
          clear grown6 at6 row6)))
   go_roundw
   case rel=>exact ⟨k+1,_,rfl,hlt,by go_num,by rw[HTK.out];exact R6.out,HB6.out⟩
   case measure=>simp[intOf];omega
end
end Go.Proofs.YtnokhgfifbkflaaGreat
