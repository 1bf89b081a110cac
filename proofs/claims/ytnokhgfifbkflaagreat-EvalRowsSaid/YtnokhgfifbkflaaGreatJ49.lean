/- Lemmas. -/
import Derived.Test.YtnokhgfifbkflaaGreatProg
import Derived.Test.YtnokhgfifbkflaaGreatJ43
import Derived.Test.YtnokhgfifbkflaaGreatJ47
import Derived.Test.YtnokhgfifbkflaaGreatJ48
set_option maxRecDepth 100000
set_option maxHeartbeats 8000000
set_option linter.unusedVariables false
set_option linter.unusedSimpArgs false
namespace Go.Proofs.YtnokhgfifbkflaaGreat
open Go.Lib (hid)
section
open Go.RowKit
theorem erow_any (v:Tree) (x:V6) (q:List Sgm) (A:Option Addr) (n c M:Nat) (W:World) (hv:VIs W v x) (hq:QRd W A n q) (hk:OkE v q M) (hrow:(rowT v q).length≤2000) :
   Calls Tryz.prog 14 #[.agg #[.int .i64 x.kd,.int .i64 x.fr,.int .i64 x.to,.string ⟨x.tx.toArray⟩,.slice x.A x.n x.c,.slice x.B x.m x.d],.slice A n c] W (EvEnd (rowT v q) W):=by
 obtain ⟨W1,hW1⟩:∃ W1,W1=W.alloc (.cells #[.int .i64 x.kd,.int .i64 x.fr,.int .i64 x.to,.string ⟨x.tx.toArray⟩,.slice x.A x.n x.c,.slice x.B x.m x.d] 29):=⟨_,rfl⟩
 have hb1:Below W.heap.size W W1:=by rw[hW1];exact below1 W _
 have KL:=hid (elook_any v x q false A n c M W1 (hv.stay hb1) (hq.stay hb1) hk.fit hk.arm hk.ord hk.few hk.len hk.sel (fun _=>hrow))
 unfold LkEnd at KL
 have HB1:=hid hb1
 rw[hW1] at KL
 have HW1:=hid hW1
 have HRL:=hid hrow
 clear hv hq hk hW1 hb1 hrow
 go_enter Tryz.func14,Tryz.ntmps14
 go_wp2_with (first
   | (go_at_call 21
      go_must (
        refine KL.out.mono ?_
        rintro e w5 ⟨u5,ns,l,rfl,hrow5,hlen,hel,hb5,hl,_⟩
        obtain ⟨A5,c5,rfl,_⟩:=hrow5.form
        have hl:=hl rfl
        rw[← HW1.out] at hb5
        have KN:=hid (enodes_row A5 ns.length c5 ns w5 hrow5.rd (by rw[hlen,hl];have:=HRL.out;omega))
        have HD:=hid (And.intro hlen (And.intro hel (And.intro hl (HB1.out.trans (hb5.mono HB1.out.size)))))
        clear hrow5 hlen hel hb5 hl))
   | (go_at_call 25
      go_must (
        refine KN.out.mono ?_
        rintro e w6 ⟨u6,rfl,hr6,hb6⟩
        obtain ⟨A6,c6,rfl,_⟩:=hr6.form
        have HE:=hid (show EvEnd (rowT v q) W (.returned (.slice A6 (ns.map enOf).length c6)) w6 from ⟨_,_,_,rfl,by
          obtain ⟨h1,h2,h3,h4⟩:=HD.out
          rw[← h3]
          exact es_of hr6 h1 (fun i s d e1 e2=>⟨(vis_fr (h2 i s d e1 e2).1).1,(vis_fr (h2 i s d e1 e2).1).2.1,(h2 i s d e1 e2).2⟩) hb6,HD.out.2.2.2.trans (hb6.mono HD.out.2.2.2.size)⟩)
        clear hr6 hb6)))
 go_ret
 have hE:=HE.out
 rw[List.length_map] at hE
 exact hE
end
section
open Go.RowKit
theorem child_len (v:Tree) (s:Sel):(childT v s).length≤v.items.length:=by
 rw[← pre_child]
 exact pre_len v s _
theorem pick_len (s:Sgm) (n:Nd):(pickN s n).length≤s.sels.length*n.t.items.length:=by
 unfold pickN
 induction s.sels with
 | nil=>simp
 | cons a t ih =>
   rw[List.flatMap_cons,List.length_append,List.length_map,List.length_cons,Nat.add_mul]
   have:=child_len n.t a
   omega
mutual
theorem sel_len (s:Sgm):∀ (t:Tree) (p:List Pst),(selN s t p).length≤s.sels.length*(cnT t-1)
 | .mk kd fr td tx items names,p=>by
   have h1:=pick_len s ⟨.mk kd fr td tx items names,p⟩
   have h2:=selL_len s (.mk kd fr td tx items names) items 0 p
   have h3:items.length≤cnL items:=cn_len items
   rw[selN,List.length_append]
   have e:cnT (.mk kd fr td tx items names)-1=cnL items:=by rw[cnT];omega
   rw[e]
   have h4:s.sels.length*cnL items=s.sels.length*(cnL items-items.length)+s.sels.length*items.length:=by rw[← Nat.mul_add];congr 1;omega
   replace h1:(pickN s ⟨.mk kd fr td tx items names,p⟩).length≤s.sels.length*items.length:=h1
   split
   ·omega
   ·simp only [List.length_nil];omega
theorem selL_len (s:Sgm) (v:Tree):∀ (ts:List Tree) (i:Nat) (p:List Pst),(selL s v ts i p).length≤s.sels.length*(cnL ts-ts.length)
 | [],i,p=>by rw[selL];simp
 | t :: ts,i,p=>by
   have h1:=sel_len s t (p++[stpT v i])
   have h2:=selL_len s v ts (i+1) p
   have h3:=cn_len ts
   have h4:=cn_pos t
   rw[selL,List.length_append]
   have e:cnL (t :: ts)-(t :: ts).length=(cnT t-1)+(cnL ts-ts.length):=by rw[cnL,List.length_cons];omega
   rw[e,Nat.mul_add]
   omega
end
end
section
open Go.RowKit
def SelEnd (V0 W:World)(l:List Nd)(e:Ending)(w':World):Prop:=∃ v,e=.returned v∧NsIs V0 w' W.heap.size v l∧Below W.heap.size W w'
def SelsR (sg:Sgm) (t:Tree):Prop:=∀ (s:NdV) (p:List Pst) (B:Option Addr) (m c:Nat) (V0 W:World),Below V0.heap.size V0 W→VIs V0 t s.x→RdG stpK W s.S s.n p→SRd W B m sg.sels→NamT t→cnT t≤100000→p.length+cnT t≤900000 →
   Calls Tryz.prog 32 #[.agg #[.int .i64 s.x.kd,.int .i64 s.x.fr,.int .i64 s.x.to,.string ⟨s.x.tx.toArray⟩,.slice s.x.A s.x.n s.x.c,.slice s.x.B s.x.m s.x.d,.slice s.S s.n s.c],.agg #[.bool sg.deep,.slice B m c]] W (SelEnd V0 W (selN sg t p))
def AtS (q:Nat) (s:NdV) (dp:Bool) (B:Option Addr) (m c:Nat) (w:World):Prop :=
 (w.cell? ⟨q,0,none⟩=some (.int .i64 s.x.kd)∧w.cell? ⟨q,1,none⟩=some (.int .i64 s.x.fr)∧w.cell? ⟨q,2,none⟩=some (.int .i64 s.x.to)∧w.cell? ⟨q,3,none⟩=some (.string ⟨s.x.tx.toArray⟩)∧w.cell? ⟨q,4,none⟩=some (.slice s.x.A s.x.n s.x.c)∧w.cell? ⟨q,5,none⟩=some (.slice s.x.B s.x.m s.x.d)∧w.cell? ⟨q,6,none⟩=some (.slice s.S s.n s.c)) ∧
 (w.cell? ⟨q+1,0,none⟩=some (.bool dp)∧w.cell? ⟨q+1,1,none⟩=some (.slice B m c))
theorem AtS.on {q:Nat} {s:NdV} {dp:Bool} {B:Option Addr} {m c:Nat} {w w':World} (hq:q+1<w.heap.size) (h:AtS q s dp B m c w) (hb:Below w.heap.size w w'):AtS q s dp B m c w':=by
 obtain ⟨⟨a0,a1,a2,a3,a4,a5,a6⟩,e0,e1⟩:=h
 have f:∀ j,w'.cell? ⟨q,j,none⟩=w.cell? ⟨q,j,none⟩:=fun j=>hb.cell (p:=⟨q,j,none⟩) (by show q<_;omega)
 have g:∀ j,w'.cell? ⟨q+1,j,none⟩=w.cell? ⟨q+1,j,none⟩:=fun j=>hb.cell (p:=⟨q+1,j,none⟩) hq
 exact ⟨by simp only [f];exact ⟨a0,a1,a2,a3,a4,a5,a6⟩,by simp only [g];exact ⟨e0,e1⟩⟩
theorem atS_made (W:World) (s:NdV) (dp:Bool) (B:Option Addr) (m c:Nat):AtS W.heap.size s dp B m c ((W.alloc (.cells #[.int .i64 s.x.kd,.int .i64 s.x.fr,.int .i64 s.x.to,.string ⟨s.x.tx.toArray⟩,.slice s.x.A s.x.n s.x.c,.slice s.x.B s.x.m s.x.d,.slice s.S s.n s.c] 60)).alloc (.cells #[.bool dp,.slice B m c] 40)):=by
 have h1:=(Own.fresh W 60 #[.int .i64 s.x.kd,.int .i64 s.x.fr,.int .i64 s.x.to,.string ⟨s.x.tx.toArray⟩,.slice s.x.A s.x.n s.x.c,.slice s.x.B s.x.m s.x.d,.slice s.S s.n s.c]).over (.cells #[.bool dp,.slice B m c] 40)
 have h2:=Own.fresh (W.alloc (.cells #[.int .i64 s.x.kd,.int .i64 s.x.fr,.int .i64 s.x.to,.string ⟨s.x.tx.toArray⟩,.slice s.x.A s.x.n s.x.c,.slice s.x.B s.x.m s.x.d,.slice s.S s.n s.c] 60)) 40 #[.bool dp,.slice B m c]
 rw[show (W.alloc (.cells #[.int .i64 s.x.kd,.int .i64 s.x.fr,.int .i64 s.x.to,.string ⟨s.x.tx.toArray⟩,.slice s.x.A s.x.n s.x.c,.slice s.x.B s.x.m s.x.d,.slice s.S s.n s.c] 60)).heap.size=W.heap.size+1 by simp] at h2
 exact ⟨⟨h1.at 0,h1.at 1,h1.at 2,h1.at 3,h1.at 4,h1.at 5,h1.at 6⟩,h2.at 0,h2.at 1⟩
theorem nd_pl {w:World} {base base':Nat} {v u:Value} {ss:List NdV} {xs:List Nat} (h:GRow ndK w base v ss) (h':GRow plcK w base' u xs) {g:Nat} (hg:v.ownBlock=some g) (hu:u.ownBlock=some g):False:=by
 rcases h.2 with ⟨rfl,_⟩|⟨g1,c1,cur1,rfl,_,hh1,_⟩
 ·simp[Value.ownBlock] at hg
 rcases h'.2 with ⟨rfl,_⟩|⟨g2,c2,cur2,rfl,_,hh2,_⟩
 ·simp[Value.ownBlock] at hu
 have e1:g1=g:=by simpa [Value.ownBlock] using hg
 have e2:g2=g:=by simpa [Value.ownBlock] using hu
 subst e1 e2
 rw[hh1] at hh2
 have:=Option.some.inj hh2
 injection this with _ ht _
 exact absurd ht (by decide)
theorem ns_ready {V0 wr w5:World} {base:Nat} {V:Value} {acc:List Nd} (hq:NsIs V0 wr base V acc) (hb:Below wr.heap.size wr w5):∃ rs:List NdV,GRow ndK w5 base V rs∧rs.length=acc.length ∧
   ∀ (ns:List NdV) (l:List Nd) (v7:Value) (w7:World),ns.length=l.length→(∀ (i:Nat) (s:NdV) (y:Nd),ns[i]?=some s→l[i]?=some y→NdIs V0 w5 base s y)→GRow ndK w7 base v7 (rs++ns)→w5.grownBy w7 V.ownBlock →
     NsIs V0 w7 base v7 (acc++l)∧(∀ (u:Value) (xs:List Nat),GRow plcK w5 base u xs→GRow plcK w7 base u xs)∧(∀ W2:World,Below base W2 w5→base≤w5.heap.size→Below base W2 w7):=by
 obtain ⟨rs,q1,q2,q3⟩:=hq
 refine ⟨rs,q1.keepB hb (Nat.le_refl _),q2,fun ns l v7 w7 g2 g3 hrow hg=>⟨NsIs.app (q1.keepB hb (Nat.le_refl _)) q2 (fun i s y hs hy=>⟨(q3 i s y hs hy).1,(q3 i s y hs hy).2.keepB hb (Nat.le_refl _)⟩) g2 g3 hrow hg,fun u xs hu=>hu.stay fun g hgu => ?_,fun W2 hB hbz=>below_grown hB hg hbz (fun g hgv=>(q1.low hgv).1)⟩⟩
 exact hg.block g (hu.low hgu).2 (fun e=>nd_pl (q1.keepB hb (Nat.le_refl _)) hu e.symm hgu)
def RelS1 (V0 W2:World) (d:Nd) (ss:List Sel) (vo i:Value) (wr:World):Prop :=
 ∃ (k:Nat) (V:Value),V=vo∧k≤ss.length∧i=.int .i64 k∧NsIs V0 wr W2.heap.size vo ((ss.take k).flatMap fun x=>(childT d.t x).map (itmN d))∧Below W2.heap.size W2 wr
def RelS2 (V0 W2:World) (d:Nd) (acc:List Nd) (l:List Nat) (A:Option Addr) (c:Nat) (vo i:Value) (wr:World):Prop :=
 ∃ (k:Nat) (V:Value),V=vo∧k≤l.length∧i=.int .i64 k∧NsIs V0 wr W2.heap.size vo (acc++(l.take k).map (itmN d))∧GRow plcK wr W2.heap.size (.slice A l.length c) l∧Below W2.heap.size W2 wr
def RelS3 (V0 W2:World) (sg:Sgm) (v:Tree) (p:List Pst) (acc:List Nd) (vo i:Value) (wr:World):Prop :=
 ∃ (k:Nat) (V:Value),V=vo∧k≤v.items.length∧i=.int .i64 k∧NsIs V0 wr W2.heap.size vo (acc++selL sg v (v.items.take k) 0 p)∧Below W2.heap.size W2 wr
theorem selL_snoc (sg:Sgm) (v:Tree) (p:List Pst):∀ (ts:List Tree) (i:Nat) (t:Tree),selL sg v (ts++[t]) i p=selL sg v ts i p++selN sg t (p++[stpT v (i+ts.length)])
 | [],i,t=>by simp[selL]
 | u :: ts,i,t=>by
   rw[List.cons_append,selL,selL_snoc sg v p ts (i+1) t,selL,List.append_assoc,List.length_cons,show i+1+ts.length=i+(ts.length+1) by omega]
theorem pick_all (sg:Sgm)(d:Nd):(sg.sels.flatMap fun x=>(childT d.t x).map (itmN d))=pickN sg d:=rfl
theorem flat_on {ss:List Sel} {f:Sel→List Nd} {k:Nat} (h:k<ss.length):(ss.take (k+1)).flatMap f=(ss.take k).flatMap f++f ss[k]:=by
 rw[List.take_succ_eq_append_getElem h,List.flatMap_append,List.flatMap_cons,List.flatMap_nil,List.append_nil]
theorem map_on {l:List Nat} {f:Nat→Nd} {k:Nat} (h:k<l.length):(l.take (k+1)).map f=(l.take k).map f++[f l[k]]:=by
 rw[List.take_succ_eq_append_getElem h,List.map_append]
 rfl
theorem flatS_len (d:Nd):∀ ss:List Sel,(ss.flatMap fun x=>(childT d.t x).map (itmN d)).length≤ss.length*d.t.items.length
 | []=>by simp
 | a :: t=>by
   have h1:=child_len d.t a
   have h2:=flatS_len d t
   rw[List.flatMap_cons,List.length_append,List.length_map,List.length_cons,Nat.add_mul]
   omega
set_option maxHeartbeats 16000000 in
theorem rsel_of (sg:Sgm) (hR:∀ y∈sg.sels,RightI y) (hL:sg.sels.length≤1000) (t:Tree) (ih:∀ u∈t.items,SelsR sg u):SelsR sg t:=by
 intro s p B m c V0 W h0 hv hp hs hN hc hpc
 obtain ⟨hN5,hNL⟩:=nam_items hN
 have hci:=cn_items t
 have hcl:=cn_len t.items
 have hm:sg.sels.length=m:=hs.1
 have hnI:s.x.n=t.items.length:=by obtain ⟨kd,fr,td,tx,items,names⟩:=t;exact hv.many.1
 have hcap:s.x.n≤s.x.c:=by obtain ⟨kd,fr,td,tx,items,names⟩:=t;unfold VIs at hv;exact hv.2.2.2.2.1
 have hcap2:s.x.m≤s.x.d:=by obtain ⟨kd,fr,td,tx,items,names⟩:=t;unfold VIs at hv;exact hv.2.2.2.2.2.1
 obtain ⟨W2,hW2⟩:∃ W2,W2=(W.alloc (.cells #[.int .i64 s.x.kd,.int .i64 s.x.fr,.int .i64 s.x.to,.string ⟨s.x.tx.toArray⟩,.slice s.x.A s.x.n s.x.c,.slice s.x.B s.x.m s.x.d,.slice s.S s.n s.c] 60)).alloc (.cells #[.bool sg.deep,.slice B m c] 40):=⟨_,rfl⟩
 have hAt:=atS_made W s sg.deep B m c
 rw[← hW2] at hAt
 have hz2:W2.heap.size=W.heap.size+2:=by rw[hW2];simp
 have hB2:Below W.heap.size W W2:=by rw[hW2];exact (below1 W _).alloc (by simp) _
 have HAT:=hid (fun w (hb:Below W2.heap.size W2 w)=>hAt.on (by omega) hb)
 have H0:=hid (fun w (hb:Below W2.heap.size W2 w)=>h0.trans ((hB2.trans (hb.mono hB2.size)).mono h0.size))
 have HV:=hid (fun w (hb:Below W2.heap.size W2 w)=>hv.stay (H0.out w hb))
 have HP:=hid (fun w (hb:Below W2.heap.size W2 w)=>hp.below (hB2.trans (hb.mono hB2.size)))
 have HSR:=hid (fun w (hb:Below W2.heap.size W2 w)=>hs.stay (hB2.trans (hb.mono hB2.size)))
 have HR:=hid hR
 have HIH:=hid ih
 have HV0:=hid hv
 have HN5:=hid hN5
 have HNL:=hid hNL
 have HCN:=hid hcap2
 have hsel:selN sg t p=pickN sg ⟨t,p⟩++(if sg.deep then selL sg t t.items 0 p else []):=by cases t;rw[selN];rfl
 have HEL:=hid hsel
 have HB2:=hid hB2
 have HZ2:=hid hz2
 have hlen9:t.items.length≤100000:=by omega
 have hp9:p.length≤900000:=by omega
 have HBIG:=hid (show ∀ k,sg.sels.length*k≤1000*k from fun k=>Nat.mul_le_mul_right k hL)
 have HST:=hid (show RelS1 V0 W2 ⟨t,p⟩ sg.sels (.slice (some ⟨W2.heap.size,0,none⟩) 0 0) (.int .i64 0) (W2.alloc (.cells #[] 60)) from
   ⟨0,_,rfl,Nat.zero_le _,rfl,⟨[],GRow.made (K:=ndK) (l:=[]) W2 #[] rfl (by simp[maxLen]) (Nat.le_refl _),rfl,fun i s x hs=>by simp at hs⟩,below1 W2 _⟩)
 rw[hz2] at HST
 have HPC:=hid hpc
 have HC:=hid hc
 clear hAt hB2 hv hp hs hR ih hN5 hNL hN hcap2 hsel h0 hpc hc
 obtain ⟨dp,ss⟩:=sg
 obtain ⟨⟨xk,xf,xt,xx,xA,n,xc,xB,mm,xd⟩,S,sn,sc⟩:=s
 replace hnI:t.items.length=n:=Eq.symm hnI
 replace hcap:n≤xc:=hcap
 replace hm:ss.length=m:=hm
 have hL9:ss.length≤1000:=hL
 have hmI:(m:Int)≤1000:=by omega
 have hnI9:(n:Int)≤100000:=by omega
 clear hL
 show Calls Tryz.prog 32 #[.agg #[.int .i64 xk,.int .i64 xf,.int .i64 xt,.string ⟨xx.toArray⟩,.slice xA n xc,.slice xB mm xd,.slice S sn sc],.agg #[.bool dp,.slice B m c]] W _
 have HW2:=hid hW2
 have cA:W2.cell? ⟨W.heap.size+1,1,none⟩=some (.slice B m c):=(HAT.out W2 (Below.refl _ _)).2.2
 have cB:=((below1 W2 (.cells #[] 60)).cell (p:=⟨W.heap.size+1,1,none⟩) (by show W.heap.size+1<_;omega)).trans cA
 have HW3:=hid (show (W.alloc (.cells #[.int .i64 xk,.int .i64 xf,.int .i64 xt,.string ⟨xx.toArray⟩,.slice xA n xc,.slice xB mm xd,.slice S sn sc] 60)).alloc (.cells #[.bool dp,.slice B m c] 40)=W2 from HW2.out.symm)
 clear hW2
 go_enter Tryz.func32,Tryz.ntmps32
 go_wp2
 go_loopw [5,15] (fun vo i wr=>RelS1 V0 W2 ⟨t,p⟩ ss vo i wr) (fun _ i _=>ss.length-(intOf i).toNat)
 case atStart=>rw[HW3.out];exact HST.out
 case round =>
   obtain ⟨k,V,rfl,hk,rfl,hq,hb⟩:=hrel
   have hk9:(k:Int)≤1000:=by omega
   by_cases hlt:k<ss.length
   rotate_left
   ·have q2:¬ (k:Int)<m:=by omega
    rw[List.take_of_length_le (by omega),pick_all ⟨dp,ss⟩ ⟨t,p⟩] at hq
    have HQ:=hid hq
    have HB:=hid hb
    have ca:=HAT.out wr hb
    have g0:wr.cell? ⟨W.heap.size+1,0,none⟩=some (.bool dp):=ca.2.1
    have g4:wr.cell? ⟨W.heap.size,4,none⟩=some (.slice xA n xc):=ca.1.2.2.2.2.1
    have hpl:=pick_len ⟨dp,ss⟩ ⟨t,p⟩
    have hpk:(pickN ⟨dp,ss⟩ ⟨t,p⟩).length≤100000000:=Nat.le_trans hpl (Nat.mul_le_mul hL9 hlen9)
    clear ca hq hb hpl
    cases dp
    ·have HE:=hid (show selN ⟨false,ss⟩ t p=pickN ⟨false,ss⟩ ⟨t,p⟩ by rw[HEL.out,if_neg (by decide),List.append_nil])
     clear g4
     go_wp2
     go_ret
     rw[HE.out]
     exact ⟨V,rfl,HQ.out.mono (by have:=HZ2.out;omega),HB2.out.trans (HB.out.mono HB2.out.size)⟩
    have HE:=hid (show selN ⟨true,ss⟩ t p=pickN ⟨true,ss⟩ ⟨t,p⟩++selL ⟨true,ss⟩ t t.items 0 p by rw[HEL.out,if_pos rfl])
    have HS3:=hid (show RelS3 V0 W2 ⟨true,ss⟩ t p (pickN ⟨true,ss⟩ ⟨t,p⟩) V (.int .i64 0) wr from ⟨0,V,rfl,Nat.zero_le _,rfl,by rw[List.take_zero,selL,List.append_nil];exact HQ.out,HB.out⟩)
    have HPK:=hid hpk
    clear hpk HEL
    go_wp2
    go_loopw [5,42] (fun vo i wr=>RelS3 V0 W2 ⟨true,ss⟩ t p (pickN ⟨true,ss⟩ ⟨t,p⟩) vo i wr) (fun _ i _=>t.items.length-(intOf i).toNat)
    case atStart=>exact HS3.out
    case round =>
      obtain ⟨j,V9,rfl,hj,rfl,hqj,hbk⟩:=hrel
      have hj9:(j:Int)≤100000:=by omega
      by_cases hjl:j<t.items.length
      rotate_left
      ·have q3:¬ (j:Int)<n:=by omega
       have HN:=hid (show SelEnd V0 W (selN ⟨true,ss⟩ t p) (.returned V9) wr from by
         rw[HE.out]
         rw[List.take_of_length_le (by omega)] at hqj
         exact ⟨V9,rfl,hqj.mono (by have:=HZ2.out;omega),HB2.out.trans (hbk.mono HB2.out.size)⟩)
       clear hqj hbk
       go_wp2
       go_ret
       exact HN.out
      have q3:(j:Int)<n:=by omega
      have hmem:itmT t j∈t.items:=List.mem_of_getElem? (items_getD t hjl)
      have hcu:=cn_mem hmem
      have KI:=hid (fun w (hb:Below W2.heap.size W2 w)=>show Calls _ _ #[.agg #[.int .i64 xk,.int .i64 xf,.int .i64 xt,.string ⟨xx.toArray⟩,.slice xA n xc,.slice xB mm xd,.slice S sn sc],.int .i64 j] w (ItEx V0 w (itmN ⟨t,p⟩ j)) from ritem_ex ⟨t,p⟩ ⟨⟨xk,xf,xt,xx,xA,n,xc,xB,mm,xd⟩,S,sn,sc⟩ j V0 w (H0.out w hb) HV0.out (HP.out w hb) hjl HN5.out (by omega) (by show p.length≤_;omega))
      unfold ItEx at KI
      have KS:=hid (fun (s2:NdV) (w:World) (hb:Below W2.heap.size W2 w) (hv2:VIs V0 (itmT t j) s2.x) (hp2:RdG stpK w s2.S s2.n (p++[stpT t j]))=>HIH.out _ hmem s2 (p++[stpT t j]) B m c V0 w (H0.out w hb) hv2 hp2 (HSR.out w hb) (nam_mem HNL.out hmem) (by have:=HC.out;omega) (by have:=HPC.out;rw[List.length_append,List.length_singleton];omega))
      have hsu:=sel_len ⟨true,ss⟩ (itmT t j) (p++[stpT t j])
      have hsu9:(selN ⟨true,ss⟩ (itmT t j) (p++[stpT t j])).length≤100000000:=Nat.le_trans hsu (Nat.mul_le_mul hL9 (show cnT (itmT t j)-1≤100000 by have:=HC.out;omega))
      have hst:=selL_len ⟨true,ss⟩ t (t.items.take j) 0 p
      have hst9:(selL ⟨true,ss⟩ t (t.items.take j) 0 p).length≤100000000:=Nat.le_trans hst (Nat.mul_le_mul hL9 (show cnL (t.items.take j)-(t.items.take j).length≤100000 by have:=cn_take t.items j;have:=HC.out;omega))
      have HNX:=hid (show selL ⟨true,ss⟩ t (t.items.take (j+1)) 0 p=selL ⟨true,ss⟩ t (t.items.take j) 0 p++selN ⟨true,ss⟩ (itmT t j) (p++[stpT t j]) by
        rw[List.take_add_one,items_getD t hjl]
        show selL _ t (t.items.take j++[itmT t j]) 0 p=_
        rw[selL_snoc,List.length_take,Nat.min_eq_left (by omega),Nat.zero_add])
      have HQJ:=hid hqj
      have HBK:=hid hbk
      have hlq:(pickN ⟨true,ss⟩ ⟨t,p⟩++selL ⟨true,ss⟩ t (t.items.take j) 0 p).length≤300000000:=by rw[List.length_append];have:=HPK.out;omega
      have HLQ:=hid hlq
      have HSU:=hid hsu9
      have hAtS:AtS W.heap.size ⟨⟨xk,xf,xt,xx,xA,n,xc,xB,mm,xd⟩,S,sn,sc⟩ true B m c wr:=HAT.out wr hbk
      clear hqj hst hst9 hsu hsu9 hcu hmem hlq
      go_upto_region 15 with fail
      go_region_held3 (fun w'=>(w'.cell? ⟨W.heap.size,0,none⟩=some (.int .i64 xk)∧w'.cell? ⟨W.heap.size,1,none⟩=some (.int .i64 xf)∧w'.cell? ⟨W.heap.size,2,none⟩=some (.int .i64 xt)∧w'.cell? ⟨W.heap.size,3,none⟩=some (.string ⟨xx.toArray⟩)∧w'.cell? ⟨W.heap.size,4,none⟩=some (.slice xA n xc)∧w'.cell? ⟨W.heap.size,5,none⟩=some (.slice xB mm xd)∧w'.cell? ⟨W.heap.size,6,none⟩=some (.slice S sn sc))∧(w'.cell? ⟨W.heap.size+1,0,none⟩=some (.bool true)∧w'.cell? ⟨W.heap.size+1,1,none⟩=some (.slice B m c)))
        ((show AtS W.heap.size ⟨⟨xk,xf,xt,xx,xA,n,xc,xB,mm,xd⟩,S,sn,sc⟩ true B m c _;with_reducible first|exact HAT.out _ HBK.out|exact HAT.out _ HBK.out.drew|exact HAT.out _ h5|exact HAT.out _ h6|exact HAT.out _ h7))
        (first
          | (go_at_call 47;refine (KI.out _ (by first|exact HBK.out.drew|exact HBK.out)).mono ?_;rintro e w5 ⟨k1,f1,t1,x1,A2,n2,c2,B2,m2,d2,S2,sn2,sc2,rfl,hnd,hb5⟩;have hwr5:Below wr.heap.size wr w5:=(Below.refl wr.heap.size wr).drew.trans hb5;have h5:Below W2.heap.size W2 w5:=HBK.out.trans (hwr5.mono HBK.out.size);have hrd2:=grow_rd hnd.2)
          | (go_at_call 32;refine (KS.out ⟨⟨k1,f1,t1,x1,A2,n2,c2,B2,m2,d2⟩,S2,sn2,sc2⟩ w5 h5 hnd.1 hrd2).mono ?_;rintro e w6 ⟨v6,rfl,hn6,hb6⟩;have hwr6:Below wr.heap.size wr w6:=hwr5.trans (hb6.mono hwr5.size);have h6:Below W2.heap.size W2 w6:=h5.trans (hb6.mono h5.size);obtain ⟨rs6,r61,r62,r63⟩:=hn6;have R62:=hid r62;clear r62;obtain ⟨A6,c6,rfl,_⟩:=r61.form;obtain ⟨rs,r1,r2,r3⟩:=ns_ready HQJ.out hwr6)
          | (refine step_row_append (KK:=ndK) rfl (.tmp 45) (.tmp 50) rfl W2.heap.size V9 rs rfl r1 A6 rs6.length c6 rs6 rfl r61.rd (by have:=HLQ.out;have:=HSU.out;have:=R62.out;omega) h6.size ?_;intro v7 w7 row7 grown7 at7;obtain ⟨n7,_,b7⟩:=r3 rs6 (selN ⟨true,ss⟩ (itmT t j) (p++[stpT t j])) v7 w7 R62.out (fun i s y hs hy=>⟨(r63 i s y hs hy).1,(r63 i s y hs hy).2.mono h5.size⟩) row7 grown7;have h7:Below W2.heap.size W2 w7:=b7 W2 h6 h6.size;have HN7:=hid n7;have HB7:=hid h7))
      all_goals
        clear hnd hb5 hwr5 h5 hrd2 hb6 hwr6 h6 r61 r63 r1 r2 r3 row7 grown7 at7 n7 b7 h7
        go_wp2
        go_roundw
        case rel=>exact ⟨j+1,_,rfl,hjl,by go_num,by rw[HNX.out,← List.append_assoc];exact HN7.out,HB7.out⟩
        case measure=>simp[intOf];omega
   have q2:(k:Int)<m:=by omega
   obtain ⟨a,rfl,ha,hcc⟩:=(HSR.out wr hb).2 (by omega)
   obtain ⟨e0,e1,e2,e3,e4,e5,e6,e7⟩:=hcc k ss[k] (List.getElem?_eq_getElem hlt)
   have HFL:=hid (flat_on (f:=fun x=>(childT t x).map (itmN ⟨t,p⟩)) hlt)
   have hfl:=flatS_len ⟨t,p⟩ (ss.take k)
   have hRy:=HR.out _ (List.getElem_mem hlt)
   have HMC:=hid (fun i (h:i∈childT t ss[k])=>(mem_child.1 h).1)
   have hcl9:=child_len t ss[k]
   have hacc9:((ss.take k).flatMap fun x=>(childT t x).map (itmN ⟨t,p⟩)).length≤100000000:=by
     have h1:(ss.take k).length≤1000:=by rw[List.length_take];omega
     exact Nat.le_trans hfl (Nat.mul_le_mul h1 hlen9)
   clear hcc hfl
   generalize (ss.take k).flatMap (fun x=>(childT t x).map (itmN ⟨t,p⟩))=acc at *
   generalize ss[k]=y at *
   obtain ⟨yk,yn,yi,ys,ye,yhs,yhe,ysd⟩:=y
   have hbA:Below W2.heap.size W2 (wr.alloc (.cells #[.int .i64 yk,.string yn,.int .i64 yi,.int .i64 ys,.int .i64 ye,.bool yhs,.bool yhe,.int .i64 ysd] 42)):=hb.trans ((below1 wr _).mono hb.size)
   have KC:=hid (rchild_any t ⟨xk,xf,xt,xx,xA,n,xc,xB,mm,xd⟩ ⟨yk,yn,yi,ys,ye,yhs,yhe,ysd⟩ (wr.alloc (.cells #[.int .i64 yk,.string yn,.int .i64 yi,.int .i64 ys,.int .i64 ye,.bool yhs,.bool yhe,.int .i64 ysd] 42)) (HV.out _ hbA) HN5.out hRy (by omega))
   have ca:=HAT.out _ hbA
   have a0:(wr.alloc (.cells #[.int .i64 yk,.string yn,.int .i64 yi,.int .i64 ys,.int .i64 ye,.bool yhs,.bool yhe,.int .i64 ysd] 42)).cell? ⟨W.heap.size,0,none⟩=some (.int .i64 xk):=ca.1.1
   have a1:(wr.alloc (.cells #[.int .i64 yk,.string yn,.int .i64 yi,.int .i64 ys,.int .i64 ye,.bool yhs,.bool yhe,.int .i64 ysd] 42)).cell? ⟨W.heap.size,1,none⟩=some (.int .i64 xf):=ca.1.2.1
   have a2:(wr.alloc (.cells #[.int .i64 yk,.string yn,.int .i64 yi,.int .i64 ys,.int .i64 ye,.bool yhs,.bool yhe,.int .i64 ysd] 42)).cell? ⟨W.heap.size,2,none⟩=some (.int .i64 xt):=ca.1.2.2.1
   have a3:(wr.alloc (.cells #[.int .i64 yk,.string yn,.int .i64 yi,.int .i64 ys,.int .i64 ye,.bool yhs,.bool yhe,.int .i64 ysd] 42)).cell? ⟨W.heap.size,3,none⟩=some (.string ⟨xx.toArray⟩):=ca.1.2.2.2.1
   have a4:(wr.alloc (.cells #[.int .i64 yk,.string yn,.int .i64 yi,.int .i64 ys,.int .i64 ye,.bool yhs,.bool yhe,.int .i64 ysd] 42)).cell? ⟨W.heap.size,4,none⟩=some (.slice xA n xc):=ca.1.2.2.2.2.1
   have a5:(wr.alloc (.cells #[.int .i64 yk,.string yn,.int .i64 yi,.int .i64 ys,.int .i64 ye,.bool yhs,.bool yhe,.int .i64 ysd] 42)).cell? ⟨W.heap.size,5,none⟩=some (.slice xB mm xd):=ca.1.2.2.2.2.2.1
   have a6:(wr.alloc (.cells #[.int .i64 yk,.string yn,.int .i64 yi,.int .i64 ys,.int .i64 ye,.bool yhs,.bool yhe,.int .i64 ysd] 42)).cell? ⟨W.heap.size,6,none⟩=some (.slice S sn sc):=ca.1.2.2.2.2.2.2
   have HBA:=hid hbA
   have HQ:=hid hq
   have HB:=hid hb
   clear ca hbA hq hRy hb
   generalize childT t _=l at *
   go_wp2_with (
     (go_at_call 12
      go_must (
        refine KC.out.mono ?_
        rintro e w3 ⟨u,rfl,hrow,hb3⟩
        obtain ⟨A1,c1,rfl,hlc,_,hg1⟩:=hrow.form
        have hbr:Below wr.heap.size wr w3:=(below1 wr _).trans (hb3.mono (below1 wr _).size)
        have hrow2:=hrow.mono (B:=W2.heap.size) HBA.out.size
        have HS2:=hid (show RelS2 V0 W2 ⟨t,p⟩ acc l A1 c1 V (.int .i64 0) w3 from ⟨0,V,rfl,Nat.zero_le _,rfl,by rw[List.take_zero,List.map_nil,List.append_nil];exact HQ.out.keep hbr (Nat.le_refl _),hrow2,HB.out.trans (hbr.mono HB.out.size)⟩)
        have HG1:=hid hg1
        clear hrow hrow2 hb3 hbr hg1)))
   clear e0 e1 e2 e3 e4 e5 e6 e7 a0 a1 a2 a3 a4 a5 a6 KC HBA HQ HB
   have hlI:(l.length:Int)≤100000:=by omega
   go_loopw [5,24] (fun vo i wr=>RelS2 V0 W2 ⟨t,p⟩ acc l A1 c1 vo i wr) (fun _ i _=>l.length-(intOf i).toNat)
   case atStart=>exact HS2.out
   case round =>
     obtain ⟨j,V9,rfl,hj,rfl,hqj,hrw,hbj⟩:=hrel
     have hj9:(j:Int)≤100000:=by omega
     by_cases hjl:j<l.length
     rotate_left
     ·have q3:¬ (j:Int)<l.length:=by omega
      have HN:=hid (show RelS1 V0 W2 ⟨t,p⟩ ss V9 (.int .i64 ((k+1:Nat):Int)) wr from ⟨k+1,V9,rfl,hlt,rfl,by rw[HFL.out];rw[List.take_of_length_le (by omega)] at hqj;exact hqj,hbj⟩)
      clear hqj hrw hbj
      go_wp2
      go_roundw
      case rel=>exact HN.out
      case measure=>simp[intOf];omega
     have q3:(j:Int)<l.length:=by omega
     obtain ⟨g,rfl,_,_⟩:=HG1.out (by omega)
     have hcj:=hrw.rd.at rfl (List.getElem?_eq_getElem hjl) (j:=0) (u:=.int .i64 (l[j]:Nat)) rfl
     rw[show 0+(j*plcK.n+0)=j by show 0+(j*1+0)=j;omega] at hcj
     have hil:=HMC.out _ (List.getElem_mem hjl)
     have HMO:=hid (map_on (f:=itmN ⟨t,p⟩) hjl)
     have KI:=hid (ritem_ex ⟨t,p⟩ ⟨⟨xk,xf,xt,xx,xA,n,xc,xB,mm,xd⟩,S,sn,sc⟩ l[j] V0 wr (H0.out wr hbj) HV0.out (HP.out wr hbj) hil HN5.out (by omega) (by show p.length≤_;omega))
     have hlm:((l.take j).map (itmN ⟨t,p⟩)).length≤100000:=by rw[List.length_map,List.length_take];omega
     have ca:=HAT.out _ hbj
     have b0:wr.cell? ⟨W.heap.size,0,none⟩=some (.int .i64 xk):=ca.1.1
     have b1:wr.cell? ⟨W.heap.size,1,none⟩=some (.int .i64 xf):=ca.1.2.1
     have b2:wr.cell? ⟨W.heap.size,2,none⟩=some (.int .i64 xt):=ca.1.2.2.1
     have b3:wr.cell? ⟨W.heap.size,3,none⟩=some (.string ⟨xx.toArray⟩):=ca.1.2.2.2.1
     have b4:wr.cell? ⟨W.heap.size,4,none⟩=some (.slice xA n xc):=ca.1.2.2.2.2.1
     have b5:wr.cell? ⟨W.heap.size,5,none⟩=some (.slice xB mm xd):=ca.1.2.2.2.2.2.1
     have b6:wr.cell? ⟨W.heap.size,6,none⟩=some (.slice S sn sc):=ca.1.2.2.2.2.2.2
     have HQJ:=hid hqj
     have HRW:=hid hrw
     have HBJ:=hid hbj
     clear ca hqj hrw hbj hil
     generalize l[j]=x9 at *
     unfold ItEx at KI
     go_wp2_with (first
       | (go_at_call 47
          go_must (
            refine KI.out.mono ?_
            rintro e w5 ⟨k1,f1,t1,x1,A2,n2,c2,B2,m2,d2,S2,sn2,sc2,rfl,hnd,hb5⟩
            have hb5a:Below wr.heap.size wr (w5.alloc (.cells #[.int .i64 k1,.int .i64 f1,.int .i64 t1,.string ⟨x1.toArray⟩,.slice A2 n2 c2,.slice B2 m2 d2,.slice S2 sn2 sc2] 60)):=hb5.trans ((below1 w5 _).mono hb5.size)
            obtain ⟨rs,r1,r2,r3⟩:=ns_ready HQJ.out hb5a
            have HR1:=hid r1
            have HR3:=hid r3
            have HND:=hid hnd
            have HB5:=hid hb5a
            clear r1 r3 hnd hb5 hb5a))
       | (at_builtin
          go_must (
            refine row_append (K:=ndK) _ rfl (.tmp 28) (.tmp 32) rfl W2.heap.size V9 rs rfl HR1.out _ 1 1 [⟨⟨k1,f1,t1,x1,A2,n2,c2,B2,m2,d2⟩,S2,sn2,sc2⟩] rfl (GRow.made (K:=ndK) (base:=0) (l:=[⟨⟨k1,f1,t1,x1,A2,n2,c2,B2,m2,d2⟩,S2,sn2,sc2⟩]) w5 _ rfl (by simp[maxLen]) (Nat.zero_le _)).rd (by rw[r2,List.length_append];omega) (Nat.le_trans HBJ.out.size HB5.out.size) ?_
            intro v7 w7 row7 grown7 at7
            obtain ⟨n7,p7,b7⟩:=HR3.out [⟨⟨k1,f1,t1,x1,A2,n2,c2,B2,m2,d2⟩,S2,sn2,sc2⟩] [itmN ⟨t,p⟩ x9] v7 w7 rfl (fun i s y hs hy=>by
              have hi0:i=0:=by have:=(List.getElem?_eq_some_iff.1 hs).1;simp at this;omega
              subst hi0
              simp at hs hy
              subst hs hy
              exact ⟨HND.out.1,(HND.out.2.keepB (below1 w5 _) (Nat.le_refl _)).mono HBJ.out.size⟩) row7 grown7
            have HN7:=hid n7
            have HP7:=hid (p7 _ _ (HRW.out.keepB HB5.out (Nat.le_refl _)))
            have HB7:=hid (b7 W2 (HBJ.out.trans (HB5.out.mono HBJ.out.size)) (Nat.le_trans HBJ.out.size HB5.out.size))
            clear n7 p7 b7 row7 grown7 at7)))
     go_roundw
     case rel=>exact ⟨j+1,_,rfl,hjl,by go_num,by rw[HMO.out,← List.append_assoc];exact HN7.out,HP7.out,HB7.out⟩
     case measure=>simp[intOf];omega
end
section
open Go.RowKit
section
variable (sg:Sgm) (hR:∀ y∈sg.sels,RightI y) (hL:sg.sels.length≤1000)
mutual
theorem rsel16_any (sg:Sgm) (hR:∀ y∈sg.sels,RightI y) (hL:sg.sels.length≤1000):∀ t:Tree,SelsR sg t
 | .mk kd fr td tx items names=>rsel_of sg hR hL _ (rsels16_any sg hR hL items)
theorem rsels16_any (sg:Sgm) (hR:∀ y∈sg.sels,RightI y) (hL:sg.sels.length≤1000):∀ ts:List Tree,∀ u∈ts,SelsR sg u
 | [],u,h=>by cases h
 | t :: ts,u,h=>by
   by_cases e:u=t
   ·rw[e];exact rsel16_any sg hR hL t
   ·exact rsels16_any sg hR hL ts u (by rcases List.mem_cons.1 h with h|h;exact absurd h e;exact h)
end
end
mutual
theorem sel_ok (s:Sgm) (N:Nat):∀ (t:Tree) (p:List Pst),OkN N ⟨t,p⟩ → ∀ m∈selN s t p,OkN N m
 | .mk kd fr td tx items names,p,h,m,hm=>by
   rw[selN,List.mem_append] at hm
   rcases hm with hm|hm
   ·obtain ⟨i,h1,_,rfl⟩:=mem_pick.1 hm
    exact itm_ok h h1
   ·split at hm
    ·exact selL_ok s N (.mk kd fr td tx items names) p h items 0 (fun j u hu=>by rw[Nat.zero_add];exact hu) m hm
    ·cases hm
theorem selL_ok (s:Sgm) (N:Nat) (v:Tree) (p:List Pst) (h:OkN N ⟨v,p⟩):∀ (ts:List Tree) (i:Nat),(∀ (j:Nat) (u:Tree),ts[j]?=some u→v.items[i+j]?=some u) → ∀ m∈selL s v ts i p,OkN N m
 | [],i,hts,m,hm=>by rw[selL] at hm;cases hm
 | t :: ts,i,hts,m,hm=>by
   rw[selL,List.mem_append] at hm
   have h0:=hts 0 t rfl
   rw[Nat.add_zero] at h0
   have hi:=(List.getElem?_eq_some_iff.1 h0).1
   rcases hm with hm|hm
   ·have e:itmT v i=t:=by have:=items_getD v hi;rw[h0] at this;exact (Option.some.inj this).symm
    have hk:=itm_ok (i:=i) h hi
    unfold itmN at hk
    rw[show itmT (⟨v,p⟩:Nd).t i=t from e] at hk
    exact sel_ok s N t (p++[stpT v i]) hk m hm
   ·exact selL_ok s N v p h ts (i+1) (fun j u hu=>by rw[show i+1+j=i+(j+1) by omega];exact hts (j+1) u hu) m hm
end
def rowS (most:Nat) (sg:Sgm):List Nd→List Nd→Option (List Nd)
 | acc,[]=>some acc
 | acc,n :: r=>if most<(acc++selN sg n.t n.p).length then none else rowS most sg (acc++selN sg n.t n.p) r
def rowO (most:Nat):List Sgm→List Nd→Option (List Nd)
 | [],l=>some l
 | s :: q,l=>match rowS most s [] l with
   | none=>none
   | some m=>rowO most q m
theorem rowS_is (most:Nat) (sg:Sgm):∀ (l acc m:List Nd),rowS most sg acc l=some m→m=acc++l.flatMap fun n=>selN sg n.t n.p
 | [],acc,m,h=>by
   injection h with h
   subst h
   simp
 | n :: r,acc,m,h=>by
   rw[rowS] at h
   split at h
   ·cases h
   ·rw[rowS_is most sg r _ m h,List.flatMap_cons,List.append_assoc]
theorem rowO_is (most:Nat):∀ (q:List Sgm) (l m:List Nd),rowO most q l=some m→m=rowG q l
 | [],l,m,h=>(Option.some.inj h).symm
 | s :: q,l,m,h=>by
   unfold rowO at h
   cases hs:rowS most s [] l with
   | none=>rw[hs] at h;cases h
   | some a =>
     rw[hs] at h
     have e:=rowS_is most s l [] a hs
     rw[List.nil_append] at e
     rw[rowO_is most q a m h,e]
     rfl
theorem rowS_app (most:Nat) (sg:Sgm):∀ (l r acc:List Nd),rowS most sg acc (l++r)=(rowS most sg acc l).bind fun m=>rowS most sg m r
 | [],r,acc=>rfl
 | n :: l,r,acc=>by
   rw[List.cons_append,rowS,rowS]
   split
   ·rfl
   ·exact rowS_app most sg l r _
theorem rowO_cons (most:Nat) (s:Sgm) (q:List Sgm) (l:List Nd):rowO most (s :: q) l=(rowS most s [] l).bind (rowO most q):=by
 rw[rowO]
 cases rowS most s [] l<;>rfl
theorem rowO_app (most:Nat):∀ (q r:List Sgm) (l:List Nd),rowO most (q++r) l=(rowO most q l).bind fun m=>rowO most r m
 | [],r,l=>rfl
 | s :: q,r,l=>by
   rw[List.cons_append,rowO_cons,rowO_cons]
   cases rowS most s [] l with
   | none=>rfl
   | some a=>exact rowO_app most q r a
theorem rowS_ok (most N:Nat) (sg:Sgm) (l acc m:List Nd) (ha:∀ d∈acc,OkN N d) (hl:∀ d∈l,OkN N d) (h:rowS most sg acc l=some m):∀ d∈m,OkN N d:=by
 rw[rowS_is most sg l acc m h]
 intro d hd
 rcases List.mem_append.1 hd with hd|hd
 ·exact ha d hd
 ·obtain ⟨n,hn,hd⟩:=List.mem_flatMap.1 hd
  exact sel_ok sg N n.t n.p (hl n hn) d hd
theorem rowS_len (most:Nat) (sg:Sgm):∀ (l acc m:List Nd),acc.length≤most→rowS most sg acc l=some m→m.length≤most
 | [],acc,m,ha,h=>by obtain rfl:=Option.some.inj h;exact ha
 | n :: r,acc,m,ha,h=>by
   rw[rowS] at h
   split at h
   ·cases h
   ·exact rowS_len most sg r _ m (by omega) h
end
section
open Go.RowKit
section
variable {most:Nat} {sg:Sgm}
theorem drop16_at {α:Type} {l:List α} {j:Nat} (hj:j<l.length):l=l.take j++l[j] :: l.drop (j+1):=by
 rw[← List.drop_eq_getElem_cons hj,List.take_append_drop]
theorem rowS_no {l acc:List Nd} {j:Nat} (hj:j<l.length) (h:rowS most sg [] (l.take j)=some acc) (hg:most<(acc++selN sg l[j].t l[j].p).length):rowS most sg [] l=none:=by
 have e:=drop16_at hj
 have h2:=rowS_app most sg (l.take j) (l[j] :: l.drop (j+1)) []
 rw[← e,h] at h2
 rw[h2]
 show rowS most sg acc (l[j] :: l.drop (j+1))=none
 rw[rowS,if_pos hg]
theorem rowS_on {l acc:List Nd} {j:Nat} (hj:j<l.length) (h:rowS most sg [] (l.take j)=some acc) (hg:¬ most<(acc++selN sg l[j].t l[j].p).length):rowS most sg [] (l.take (j+1))=some (acc++selN sg l[j].t l[j].p):=by
 rw[List.take_succ_eq_append_getElem hj,rowS_app,h]
 show rowS most sg acc [l[j]]=_
 rw[rowS,if_neg hg,rowS]
theorem rowO_on {q:List Sgm} {l0 l:List Nd} {k:Nat} (hk:k<q.length) (h:rowO most (q.take k) l0=some l):rowO most (q.take (k+1)) l0=rowS most q[k] [] l:=by
 rw[List.take_succ_eq_append_getElem hk,rowO_app,h]
 show rowO most [q[k]] l=_
 rw[rowO_cons]
 cases rowS most q[k] [] l<;>rfl
theorem rowO_no {q:List Sgm} {l0 l:List Nd} {k:Nat} (hk:k<q.length) (h:rowO most (q.take k) l0=some l) (hn:rowS most q[k] [] l=none):rowO most q l0=none:=by
 have h1:=rowO_on hk h
 rw[hn] at h1
 have h2:=rowO_app most (q.take (k+1)) (q.drop (k+1)) l0
 rw[List.take_append_drop,h1] at h2
 exact h2
end
def RowEnd (V0 W:World) (o:Option (List Nd)) (e:Ending) (w':World):Prop :=
 (match o with
   | none=>e=.returned (.tuple #[.slice none 0 0,.bool false])
   | some l => ∃ v,e=.returned (.tuple #[v,.bool true])∧NsIs V0 w' W.heap.size v l)∧Below W.heap.size W w'
theorem RowEnd.no {V0 W w':World} {o:Option (List Nd)} (h:o=none) (hb:Below W.heap.size W w'):RowEnd V0 W o (.returned (.tuple #[.slice none 0 0,.bool false])) w':=by
 subst h
 exact ⟨rfl,hb⟩
theorem RowEnd.yes {V0 W w':World} {o:Option (List Nd)} {l:List Nd} {v:Value} (h:o=some l) (hn:NsIs V0 w' W.heap.size v l) (hb:Below W.heap.size W w'):RowEnd V0 W o (.returned (.tuple #[v,.bool true])) w':=by
 subst h
 exact ⟨⟨v,rfl,hn⟩,hb⟩
def RelR1 (W:World) (q:List Sgm) (most:Nat) (l0:List Nd) (vo i:Value) (wr:World):Prop :=
 ∃ (k:Nat) (l:List Nd) (V:Value),V=vo∧k≤q.length∧i=.int .i64 k∧rowO most (q.take k) l0=some l∧(∀ d∈l,OkN 100000 d)∧l.length≤1000001∧NsIs W wr W.heap.size vo l∧Below W.heap.size W wr
def RelR2 (W W3:World) (sg:Sgm) (most:Nat) (l:List Nd) (vo j:Value) (wr:World):Prop :=
 ∃ (k:Nat) (acc:List Nd) (V:Value),V=vo∧k≤l.length∧j=.int .i64 k∧rowS most sg [] (l.take k)=some acc∧acc.length≤most∧NsIs W wr W3.heap.size vo acc∧Below W3.heap.size W3 wr
set_option maxHeartbeats 16000000 in
theorem rrow_any (v:Tree) (x:V6) (q:List Sgm) (A:Option Addr) (n c:Nat) (most:Nat) (W:World) (hv:VIs W v x) (hq:QRd W A n q) (hR:∀ g∈q,g.sels.length≤1000 ∧ ∀ y∈g.sels,RightI y) (h9:q.length≤1000) (hN:NamT v) (hc:cnT v≤100000) (hm9:most≤1000000) :
   Calls Tryz.prog 13 #[.agg #[.int .i64 x.kd,.int .i64 x.fr,.int .i64 x.to,.string ⟨x.tx.toArray⟩,.slice x.A x.n x.c,.slice x.B x.m x.d],.slice A n c,.int .i64 most] W (RowEnd W W (rowO most q [⟨v,[]⟩])):=by
 have hl:q.length=n:=hq.1
 have HX:=hid hq
 have HR:=hid hR
 have hst:RelR1 W q most [⟨v,[]⟩] (.slice (some ⟨W.heap.size+1,0,none⟩) 1 1) (.int .i64 0) ((W.alloc (.cells #[.int .i64 x.kd,.int .i64 x.fr,.int .i64 x.to,.string ⟨x.tx.toArray⟩,.slice x.A x.n x.c,.slice x.B x.m x.d] 29)).alloc (.cells #[.int .i64 x.kd,.int .i64 x.fr,.int .i64 x.to,.string ⟨x.tx.toArray⟩,.slice x.A x.n x.c,.slice x.B x.m x.d,.slice none 0 0] 60)):=by
   have hrow:=GRow.made (K:=ndK) (base:=W.heap.size) (l:=[⟨x,none,0,0⟩]) (W.alloc (.cells #[.int .i64 x.kd,.int .i64 x.fr,.int .i64 x.to,.string ⟨x.tx.toArray⟩,.slice x.A x.n x.c,.slice x.B x.m x.d] 29)) #[.int .i64 x.kd,.int .i64 x.fr,.int .i64 x.to,.string ⟨x.tx.toArray⟩,.slice x.A x.n x.c,.slice x.B x.m x.d,.slice none 0 0] rfl (by simp[maxLen]) (by simp)
   rw[show (W.alloc (.cells #[.int .i64 x.kd,.int .i64 x.fr,.int .i64 x.to,.string ⟨x.tx.toArray⟩,.slice x.A x.n x.c,.slice x.B x.m x.d] 29)).heap.size=W.heap.size+1 by simp] at hrow
   refine ⟨0,[⟨v,[]⟩],_,rfl,Nat.zero_le _,rfl,rfl,fun d hd => ?_,by simp,⟨[⟨x,none,0,0⟩],hrow,rfl,fun i s y hs hy => ?_⟩,(below1 W _).alloc (by simp) _⟩
   ·obtain rfl:d=⟨v,[]⟩:=by simpa using hd
    exact ⟨hN,hc,by simpa using hc⟩
   ·have hi0:i=0:=by have:=(List.getElem?_eq_some_iff.1 hs).1;simp at this;omega
    subst hi0
    simp at hs hy
    subst hs hy
    exact ⟨hv,GRow.nil _ _⟩
 have HST:=hid hst
 have hnI:(n:Int)≤1000:=by omega
 have hmI:(most:Int)≤1000000:=by omega
 clear hq hR hst hv hN hc
 obtain ⟨xk,xf,xt,xx,xA,xn,xc,xB,xm,xd⟩:=x
 show Calls Tryz.prog 13 #[.agg #[.int .i64 xk,.int .i64 xf,.int .i64 xt,.string ⟨xx.toArray⟩,.slice xA xn xc,.slice xB xm xd],.slice A n c,.int .i64 most] W _
 go_enter Tryz.func13,Tryz.ntmps13
 go_wp2
 go_loopw [8,19] (fun vo i wr=>RelR1 W q most [⟨v,[]⟩] vo i wr) (fun _ i _=>q.length-(intOf i).toNat)
 case atStart=>exact HST.out
 case round =>
   obtain ⟨k,l,V,rfl,hk,rfl,ho,hok,hlen,hns,hb⟩:=hrel
   have hk9:(k:Int)≤1000:=by omega
   by_cases hlt:k<q.length
   rotate_left
   ·have q2:¬ (k:Int)<n:=by omega
    have HN:=hid (show RowEnd W W (rowO most q [⟨v,[]⟩]) (.returned (.tuple #[V,.bool true])) wr from by
      rw[List.take_of_length_le (by omega)] at ho
      exact RowEnd.yes ho hns hb)
    clear ho hok hns hb
    go_wp2
    go_ret2
    exact HN.out
   have q2:(k:Int)<n:=by omega
   have hX2:=HX.out.stay hb
   obtain ⟨a,rfl,ha,hcc⟩:=hX2.2 (by omega)
   obtain ⟨B,m,cc,s0,s1,sr⟩:=hcc k q[k] (List.getElem?_eq_getElem hlt)
   obtain ⟨g1,g2⟩:=HR.out _ (List.getElem_mem hlt)
   have HON:=hid (rowO_on hlt ho)
   have HNO:=hid (fun h=>rowO_no hlt ho h)
   clear hX2 hcc ho
   generalize hsg:q[k]=sg at *
   obtain ⟨ns,r1,r2,r3⟩:=hns
   obtain ⟨A1,c1,rfl,hc1,_,hg1⟩:=r1.form
   rw[r2] at r1 hg1 ⊢
   have hlI:(l.length:Int)≤1000001:=by omega
   obtain ⟨W3,hW3⟩:∃ W3,W3=wr.alloc (.cells #[.bool sg.deep,.slice B m cc] 40):=⟨_,rfl⟩
   have hz3:W3.heap.size=wr.heap.size+1:=by rw[hW3];simp
   have hbw3:Below wr.heap.size wr W3:=by rw[hW3];exact below1 wr _
   have hO3:Own W3 wr.heap.size 40 #[.bool sg.deep,.slice B m cc]:=by rw[hW3];exact Own.fresh wr _ _
   have HST2:=hid (show RelR2 W W3 sg most l (.slice (some ⟨wr.heap.size+1,0,none⟩) 0 0) (.int .i64 0) ((wr.alloc (.cells #[.bool sg.deep,.slice B m cc] 40)).alloc (.cells #[] 60)) from by
     rw[← hW3,← hz3]
     exact ⟨0,[],_,rfl,Nat.zero_le _,rfl,rfl,Nat.zero_le _,⟨[],GRow.made (K:=ndK) (l:=[]) W3 #[] rfl (by simp[maxLen]) (Nat.le_refl _),rfl,fun i s x hs=>by simp at hs⟩,below1 W3 _⟩)
   have HW:=hid (fun w (h:Below W3.heap.size W3 w)=>hbw3.trans (h.mono hbw3.size))
   have HB:=hid hb
   have HO3:=hid hO3
   have HZ3:=hid hz3
   have HSR:=hid sr
   have HNS:=hid (show ∀ (i:Nat) (s:NdV) (d:Nd),ns[i]?=some s→l[i]?=some d→NdIs W wr W.heap.size s d from r3)
   have HR1:=hid r1
   have HR2:=hid r2
   have HG1:=hid hg1
   have HOK:=hid hok
   have KSEL:=hid (fun t=>rsel16_any sg g2 g1 t)
   have HW3:=hid hW3
   clear hb hz3 hbw3 hO3 sr r1 r2 r3 hg1 hok g1 g2 hW3
   obtain ⟨wo,hwo⟩:∃ wo,wo=wr:=⟨wr,rfl⟩
   subst hwo
   go_wp2
   go_loopw [11,26] (fun vo j wr=>RelR2 W W3 sg most l vo j wr) (fun _ j _=>l.length-(intOf j).toNat)
   case atStart=>exact HST2.out
   case round =>
     obtain ⟨j,acc,V9,rfl,hj,rfl,hs,ha9,hna,hbj⟩:=hrel
     have hj9:(j:Int)≤1000001:=by omega
     have hwr:=HW.out _ hbj
     by_cases hjl:j<l.length
     rotate_left
     ·have q3:¬ (j:Int)<l.length:=by omega
      have HN:=hid (show RelR1 W q most [⟨v,[]⟩] V9 (.int .i64 ((k+1:Nat):Int)) wr from by
        rw[List.take_of_length_le (by omega)] at hs
        exact ⟨k+1,acc,V9,rfl,hlt,rfl,HON.out.trans hs,rowS_ok most 100000 sg l [] acc (fun d h=>by cases h) HOK.out hs,by omega,hna.mono (by have:=HZ3.out;have:=HB.out.size;omega),HB.out.trans (hwr.mono HB.out.size)⟩)
      clear hs hna hbj hwr
      go_wp2
      go_roundw
      case rel=>exact HN.out
      case measure=>simp[intOf];omega
     have q3:(j:Int)<l.length:=by omega
     obtain ⟨g,rfl,_,_⟩:=HG1.out (by omega)
     have hjn:j<ns.length:=by have:=HR2.out;omega
     have hrow:=HR1.out.keepB hwr (Nat.le_refl _)
     have hcell:∀ r u,(ndCells ns[j])[r]?=some u→wr.cell? ⟨g,j*7+r,none⟩=some u:=fun r u hu=>by
       have h1:=hrow.rd.at rfl (List.getElem?_eq_getElem hjn) (j:=r) (u:=u) hu
       rw[show 0+(j*ndK.n+r)=j*7+r by show 0+(j*7+r)=_;omega] at h1
       exact h1
     obtain ⟨nv,np⟩:=HNS.out j _ _ (List.getElem?_eq_getElem hjn) (List.getElem?_eq_getElem hjl)
     obtain ⟨o1,o2,o3⟩:=HOK.out _ (List.getElem_mem hjl)
     have HSO:=hid (fun h=>rowS_on hjl hs h)
     have HSN:=hid (fun h=>rowS_no hjl hs h)
     clear hrow hs
     generalize ns[j]=s at *
     generalize l[j]=d at *
     obtain ⟨t,p⟩:=d
     replace o2:cnT t≤100000:=o2
     replace o3:p.length+cnT t≤100000:=o3
     obtain ⟨⟨k1,f1,t1,x1,A2,n2,c2,B2,m2,d2⟩,S2,sn2,sc2⟩:=s
     have z0:wr.cell? ⟨g,j*7,none⟩=some (.int .i64 k1):=hcell 0 _ rfl
     have z1:wr.cell? ⟨g,j*7+1,none⟩=some (.int .i64 f1):=hcell 1 _ rfl
     have z2:wr.cell? ⟨g,j*7+2,none⟩=some (.int .i64 t1):=hcell 2 _ rfl
     have z3:wr.cell? ⟨g,j*7+3,none⟩=some (.string ⟨x1.toArray⟩):=hcell 3 _ rfl
     have z4:wr.cell? ⟨g,j*7+4,none⟩=some (.slice A2 n2 c2):=hcell 4 _ rfl
     have z5:wr.cell? ⟨g,j*7+5,none⟩=some (.slice B2 m2 d2):=hcell 5 _ rfl
     have z6:wr.cell? ⟨g,j*7+6,none⟩=some (.slice S2 sn2 sc2):=hcell 6 _ rfl
     have hbn:Below W3.heap.size W3 (wr.alloc (.cells #[.int .i64 k1,.int .i64 f1,.int .i64 t1,.string ⟨x1.toArray⟩,.slice A2 n2 c2,.slice B2 m2 d2,.slice S2 sn2 sc2] 60)):=hbj.trans ((below1 wr _).mono hbj.size)
     have hwn:=HW.out _ hbn
     have hbW:Below W.heap.size W (wr.alloc (.cells #[.int .i64 k1,.int .i64 f1,.int .i64 t1,.string ⟨x1.toArray⟩,.slice A2 n2 c2,.slice B2 m2 d2,.slice S2 sn2 sc2] 60)):=HB.out.trans (hwn.mono HB.out.size)
     have e0:(wr.alloc (.cells #[.int .i64 k1,.int .i64 f1,.int .i64 t1,.string ⟨x1.toArray⟩,.slice A2 n2 c2,.slice B2 m2 d2,.slice S2 sn2 sc2] 60)).cell? ⟨wo.heap.size,0,none⟩=some (.bool sg.deep):=(HO3.out.stay hbn HO3.out.inside).at 0
     have e1:(wr.alloc (.cells #[.int .i64 k1,.int .i64 f1,.int .i64 t1,.string ⟨x1.toArray⟩,.slice A2 n2 c2,.slice B2 m2 d2,.slice S2 sn2 sc2] 60)).cell? ⟨wo.heap.size,1,none⟩=some (.slice B m cc):=(HO3.out.stay hbn HO3.out.inside).at 1
     have HV:=hid (show Calls Tryz.prog 32 #[.agg #[.int .i64 k1,.int .i64 f1,.int .i64 t1,.string ⟨x1.toArray⟩,.slice A2 n2 c2,.slice B2 m2 d2,.slice S2 sn2 sc2],.agg #[.bool sg.deep,.slice B m cc]] (wr.alloc (.cells #[.int .i64 k1,.int .i64 f1,.int .i64 t1,.string ⟨x1.toArray⟩,.slice A2 n2 c2,.slice B2 m2 d2,.slice S2 sn2 sc2] 60)) (SelEnd W (wr.alloc (.cells #[.int .i64 k1,.int .i64 f1,.int .i64 t1,.string ⟨x1.toArray⟩,.slice A2 n2 c2,.slice B2 m2 d2,.slice S2 sn2 sc2] 60)) (selN sg t p)) from
       KSEL.out t ⟨⟨k1,f1,t1,x1,A2,n2,c2,B2,m2,d2⟩,S2,sn2,sc2⟩ p B m cc W _ hbW nv ((grow_rd np).below hwn) (HSR.out.stay hwn) o1 o2 (by show p.length+cnT t≤_;omega))
     have hsl:=sel_len sg t p
     have hs9:(selN sg t p).length≤100000000:=by
       have h1:sg.sels.length≤1000:=(HR.out sg (hsg▸List.getElem_mem hlt)).1
       exact Nat.le_trans hsl (Nat.mul_le_mul h1 (show cnT t-1≤100000 by omega))
     obtain ⟨L,hL⟩:∃ L,(acc++selN sg t p).length=L:=⟨_,rfl⟩
     have hL9:L≤200000000:=by rw[← hL,List.length_append];omega
     have HL:=hid hL
     have HNA:=hid hna
     have HBJ:=hid hbj
     have HBN:=hid hbn
     have HS9:=hid hs9
     have HBWR:=hid hwr
     rw[hL] at HSO HSN
     clear hsl hL hna hbj hbn hwn hbW nv np o1 o2 o3 hcell hs9 hwr hsg
     unfold SelEnd at HV
     by_cases hgt:most<L
     ·have HSN2:=hid (HNO.out (HSN.out hgt))
      have hgI:(L:Int)>most:=by omega
      clear hgt
      go_wp2_with (first
        | (go_at_call 32
           go_must (
             refine HV.out.mono ?_
             rintro e w6 ⟨v6,rfl,hn6,hb6⟩
             obtain ⟨rs6,r61,r62,r63⟩:=hn6
             have R62:=hid r62
             clear r62
             obtain ⟨A6,c6,rfl,_⟩:=r61.form
             have hwr6:=(below1 wr (.cells #[.int .i64 k1,.int .i64 f1,.int .i64 t1,.string ⟨x1.toArray⟩,.slice A2 n2 c2,.slice B2 m2 d2,.slice S2 sn2 sc2] 60)).trans (hb6.mono (below1 wr _).size)
             obtain ⟨rs,s1,s2,s3⟩:=ns_ready HNA.out hwr6
             have HS1:=hid s1
             have HS2:=hid s2
             have HS3:=hid s3
             have H61:=hid r61
             have H63:=hid r63
             have H6:=hid hwr6
             clear s1 s2 s3 r61 r63 hb6 hwr6))
        | (at_builtin
           go_must (
             refine row_append (K:=ndK) _ rfl (.tmp 30) (.tmp 33) rfl W3.heap.size V9 rs rfl HS1.out A6 rs6.length c6 rs6 rfl H61.out.rd (by have:=HS2.out;have:=R62.out;have:=HS9.out;omega) (Nat.le_trans HBJ.out.size H6.out.size) ?_
             intro v7 w7 row7 grown7 at7
             obtain ⟨n7,_,b7⟩:=HS3.out rs6 (selN sg t p) v7 w7 R62.out (fun i s y hs hy=>⟨(H63.out i s y hs hy).1,(H63.out i s y hs hy).2.mono (Nat.le_trans HBJ.out.size (below1 wr _).size)⟩) row7 grown7
             have h7:=b7 W3 (HBJ.out.trans (H6.out.mono HBJ.out.size)) (Nat.le_trans HBJ.out.size H6.out.size)
             obtain ⟨A7,c7,rfl,_⟩:=row7.form
             have HE7:=hid (show (rs++rs6).length=L by have:=HL.out;rw[List.length_append] at this ⊢;rw[HS2.out,R62.out];exact this)
             rw[HE7.out] at n7 ⊢
             have HN7:=hid n7
             have HB7:=hid h7
             clear n7 b7 row7 grown7 at7 h7)))
      go_ret2
      exact RowEnd.no HSN2.out (HB.out.trans ((HW.out _ HB7.out).mono HB.out.size))
     ·have hgI:¬ (L:Int)>most:=by omega
      have HSO2:=hid (HSO.out hgt)
      go_wp2_with (first
        | (go_at_call 32
           go_must (
             refine HV.out.mono ?_
             rintro e w6 ⟨v6,rfl,hn6,hb6⟩
             obtain ⟨rs6,r61,r62,r63⟩:=hn6
             have R62:=hid r62
             clear r62
             obtain ⟨A6,c6,rfl,_⟩:=r61.form
             have hwr6:=(below1 wr (.cells #[.int .i64 k1,.int .i64 f1,.int .i64 t1,.string ⟨x1.toArray⟩,.slice A2 n2 c2,.slice B2 m2 d2,.slice S2 sn2 sc2] 60)).trans (hb6.mono (below1 wr _).size)
             obtain ⟨rs,s1,s2,s3⟩:=ns_ready HNA.out hwr6
             have HS1:=hid s1
             have HS2:=hid s2
             have HS3:=hid s3
             have H61:=hid r61
             have H63:=hid r63
             have H6:=hid hwr6
             clear s1 s2 s3 r61 r63 hb6 hwr6))
        | (at_builtin
           go_must (
             refine row_append (K:=ndK) _ rfl (.tmp 30) (.tmp 33) rfl W3.heap.size V9 rs rfl HS1.out A6 rs6.length c6 rs6 rfl H61.out.rd (by have:=HS2.out;have:=R62.out;have:=HS9.out;omega) (Nat.le_trans HBJ.out.size H6.out.size) ?_
             intro v7 w7 row7 grown7 at7
             obtain ⟨n7,_,b7⟩:=HS3.out rs6 (selN sg t p) v7 w7 R62.out (fun i s y hs hy=>⟨(H63.out i s y hs hy).1,(H63.out i s y hs hy).2.mono (Nat.le_trans HBJ.out.size (below1 wr _).size)⟩) row7 grown7
             have h7:=b7 W3 (HBJ.out.trans (H6.out.mono HBJ.out.size)) (Nat.le_trans HBJ.out.size H6.out.size)
             obtain ⟨A7,c7,rfl,_⟩:=row7.form
             have HE7:=hid (show (rs++rs6).length=L by have:=HL.out;rw[List.length_append] at this ⊢;rw[HS2.out,R62.out];exact this)
             rw[HE7.out] at n7 ⊢
             have HN7:=hid n7
             have HB7:=hid h7
             clear n7 b7 row7 grown7 at7 h7)))
      go_roundw
      case rel=>exact ⟨j+1,_,_,rfl,hjl,by go_num,HSO2.out,by rw[HL.out];omega,HN7.out,HB7.out⟩
      case measure=>simp[intOf];omega
end
section
open Go.RowKit
theorem rowO_fine {most N:Nat}:∀ (q:List Sgm) (l0 l:List Nd),rowO most q l0=some l→(∀ d∈l0,OkN N d)→(∀ d∈l,OkN N d)∧(l.length≤most∨l=l0)
 | [],l0,l,h,h0=>by
   obtain rfl:=Option.some.inj h
   exact ⟨h0,.inr rfl⟩
 | s :: q,l0,l,h,h0=>by
   rw[rowO_cons] at h
   cases hs:rowS most s [] l0 with
   | none=>rw[hs] at h;cases h
   | some a =>
     rw[hs] at h
     have ha:=rowS_ok most N s l0 [] a (fun d h=>by cases h) h0 hs
     have hl:=rowS_len most s l0 [] a (Nat.zero_le _) hs
     obtain ⟨b1,b2⟩:=rowO_fine q a l h ha
     exact ⟨b1,.inl (by rcases b2 with b2|b2;exact b2;rw[b2];exact hl)⟩
theorem row_fine {q:List Sgm} {v:Tree} {l:List Nd} (h:rowO 2000 q [⟨v,[]⟩]=some l) (hN:NamT v) (hc:cnT v≤1000):l.length≤1000000 ∧ ∀ d∈l,d.p.length≤100000:=by
 obtain ⟨h1,h2⟩:=rowO_fine (N:=1000) q _ l h (fun d hd=>by
   obtain rfl:d=⟨v,[]⟩:=by simpa using hd
   exact ⟨hN,hc,by simpa using hc⟩)
 refine ⟨?_,fun d hd=>by have:=(h1 d hd).2.2;omega⟩
 rcases h2 with h2|h2
 ·omega
 ·rw[h2];simp
theorem nsrd_below {V0 w w':World} {A:Option Addr} {m:Nat} {l:List Nd} (h:NsRd V0 w A m l) (hb:Below w.heap.size w w'):NsRd V0 w' A m l:=by
 obtain ⟨ns,h1,h2,h3⟩:=h
 exact ⟨ns,h1.below hb,h2,fun i s d e1 e2=>⟨(h3 i s d e1 e2).1,(h3 i s d e1 e2).2.below hb⟩⟩
def RelE (w3:World)(len:Nat)(i:Value)(wr:World):Prop:=∃ k:Nat,k≤len∧i=.int .i64 k∧Below w3.heap.size w3 wr
theorem evalRows_core {G:World→Prop} {X:Tree→Prop} (hstay:∀ w w',G w→Below w.heap.size w w'→G w')
   (hal:∀ w,G w→Calls Tryz.prog 6 #[] w fun e w'=>e=.returned (.bool true)∧Below w.heap.size w w')
   (hrow:∀ (v:Tree) (x:V6) (q:List Sgm) (A:Option Addr) (n c:Nat) (l:List Nd) (w:World),G w→VIs w v x→QRd w A n q→OkQ q→NamT v→cnT v≤1000→X v→rowO 2000 q [⟨v,[]⟩]=some l→Calls Tryz.prog 14 #[.agg #[.int .i64 x.kd,.int .i64 x.fr,.int .i64 x.to,.string ⟨x.tx.toArray⟩,.slice x.A x.n x.c,.slice x.B x.m x.d],.slice A n c] w
     fun e w' => ∃ A' m' c',e=.returned (.slice A' m' c')∧EsRd w' A' m' l∧Below w.heap.size w w')
   (hch:∀ (v:Tree) (x:V6) (y:Sel) (w:World),G w→VIs w v x→RightI y→NamT v→cnT v≤1000→X v→Calls Tryz.prog 11 #[.agg #[.int .i64 x.kd,.int .i64 x.fr,.int .i64 x.to,.string ⟨x.tx.toArray⟩,.slice x.A x.n x.c,.slice x.B x.m x.d],.agg (selV y)] w
     fun e w' => ∃ A' m' c',e=.returned (.slice A' m' c')∧RdG plcK w' A' m' (childT v y)∧Below w.heap.size w w')
   (KS:∀ (p:List Pst) (B B':Option Addr) (n n' d d':Nat) (w:World),RdG stpK w B n p→RdG stpK w B' n' p→p.length≤100000→Calls Tryz.prog 20 #[.slice B n d,.slice B' n' d'] w fun e w'=>e=.returned (.bool true)∧Below w.heap.size w w')
   (q:List Sgm) (A:Option Addr) (n c:Nat) (B:Option Addr) (bl bc:Nat) (W:World) (hG:G W) (hq:QRd W A n q)
   (hgiv:∀ w,Below W.heap.size W w→Calls Tryz.prog 7 #[.slice B bl bc,.slice A n c] w (GivEnd X q w)) :
   Calls Tryz.prog 4 #[.slice B bl bc,.slice A n c] W fun e w'=>e=.returned (.bool true)∧Below W.heap.size W w':=by
 have hl:q.length=n:=hq.1
 have KA:=hid (hal W hG)
 have KG:=hid hgiv
 unfold GivEnd at KG
 have HQ:=hid hq
 have HGW:=hid (fun w (hb:Below W.heap.size W w)=>hstay W w hG hb)
 have HRO:=hid hrow
 have HCH:=hid hch
 have HKS:=hid KS
 clear hal hgiv hq hstay hrow hch KS
 go_enter Tryz.func4,Tryz.ntmps4
 go_upto_region 4 with (first
   | (go_at_call 6;refine KA.out.mono ?_;rintro e w1 ⟨rfl,hb1⟩;have HB1:=hid hb1;clear hb1)
   | (go_at_call 7
      go_must (
        refine (KG.out _ HB1.out).mono ?_
        rintro e w2 ⟨k1,f1,t1,x1,A2,n2,c2,B2,m2,d2,ok,rfl,hok,hb2⟩
        have HB2:=hid (HB1.out.trans (hb2.mono HB1.out.size))
        have HOK:=hid hok
        clear hb2 hok)))
 have hb3:=HB2.out.trans ((below1 w2 (.cells #[.int .i64 k1,.int .i64 f1,.int .i64 t1,.string ⟨x1.toArray⟩,.slice A2 n2 c2,.slice B2 m2 d2] 29)).mono HB2.out.size)
 have HB3:=hid hb3
 clear hb3
 cases ok
 ·go_wp2
  go_ret
  exact ⟨rfl,HB3.out⟩
 obtain ⟨v,hv,hN,hc,hoq,hxv⟩:=HOK.out rfl
 have HXV:=hid hxv
 clear hxv
 have hq8:=hoq.1
 have hnI:(n:Int)≤8:=by omega
 have hO:=Own.fresh w2 29 #[.int .i64 k1,.int .i64 f1,.int .i64 t1,.string ⟨x1.toArray⟩,.slice A2 n2 c2,.slice B2 m2 d2]
 have HV:=hid (hv.stay (below1 w2 (.cells #[.int .i64 k1,.int .i64 f1,.int .i64 t1,.string ⟨x1.toArray⟩,.slice A2 n2 c2,.slice B2 m2 d2] 29)))
 have HO:=hid hO
 have HNM:=hid hN
 have HC:=hid hc
 have HOQ:=hid hoq
 clear hv hN hc hoq hO HOK
 obtain ⟨w3,hw3⟩:∃ w3,w3=w2.alloc (.cells #[.int .i64 k1,.int .i64 f1,.int .i64 t1,.string ⟨x1.toArray⟩,.slice A2 n2 c2,.slice B2 m2 d2] 29):=⟨_,rfl⟩
 have HW3:=hid hw3.symm
 have hbb:Below w3.heap.size w3 (w2.alloc (.cells #[.int .i64 k1,.int .i64 f1,.int .i64 t1,.string ⟨x1.toArray⟩,.slice A2 n2 c2,.slice B2 m2 d2] 29)):=by rw[hw3];exact Below.refl _ _
 have HBB:=hid hbb
 rw[← hw3] at HB3 HV HO
 clear hw3 hbb
 have HS6:=hid (fun w' (hb:Below w3.heap.size w3 w')=>show w'.cell? ⟨w2.heap.size,0,none⟩=some (.int .i64 k1)∧w'.cell? ⟨w2.heap.size,1,none⟩=some (.int .i64 f1)∧w'.cell? ⟨w2.heap.size,2,none⟩=some (.int .i64 t1)∧w'.cell? ⟨w2.heap.size,3,none⟩=some (.string ⟨x1.toArray⟩)∧w'.cell? ⟨w2.heap.size,4,none⟩=some (.slice A2 n2 c2)∧w'.cell? ⟨w2.heap.size,5,none⟩=some (.slice B2 m2 d2) from by
   have o:=HO.out.stay hb HO.out.inside
   exact ⟨o.at 0,o.at 1,o.at 2,o.at 3,o.at 4,o.at 5⟩)
 have HWW:=hid (fun w' (hb:Below w3.heap.size w3 w')=>HB3.out.trans (hb.mono HB3.out.size))
 have K0:=hid (fun w' (hb:Below w3.heap.size w3 w')=>rrow_any v ⟨k1,f1,t1,x1,A2,n2,c2,B2,m2,d2⟩ q A n c 2000 w' (HV.out.stay hb) (HQ.out.stay (HWW.out w' hb)) (fun g hg=>⟨Nat.le_trans (HOQ.out.2 g hg).1 (by omega),(HOQ.out.2 g hg).2⟩) (Nat.le_trans HOQ.out.1 (by omega)) HNM.out (Nat.le_trans HC.out (by omega)) (by omega))
 go_wp2
 go_loopw [28] (fun i wr=>RelE w3 q.length i wr) (fun i _=>q.length-(intOf i).toNat)
 case atStart=>exact ⟨0,Nat.zero_le _,rfl,HBB.out⟩
 case round =>
   obtain ⟨k,hk,rfl,hb⟩:=hrel
   have hk9:(k:Int)≤8:=by omega
   by_cases hlt:k<q.length
   rotate_left
   ·have q2 : ¬ (k:Int)<n:=by omega
    have hs:=HS6.out wr hb
    obtain ⟨a0,a1,a2,a3,a4,a5⟩:=hs
    have HB:=hid hb
    cases hro:rowO 2000 q [⟨v,[]⟩] with
    | none =>
      have KR:=K0.out wr hb
      unfold RowEnd at KR
      rw[hro] at KR
      have KR:=hid KR
      clear hb hro K0
      go_wp2_with (go_at_call 13;refine KR.out.mono ?_;rintro e w5 ⟨rfl,hb5⟩;have HE:=hid (HWW.out _ (HB.out.trans (hb5.mono HB.out.size)));clear hb5)
      go_ret
      exact ⟨rfl,HE.out⟩
    | some l =>
      have KR:=K0.out wr hb
      unfold RowEnd at KR
      rw[hro] at KR
      have KR:=hid KR
      have K1:=hid (fun w' (hb:Below w3.heap.size w3 w')=>HRO.out v ⟨k1,f1,t1,x1,A2,n2,c2,B2,m2,d2⟩ q A n c l w' (HGW.out w' (HWW.out w' hb)) (HV.out.stay hb) (HQ.out.stay (HWW.out w' hb)) HOQ.out HNM.out HC.out HXV.out hro)
      have hlw:=hid (show l.length≤1000000 ∧ ∀ d∈l,d.p.length≤100000 from row_fine hro HNM.out HC.out)
      clear hb hro K0
      go_wp2_with (first
        | (go_at_call 13
           go_must (
             refine KR.out.mono ?_
             rintro e w5 ⟨⟨u5,rfl,hn5⟩,hb5⟩
             obtain ⟨ns5,r51,r52,r53⟩:=hn5
             have R52:=hid r52
             clear r52
             obtain ⟨A5,c5,rfl,_⟩:=r51.form
             have H5:=hid (HB.out.trans (hb5.mono HB.out.size))
             have hs5:=HS6.out w5 H5.out
             obtain ⟨b0,b1,b2,b3,b4,b5⟩:=hs5
             have HN5:=hid (show NsRd wr w5 A5 ns5.length l from ⟨ns5,grow_rd16 r51,R52.out,fun i s d e1 e2=>⟨(r53 i s d e1 e2).1,grow_rd16 (r53 i s d e1 e2).2⟩⟩)
             clear hb5 r51 r53))
        | (go_at_call 14
           go_must (
             refine (K1.out w5 H5.out).mono ?_
             rintro e w6 ⟨A6,m6,c6,rfl,he6,hb6⟩
             have HE6:=hid he6
             have HB6:=hid hb6
             clear he6 hb6))
        | (go_at_call 8
           go_must (
             refine (same16_yes l A6 A5 m6 ns5.length c6 c5 wr w6 HE6.out (nsrd_below HN5.out HB6.out) hlw.out.1 hlw.out.2 HKS.out).mono ?_
             rintro e w8 ⟨rfl,hb8⟩
             have HE:=hid (HWW.out _ ((H5.out.trans (HB6.out.mono H5.out.size)).trans (hb8.mono (Nat.le_trans H5.out.size HB6.out.size))))
             clear hb8)))
      go_ret
      exact ⟨rfl,HE.out⟩
   have q2:(k:Int)<n:=by omega
   have hbW:=HWW.out wr hb
   obtain ⟨a,rfl,ha,hcc⟩:=HQ.out.2 (by omega)
   obtain ⟨B',m',cc,s0',s1',sr⟩:=hcc k q[k] (List.getElem?_eq_getElem hlt)
   have ha2:(a.add (k*2)).block<W.heap.size:=by rw[add_block14];exact ha
   have s0:=(hbW.cell ha2).trans s0'
   have s1:=(hbW.cell (p:=⟨(a.add (k*2)).block,(a.add (k*2)).off+1,none⟩) ha2).trans s1'
   obtain ⟨g1,g2⟩:=HOQ.out.2 _ (List.getElem_mem hlt)
   have HSR:=hid sr
   have HG2:=hid g2
   have hm':q[k].sels.length=m':=sr.1
   clear hcc s0' s1' sr g2
   generalize q[k]=sg at *
   obtain ⟨dp,ys⟩:=sg
   replace hm':ys.length=m':=hm'
   replace g1:ys.length≤8:=g1
   replace HSR:Hid (SRd W B' m' ys):=HSR
   replace HG2:Hid (∀ y∈ys,RightI y):=HG2
   have hmI:(m':Int)≤8:=by omega
   have HST2:=hid (show RelE w3 ys.length (.int .i64 0) (wr.alloc (.cells #[.bool dp,.slice B' m' cc] 40)) from ⟨0,Nat.zero_le _,rfl,hb.trans ((below1 wr _).mono hb.size)⟩)
   clear hb hbW
   go_wp2
   go_loopw [35] (fun i wr=>RelE w3 ys.length i wr) (fun i _=>ys.length-(intOf i).toNat)
   case atStart=>exact HST2.out
   case round =>
     obtain ⟨j,hj,rfl,hb⟩:=hrel
     have hj9:(j:Int)≤8:=by omega
     by_cases hjl:j<ys.length
     rotate_left
     ·have q3:¬ (j:Int)<m':=by omega
      have HN:=hid (show RelE w3 q.length (.int .i64 ((k+1:Nat):Int)) wr from ⟨k+1,hlt,rfl,hb⟩)
      clear hb
      go_wp2
      go_roundw
      case rel=>exact HN.out
      case measure=>simp[intOf]<;>omega
     have q3:(j:Int)<m':=by omega
     have hbW:=HWW.out wr hb
     obtain ⟨b2,rfl,hb2,d3⟩:=(HSR.out.stay hbW).2 (by omega)
     obtain ⟨e0,e1,e2,e3,e4,e5,e6,e7⟩:=d3 j ys[j] (List.getElem?_eq_getElem hjl)
     have hRy:=HG2.out _ (List.getElem_mem hjl)
     clear d3
     generalize ys[j]=y at *
     obtain ⟨yk,yn,yi,ys0,ye,yhs,yhe,ysd⟩:=y
     have HB:=hid hb
     have hO8:=Own.fresh wr 42 #[.int .i64 yk,.string yn,.int .i64 yi,.int .i64 ys0,.int .i64 ye,.bool yhs,.bool yhe,.int .i64 ysd]
     obtain ⟨wA,hwA⟩:∃ wA,wA=wr.alloc (.cells #[.int .i64 yk,.string yn,.int .i64 yi,.int .i64 ys0,.int .i64 ye,.bool yhs,.bool yhe,.int .i64 ysd] 42):=⟨_,rfl⟩
     have hAw:Below wr.heap.size wr wA:=by rw[hwA];exact below1 wr _
     rw[← hwA] at hO8
     have HA3:=hid (hb.trans (hAw.mono hb.size))
     have HSS:=hid (fun w' (hb':Below wA.heap.size wA w')=>show w'.cell? ⟨w2.heap.size,0,none⟩=some (.int .i64 k1)∧w'.cell? ⟨w2.heap.size,1,none⟩=some (.int .i64 f1)∧w'.cell? ⟨w2.heap.size,2,none⟩=some (.int .i64 t1)∧w'.cell? ⟨w2.heap.size,3,none⟩=some (.string ⟨x1.toArray⟩)∧w'.cell? ⟨w2.heap.size,4,none⟩=some (.slice A2 n2 c2)∧w'.cell? ⟨w2.heap.size,5,none⟩=some (.slice B2 m2 d2)∧w'.cell? ⟨wr.heap.size,0,none⟩=some (.int .i64 yk)∧w'.cell? ⟨wr.heap.size,1,none⟩=some (.string yn)∧w'.cell? ⟨wr.heap.size,2,none⟩=some (.int .i64 yi)∧w'.cell? ⟨wr.heap.size,3,none⟩=some (.int .i64 ys0)∧w'.cell? ⟨wr.heap.size,4,none⟩=some (.int .i64 ye)∧w'.cell? ⟨wr.heap.size,5,none⟩=some (.bool yhs)∧w'.cell? ⟨wr.heap.size,6,none⟩=some (.bool yhe)∧w'.cell? ⟨wr.heap.size,7,none⟩=some (.int .i64 ysd) from by
       obtain ⟨a0,a1,a2,a3,a4,a5⟩:=HS6.out w' (HA3.out.trans (hb'.mono HA3.out.size))
       have o:=hO8.stay hb' hO8.inside
       exact ⟨a0,a1,a2,a3,a4,a5,o.at 0,o.at 1,o.at 2,o.at 3,o.at 4,o.at 5,o.at 6,o.at 7⟩)
     have K1:=hid (fun w' (hb':Below wA.heap.size wA w')=>HCH.out v ⟨k1,f1,t1,x1,A2,n2,c2,B2,m2,d2⟩ ⟨yk,yn,yi,ys0,ye,yhs,yhe,ysd⟩ w' (HGW.out w' (HWW.out w' (HA3.out.trans (hb'.mono HA3.out.size)))) (HV.out.stay (HA3.out.trans (hb'.mono HA3.out.size))) hRy HNM.out HC.out HXV.out)
     have K2:=hid (fun w' (hb':Below wA.heap.size wA w')=>rchild_any v ⟨k1,f1,t1,x1,A2,n2,c2,B2,m2,d2⟩ ⟨yk,yn,yi,ys0,ye,yhs,yhe,ysd⟩ w' (HV.out.stay (HA3.out.trans (hb'.mono HA3.out.size))) (nam_items HNM.out).1 hRy (by have:=HC.out;have:=cn_items v;have:=cn_len v.items;omega))
     unfold ChEnd at K2
     unfold selV at K1 K2
     have hcl:=child_len v ⟨yk,yn,yi,ys0,ye,yhs,yhe,ysd⟩
     have hcv:v.items.length≤1000:=by have:=HC.out;have:=cn_items v;have:=cn_len v.items;omega
     have HWA:=hid hwA.symm
     have hSA:=HSS.out wA (Below.refl _ _)
     clear hb hbW hO8 hAw hwA hRy
     generalize childT v _=l at *
     go_upto_region 12 with fail
     rw[HWA.out]
     go_region_held3 (fun w'=>w'.cell? ⟨w2.heap.size,0,none⟩=some (.int .i64 k1)∧w'.cell? ⟨w2.heap.size,1,none⟩=some (.int .i64 f1)∧w'.cell? ⟨w2.heap.size,2,none⟩=some (.int .i64 t1)∧w'.cell? ⟨w2.heap.size,3,none⟩=some (.string ⟨x1.toArray⟩)∧w'.cell? ⟨w2.heap.size,4,none⟩=some (.slice A2 n2 c2)∧w'.cell? ⟨w2.heap.size,5,none⟩=some (.slice B2 m2 d2)∧w'.cell? ⟨wr.heap.size,0,none⟩=some (.int .i64 yk)∧w'.cell? ⟨wr.heap.size,1,none⟩=some (.string yn)∧w'.cell? ⟨wr.heap.size,2,none⟩=some (.int .i64 yi)∧w'.cell? ⟨wr.heap.size,3,none⟩=some (.int .i64 ys0)∧w'.cell? ⟨wr.heap.size,4,none⟩=some (.int .i64 ye)∧w'.cell? ⟨wr.heap.size,5,none⟩=some (.bool yhs)∧w'.cell? ⟨wr.heap.size,6,none⟩=some (.bool yhe)∧w'.cell? ⟨wr.heap.size,7,none⟩=some (.int .i64 ysd))
       (first|exact HSS.out _ (Below.refl _ _)|exact HSS.out _ (Below.refl _ _).drew|exact HSS.out _ h6|exact HSS.out _ h7)
       (first
         | (go_at_call 11;refine (K1.out _ (by first|exact (Below.refl wA.heap.size wA).drew|exact Below.refl _ _)).mono ?_;rintro e w6 ⟨A6,m6,c6,rfl,hr6,hb6⟩;have h6:Below wA.heap.size wA w6:=(by first|exact (Below.refl wA.heap.size wA).drew.trans hb6|exact hb6);have HR6:=hid hr6;obtain rfl:l.length=m6:=hr6.1)
         | (go_at_call 12;refine (K2.out w6 h6).mono ?_;rintro e w7 ⟨u7,rfl,hr7,hb7⟩;have h7:Below wA.heap.size wA w7:=h6.trans (hb7.mono h6.size);obtain ⟨A7,c7,rfl,_⟩:=hr7.form))
     all_goals
       have H7:=hid (HA3.out.trans (h7.mono HA3.out.size))
       have HR7:=hid (grow_rd16 hr7)
       have HR67:=hid (HR6.out.below hb7)
       have q5:((l.length:Int) != l.length)=false:=by simp
       have hlI:(l.length:Int)≤1000:=by omega
       clear h6 h7 hb6 hb7 hr6 hr7 hSA e0 e1 e2 e3 e4 e5 e6 e7
       go_wp2
       go_loopw [52] (fun i wr=>RelE w7 l.length i wr) (fun i _=>l.length-(intOf i).toNat)
       case atStart=>exact ⟨0,Nat.zero_le _,rfl,Below.refl _ _⟩
       case round =>
         obtain ⟨i,hi,rfl,hb⟩:=hrel
         have hi9:(i:Int)≤1000:=by omega
         by_cases hil:i<l.length
         rotate_left
         ·have q6:¬ (i:Int)<l.length:=by omega
          have HN:=hid (show RelE w3 ys.length (.int .i64 ((j+1:Nat):Int)) wr from ⟨j+1,hjl,rfl,H7.out.trans (hb.mono H7.out.size)⟩)
          clear hb
          go_wp2
          go_roundw
          case rel=>exact HN.out
          case measure=>simp[intOf]<;>omega
         have q6:(i:Int)<l.length:=by omega
         have r6:=HR67.out.below hb
         have r7:=HR7.out.below hb
         obtain ⟨x6,o6,rfl,_,_⟩:=r6.2 (by omega)
         obtain ⟨x7,o7,rfl,_,_⟩:=r7.2 (by omega)
         have y6:=r6.at rfl (List.getElem?_eq_getElem hil) (j:=0) (u:=.int .i64 (l[i]:Nat)) rfl
         have y7:=r7.at rfl (List.getElem?_eq_getElem hil) (j:=0) (u:=.int .i64 (l[i]:Nat)) rfl
         rw[show i*plcK.n+0=i by show i*1+0=i;omega] at y6 y7
         generalize l[i]=z at *
         have q7:((z:Int) != z)=false:=by simp
         have u4:(0:Int)≤(i:Int):=by omega
         have HN:=hid (show RelE w7 l.length (.int .i64 ((i+1:Nat):Int)) wr.drew from ⟨i+1,hil,rfl,hb.drew⟩)
         clear hb r6 r7
         go_wp2_with fail
         go_region
         all_goals
           go_wp2
           go_roundw
           case rel=>exact HN.out
           case measure=>simp[intOf]<;>omega
end
section
open Go.RowKit
theorem evalRows_all {G:World→Prop} {X:Tree→Prop} (hX:∀ v,X v→ArmT v∧OrdT v 0 1000) (hstay:∀ w w',G w→Below w.heap.size w w'→G w')
   (hal:∀ w,G w→Calls Tryz.prog 6 #[] w fun e w'=>e=.returned (.bool true)∧Below w.heap.size w w')
   (q:List Sgm) (A:Option Addr) (n c:Nat) (B:Option Addr) (bl bc:Nat) (W:World) (hG:G W) (hq:QRd W A n q)
   (hgiv:∀ w,Below W.heap.size W w→Calls Tryz.prog 7 #[.slice B bl bc,.slice A n c] w (GivEnd X q w)) :
   Calls Tryz.prog 4 #[.slice B bl bc,.slice A n c] W fun e w'=>e=.returned (.bool true)∧Below W.heap.size W w' :=
 evalRows_core hstay hal (fun v x q A n c l w _ hv hq hoq hN hc hx hl=>by
     obtain ⟨h1,h2⟩:=rowO_fine (N:=1000) q _ l hl (fun d hd=>by
       obtain rfl:d=⟨v,[]⟩:=by simpa using hd
       exact ⟨hN,hc,by simpa using hc⟩)
     have e:l=rowT v q:=rowO_is 2000 q _ l hl
     have h9:l.length≤2000:=by
       rcases h2 with h2|h2
       ·exact h2
       ·rw[h2];simp
     rw[e] at h9 ⊢
     exact erow_any v x q A n c 1000 w hv hq (okE_of hN hc (hX v hx).1 (hX v hx).2 hoq) h9)
   (fun v x y w _ hv hy hN hc hx=>by
     have h1:=cn_items v
     have h2:=cn_len v.items
     refine (echildren_any v x y w hv (nam_items hN).1 hy (by omega)).mono ?_
     rintro e w' ⟨u,rfl,hr,hb⟩
     obtain ⟨A',c',rfl,_⟩:=hr.form
     exact ⟨A',_,c',rfl,hr.rd,hb⟩) same_steps q A n c B bl bc W hG hq hgiv
end
end Go.Proofs.YtnokhgfifbkflaaGreat
