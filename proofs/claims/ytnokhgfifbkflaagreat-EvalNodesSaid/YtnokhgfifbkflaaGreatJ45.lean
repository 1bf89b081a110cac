/- Lemmas. -/
import Derived.Test.YtnokhgfifbkflaaGreatProg
import Derived.Test.YtnokhgfifbkflaaGreatJ43
import Derived.Test.YtnokhgfifbkflaaGreatJ44
set_option maxRecDepth 100000
set_option maxHeartbeats 8000000
set_option linter.unusedVariables false
set_option linter.unusedSimpArgs false
namespace Go.Proofs.YtnokhgfifbkflaaGreat
open Go.Lib (hid)
section
open Go.RowKit
def NsB (V0 w:World) (b1 b2:Nat) (v:Value) (l:List Nd):Prop :=
 ∃ ns:List NdV,GRow ndK w b2 v ns∧ns.length=l.length ∧ ∀ (i:Nat) (s:NdV) (d:Nd),ns[i]?=some s→l[i]?=some d→NdIs V0 w b1 s d
theorem NsB.keep {V0 w w':World} {b1 b2 B:Nat} {v:Value} {l:List Nd} (h:NsB V0 w b1 b2 v l) (hb:Below B w w') (hB:w.heap.size≤B):NsB V0 w' b1 b2 v l:=by
 obtain ⟨ss,h1,h2,h3⟩:=h
 exact ⟨ss,h1.keepB hb hB,h2,fun i s x hs hx=>⟨(h3 i s x hs hx).1,(h3 i s x hs hx).2.keepB hb hB⟩⟩
theorem NsB.low {V0 w:World} {b1 b2 b:Nat} {v:Value} {l:List Nd} (h:NsB V0 w b1 b2 v l) (hb:b≤b2):NsB V0 w b1 b v l:=by
 obtain ⟨ss,h1,h2,h3⟩:=h
 exact ⟨ss,h1.mono hb,h2,h3⟩
structure SlV where
 A:Option Addr
 n:Nat
 c:Nat
def sliK:RowK SlV where
 T:=43
 S:=70
 n:=1
 bytes:=24
 zero:=.slice none 0 0
 enc:=fun s=>[.slice s.A s.n s.c]
 pos:=by decide
 len:=fun _=>rfl
 one:=fun s u h=>by simp at h;subst h;rfl
 under:=Tryz.underlying70
 info:=by kernel_rfl
 zlen:=rfl
 small:=by decide
def WsB (w:World) (b1 b2:Nat) (v:Value) (l:List (List Nat)):Prop :=
 ∃ ns:List SlV,GRow sliK w b2 v ns∧ns.length=l.length ∧ ∀ (i:Nat) (s:SlV) (d:List Nat),ns[i]?=some s→l[i]?=some d→GRow plcK w b1 (.slice s.A s.n s.c) d
theorem WsB.keep {w w':World} {b1 b2 B:Nat} {v:Value} {l:List (List Nat)} (h:WsB w b1 b2 v l) (hb:Below B w w') (hB:w.heap.size≤B):WsB w' b1 b2 v l:=by
 obtain ⟨ss,h1,h2,h3⟩:=h
 exact ⟨ss,h1.keepB hb hB,h2,fun i s x hs hx=>(h3 i s x hs hx).keepB hb hB⟩
theorem WsB.low {w:World} {b1 b2 b:Nat} {v:Value} {l:List (List Nat)} (h:WsB w b1 b2 v l) (hb:b≤b2):WsB w b1 b v l:=by
 obtain ⟨ss,h1,h2,h3⟩:=h
 exact ⟨ss,h1.mono hb,h2,h3⟩
theorem row_type {α β:Type} {K:RowK α} {K':RowK β} (hT:K.T≠K'.T) {w:World} {b1 b2:Nat} {v u:Value} {ss:List α} {xs:List β} (h:GRow K w b2 v ss) (h':GRow K' w b1 u xs) {g:Nat} (hg:v.ownBlock=some g) (hu:u.ownBlock=some g):False:=by
 rcases h.2 with ⟨rfl,_⟩|⟨g1,c1,cur1,rfl,_,hh1,_⟩
 ·simp[Value.ownBlock] at hg
 rcases h'.2 with ⟨rfl,_⟩|⟨g2,c2,cur2,rfl,_,hh2,_⟩
 ·simp[Value.ownBlock] at hu
 have e1:g1=g:=by simpa [Value.ownBlock] using hg
 have e2:g2=g:=by simpa [Value.ownBlock] using hu
 subst e1 e2
 rw[hh1] at hh2
 have:=Option.some.inj hh2
 injection this with _ ht _
 exact absurd ht hT
theorem GRow.grownBy {α β:Type} {K:RowK α} {K':RowK β} (hT:K.T≠K'.T) {w w':World} {b1 b2:Nat} {v u:Value} {ss:List α} {xs:List β} (h:GRow K w b2 v ss) (h':GRow K' w b1 u xs) (hg:w.grownBy w' v.ownBlock):GRow K' w' b1 u xs :=
 h'.stay fun g hgu=>hg.block g (h'.low hgu).2 (fun e=>row_type hT h h' e.symm hgu)
theorem nsb_ready {V0 w5:World} {b1 b2:Nat} {V:Value} {acc:List Nd} (hq:NsB V0 w5 b1 b2 V acc):∃ rs:List NdV,GRow ndK w5 b2 V rs∧rs.length=acc.length ∧
   ∀ (ns:List NdV) (l:List Nd) (v7:Value) (w7:World),ns.length=l.length→(∀ (i:Nat) (s:NdV) (y:Nd),ns[i]?=some s→l[i]?=some y→NdIs V0 w5 b1 s y)→GRow ndK w7 b2 v7 (rs++ns)→w5.grownBy w7 V.ownBlock→NsB V0 w7 b1 b2 v7 (acc++l):=by
 obtain ⟨rs,q1,q2,q3⟩:=hq
 refine ⟨rs,q1,q2,fun ns l v7 w7 g2 g3 hrow hg=>⟨_,hrow,by simp[q2,g2],fun i s y hs hy => ?_⟩⟩
 rcases Nat.lt_or_ge i rs.length with h|h
 ·rw[List.getElem?_append_left h] at hs
  rw[List.getElem?_append_left (by omega)] at hy
  exact ⟨(q3 i s y hs hy).1,q1.grownBy (show ndK.T≠stpK.T by decide) (q3 i s y hs hy).2 hg⟩
 ·rw[List.getElem?_append_right h] at hs
  rw[List.getElem?_append_right (by omega),← q2] at hy
  exact ⟨(g3 _ s y hs hy).1,q1.grownBy (show ndK.T≠stpK.T by decide) (g3 _ s y hs hy).2 hg⟩
theorem wsb_ready {w5:World} {b1 b2:Nat} {V:Value} {acc:List (List Nat)} (hq:WsB w5 b1 b2 V acc):∃ rs:List SlV,GRow sliK w5 b2 V rs∧rs.length=acc.length ∧
   ∀ (ns:List SlV) (l:List (List Nat)) (v7:Value) (w7:World),ns.length=l.length→(∀ (i:Nat) (s:SlV) (y:List Nat),ns[i]?=some s→l[i]?=some y→GRow plcK w5 b1 (.slice s.A s.n s.c) y)→GRow sliK w7 b2 v7 (rs++ns)→w5.grownBy w7 V.ownBlock→WsB w7 b1 b2 v7 (acc++l):=by
 obtain ⟨rs,q1,q2,q3⟩:=hq
 refine ⟨rs,q1,q2,fun ns l v7 w7 g2 g3 hrow hg=>⟨_,hrow,by simp[q2,g2],fun i s y hs hy => ?_⟩⟩
 rcases Nat.lt_or_ge i rs.length with h|h
 ·rw[List.getElem?_append_left h] at hs
  rw[List.getElem?_append_left (by omega)] at hy
  exact q1.grownBy (show sliK.T≠plcK.T by decide) (q3 i s y hs hy) hg
 ·rw[List.getElem?_append_right h] at hs
  rw[List.getElem?_append_right (by omega),← q2] at hy
  exact q1.grownBy (show sliK.T≠plcK.T by decide) (g3 _ s y hs hy) hg
theorem NsB.grownW {V0 w w':World} {b1 b2 b:Nat} {v V:Value} {l:List Nd} {ss:List SlV} (h:NsB V0 w b1 b2 v l) (hs:GRow sliK w b V ss) (hg:w.grownBy w' V.ownBlock):NsB V0 w' b1 b2 v l:=by
 obtain ⟨rs,q1,q2,q3⟩:=h
 exact ⟨rs,hs.grownBy (show sliK.T≠ndK.T by decide) q1 hg,q2,fun i s y e1 e2=>⟨(q3 i s y e1 e2).1,hs.grownBy (show sliK.T≠stpK.T by decide) (q3 i s y e1 e2).2 hg⟩⟩
theorem WsB.grownN {w w':World} {b1 b2 b:Nat} {v V:Value} {l:List (List Nat)} {ss:List NdV} (h:WsB w b1 b2 v l) (hs:GRow ndK w b V ss) (hg:w.grownBy w' V.ownBlock):WsB w' b1 b2 v l:=by
 obtain ⟨rs,q1,q2,q3⟩:=h
 exact ⟨rs,hs.grownBy (show ndK.T≠sliK.T by decide) q1 hg,q2,fun i s y e1 e2=>hs.grownBy (show ndK.T≠plcK.T by decide) (q3 i s y e1 e2) hg⟩
theorem allL_snoc (v:Tree) (p:List Pst) (w:List Nat):∀ (ts:List Tree) (i:Nat) (t:Tree),allL v (ts++[t]) i p w=allL v ts i p w++allN t (p++[stpT v (i+ts.length)]) (w++[i+ts.length])
 | [],i,t=>by simp[allL]
 | u :: ts,i,t=>by
   rw[List.cons_append,allL,allL_snoc v p w ts (i+1) t,allL,List.append_assoc,List.length_cons,show i+1+ts.length=i+(ts.length+1) by omega]
end
section
open Go.RowKit
def AllEnd (V0 W:World) (b1:Nat) (t:Tree) (p:List Pst) (w:List Nat) (e:Ending) (w':World):Prop :=
 ∃ v u,e=.returned (.tuple #[v,u])∧NsB V0 w' b1 W.heap.size v ((allN t p w).map (·.1))∧WsB w' b1 W.heap.size u ((allN t p w).map (·.2))∧Below W.heap.size W w'
def AllR (t:Tree):Prop:=∀ (s:NdV) (p:List Pst) (w:List Nat) (A:Option Addr) (m c:Nat) (V0 W:World) (b1:Nat),b1≤W.heap.size→Below V0.heap.size V0 W→VIs V0 t s.x→GRow stpK W b1 (.slice s.S s.n s.c) p→GRow plcK W b1 (.slice A m c) w→NamT t→cnT t≤100000→p.length+cnT t≤900000→w.length+cnT t≤900000 →
   Calls Tryz.prog 26 #[.agg #[.int .i64 s.x.kd,.int .i64 s.x.fr,.int .i64 s.x.to,.string ⟨s.x.tx.toArray⟩,.slice s.x.A s.x.n s.x.c,.slice s.x.B s.x.m s.x.d,.slice s.S s.n s.c],.slice A m c] W (AllEnd V0 W b1 t p w)
def RelA (V0 W1:World) (b1:Nat) (t:Tree) (p:List Pst) (w:List Nat) (vo uo i:Value) (wr:World):Prop :=
 ∃ (k:Nat) (V U:Value),V=vo∧U=uo∧k≤t.items.length∧i=.int .i64 k∧NsB V0 wr b1 W1.heap.size vo ((((⟨t,p⟩,w):Nd×List Nat) :: allL t (t.items.take k) 0 p w).map (·.1))∧WsB wr b1 W1.heap.size uo ((((⟨t,p⟩,w):Nd×List Nat) :: allL t (t.items.take k) 0 p w).map (·.2))∧Below W1.heap.size W1 wr
theorem one_nd {V0 w:World} {b1:Nat} {s:NdV} {d:Nd} (h:NdIs V0 w b1 s d):∀ (i:Nat) (s':NdV) (y:Nd),([s]:List NdV)[i]?=some s'→([d]:List Nd)[i]?=some y→NdIs V0 w b1 s' y:=fun i s' y hs hy=>by
 have hi0:i=0:=by have:=(List.getElem?_eq_some_iff.1 hs).1;simp at this;omega
 subst hi0
 simp at hs hy
 subst hs hy
 exact h
theorem one_sl {w:World} {b1:Nat} {s:SlV} {d:List Nat} (h:GRow plcK w b1 (.slice s.A s.n s.c) d):∀ (i:Nat) (s':SlV) (y:List Nat),([s]:List SlV)[i]?=some s'→([d]:List (List Nat))[i]?=some y→GRow plcK w b1 (.slice s'.A s'.n s'.c) y:=fun i s' y hs hy=>by
 have hi0:i=0:=by have:=(List.getElem?_eq_some_iff.1 hs).1;simp at this;omega
 subst hi0
 simp at hs hy
 subst hs hy
 exact h
set_option maxHeartbeats 16000000 in
theorem rall_of (t:Tree) (ih:∀ u∈t.items,AllR u):AllR t:=by
 intro s p w A m c V0 W b1 hb1 h0 hv hp hw hN hc hpc hwc
 obtain ⟨hN5,hNL⟩:=nam_items hN
 have hci:=cn_items t
 have hcl:=cn_len t.items
 have hnI:s.x.n=t.items.length:=by obtain ⟨kd,fr,td,tx,items,names⟩:=t;exact hv.many.1
 have hcap:s.x.n≤s.x.c:=by obtain ⟨kd,fr,td,tx,items,names⟩:=t;unfold VIs at hv;exact hv.2.2.2.2.1
 obtain ⟨⟨xk,xf,xt,xx,xA,n,xc,xB,mm,xd⟩,S,sn,sc⟩:=s
 replace hnI:t.items.length=n:=Eq.symm hnI
 replace hcap:n≤xc:=hcap
 replace hp:GRow stpK W b1 (.slice S sn sc) p:=hp
 have hm:w.length=m:=(grow_rd hw).1
 obtain ⟨W1,hW1⟩:∃ W1,W1=W.alloc (.cells #[.int .i64 xk,.int .i64 xf,.int .i64 xt,.string ⟨xx.toArray⟩,.slice xA n xc,.slice xB mm xd,.slice S sn sc] 60):=⟨_,rfl⟩
 have hz1:W1.heap.size=W.heap.size+1:=by rw[hW1];simp
 have hB1:Below W.heap.size W W1:=by rw[hW1];exact below1 W _
 have hO1:Own W1 W.heap.size 60 #[.int .i64 xk,.int .i64 xf,.int .i64 xt,.string ⟨xx.toArray⟩,.slice xA n xc,.slice xB mm xd,.slice S sn sc]:=by rw[hW1];exact Own.fresh W _ _
 have HO:=hid (fun w (hb:Below W1.heap.size W1 w)=>hO1.stay hb (by omega))
 have HWW:=hid (fun w (hb:Below W1.heap.size W1 w)=>hB1.trans (hb.mono hB1.size))
 have H0:=hid (fun w (hb:Below W1.heap.size W1 w)=>h0.trans ((HWW.out w hb).mono h0.size))
 have HPL:=hid (fun w' (hb:Below W1.heap.size W1 w')=>hw.keepB (HWW.out w' hb) (Nat.le_refl _))
 have HST:=hid (fun w' (hb:Below W1.heap.size W1 w')=>hp.keepB (HWW.out w' hb) (Nat.le_refl _))
 have HV0:=hid (show VIs V0 t ⟨xk,xf,xt,xx,xA,n,xc,xB,mm,xd⟩ from hv)
 have hst:RelA V0 W1 b1 t p w (.slice (some ⟨W.heap.size+1,0,none⟩) 1 1) (.slice (some ⟨W.heap.size+2,0,none⟩) 1 1) (.int .i64 0) ((W1.alloc (.cells #[.int .i64 xk,.int .i64 xf,.int .i64 xt,.string ⟨xx.toArray⟩,.slice xA n xc,.slice xB mm xd,.slice S sn sc] 60)).alloc (.cells #[.slice A m c] 43)):=by
   have k1:Below W1.heap.size W1 (W1.alloc (.cells #[.int .i64 xk,.int .i64 xf,.int .i64 xt,.string ⟨xx.toArray⟩,.slice xA n xc,.slice xB mm xd,.slice S sn sc] 60)):=below1 W1 _
   have k2:Below W1.heap.size W1 ((W1.alloc (.cells #[.int .i64 xk,.int .i64 xf,.int .i64 xt,.string ⟨xx.toArray⟩,.slice xA n xc,.slice xB mm xd,.slice S sn sc] 60)).alloc (.cells #[.slice A m c] 43)):=k1.alloc (by simp) _
   have z2:(W1.alloc (.cells #[.int .i64 xk,.int .i64 xf,.int .i64 xt,.string ⟨xx.toArray⟩,.slice xA n xc,.slice xB mm xd,.slice S sn sc] 60)).heap.size=W.heap.size+2:=by simp[hz1]
   refine ⟨0,_,_,rfl,rfl,Nat.zero_le _,rfl,?_,?_,k2⟩
   ·have r:=GRow.made (K:=ndK) (base:=W1.heap.size) (l:=[⟨⟨xk,xf,xt,xx,xA,n,xc,xB,mm,xd⟩,S,sn,sc⟩]) W1 #[.int .i64 xk,.int .i64 xf,.int .i64 xt,.string ⟨xx.toArray⟩,.slice xA n xc,.slice xB mm xd,.slice S sn sc] rfl (by simp[maxLen]) (Nat.le_refl _)
    have r2:=r.keepB (below1 _ (.cells #[.slice A m c] 43)) (Nat.le_refl _)
    rw[hz1] at r2
    rw[List.take_zero,allL,List.map_cons,List.map_nil]
    refine ⟨_,?_,rfl,one_nd (s:=⟨⟨xk,xf,xt,xx,xA,n,xc,xB,mm,xd⟩,S,sn,sc⟩) (d:=⟨t,p⟩) ⟨HV0.out,HST.out _ k2⟩⟩
    rw[hz1]
    exact r2
   ·have r:=GRow.made (K:=sliK) (base:=W1.heap.size) (l:=[⟨A,m,c⟩]) (W1.alloc (.cells #[.int .i64 xk,.int .i64 xf,.int .i64 xt,.string ⟨xx.toArray⟩,.slice xA n xc,.slice xB mm xd,.slice S sn sc] 60)) #[.slice A m c] rfl (by simp[maxLen]) (by simp)
    rw[z2] at r
    rw[List.take_zero,allL,List.map_cons,List.map_nil]
    exact ⟨_,r,rfl,one_sl (s:=⟨A,m,c⟩) (HPL.out _ k2)⟩
 have HSTA:=hid hst
 have HN5:=hid hN5
 have HNL:=hid hNL
 have HIH:=hid ih
 have HC:=hid hc
 have HPC:=hid hpc
 have HWC:=hid hwc
 have HB1:=hid hb1
 have HZ1:=hid hz1
 have hp9:p.length≤900000:=by omega
 have hw9:w.length≤900000:=by omega
 have hlen9:t.items.length≤100000:=by omega
 have hall:allN t p w=(⟨t,p⟩,w) :: allL t t.items 0 p w:=by cases t;rw[allN];rfl
 have HALL:=hid hall
 have HW1:=hid hW1
 rw[hW1] at hst
 clear hst h0 hv hp hw hN hN5 hNL ih hc hpc hwc hb1 hO1 hB1 hall hW1 hz1
 show Calls Tryz.prog 26 #[.agg #[.int .i64 xk,.int .i64 xf,.int .i64 xt,.string ⟨xx.toArray⟩,.slice xA n xc,.slice xB mm xd,.slice S sn sc],.slice A m c] W _
 go_enter Tryz.func26,Tryz.ntmps26
 go_wp2
 go_loopw [6,7,19] (fun vo uo i wr=>RelA V0 W1 b1 t p w vo uo i wr) (fun _ _ i _=>t.items.length-(intOf i).toNat)
 case atStart =>
   have:=HSTA.out
   rw[HW1.out] at this ⊢
   exact this
 case round =>
   obtain ⟨k,V,U,rfl,rfl,hk,rfl,hns,hws,hb⟩:=hrel
   have hk9:(k:Int)≤100000:=by omega
   by_cases hlt:k<t.items.length
   rotate_left
   ·have q2:¬ (k:Int)<n:=by omega
    have HN:=hid (show AllEnd V0 W b1 t p w (.returned (.tuple #[V,U])) wr from by
      rw[List.take_of_length_le (by omega)] at hns hws
      refine ⟨V,U,rfl,?_,?_,HWW.out _ hb⟩
      ·rw[HALL.out];exact hns.low (by have:=HZ1.out;omega)
      ·rw[HALL.out];exact hws.low (by have:=HZ1.out;omega))
    clear hns hws hb
    go_wp2
    go_ret2
    exact HN.out
   have q2:(k:Int)<n:=by omega
   have hmem:itmT t k∈t.items:=List.mem_of_getElem? (items_getD t hlt)
   have hcu:=cn_mem hmem
   have hoc:=HO.out wr hb
   have z0:wr.cell? ⟨W.heap.size,0,none⟩=some (.int .i64 xk):=hoc.at 0
   have z1:wr.cell? ⟨W.heap.size,1,none⟩=some (.int .i64 xf):=hoc.at 1
   have z2:wr.cell? ⟨W.heap.size,2,none⟩=some (.int .i64 xt):=hoc.at 2
   have z3:wr.cell? ⟨W.heap.size,3,none⟩=some (.string ⟨xx.toArray⟩):=hoc.at 3
   have z4:wr.cell? ⟨W.heap.size,4,none⟩=some (.slice xA n xc):=hoc.at 4
   have z5:wr.cell? ⟨W.heap.size,5,none⟩=some (.slice xB mm xd):=hoc.at 5
   have z6:wr.cell? ⟨W.heap.size,6,none⟩=some (.slice S sn sc):=hoc.at 6
   have KI:=hid (show Calls _ _ #[.agg #[.int .i64 xk,.int .i64 xf,.int .i64 xt,.string ⟨xx.toArray⟩,.slice xA n xc,.slice xB mm xd,.slice S sn sc],.int .i64 k] wr (ItEx V0 wr (itmN ⟨t,p⟩ k)) from ritem_ex ⟨t,p⟩ ⟨⟨xk,xf,xt,xx,xA,n,xc,xB,mm,xd⟩,S,sn,sc⟩ k V0 wr (H0.out wr hb) HV0.out (grow_rd (HST.out wr hb)) hlt HN5.out (by omega) (by show p.length≤_;omega))
   unfold ItEx at KI
   have KA:=hid (HIH.out _ hmem)
   have HNU:=hid (nam_mem HNL.out hmem)
   have HCU:=hid (show cnT (itmT t k)≤100000∧(p++[stpT t k]).length+cnT (itmT t k)≤900000∧(w++[k]).length+cnT (itmT t k)≤900000 by
     have:=HC.out;have:=HPC.out;have:=HWC.out
     rw[List.length_append,List.length_append,List.length_singleton,List.length_singleton]
     omega)
   have HNX:=hid (show allL t (t.items.take (k+1)) 0 p w=allL t (t.items.take k) 0 p w++allN (itmT t k) (p++[stpT t k]) (w++[k]) by
     rw[List.take_add_one,items_getD t hlt]
     show allL t (t.items.take k++[itmT t k]) 0 p w=_
     rw[allL_snoc,List.length_take,Nat.min_eq_left (by omega),Nat.zero_add])
   have hl1:(((((⟨t,p⟩,w):Nd×List Nat) :: allL t (t.items.take k) 0 p w).map (·.1))).length≤100001:=by
     rw[List.length_map,List.length_cons,allL_len]
     have:=cn_take t.items k;have:=HC.out;omega
   have hl2:(((((⟨t,p⟩,w):Nd×List Nat) :: allL t (t.items.take k) 0 p w).map (·.2))).length≤100001:=by
     rw[List.length_map,List.length_cons,allL_len]
     have:=cn_take t.items k;have:=HC.out;omega
   have hl3:((allN (itmT t k) (p++[stpT t k]) (w++[k])).map (·.1)).length≤100000:=by rw[List.length_map,all_len];exact HCU.out.1
   have hl4:((allN (itmT t k) (p++[stpT t k]) (w++[k])).map (·.2)).length≤100000:=by rw[List.length_map,all_len];exact HCU.out.1
   have HL:=hid (And.intro hl1 (And.intro hl2 (And.intro hl3 hl4)))
   have HNS:=hid hns
   have HWS:=hid hws
   have HB:=hid hb
   have HMW:=hid hm
   clear hns hws hb hoc hmem hcu hl1 hl2 hl3 hl4
   have tkA:True:=trivial
   have tkB:True:=trivial
   have tkC:True:=trivial
   go_wp2_with (first
     | (go_at_call 47
        go_must (
          refine KI.out.mono ?_
          rintro e w5 ⟨k1,f1,t1,x1,A2,n2,c2,B2,m2,d2,S2,sn2,sc2,rfl,hnd,hb5⟩
          have HND:=hid hnd
          have H5:=hid hb5
          have hz5:=hb5.size
          have H51:=hid (HB.out.trans (hb5.mono HB.out.size))
          have HE:=hid (GRow.made (K:=plcK) (base:=w5.heap.size) (l:=[]) w5 #[] rfl (by simp[maxLen]) (Nat.le_refl _))
          clear hnd hb5 hz5))
     | (at_builtin
        clear tkA
        go_must (
          have hbe:Below w5.heap.size w5 (w5.alloc (.cells #[] 3)):=below1 w5 _
          refine row_append (K:=plcK) _ rfl (.tmp 26) (.tmp 27) rfl w5.heap.size (.slice (some ⟨w5.heap.size,0,none⟩) 0 0) [] rfl HE.out A m c w rfl (grow_rd (HPL.out _ (H51.out.trans (hbe.mono H51.out.size)))) (by have:=HMW.out;simp;omega) hbe.size ?_
          intro v7 w7 row7 grown7 at7
          have h7:Below w5.heap.size w5 w7:=below_grown hbe grown7 hbe.size (fun g hg=>(HE.out.low hg).1)
          have HR7:=hid row7
          have H7:=hid h7
          clear row7 grown7 at7 h7 hbe))
     | (at_builtin
        clear tkB
        go_must (
          have hbe:Below w7.heap.size w7 (w7.alloc (.cells #[.int .i64 k] 3)):=below1 w7 _
          refine row_append (K:=plcK) _ rfl (.tmp 28) (.tmp 30) rfl w5.heap.size v7 w rfl (HR7.out.keepB hbe (Nat.le_refl _)) _ 1 1 [k] rfl (GRow.made (K:=plcK) (base:=0) (l:=[k]) w7 #[.int .i64 k] rfl (by simp[maxLen]) (Nat.zero_le _)).rd (by omega) (Nat.le_trans H7.out.size hbe.size) ?_
          intro v8 w8 row8 grown8 at8
          have h8:Below w5.heap.size w5 w8:=below_grown (H7.out.trans (hbe.mono H7.out.size)) grown8 (Nat.le_trans H7.out.size hbe.size) (fun g hg=>(HR7.out.low hg).1)
          obtain ⟨A8,c8,rfl,_⟩:=row8.form
          have HE8:=hid (show (w++[k]).length=m+1 by rw[List.length_append,HMW.out];rfl)
          rw[HE8.out] at row8 ⊢
          have HR8:=hid row8
          have H8:=hid h8
          have H81:=hid (H51.out.trans (h8.mono H51.out.size))
          have KA8:=hid (KA.out ⟨⟨k1,f1,t1,x1,A2,n2,c2,B2,m2,d2⟩,S2,sn2,sc2⟩ (p++[stpT t k]) (w++[k]) A8 (m+1) c8 V0 w8 b1 (by have:=HB1.out;have:=HZ1.out;have:=H81.out.size;omega) (H0.out w8 H81.out) HND.out.1 ((HND.out.2.keepB h8 (Nat.le_refl _)).mono (by have:=HB1.out;have:=HZ1.out;have:=HB.out.size;omega)) (row8.mono (by have:=HB1.out;have:=HZ1.out;have:=H51.out.size;omega)) HNU.out HCU.out.1 HCU.out.2.1 HCU.out.2.2)
          clear row8 grown8 at8 h8 hbe))
     | (go_at_call 26
        go_must (
          refine KA8.out.mono ?_
          rintro e w9 ⟨v9,u9,rfl,hn9,hu9,hb9⟩
          obtain ⟨rs9,r91,r92,r93⟩:=hn9
          obtain ⟨ss9,s91,s92,s93⟩:=hu9
          have R92:=hid r92
          have S92:=hid s92
          clear r92 s92
          obtain ⟨A9,c9,rfl,_⟩:=r91.form
          obtain ⟨B9,d9,rfl,_⟩:=s91.form
          have h91:Below wr.heap.size wr w9:=H5.out.trans ((H8.out.trans (hb9.mono H8.out.size)).mono H5.out.size)
          have hn5:=HNS.out.keep h91 (Nat.le_refl _)
          have hw5:=HWS.out.keep h91 (Nat.le_refl _)
          obtain ⟨rs,q1,q2',q3⟩:=nsb_ready hn5
          have HQ1:=hid q1
          have HQ2:=hid q2'
          have HQ3:=hid q3
          have H9:=hid (HB.out.trans (h91.mono HB.out.size))
          have HW5:=hid hw5
          have HR91:=hid r91
          have HR93:=hid r93
          have HS91:=hid s91
          have HS93:=hid s93
          clear hb9 r91 r93 s91 s93 h91 hn5 hw5 q1 q2' q3))
     | (at_builtin
        clear tkC
        go_must (
          refine row_append (K:=ndK) _ rfl (.tmp 35) (.tmp 36) rfl W1.heap.size V rs rfl HQ1.out A9 rs9.length c9 rs9 rfl HR91.out.rd (by have:=HQ2.out;have:=R92.out;have:=HL.out;omega) H9.out.size ?_
          intro va wa rowa growna ata
          have HNA:=hid (HQ3.out rs9 _ va wa R92.out HR93.out rowa growna)
          have HWA:=hid (HW5.out.grownN HQ1.out growna)
          have HSA:=hid (HQ1.out.grownBy (show ndK.T≠sliK.T by decide) HS91.out growna)
          have HSB:=hid (fun i s y h1 h2=>HQ1.out.grownBy (show ndK.T≠plcK.T by decide) (HS93.out i s y h1 h2) growna)
          have hA:Below W1.heap.size W1 wa:=below_grown H9.out growna H9.out.size (fun g hg=>(HQ1.out.low hg).1)
          obtain ⟨ts,t1',t2',t3'⟩:=wsb_ready HWA.out
          have HT1:=hid t1'
          have HT2:=hid t2'
          have HT3:=hid t3'
          have HA:=hid hA
          clear rowa growna ata hA t1' t2' t3'))
     | (at_builtin
        go_must (
          refine row_append (K:=sliK) _ rfl (.tmp 38) (.tmp 39) rfl W1.heap.size U ts rfl HT1.out B9 ss9.length d9 ss9 rfl HSA.out.rd (by have:=HT2.out;have:=S92.out;have:=HL.out;omega) HA.out.size ?_
          intro vb wb rowb grownb atb
          have HWB:=hid (HT3.out ss9 _ vb wb S92.out HSB.out rowb grownb)
          have HNB:=hid (HNA.out.grownW HT1.out grownb)
          have HBB:=hid (below_grown HA.out grownb HA.out.size (fun g hg=>(HT1.out.low hg).1))
          clear rowb grownb atb)))
   go_roundw
   case rel =>
     refine ⟨k+1,_,_,rfl,rfl,hlt,by go_num,?_,?_,HBB.out⟩
     ·rw[HNX.out,← List.cons_append,List.map_append];exact HNB.out
     ·rw[HNX.out,← List.cons_append,List.map_append];exact HWB.out
   case measure=>simp[intOf];omega
mutual
theorem rall16_any:∀ t:Tree,AllR t
 | .mk kd fr td tx items names=>rall_of _ (ralls16_any items)
theorem ralls16_any:∀ ts:List Tree,∀ u∈ts,AllR u
 | [],u,h=>by cases h
 | t :: ts,u,h=>by
   by_cases e:u=t
   ·rw[e];exact rall16_any t
   ·exact ralls16_any ts u (by rcases List.mem_cons.1 h with h|h;exact absurd h e;exact h)
end
end
section
open Go.RowKit
def bolK:RowK Bool where
 T:=4
 S:=109
 n:=1
 bytes:=1
 zero:=.bool false
 enc:=fun b=>[.bool b]
 pos:=by decide
 len:=fun _=>rfl
 one:=fun s u h=>by simp at h;subst h;rfl
 under:=Tryz.underlying109
 info:=by kernel_rfl
 zlen:=rfl
 small:=by decide
theorem at_snoc (v:Tree) (w:List Nat) {k:Nat} (hk:k<w.length):atT v (w.take (k+1))=itmT (atT v (w.take k)) w[k]:=by
 rw[List.take_succ_eq_append_getElem hk,at_app]
 rfl
theorem way_at {v:Tree} {w:List Nat} (h:wayT v w) {k:Nat} (hk:k<w.length):w[k]<(atT v (w.take k)).items.length:=by
 have h1:=(way_app (w.take k) v (w[k] :: w.drop (k+1))).1 (by rw[← List.drop_eq_getElem_cons hk,List.take_append_drop];exact h)
 exact h1.2.1
theorem way_take {v:Tree}{w:List Nat}(h:wayT v w)(k:Nat):wayT v (w.take k):=((way_app (w.take k) v (w.drop k)).1 (by rw[List.take_append_drop];exact h)).1
def ldB (v:Tree)(w:List Nat)(q:List Sgm)(n k:Nat):Bool:=ledT (w.drop n) (atT v (w.take n)) (q.drop k)
def ldL (v:Tree)(w:List Nat)(q:List Sgm)(n:Nat):List Bool:=(List.range (q.length+1)).map fun k=>ldB v w q n k
theorem ld_end (v:Tree) (w:List Nat) (q:List Sgm) (k:Nat) (hk:k≤q.length):ldB v w q w.length k=decide (k=q.length):=by
 unfold ldB
 rw[List.drop_length,ledT]
 by_cases h:k=q.length
 ·subst h;simp
 ·rw[decide_eq_false h]
  have h2:k<q.length:=by omega
  rw[List.drop_eq_getElem_cons h2]
  rfl
theorem ld_last (v:Tree) (w:List Nat) (q:List Sgm) (n:Nat) (hn:n<w.length):ldB v w q n q.length=false:=by
 unfold ldB
 rw[List.drop_eq_getElem_cons hn,List.drop_length,ledT]
theorem ld_step (v:Tree) (w:List Nat) (q:List Sgm) (n k:Nat) (hn:n<w.length) (hk:k<q.length):ldB v w q n k=((q[k].deep&&ldB v w q (n+1) k)||((q[k].sels.any fun x=>hitT (atT v (w.take n)) w[n] x)&&ldB v w q (n+1) (k+1))):=by
 unfold ldB
 rw[List.drop_eq_getElem_cons hn,List.drop_eq_getElem_cons hk,ledT,at_snoc v w hn,← List.drop_eq_getElem_cons hk]
theorem ld_zero (v:Tree) (w:List Nat) (q:List Sgm):ldB v w q 0 0=ledT w v q:=by
 unfold ldB
 rw[List.drop_zero,List.drop_zero,List.take_zero]
 rfl
theorem bol_make (w:World) (n:Nat) (hn:n≤1000) :
   (Instr.makeSlice 109 (.int .i64 ((n:Int)+1)) (.int .i64 ((n:Int)+1))).run Tryz.prog w=.ok (.slice (some ⟨w.heap.size,0,none⟩) (n+1) (n+1)) (w.alloc (.cells (List.replicate (n+1) (Value.bool false)).toArray 4)):=by
 have hinfo:=bolK.info
 cases hq:Tryz.prog.info? bolK.T with
 | none=>rw[hq] at hinfo;cases hinfo
 | some i =>
   rw[hq] at hinfo
   simp only [Option.map_some,Option.some.injEq,Prod.mk.injEq] at hinfo
   obtain ⟨h1,h2,h3⟩:=hinfo
   have h3':i.bytes=1:=h3
   have hb:(i.bytes:Int)*((n:Int)+1)≤281474976710656:=by rw[h3'];omega
   have:=run_make (P:=Tryz.prog) w bolK.S bolK.T i bolK.zero bolK.under hq h1 .i64 .i64 ((n:Int)+1) ((n:Int)+1) (by omega) (by omega) hb (by omega)
   rw[h2,show ((n:Int)+1).toNat=n+1 by omega,show bolK.n=1 from rfl,Nat.mul_one,show bolK.zero.cells = #[.bool false] by simp[bolK,Value.cells],made_one] at this
   exact this
theorem bol_all:∀ l:List Bool,bolK.all l=l.map Value.bool
 | []=>rfl
 | a :: t=>by
   show Value.bool a :: bolK.all t=_
   rw[bol_all t]
   rfl
theorem bol_made (w:World) (n:Nat) (hn:n≤1000):GRow bolK (w.alloc (.cells (List.replicate (n+1) (Value.bool false)).toArray 4)) w.heap.size (.slice (some ⟨w.heap.size,0,none⟩) (n+1) (n+1)) (List.replicate (n+1) false):=by
 have:=GRow.made (K:=bolK) (base:=w.heap.size) (l:=List.replicate (n+1) false) w (List.replicate (n+1) (Value.bool false)).toArray (by rw[bol_all,List.map_replicate]) (by rw[List.length_replicate];unfold maxLen;omega) (Nat.le_refl _)
 rw[List.length_replicate] at this
 exact this
theorem bol_at {w:World} {base g m c:Nat} {l:List Bool} (h:GRow bolK w base (.slice (some ⟨g,0,none⟩) m c) l) {i:Nat} {b:Bool} (hi:l[i]?=some b):w.cell? ⟨g,i,none⟩=some (.bool b):=by
 have:=h.rd.at rfl hi (j:=0) (u:=.bool b) rfl
 rw[show 0+(i*bolK.n+0)=i by show 0+(i*1+0)=i;omega] at this
 exact this
def nxB (v:Tree)(w:List Nat)(q:List Sgm)(n k:Nat)(b:Bool):List Bool:=(List.range (q.length+1)).map fun i=>if i<k then ldB v w q n i else if i=k then b else false
theorem nx_len (v:Tree)(w:List Nat)(q:List Sgm)(n k:Nat)(b:Bool):(nxB v w q n k b).length=q.length+1:=by unfold nxB;simp
theorem ldL_len (v:Tree)(w:List Nat)(q:List Sgm)(n:Nat):(ldL v w q n).length=q.length+1:=by unfold ldL;simp
theorem ldL_at (v:Tree) (w:List Nat) (q:List Sgm) (n k:Nat) (hk:k≤q.length):(ldL v w q n)[k]?=some (ldB v w q n k):=by
 unfold ldL
 rw[List.getElem?_map,List.getElem?_range (by omega)]
 rfl
theorem nx_at (v:Tree) (w:List Nat) (q:List Sgm) (n k:Nat) (b:Bool) (hk:k≤q.length):(nxB v w q n k b)[k]?=some b:=by
 unfold nxB
 rw[List.getElem?_map,List.getElem?_range (by omega)]
 simp
theorem nx_zero (v:Tree) (w:List Nat) (q:List Sgm) (n:Nat):List.replicate (q.length+1) false=nxB v w q n 0 false:=by
 unfold nxB
 apply List.ext_getElem
 ·simp
 ·intro i h1 h2
  simp
theorem nx_set (v:Tree) (w:List Nat) (q:List Sgm) (n k:Nat) (b b':Bool):(nxB v w q n k b).set k b'=nxB v w q n k b':=by
 unfold nxB
 apply List.ext_getElem
 ·simp
 ·intro i h1 h2
  rw[List.getElem_set]
  simp only [List.getElem_map,List.getElem_range]
  by_cases h:k=i
  ·subst h;simp
  ·have h':¬ i=k:=fun e=>h e.symm
   simp[h,h']
theorem nx_next (v:Tree) (w:List Nat) (q:List Sgm) (n k:Nat):nxB v w q n k (ldB v w q n k)=nxB v w q n (k+1) false:=by
 unfold nxB
 apply List.ext_getElem
 ·simp
 ·intro i h1 h2
  simp only [List.getElem_map,List.getElem_range]
  by_cases h:i<k
  ·rw[if_pos h,if_pos (by omega)]
  ·rw [if_neg h]
   by_cases h':i=k
   ·subst h';rw[if_pos rfl,if_pos (by omega)]
   ·rw[if_neg h',if_neg (by omega)]
    simp
theorem nx_last (v:Tree) (w:List Nat) (q:List Sgm) (n:Nat) (hn:n<w.length):nxB v w q n q.length false=ldL v w q n:=by
 unfold nxB ldL
 apply List.ext_getElem
 ·simp
 ·intro i h1 h2
  simp only [List.getElem_map,List.getElem_range]
  have hi:i<q.length+1:=by simpa using h1
  by_cases h:i<q.length
  ·rw[if_pos h]
  ·obtain rfl:i=q.length:=by omega
   rw[if_neg h,if_pos rfl,ld_last v w q n hn]
theorem ld_init (v:Tree) (w:List Nat) (q:List Sgm):(List.replicate (q.length+1) false).set q.length true=ldL v w q w.length:=by
 unfold ldL
 apply List.ext_getElem
 ·simp
 ·intro i h1 h2
  have hi:i<q.length+1:=by simpa using h1
  rw[List.getElem_set]
  simp only [List.getElem_replicate,List.getElem_map,List.getElem_range]
  rw[ld_end v w q i (by omega)]
  by_cases h:q.length=i
  ·rw[if_pos h,decide_eq_true h.symm]
  ·rw[if_neg h,decide_eq_false (fun e=>h e.symm)]
theorem bol_init (v:Tree) (w:List Nat) (q:List Sgm) (W2:World) (h9:q.length≤1000):GRow bolK (W2.alloc (.cells ((List.replicate (q.length+1) (Value.bool false)).toArray.setIfInBounds q.length (.bool true)) 4)) W2.heap.size (.slice (some ⟨W2.heap.size,0,none⟩) (q.length+1) (q.length+1)) (ldL v w q w.length):=by
 have:=GRow.made (K:=bolK) (base:=W2.heap.size) (l:=ldL v w q w.length) W2 ((List.replicate (q.length+1) (Value.bool false)).toArray.setIfInBounds q.length (.bool true)) (by rw[← ld_init,bol_all,List.map_set,List.map_replicate,List.setIfInBounds_toArray]) (by rw[ldL_len];unfold maxLen;omega) (Nat.le_refl _)
 rw[ldL_len] at this
 exact this
def RelN (W2:World) (v:Tree) (w:List Nat) (q:List Sgm) (vo i:Value) (wr:World):Prop :=
 ∃ (nn L:Nat),nn≤w.length∧vo=.slice (some ⟨L,0,none⟩) (q.length+1) (q.length+1)∧i=.int .i64 ((nn:Int)-1)∧GRow bolK wr W2.heap.size vo (ldL v w q nn)∧Below W2.heap.size W2 wr
def RelK (W3:World) (v:Tree) (w:List Nat) (q:List Sgm) (n:Nat) (i:Value) (wr:World):Prop :=
 ∃ k:Nat,k≤q.length∧i=.int .i64 k∧GRow bolK wr W3.heap.size (.slice (some ⟨W3.heap.size,0,none⟩) (q.length+1) (q.length+1)) (nxB v w q n k false)∧Below W3.heap.size W3 wr
def RelX (W3:World) (v:Tree) (w:List Nat) (q:List Sgm) (n k:Nat) (ys:List Sel) (f:Sel→Bool) (b0 b1:Bool) (j:Value) (wr:World):Prop :=
 ∃ i:Nat,i≤ys.length∧j=.int .i64 i∧GRow bolK wr W3.heap.size (.slice (some ⟨W3.heap.size,0,none⟩) (q.length+1) (q.length+1)) (nxB v w q n k (b0||((ys.take i).any f&&b1)))∧Below W3.heap.size W3 wr
def RelW (W W1:World) (v:Tree) (w:List Nat) (vo i:Value) (wr:World):Prop :=
 ∃ (k:Nat) (V:Value) (xs:List V6),V=vo∧k≤w.length∧i=.int .i64 k∧GRow valK wr W1.heap.size vo xs∧xs.length=k+1∧(∀ j,j≤k → ∃ x,xs[j]?=some x∧VIs W (atT v (w.take j)) x)∧Below W1.heap.size W1 wr
set_option maxHeartbeats 16000000 in
theorem rselects_any (v:Tree) (x:V6) (q:List Sgm) (A:Option Addr) (n c:Nat) (w:List Nat) (B:Option Addr) (m d:Nat) (W:World) (hv:VIs W v x) (hq:QRd W A n q) (hw:RdG plcK W B m w) (hway:wayT v w) (hN:NamT v) (hc:cnT v≤100000) (h9:q.length≤1000) (hw9:w.length≤100000)
   (hR:∀ g∈q,g.sels.length≤1000 ∧ ∀ y∈g.sels,RightI y) :
   Calls Tryz.prog 27 #[.agg #[.int .i64 x.kd,.int .i64 x.fr,.int .i64 x.to,.string ⟨x.tx.toArray⟩,.slice x.A x.n x.c,.slice x.B x.m x.d],.slice A n c,.slice B m d] W fun e w'=>e=.returned (.bool (ledT w v q))∧Below W.heap.size W w':=by
 have hl:q.length=n:=hq.1
 have hm:w.length=m:=hw.1
 have HX:=hid hq
 have HPL:=hid hw
 have HWAY:=hid hway
 have HNA:=hid (fun k=>nam_at (w.take k) v hN (way_take hway k))
 have HC:=hid hc
 have HR:=hid hR
 have HV:=hid hv
 have hst:RelW W (W.alloc (.cells #[.int .i64 x.kd,.int .i64 x.fr,.int .i64 x.to,.string ⟨x.tx.toArray⟩,.slice x.A x.n x.c,.slice x.B x.m x.d] 29)) v w (.slice (some ⟨W.heap.size+1,0,none⟩) 1 1) (.int .i64 0) ((W.alloc (.cells #[.int .i64 x.kd,.int .i64 x.fr,.int .i64 x.to,.string ⟨x.tx.toArray⟩,.slice x.A x.n x.c,.slice x.B x.m x.d] 29)).alloc (.cells #[.int .i64 x.kd,.int .i64 x.fr,.int .i64 x.to,.string ⟨x.tx.toArray⟩,.slice x.A x.n x.c,.slice x.B x.m x.d] 29)):=by
   have r:=GRow.made (K:=valK) (base:=(W.alloc (.cells #[.int .i64 x.kd,.int .i64 x.fr,.int .i64 x.to,.string ⟨x.tx.toArray⟩,.slice x.A x.n x.c,.slice x.B x.m x.d] 29)).heap.size) (l:=[x]) (W.alloc (.cells #[.int .i64 x.kd,.int .i64 x.fr,.int .i64 x.to,.string ⟨x.tx.toArray⟩,.slice x.A x.n x.c,.slice x.B x.m x.d] 29)) #[.int .i64 x.kd,.int .i64 x.fr,.int .i64 x.to,.string ⟨x.tx.toArray⟩,.slice x.A x.n x.c,.slice x.B x.m x.d] rfl (by simp[maxLen]) (Nat.le_refl _)
   refine ⟨0,_,[x],rfl,Nat.zero_le _,rfl,?_,rfl,fun j hj=>⟨x,by rw[show j=0 by omega];rfl,by rw[show j=0 by omega,List.take_zero];exact hv⟩,below1 _ _⟩
   have z1:(W.alloc (.cells #[.int .i64 x.kd,.int .i64 x.fr,.int .i64 x.to,.string ⟨x.tx.toArray⟩,.slice x.A x.n x.c,.slice x.B x.m x.d] 29)).heap.size=W.heap.size+1:=by simp
   rw[z1] at r ⊢
   exact r
 have HST:=hid hst
 have hmI:(m:Int)≤100000:=by omega
 have hnI:(n:Int)≤1000:=by omega
 clear hst hq hw hway hN hc hR hv
 obtain ⟨xk,xf,xt,xx,xA,xn,xc,xB,xm,xd⟩:=x
 show Calls Tryz.prog 27 #[.agg #[.int .i64 xk,.int .i64 xf,.int .i64 xt,.string ⟨xx.toArray⟩,.slice xA xn xc,.slice xB xm xd],.slice A n c,.slice B m d] W _
 have HW1:=hid (below1 W (.cells #[.int .i64 xk,.int .i64 xf,.int .i64 xt,.string ⟨xx.toArray⟩,.slice xA xn xc,.slice xB xm xd] 29))
 obtain ⟨W1,hW1⟩:∃ W1,W1=W.alloc (.cells #[.int .i64 xk,.int .i64 xf,.int .i64 xt,.string ⟨xx.toArray⟩,.slice xA xn xc,.slice xB xm xd] 29):=⟨_,rfl⟩
 have HE1:=hid hW1
 rw[← hW1] at HW1 HST
 clear hW1
 go_enter Tryz.func27,Tryz.ntmps27
 go_wp2
 go_loopw [7,21] (fun vo i wr=>RelW W W1 v w vo i wr) (fun _ i _=>w.length-(intOf i).toNat)
 case atStart =>
   have:=HST.out
   rw[HE1.out] at this ⊢
   exact this
 case round =>
   obtain ⟨k,V,xs,rfl,hk,rfl,hrow,hxl,hxs,hb⟩:=hrel
   have hk9:(k:Int)≤100000:=by omega
   by_cases hlt:k<w.length
   rotate_left
   ·have q2 : ¬ (k : Int)<m:=by omega
    obtain rfl:k=w.length:=by omega
    obtain ⟨W2,hw2⟩:∃ W2,W2=wr:=⟨wr,rfl⟩
    subst hw2
    have hBW:=HW1.out.trans (hb.mono HW1.out.size)
    have HBW:=hid hBW
    obtain ⟨A1,c1,rfl,hc1,_,hg1⟩:=hrow.form
    rw[hxl] at hrow hg1 ⊢
    obtain ⟨g,rfl,_,_⟩:=hg1 (by omega)
    have HWY:=hid (show ∀ w',Below W2.heap.size W2 w' → ∀ j,j≤w.length → ∃ x:V6,VIs W (atT v (w.take j)) x ∧ ∀ r u,(v6Cells x)[r]?=some u→w'.cell? ⟨g,j*6+r,none⟩=some u from fun w' hb' j hj=>by
      obtain ⟨x,hx,hvx⟩:=hxs j hj
      refine ⟨x,hvx,fun r u hu => ?_⟩
      have h1:=(hrow.keepB hb' (Nat.le_refl _)).rd.at rfl hx (j:=r) (u:=u) hu
      rw[show 0+(j*valK.n+r)=j*6+r by show 0+(j*6+r)=_;omega] at h1
      exact h1)
    obtain ⟨RF,hRF⟩:∃ RF,(List.replicate (n+1) (Value.bool false)).toArray=RF:=⟨_,rfl⟩
    have hmk:∀ w':World,(Instr.makeSlice 109 (.int .i64 ((n:Int)+1)) (.int .i64 ((n:Int)+1))).run Tryz.prog w'=.ok (.slice (some ⟨w'.heap.size,0,none⟩) (n+1) (n+1)) (w'.alloc (.cells RF 4)):=fun w'=>by rw[← hRF];exact bol_make w' n (by omega)
    have hmade:=bol_made W2 n (by omega)
    have hin:n<(List.replicate (n+1) false).length:=by rw[List.length_replicate];omega
    have e0:=bol_at hmade (i:=n) (b:=false) (by simp)
    have f0:=hmade.free n
    have hini:=bol_init v w q W2 h9
    rw[hl] at hini
    have HSTN:=hid (show RelN W2 v w q (.slice (some ⟨W2.heap.size,0,none⟩) (n+1) (n+1)) (.int .i64 ((m:Int)-1)) (W2.alloc (.cells ((List.replicate (n+1) (Value.bool false)).toArray.setIfInBounds n (.bool true)) 4)) from
      ⟨w.length,W2.heap.size,Nat.le_refl _,by rw[hl],by rw[hm],hini,below1 W2 _⟩)
    rw[hRF] at e0 f0 HSTN
    have HRF:=hid hRF
    clear hRF
    clear hBW hrow hg1 hxs hb hmade hin hini hxl
    go_wp2
    go_loopw [10,11] (fun vo i wr=>RelN W2 v w q vo i wr) (fun _ i _=>(intOf i+1).toNat)
    case atStart=>exact HSTN.out
    case round =>
      obtain ⟨nn,L,hnn,rfl,rfl,hld,hbn⟩:=hrel
      rw[hl] at hld ⊢
      have hLlow:=(hld.low (g:=L) rfl)
      by_cases hz:nn=0
      ·subst hz
       have a0:=bol_at hld (ldL_at v w q 0 0 (Nat.zero_le _))
       rw[ld_zero] at a0
       obtain ⟨res,hres⟩:∃ res,ledT w v q=res:=⟨_,rfl⟩
       rw[hres] at a0
       have HRES:=hid hres.symm
       clear hres
       have q4:¬ (((0:Nat):Int)-1≥0):=by omega
       have HBN:=hid (HBW.out.trans (hbn.mono HBW.out.size))
       clear hld hbn hLlow
       go_wp2
       go_ret
       exact ⟨ret_b HRES.out,HBN.out⟩
      obtain ⟨n0,rfl⟩:∃ n0,nn=n0+1:=⟨nn-1,by omega⟩
      have hn0:n0<w.length:=by omega
      rw[show (((n0+1:Nat):Int)-1)=(n0:Int) by omega]
      have q4:(n0:Int)≥0:=by omega
      have hn9:(n0:Int)≤100000:=by omega
      have hn0I:(n0:Int)<m:=by omega
      obtain ⟨W3,hw3⟩:∃ W3,W3=wr:=⟨wr,rfl⟩
      subst hw3
      have hmk3:=hmk W3
      have HST3:=hid (show RelK W3 v w q n0 (.int .i64 0) (W3.alloc (.cells RF 4)) from
        ⟨0,Nat.zero_le _,rfl,by rw[← nx_zero,hl,← HRF.out];exact bol_made W3 n (by omega),below1 W3 _⟩)
      have HMK:=hid hmk
      have HLD:=hid (fun w' (h:Below W3.heap.size W3 w')=>hld.keepB h (Nat.le_refl _))
      have HB3:=hid hbn
      have HBW3:=hid (HBW.out.trans (hbn.mono HBW.out.size))
      clear hmk hld hbn
      go_wp2
      go_loopw [60] (fun i wr=>RelK W3 v w q n0 i wr) (fun i _=>q.length-(intOf i).toNat)
      case atStart=>exact HST3.out
      case round =>
        obtain ⟨k,hk,rfl,hnx,hbk⟩:=hrel
        have hk9:(k:Int)≤1000:=by omega
        have hbkW:=HBW3.out.trans (hbk.mono HBW3.out.size)
        by_cases hkl:k<q.length
        rotate_left
        ·have q5:¬ (k:Int)<n:=by omega
         obtain rfl:k=q.length:=by omega
         have HN:=hid (show RelN W2 v w q (.slice (some ⟨W3.heap.size,0,none⟩) (n+1) (n+1)) (.int .i64 ((n0:Int)-1)) wr from
           ⟨n0,W3.heap.size,by omega,by rw[hl],rfl,by rw[← nx_last v w q n0 hn0,← hl];exact hnx.mono HB3.out.size,HB3.out.trans (hbk.mono HB3.out.size)⟩)
         clear hnx hbk hbkW
         go_wp2
         go_roundw
         case rel=>exact HN.out
         case measure=>simp[intOf]<;>omega
        have q5:(k:Int)<n:=by omega
        rw[hl] at hnx
        obtain ⟨a,rfl,ha,hcc⟩:=HX.out.2 (by omega)
        obtain ⟨B',m',cc,s0',s1',sr⟩:=hcc k q[k] (List.getElem?_eq_getElem hkl)
        have ha2:(a.add (k*2)).block<W.heap.size:=by rw[add_block14];exact ha
        have s0:=(hbkW.cell ha2).trans s0'
        have s1:=(hbkW.cell (p:=⟨(a.add (k*2)).block,(a.add (k*2)).off+1,none⟩) ha2).trans s1'
        clear s0' s1'
        obtain ⟨g1,g2⟩:=HR.out _ (List.getElem_mem hkl)
        have HLS:=hid (ld_step v w q n0 k hn0 hkl)
        have hm':q[k].sels.length=m':=sr.1
        clear hcc
        generalize q[k]=sg at *
        have hbs:∀ o,Below W3.heap.size W3 (wr.alloc o):=fun o=>hbk.trans ((below1 wr o).mono hbk.size)
        have hbs1:=hbs (.cells #[.bool sg.deep,.slice B' m' cc] 40)
        have hnx1:=hnx.keepB (below1 wr (.cells #[.bool sg.deep,.slice B' m' cc] 40)) (Nat.le_refl _)
        have x0:=bol_at hnx1 (nx_at v w q n0 k false (by omega))
        have x1:=hnx1.free k
        have x2:=bol_at (HLD.out _ hbs1) (ldL_at v w q (n0+1) k (by omega))
        have hkn:k<(nxB v w q n0 k false).length:=by rw[nx_len];omega
        have hput:∀ b0,GRow bolK ((wr.alloc (.cells #[.bool sg.deep,.slice B' m' cc] 40)).setCell ⟨W3.heap.size,k,none⟩ (.bool b0)) W3.heap.size (.slice (some ⟨W3.heap.size,0,none⟩) (n+1) (n+1)) (nxB v w q n0 k b0):=fun b0=>by
          have:=hnx1.put rfl hkn (a:=b0) (u:=.bool b0) rfl
          rw[nx_set] at this
          exact this
        have hO:=Own.fresh wr 40 #[.bool sg.deep,.slice B' m' cc]
        have hne:∀ u,((wr.alloc (.cells #[.bool sg.deep,.slice B' m' cc] 40)).setCell ⟨W3.heap.size,k,none⟩ u).cell? ⟨wr.heap.size,1,none⟩=some (.slice B' m' cc):=fun u=>by
          have h1:=hnx.low (g:=W3.heap.size) rfl
          rw[World.cell?_setCell_other _ _ _ _ (by simp<;>omega)]
          exact hO.at 1
        obtain ⟨dp,ys⟩:=sg
        replace hm':ys.length=m':=hm'
        have hys9:ys.length≤1000:=g1
        have hm9':(m':Int)≤1000:=by omega
        have HSR:=hid (show SRd W B' m' ys from sr)
        have HG2:=hid (show ∀ y∈ys,RightI y from g2)
        obtain ⟨f,hf⟩:∃ f:Sel→Bool,f=fun x=>hitT (atT v (w.take n0)) w[n0] x:=⟨_,rfl⟩
        have HF:=hid hf
        replace HLS:Hid (ldB v w q n0 k=((dp&&ldB v w q (n0+1) k)||(ys.any f&&ldB v w q (n0+1) (k+1)))):=hid (by rw[hf];exact HLS.out)
        have HLC:=hid (fun w' (h:Below W3.heap.size W3 w')=>bol_at (HLD.out w' h) (ldL_at v w q (n0+1) (k+1) (by omega)))
        generalize ldB v w q (n0+1) k=bk at *
        generalize ldB v w q (n0+1) (k+1)=bk1 at *
        clear g1 g2 sr hf
        cases dp
        ·replace HLS:Hid (ldB v w q n0 k=(false||(ys.any f&&bk1))):=hid (by rw[HLS.out];rfl)
         have HPUT:=hid (hput (false))
         have HNE:=hne (.bool (false))
         have hb4:Below W3.heap.size W3 ((wr.alloc (.cells #[.bool false,.slice B' m' cc] 40)).setCell ⟨W3.heap.size,k,none⟩ (.bool (false))):=hbs1.setCell (p:=⟨W3.heap.size,k,none⟩) (Nat.le_refl _) _
         have HST4:=hid (show RelX W3 v w q n0 k ys f (false) bk1 (.int .i64 0) ((wr.alloc (.cells #[.bool false,.slice B' m' cc] 40)).setCell ⟨W3.heap.size,k,none⟩ (.bool (false))) from
           ⟨0,Nat.zero_le _,rfl,by rw[hl,List.take_zero];simpa using HPUT.out,hb4⟩)
         clear hput hne hnx hnx1 hbs hbs1 hb4 hbk hbkW hO
         go_wp2
         go_loopw [79] (fun j wr=>RelX W3 v w q n0 k ys f (false) bk1 j wr) (fun j _=>ys.length-(intOf j).toNat)
         case atStart=>exact HST4.out
         case round =>
           obtain ⟨i,hi,rfl,hnw,hb5⟩:=hrel
           have hi9:(i:Int)≤1000:=by omega
           by_cases hil:i<ys.length
           rotate_left
           ·have q6:¬ (i:Int)<m':=by omega
            have HN:=hid (show RelK W3 v w q n0 (.int .i64 ((k+1:Nat):Int)) wr from ⟨k+1,hkl,rfl,by
              rw[← nx_next,HLS.out]
              rw[List.take_of_length_le (by omega)] at hnw
              exact hnw,hb5⟩)
            clear hnw hb5
            go_wp2
            go_roundw
            case rel=>exact HN.out
            case measure=>simp[intOf]<;>omega
           have q6:(i:Int)<m':=by omega
           have hb5W:=HBW3.out.trans (hb5.mono HBW3.out.size)
           obtain ⟨b2,rfl,hb2,d2⟩:=(HSR.out.stay hb5W).2 (by omega)
           obtain ⟨e0,e1,e2,e3,e4,e5,e6,e7⟩:=d2 i ys[i] (List.getElem?_eq_getElem hil)
           have hRy:=HG2.out _ (List.getElem_mem hil)
           have HAN:=hid (show (ys.take (i+1)).any f=((ys.take i).any f||f ys[i]) by rw[List.take_succ_eq_append_getElem hil,List.any_append];simp)
           have HFY:=hid (show f ys[i]=hitT (atT v (w.take n0)) w[n0] ys[i] by rw[HF.out])
           clear d2
           generalize ys[i]=y at *
           generalize (ys.take i).any f=ai at *
           obtain ⟨yk,yn,yi,ys0,ye,yhs,yhe,ysd⟩:=y
           have hbA:Below W3.heap.size W3 (wr.alloc (.cells #[.int .i64 yk,.string yn,.int .i64 yi,.int .i64 ys0,.int .i64 ye,.bool yhs,.bool yhe,.int .i64 ysd] 42)):=hb5.trans ((below1 wr _).mono hb5.size)
           have y1:=HLC.out _ hbA
           have HNW:=hid hnw
           have HB5:=hid hb5
           cases bk1
           ·have HN:=hid (fun w' (hb:Below wr.heap.size wr w')=>show RelX W3 v w q n0 k ys f (false) false (.int .i64 ((i+1:Nat):Int)) w' from ⟨i+1,hil,rfl,by
              have:=HNW.out.keepB hb (Nat.le_refl _)
              simpa using this,HB5.out.trans (hb.mono HB5.out.size)⟩)
            clear hnw hb5 hb5W
            go_wp2_with fail
            go_region
            all_goals
              go_wp2
              go_roundw
              case rel=>exact HN.out _ ((below1 wr _).drew)
              case measure=>simp[intOf]<;>omega
           have hbA2:Below W2.heap.size W2 (wr.alloc (.cells #[.int .i64 yk,.string yn,.int .i64 yi,.int .i64 ys0,.int .i64 ye,.bool yhs,.bool yhe,.int .i64 ysd] 42)):=HB3.out.trans (hbA.mono HB3.out.size)
           have hbAW:=HBW3.out.trans (hbA.mono HBW3.out.size)
           obtain ⟨xw,hvw,hcw⟩:=HWY.out _ hbA2 n0 (by omega)
           obtain ⟨pb,po,rfl,hpb,_⟩:=HPL.out.2 (by omega)
           have hcp:=(HPL.out.below hbAW).at rfl (List.getElem?_eq_getElem hn0) (j:=0) (u:=.int .i64 (w[n0]:Nat)) rfl
           rw[show n0*plcK.n+0=n0 by show n0*1+0=n0;omega] at hcp
           have hil0:=way_at HWAY.out hn0
           have hna:=HNA.out n0
           have hcI:=cn_items (atT v (w.take n0))
           have hcL:=cn_len (atT v (w.take n0)).items
           have hi99:w[n0]≤100000:=by have:=HC.out;omega
           have KM:=hid (fun w' (hb:Below W.heap.size W w')=>show Calls Tryz.prog 31 #[.agg #[.int .i64 xw.kd,.int .i64 xw.fr,.int .i64 xw.to,.string ⟨xw.tx.toArray⟩,.slice xw.A xw.n xw.c,.slice xw.B xw.m xw.d],.int .i64 (w[n0]:Nat),.agg #[.int .i64 yk,.string yn,.int .i64 yi,.int .i64 ys0,.int .i64 ye,.bool yhs,.bool yhe,.int .i64 ysd]] w' (fun e w''=>e=.returned (.bool (hitT (atT v (w.take n0)) w[n0] ⟨yk,yn,yi,ys0,ye,yhs,yhe,ysd⟩))∧Below w'.heap.size w' w'') from rmeets_any (atT v (w.take n0)) xw w[n0] ⟨yk,yn,yi,ys0,ye,yhs,yhe,ysd⟩ w' (hvw.stay hb) (fun h=>by rw[(nam_items hna.1).1 h];exact hil0) (by omega) hRy (by have:=HC.out;omega))
           have hO8:=Own.fresh wr 42 #[.int .i64 yk,.string yn,.int .i64 yi,.int .i64 ys0,.int .i64 ye,.bool yhs,.bool yhe,.int .i64 ysd]
           rw[← HFY.out] at KM
           have hn0J:(n0:Int)<(m:Int)+1:=by omega
           have hkJ:(k:Int)+1<(n:Int)+1:=by omega
           generalize w[n0]=i9 at *
           obtain ⟨wA,hwA⟩:∃ wA,wA=wr.alloc (.cells #[.int .i64 yk,.string yn,.int .i64 yi,.int .i64 ys0,.int .i64 ye,.bool yhs,.bool yhe,.int .i64 ysd] 42):=⟨_,rfl⟩
           have hAw:Below wr.heap.size wr wA:=by rw[hwA];exact below1 wr _
           rw[← hwA] at hbA y1 hbA2 hbAW hcw hcp hO8
           have HSS:=hid (fun w' (hb:Below wA.heap.size wA w')=>show w'.cell? ⟨L,k+1,none⟩=some (.bool true)∧w'.cell? ⟨g,n0*6,none⟩=some (.int .i64 xw.kd)∧w'.cell? ⟨g,n0*6+1,none⟩=some (.int .i64 xw.fr)∧w'.cell? ⟨g,n0*6+2,none⟩=some (.int .i64 xw.to)∧w'.cell? ⟨g,n0*6+3,none⟩=some (.string ⟨xw.tx.toArray⟩)∧w'.cell? ⟨g,n0*6+4,none⟩=some (.slice xw.A xw.n xw.c)∧w'.cell? ⟨g,n0*6+5,none⟩=some (.slice xw.B xw.m xw.d)∧w'.cell? ⟨pb,po+n0,none⟩=some (.int .i64 (i9:Nat))∧w'.cell? ⟨wr.heap.size,0,none⟩=some (.int .i64 yk)∧w'.cell? ⟨wr.heap.size,1,none⟩=some (.string yn)∧w'.cell? ⟨wr.heap.size,2,none⟩=some (.int .i64 yi)∧w'.cell? ⟨wr.heap.size,3,none⟩=some (.int .i64 ys0)∧w'.cell? ⟨wr.heap.size,4,none⟩=some (.int .i64 ye)∧w'.cell? ⟨wr.heap.size,5,none⟩=some (.bool yhs)∧w'.cell? ⟨wr.heap.size,6,none⟩=some (.bool yhe)∧w'.cell? ⟨wr.heap.size,7,none⟩=some (.int .i64 ysd) from by
             have c:∀ p:Addr,p.block<wA.heap.size→w'.cell? p=wA.cell? p:=fun p hp=>hb.cell hp
             have hgL:L<wA.heap.size:=Nat.lt_of_lt_of_le hLlow.2 hbA.size
             have hzA:wA.heap.size=wr.heap.size+1:=by rw[hwA];simp
             have hgg:=cell_inside (hcw 0 _ rfl)
             have hpp:=cell_inside hcp
             refine ⟨(c _ hgL).trans y1,(c _ hgg).trans (hcw 0 _ rfl),(c ⟨g,n0*6+1,none⟩ hgg).trans (hcw 1 _ rfl),(c ⟨g,n0*6+2,none⟩ hgg).trans (hcw 2 _ rfl),(c ⟨g,n0*6+3,none⟩ hgg).trans (hcw 3 _ rfl),(c ⟨g,n0*6+4,none⟩ hgg).trans (hcw 4 _ rfl),(c ⟨g,n0*6+5,none⟩ hgg).trans (hcw 5 _ rfl),(c _ hpp).trans hcp,?_,?_,?_,?_,?_,?_,?_,?_⟩
             all_goals (rw[c _ (by show wr.heap.size<_;omega),hO8.at];rfl))
           have HBA:=hid hbAW
           have HAW:=hid hAw
           have HWA:=hid hwA.symm
           have hSA:=HSS.out wA (Below.refl _ _)
           clear hnw hb5 hb5W y1 hbA hbA2 hbAW hcw hcp hO8 hvw hil0 hna hcI hcL hRy hAw HFY
           go_upto_region 20 with fail
           rw[HWA.out]
           clear hwA
           have u1:IntKind.i64.wrap ((k:Int)+1)=(k:Int)+1:=by rw[IntKind.wrap_i64];omega
           have u2:(0:Int)≤(k:Int)+1:=by omega
           have u3:((k:Int)+1).toNat=k+1:=by omega
           have u4:(0:Int)≤(n0:Int):=by omega
           generalize f _=fy at *
           cases fy
           all_goals
             go_region_held3 (fun w'=>w'.cell? ⟨L,k+1,none⟩=some (.bool true)∧w'.cell? ⟨g,n0*6,none⟩=some (.int .i64 xw.kd)∧w'.cell? ⟨g,n0*6+1,none⟩=some (.int .i64 xw.fr)∧w'.cell? ⟨g,n0*6+2,none⟩=some (.int .i64 xw.to)∧w'.cell? ⟨g,n0*6+3,none⟩=some (.string ⟨xw.tx.toArray⟩)∧w'.cell? ⟨g,n0*6+4,none⟩=some (.slice xw.A xw.n xw.c)∧w'.cell? ⟨g,n0*6+5,none⟩=some (.slice xw.B xw.m xw.d)∧w'.cell? ⟨pb,po+n0,none⟩=some (.int .i64 (i9:Nat))∧w'.cell? ⟨wr.heap.size,0,none⟩=some (.int .i64 yk)∧w'.cell? ⟨wr.heap.size,1,none⟩=some (.string yn)∧w'.cell? ⟨wr.heap.size,2,none⟩=some (.int .i64 yi)∧w'.cell? ⟨wr.heap.size,3,none⟩=some (.int .i64 ys0)∧w'.cell? ⟨wr.heap.size,4,none⟩=some (.int .i64 ye)∧w'.cell? ⟨wr.heap.size,5,none⟩=some (.bool yhs)∧w'.cell? ⟨wr.heap.size,6,none⟩=some (.bool yhe)∧w'.cell? ⟨wr.heap.size,7,none⟩=some (.int .i64 ysd))
               (first|exact HSS.out _ (Below.refl _ _)|exact HSS.out _ (Below.refl _ _).drew|exact HSS.out _ h6)
               (first
                 | (go_at_call 31;refine (KM.out _ (by first|exact HBA.out.drew|exact HBA.out)).mono ?_;rintro e w6 ⟨rfl,hb6⟩;have h6:Below wA.heap.size wA w6:=(by first|exact (Below.refl wA.heap.size wA).drew.trans hb6|exact hb6)))
           ·have hw6:Below wr.heap.size wr w6:=HAW.out.trans (h6.mono HAW.out.size)
            have HN:=hid (show RelX W3 v w q n0 k ys f (false) true (.int .i64 ((i+1:Nat):Int)) w6 from ⟨i+1,hil,rfl,by
              have:=HNW.out.keepB hw6 (Nat.le_refl _)
              rw[HAN.out,Bool.or_false]
              exact this,HB5.out.trans (hw6.mono HB5.out.size)⟩)
            clear h6 hb6 hw6 hSA
            go_wp2
            go_roundw
            case rel=>exact HN.out
            case measure=>simp[intOf]<;>omega
           ·have hw6:Below wr.heap.size wr w6:=HAW.out.trans (h6.mono HAW.out.size)
            have hn6:=HNW.out.keepB hw6 (Nat.le_refl _)
            rw[hl] at hn6
            have x0:=bol_at hn6 (nx_at v w q n0 k _ (by omega))
            have x1:=hn6.free k
            have hput6:=hn6.put rfl (by rw[nx_len];omega) (i:=k) (a:=true) (u:=.bool true) rfl
            rw[nx_set] at hput6
            have HN:=hid (show RelX W3 v w q n0 k ys f (false) true (.int .i64 ((i+1:Nat):Int)) (w6.setCell ⟨W3.heap.size,k,none⟩ (.bool true)) from ⟨i+1,hil,rfl,by
              rw[HAN.out,hl]
              simpa using hput6,(HB5.out.trans (hw6.mono HB5.out.size)).setCell (p:=⟨W3.heap.size,k,none⟩) (Nat.le_refl _) _⟩)
            clear h6 hb6 hw6 hSA hn6 hput6
            go_wp2
            go_roundw
            case rel=>exact HN.out
            case measure=>simp[intOf]<;>omega
        ·replace HLS:Hid (ldB v w q n0 k=(bk||(ys.any f&&bk1))):=hid (by rw[HLS.out];simp)
         have HPUT:=hid (hput (bk))
         have HNE:=hne (.bool (bk))
         have hb4:Below W3.heap.size W3 ((wr.alloc (.cells #[.bool true,.slice B' m' cc] 40)).setCell ⟨W3.heap.size,k,none⟩ (.bool (bk))):=hbs1.setCell (p:=⟨W3.heap.size,k,none⟩) (Nat.le_refl _) _
         have HST4:=hid (show RelX W3 v w q n0 k ys f (bk) bk1 (.int .i64 0) ((wr.alloc (.cells #[.bool true,.slice B' m' cc] 40)).setCell ⟨W3.heap.size,k,none⟩ (.bool (bk))) from
           ⟨0,Nat.zero_le _,rfl,by rw[hl,List.take_zero];simpa using HPUT.out,hb4⟩)
         clear hput hne hnx hnx1 hbs hbs1 hb4 hbk hbkW hO
         go_wp2
         go_loopw [79] (fun j wr=>RelX W3 v w q n0 k ys f (bk) bk1 j wr) (fun j _=>ys.length-(intOf j).toNat)
         case atStart=>exact HST4.out
         case round =>
           obtain ⟨i,hi,rfl,hnw,hb5⟩:=hrel
           have hi9:(i:Int)≤1000:=by omega
           by_cases hil:i<ys.length
           rotate_left
           ·have q6:¬ (i:Int)<m':=by omega
            have HN:=hid (show RelK W3 v w q n0 (.int .i64 ((k+1:Nat):Int)) wr from ⟨k+1,hkl,rfl,by
              rw[← nx_next,HLS.out]
              rw[List.take_of_length_le (by omega)] at hnw
              exact hnw,hb5⟩)
            clear hnw hb5
            go_wp2
            go_roundw
            case rel=>exact HN.out
            case measure=>simp[intOf]<;>omega
           have q6:(i:Int)<m':=by omega
           have hb5W:=HBW3.out.trans (hb5.mono HBW3.out.size)
           obtain ⟨b2,rfl,hb2,d2⟩:=(HSR.out.stay hb5W).2 (by omega)
           obtain ⟨e0,e1,e2,e3,e4,e5,e6,e7⟩:=d2 i ys[i] (List.getElem?_eq_getElem hil)
           have hRy:=HG2.out _ (List.getElem_mem hil)
           have HAN:=hid (show (ys.take (i+1)).any f=((ys.take i).any f||f ys[i]) by rw[List.take_succ_eq_append_getElem hil,List.any_append];simp)
           have HFY:=hid (show f ys[i]=hitT (atT v (w.take n0)) w[n0] ys[i] by rw[HF.out])
           clear d2
           generalize ys[i]=y at *
           generalize (ys.take i).any f=ai at *
           obtain ⟨yk,yn,yi,ys0,ye,yhs,yhe,ysd⟩:=y
           have hbA:Below W3.heap.size W3 (wr.alloc (.cells #[.int .i64 yk,.string yn,.int .i64 yi,.int .i64 ys0,.int .i64 ye,.bool yhs,.bool yhe,.int .i64 ysd] 42)):=hb5.trans ((below1 wr _).mono hb5.size)
           have y1:=HLC.out _ hbA
           have HNW:=hid hnw
           have HB5:=hid hb5
           cases bk1
           ·have HN:=hid (fun w' (hb:Below wr.heap.size wr w')=>show RelX W3 v w q n0 k ys f (bk) false (.int .i64 ((i+1:Nat):Int)) w' from ⟨i+1,hil,rfl,by
              have:=HNW.out.keepB hb (Nat.le_refl _)
              simpa using this,HB5.out.trans (hb.mono HB5.out.size)⟩)
            clear hnw hb5 hb5W
            go_wp2_with fail
            go_region
            all_goals
              go_wp2
              go_roundw
              case rel=>exact HN.out _ ((below1 wr _).drew)
              case measure=>simp[intOf]<;>omega
           have hbA2:Below W2.heap.size W2 (wr.alloc (.cells #[.int .i64 yk,.string yn,.int .i64 yi,.int .i64 ys0,.int .i64 ye,.bool yhs,.bool yhe,.int .i64 ysd] 42)):=HB3.out.trans (hbA.mono HB3.out.size)
           have hbAW:=HBW3.out.trans (hbA.mono HBW3.out.size)
           obtain ⟨xw,hvw,hcw⟩:=HWY.out _ hbA2 n0 (by omega)
           obtain ⟨pb,po,rfl,hpb,_⟩:=HPL.out.2 (by omega)
           have hcp:=(HPL.out.below hbAW).at rfl (List.getElem?_eq_getElem hn0) (j:=0) (u:=.int .i64 (w[n0]:Nat)) rfl
           rw[show n0*plcK.n+0=n0 by show n0*1+0=n0;omega] at hcp
           have hil0:=way_at HWAY.out hn0
           have hna:=HNA.out n0
           have hcI:=cn_items (atT v (w.take n0))
           have hcL:=cn_len (atT v (w.take n0)).items
           have hi99:w[n0]≤100000:=by have:=HC.out;omega
           have KM:=hid (fun w' (hb:Below W.heap.size W w')=>show Calls Tryz.prog 31 #[.agg #[.int .i64 xw.kd,.int .i64 xw.fr,.int .i64 xw.to,.string ⟨xw.tx.toArray⟩,.slice xw.A xw.n xw.c,.slice xw.B xw.m xw.d],.int .i64 (w[n0]:Nat),.agg #[.int .i64 yk,.string yn,.int .i64 yi,.int .i64 ys0,.int .i64 ye,.bool yhs,.bool yhe,.int .i64 ysd]] w' (fun e w''=>e=.returned (.bool (hitT (atT v (w.take n0)) w[n0] ⟨yk,yn,yi,ys0,ye,yhs,yhe,ysd⟩))∧Below w'.heap.size w' w'') from rmeets_any (atT v (w.take n0)) xw w[n0] ⟨yk,yn,yi,ys0,ye,yhs,yhe,ysd⟩ w' (hvw.stay hb) (fun h=>by rw[(nam_items hna.1).1 h];exact hil0) (by omega) hRy (by have:=HC.out;omega))
           have hO8:=Own.fresh wr 42 #[.int .i64 yk,.string yn,.int .i64 yi,.int .i64 ys0,.int .i64 ye,.bool yhs,.bool yhe,.int .i64 ysd]
           rw[← HFY.out] at KM
           have hn0J:(n0:Int)<(m:Int)+1:=by omega
           have hkJ:(k:Int)+1<(n:Int)+1:=by omega
           generalize w[n0]=i9 at *
           obtain ⟨wA,hwA⟩:∃ wA,wA=wr.alloc (.cells #[.int .i64 yk,.string yn,.int .i64 yi,.int .i64 ys0,.int .i64 ye,.bool yhs,.bool yhe,.int .i64 ysd] 42):=⟨_,rfl⟩
           have hAw:Below wr.heap.size wr wA:=by rw[hwA];exact below1 wr _
           rw[← hwA] at hbA y1 hbA2 hbAW hcw hcp hO8
           have HSS:=hid (fun w' (hb:Below wA.heap.size wA w')=>show w'.cell? ⟨L,k+1,none⟩=some (.bool true)∧w'.cell? ⟨g,n0*6,none⟩=some (.int .i64 xw.kd)∧w'.cell? ⟨g,n0*6+1,none⟩=some (.int .i64 xw.fr)∧w'.cell? ⟨g,n0*6+2,none⟩=some (.int .i64 xw.to)∧w'.cell? ⟨g,n0*6+3,none⟩=some (.string ⟨xw.tx.toArray⟩)∧w'.cell? ⟨g,n0*6+4,none⟩=some (.slice xw.A xw.n xw.c)∧w'.cell? ⟨g,n0*6+5,none⟩=some (.slice xw.B xw.m xw.d)∧w'.cell? ⟨pb,po+n0,none⟩=some (.int .i64 (i9:Nat))∧w'.cell? ⟨wr.heap.size,0,none⟩=some (.int .i64 yk)∧w'.cell? ⟨wr.heap.size,1,none⟩=some (.string yn)∧w'.cell? ⟨wr.heap.size,2,none⟩=some (.int .i64 yi)∧w'.cell? ⟨wr.heap.size,3,none⟩=some (.int .i64 ys0)∧w'.cell? ⟨wr.heap.size,4,none⟩=some (.int .i64 ye)∧w'.cell? ⟨wr.heap.size,5,none⟩=some (.bool yhs)∧w'.cell? ⟨wr.heap.size,6,none⟩=some (.bool yhe)∧w'.cell? ⟨wr.heap.size,7,none⟩=some (.int .i64 ysd) from by
             have c:∀ p:Addr,p.block<wA.heap.size→w'.cell? p=wA.cell? p:=fun p hp=>hb.cell hp
             have hgL:L<wA.heap.size:=Nat.lt_of_lt_of_le hLlow.2 hbA.size
             have hzA:wA.heap.size=wr.heap.size+1:=by rw[hwA];simp
             have hgg:=cell_inside (hcw 0 _ rfl)
             have hpp:=cell_inside hcp
             refine ⟨(c _ hgL).trans y1,(c _ hgg).trans (hcw 0 _ rfl),(c ⟨g,n0*6+1,none⟩ hgg).trans (hcw 1 _ rfl),(c ⟨g,n0*6+2,none⟩ hgg).trans (hcw 2 _ rfl),(c ⟨g,n0*6+3,none⟩ hgg).trans (hcw 3 _ rfl),(c ⟨g,n0*6+4,none⟩ hgg).trans (hcw 4 _ rfl),(c ⟨g,n0*6+5,none⟩ hgg).trans (hcw 5 _ rfl),(c _ hpp).trans hcp,?_,?_,?_,?_,?_,?_,?_,?_⟩
             all_goals (rw[c _ (by show wr.heap.size<_;omega),hO8.at];rfl))
           have HBA:=hid hbAW
           have HAW:=hid hAw
           have HWA:=hid hwA.symm
           have hSA:=HSS.out wA (Below.refl _ _)
           clear hnw hb5 hb5W y1 hbA hbA2 hbAW hcw hcp hO8 hvw hil0 hna hcI hcL hRy hAw HFY
           go_upto_region 20 with fail
           rw[HWA.out]
           clear hwA
           have u1:IntKind.i64.wrap ((k:Int)+1)=(k:Int)+1:=by rw[IntKind.wrap_i64];omega
           have u2:(0:Int)≤(k:Int)+1:=by omega
           have u3:((k:Int)+1).toNat=k+1:=by omega
           have u4:(0:Int)≤(n0:Int):=by omega
           generalize f _=fy at *
           cases fy
           all_goals
             go_region_held3 (fun w'=>w'.cell? ⟨L,k+1,none⟩=some (.bool true)∧w'.cell? ⟨g,n0*6,none⟩=some (.int .i64 xw.kd)∧w'.cell? ⟨g,n0*6+1,none⟩=some (.int .i64 xw.fr)∧w'.cell? ⟨g,n0*6+2,none⟩=some (.int .i64 xw.to)∧w'.cell? ⟨g,n0*6+3,none⟩=some (.string ⟨xw.tx.toArray⟩)∧w'.cell? ⟨g,n0*6+4,none⟩=some (.slice xw.A xw.n xw.c)∧w'.cell? ⟨g,n0*6+5,none⟩=some (.slice xw.B xw.m xw.d)∧w'.cell? ⟨pb,po+n0,none⟩=some (.int .i64 (i9:Nat))∧w'.cell? ⟨wr.heap.size,0,none⟩=some (.int .i64 yk)∧w'.cell? ⟨wr.heap.size,1,none⟩=some (.string yn)∧w'.cell? ⟨wr.heap.size,2,none⟩=some (.int .i64 yi)∧w'.cell? ⟨wr.heap.size,3,none⟩=some (.int .i64 ys0)∧w'.cell? ⟨wr.heap.size,4,none⟩=some (.int .i64 ye)∧w'.cell? ⟨wr.heap.size,5,none⟩=some (.bool yhs)∧w'.cell? ⟨wr.heap.size,6,none⟩=some (.bool yhe)∧w'.cell? ⟨wr.heap.size,7,none⟩=some (.int .i64 ysd))
               (first|exact HSS.out _ (Below.refl _ _)|exact HSS.out _ (Below.refl _ _).drew|exact HSS.out _ h6)
               (first
                 | (go_at_call 31;refine (KM.out _ (by first|exact HBA.out.drew|exact HBA.out)).mono ?_;rintro e w6 ⟨rfl,hb6⟩;have h6:Below wA.heap.size wA w6:=(by first|exact (Below.refl wA.heap.size wA).drew.trans hb6|exact hb6)))
           ·have hw6:Below wr.heap.size wr w6:=HAW.out.trans (h6.mono HAW.out.size)
            have HN:=hid (show RelX W3 v w q n0 k ys f (bk) true (.int .i64 ((i+1:Nat):Int)) w6 from ⟨i+1,hil,rfl,by
              have:=HNW.out.keepB hw6 (Nat.le_refl _)
              rw[HAN.out,Bool.or_false]
              exact this,HB5.out.trans (hw6.mono HB5.out.size)⟩)
            clear h6 hb6 hw6 hSA
            go_wp2
            go_roundw
            case rel=>exact HN.out
            case measure=>simp[intOf]<;>omega
           ·have hw6:Below wr.heap.size wr w6:=HAW.out.trans (h6.mono HAW.out.size)
            have hn6:=HNW.out.keepB hw6 (Nat.le_refl _)
            rw[hl] at hn6
            have x0:=bol_at hn6 (nx_at v w q n0 k _ (by omega))
            have x1:=hn6.free k
            have hput6:=hn6.put rfl (by rw[nx_len];omega) (i:=k) (a:=true) (u:=.bool true) rfl
            rw[nx_set] at hput6
            have HN:=hid (show RelX W3 v w q n0 k ys f (bk) true (.int .i64 ((i+1:Nat):Int)) (w6.setCell ⟨W3.heap.size,k,none⟩ (.bool true)) from ⟨i+1,hil,rfl,by
              rw[HAN.out,hl]
              simpa using hput6,(HB5.out.trans (hw6.mono HB5.out.size)).setCell (p:=⟨W3.heap.size,k,none⟩) (Nat.le_refl _) _⟩)
            clear h6 hb6 hw6 hSA hn6 hput6
            go_wp2
            go_roundw
            case rel=>exact HN.out
            case measure=>simp[intOf]<;>omega
   have q2:(k:Int)<m:=by omega
   have hbW:=HW1.out.trans (hb.mono HW1.out.size)
   have hpl:=HPL.out.below hbW
   obtain ⟨pb,po,rfl,hpb,_⟩:=hpl.2 (by omega)
   have hcp:=hpl.at rfl (List.getElem?_eq_getElem hlt) (j:=0) (u:=.int .i64 (w[k]:Nat)) rfl
   rw[show k*plcK.n+0=k by show k*1+0=k;omega] at hcp
   obtain ⟨y,hy,hvy⟩:=hxs k (Nat.le_refl _)
   obtain ⟨A1,c1,rfl,hc1,_,hg1⟩:=hrow.form
   rw[hxl] at hrow hg1 ⊢
   obtain ⟨g,rfl,_,_⟩:=hg1 (by omega)
   have hcy:=hrow.rd.at rfl hy (j:=4) (u:=.slice y.A y.n y.c) rfl
   rw[show 0+(k*valK.n+4)=k*6+4 by show 0+(k*6+4)=_;omega] at hcy
   have hil:=way_at HWAY.out hlt
   have hit:=items_getD _ hil
   have hcn:=(HNA.out k).2
   have hci:=cn_items (atT v (w.take k))
   have hcl:=cn_len (atT v (w.take k)).items
   have HAT:=hid (at_snoc v w hlt)
   generalize atT v (w.take k)=t at *
   have hi9:w[k]≤100000:=by have:=HC.out;omega
   generalize w[k]=i9 at *
   obtain ⟨kd,fr,td,tx,items,names⟩:=t
   have hvy':=hvy
   unfold VIs at hvy'
   obtain ⟨h1,h2,h3,h4,hcap,hcap2,h7,zs,h8,h9'⟩:=hvy'
   obtain ⟨u,hu,hvu⟩:=h9'.at i9 _ hit
   have e1:i9<zs.length:=(List.getElem?_eq_some_iff.1 hu).1
   have e2:zs.length=y.n:=h8.1
   have hin:(i9:Int)<y.n:=by omega
   have h8':=h8.below hbW
   obtain ⟨ib,io,hia,hib,_⟩:=h8'.2 (by omega)
   have hcu:∀ r u',(v6Cells u)[r]?=some u'→wr.cell? ⟨ib,io+(i9*6+r),none⟩=some u':=fun r u' h=>h8'.at hia hu (j:=r) (u:=u') h
   rw[hia] at hcy
   have z0:wr.cell? ⟨ib,io+i9*6,none⟩=some (.int .i64 u.kd):=hcu 0 _ rfl
   have z1:wr.cell? ⟨ib,io+i9*6+1,none⟩=some (.int .i64 u.fr):=by rw[Nat.add_assoc];exact hcu 1 _ rfl
   have z2:wr.cell? ⟨ib,io+i9*6+2,none⟩=some (.int .i64 u.to):=by rw[Nat.add_assoc];exact hcu 2 _ rfl
   have z3:wr.cell? ⟨ib,io+i9*6+3,none⟩=some (.string ⟨u.tx.toArray⟩):=by rw[Nat.add_assoc];exact hcu 3 _ rfl
   have z4:wr.cell? ⟨ib,io+i9*6+4,none⟩=some (.slice u.A u.n u.c):=by rw[Nat.add_assoc];exact hcu 4 _ rfl
   have z5:wr.cell? ⟨ib,io+i9*6+5,none⟩=some (.slice u.B u.m u.d):=by rw[Nat.add_assoc];exact hcu 5 _ rfl
   have HROW:=hid hrow
   have HXS:=hid hxs
   have HB:=hid hb
   have HVU:=hid hvu
   have HXL:=hid hxl
   clear h1 h2 h3 h4 hcap2 h7 h8 h8' h9' hit hil hu hvu hvy hy hcu hrow hxs hb hxl e1 e2 hcn hci hcl hpl hg1
   go_wp2_with (
     (at_builtin
      go_must (
        refine row_append (K:=valK) _ rfl (.tmp 25) (.tmp 36) rfl W1.heap.size (.slice (some ⟨g,0,none⟩) (k+1) c1) xs rfl (HROW.out.keepB (below1 wr _) (Nat.le_refl _)) _ 1 1 [u] rfl (GRow.made (K:=valK) (base:=0) (l:=[u]) wr _ rfl (by simp[maxLen]) (Nat.zero_le _)).rd (by rw[HXL.out];omega) (Nat.le_trans HB.out.size (below1 wr _).size) ?_
        intro v7 w7 row7 grown7 at7
        have h7:=below_grown (HB.out.trans ((below1 wr (.cells #[.int .i64 u.kd,.int .i64 u.fr,.int .i64 u.to,.string ⟨u.tx.toArray⟩,.slice u.A u.n u.c,.slice u.B u.m u.d] 29)).mono HB.out.size)) grown7 (Nat.le_trans HB.out.size (below1 wr _).size) (fun g hg=>(HROW.out.low hg).1)
        have HR7:=hid row7
        have H7:=hid h7
        clear row7 grown7 at7 h7)))
   go_roundw
   case rel =>
     refine ⟨k+1,_,xs++[u],rfl,hlt,by go_num,HR7.out,by rw[List.length_append,HXL.out];rfl,fun j hj => ?_,H7.out⟩
     by_cases hjk:j≤k
     ·obtain ⟨x',hx1,hx2⟩:=HXS.out j hjk
      exact ⟨x',by rw[List.getElem?_append_left (by have:=HXL.out;omega)];exact hx1,hx2⟩
     ·obtain rfl:j=k+1:=by omega
      exact ⟨u,by rw[List.getElem?_append_right (by have:=HXL.out;omega),HXL.out,Nat.sub_self];rfl,by rw[HAT.out];exact HVU.out⟩
   case measure=>simp[intOf];omega
end
section
open Go.RowKit
mutual
theorem all_way:∀ (t:Tree) (p:List Pst) (w0:List Nat) (v:Tree),wayT v w0→atT v w0=t → ∀ x∈allN t p w0,wayT v x.2∧x.2.length≤w0.length+cnT t
 | .mk kd fr td tx items names,p,w0,v,hw,ha,x,hx=>by
   rw[allN] at hx
   rcases List.mem_cons.1 hx with rfl|hx
   ·exact ⟨hw,by show w0.length≤_;omega⟩
   ·have:=allL_way (.mk kd fr td tx items names) items 0 p w0 v hw ha (fun j u hu=>by rw[Nat.zero_add];exact hu) x hx
    rw[cnT]
    exact ⟨this.1,by have:=this.2;omega⟩
theorem allL_way (t:Tree):∀ (ts:List Tree) (i:Nat) (p:List Pst) (w0:List Nat) (v:Tree),wayT v w0→atT v w0=t→(∀ (j:Nat) (u:Tree),ts[j]?=some u→t.items[i+j]?=some u) → ∀ x∈allL t ts i p w0,wayT v x.2∧x.2.length≤w0.length+1+cnL ts
 | [],i,p,w0,v,hw,ha,hts,x,hx=>by rw[allL] at hx;cases hx
 | u :: ts,i,p,w0,v,hw,ha,hts,x,hx=>by
   rw[allL,List.mem_append] at hx
   have h0:=hts 0 u rfl
   rw[Nat.add_zero] at h0
   have hi:=(List.getElem?_eq_some_iff.1 h0).1
   rw[cnL]
   rcases hx with hx|hx
   ·have e:itmT t i=u:=by have:=items_getD t hi;rw[h0] at this;exact (Option.some.inj this).symm
    have:=all_way u (p++[stpT t i]) (w0++[i]) v ((way_app w0 v [i]).2 ⟨hw,by rw[ha];exact ⟨hi,trivial⟩⟩) (by rw[at_app,ha];exact e) x hx
    exact ⟨this.1,by have h2:=this.2;rw[List.length_append,List.length_singleton] at h2;omega⟩
   ·have:=allL_way t ts (i+1) p w0 v hw ha (fun j u' hu=>by rw[show i+1+j=i+(j+1) by omega];exact hts (j+1) u' hu) x hx
    exact ⟨this.1,by have:=this.2;omega⟩
end
def NosEnd (W:World)(l:List Nd)(e:Ending)(w':World):Prop:=∃ u,e=.returned u∧NsB W w' W.heap.size W.heap.size u l∧Below W.heap.size W w'
def RelNo (W Wb:World) (b2:Nat) (v:Tree) (q:List Sgm) (v2 u2 vo i:Value) (wr:World):Prop :=
 ∃ (k:Nat) (V:Value),V=vo∧k≤cnT v∧i=.int .i64 k∧NsB W wr W.heap.size Wb.heap.size vo ((((allN v [] []).take k).filter fun x=>ledT x.2 v q).map (·.1))∧NsB W wr W.heap.size b2 v2 ((allN v [] []).map (·.1))∧WsB wr W.heap.size b2 u2 ((allN v [] []).map (·.2))∧(∀ g,vo.ownBlock=some g→v2.ownBlock≠some g)∧Below Wb.heap.size Wb wr
theorem filt_yes {l:List (Nd×List Nat)} {f:Nd×List Nat→Bool} {k:Nat} (hk:k<l.length) (h:f l[k]=true):((l.take (k+1)).filter f).map (·.1)=((l.take k).filter f).map (·.1)++[l[k].1]:=by
 rw[List.take_succ_eq_append_getElem hk,List.filter_append,List.map_append]
 simp[h]
theorem filt_no {l:List (Nd×List Nat)} {f:Nd×List Nat→Bool} {k:Nat} (hk:k<l.length) (h:f l[k]=false):((l.take (k+1)).filter f).map (·.1)=((l.take k).filter f).map (·.1):=by
 rw[List.take_succ_eq_append_getElem hk,List.filter_append,List.map_append]
 simp[h]
set_option maxHeartbeats 16000000 in
theorem rnodes_any (v:Tree) (x:V6) (q:List Sgm) (A:Option Addr) (n c:Nat) (W:World) (hv:VIs W v x) (hq:QRd W A n q) (hR:∀ g∈q,g.sels.length≤1000 ∧ ∀ y∈g.sels,RightI y) (h9:q.length≤1000) (hN:NamT v) (hc:cnT v≤90000) :
   Calls Tryz.prog 10 #[.agg #[.int .i64 x.kd,.int .i64 x.fr,.int .i64 x.to,.string ⟨x.tx.toArray⟩,.slice x.A x.n x.c,.slice x.B x.m x.d],.slice A n c] W (NosEnd W (nodesT v q)):=by
 have HALL:=hid (fun (w:World) (h0:Below W.heap.size W w)=>show Calls Tryz.prog 26 #[.agg #[.int .i64 x.kd,.int .i64 x.fr,.int .i64 x.to,.string ⟨x.tx.toArray⟩,.slice x.A x.n x.c,.slice x.B x.m x.d,.slice none 0 0],.slice none 0 0] w (AllEnd W w W.heap.size v [] []) from
   rall16_any v ⟨x,none,0,0⟩ [] [] none 0 0 W w W.heap.size h0.size h0 hv (GRow.nil _ _) (GRow.nil _ _) hN (by omega) (by simp;omega) (by simp;omega))
 have HSEL:=hid (fun (w:World) (h0:Below W.heap.size W w) (pl:List Nat) (B:Option Addr) (m d:Nat) (hp:RdG plcK w B m pl) (hway:wayT v pl) (hl:pl.length≤100000)=>rselects_any v x q A n c pl B m d w (hv.stay h0) (hq.stay h0) hp hway hN (by omega) h9 hl hR)
 have HWAY:=hid (fun y (h:y∈allN v [] [])=>all_way v [] [] v trivial rfl y h)
 have HLEN:=hid (all_len v [] [])
 have hcI:(cnT v:Int)≤90000:=by omega
 unfold AllEnd at HALL
 clear hq hR hv hN h9
 obtain ⟨xk,xf,xt,xx,xA,xn,xc,xB,xm,xd⟩:=x
 show Calls Tryz.prog 10 #[.agg #[.int .i64 xk,.int .i64 xf,.int .i64 xt,.string ⟨xx.toArray⟩,.slice xA xn xc,.slice xB xm xd],.slice A n c] W _
 obtain ⟨W1,hW1⟩:∃ W1,W1=(W.alloc (.cells #[.int .i64 xk,.int .i64 xf,.int .i64 xt,.string ⟨xx.toArray⟩,.slice xA xn xc,.slice xB xm xd] 29)).alloc (.cells #[] 60):=⟨_,rfl⟩
 have hz1:W1.heap.size=W.heap.size+2:=by rw[hW1];simp
 have hb1:Below W.heap.size W W1:=by rw[hW1];exact (below1 W _).alloc (by simp) _
 obtain ⟨Wb,hWb⟩:∃ Wb,Wb=W.alloc (.cells #[.int .i64 xk,.int .i64 xf,.int .i64 xt,.string ⟨xx.toArray⟩,.slice xA xn xc,.slice xB xm xd] 29):=⟨_,rfl⟩
 have hzb:Wb.heap.size=W.heap.size+1:=by rw[hWb];simp
 have hbb:Below Wb.heap.size Wb W1:=by rw[hW1,← hWb];exact below1 Wb _
 have hwb:Below W.heap.size W Wb:=by rw[hWb];exact below1 W _
 have hboxb:Own Wb W.heap.size 29 #[.int .i64 xk,.int .i64 xf,.int .i64 xt,.string ⟨xx.toArray⟩,.slice xA xn xc,.slice xB xm xd]:=by rw[hWb];exact Own.fresh W _ _
 have hout:NsB W W1 W.heap.size Wb.heap.size (.slice (some ⟨W.heap.size+1,0,none⟩) 0 0) []:=by
   have r:=GRow.made (K:=ndK) (base:=W.heap.size+1) (l:=[]) (W.alloc (.cells #[.int .i64 xk,.int .i64 xf,.int .i64 xt,.string ⟨xx.toArray⟩,.slice xA xn xc,.slice xB xm xd] 29)) #[] rfl (by simp[maxLen]) (by simp)
   rw[show (W.alloc (.cells #[.int .i64 xk,.int .i64 xf,.int .i64 xt,.string ⟨xx.toArray⟩,.slice xA xn xc,.slice xB xm xd] 29)).heap.size=W.heap.size+1 by simp] at r
   rw[hW1,hzb]
   exact ⟨[],r,rfl,fun i s y h=>by simp at h⟩
 have HA:=HALL.out W1 hb1
 have HA:=hid HA
 have HOUT:=hid hout
 have HBOX:=hid hboxb
 have HZB:=hid hzb
 have HBB:=hid hbb
 have HWB:=hid hwb
 have HB1:=hid hb1
 have HZ1:=hid hz1
 have HW1:=hid hW1.symm
 clear hz1 hb1 hout hboxb HALL hzb hbb hwb hWb
 have HA2:=HA.out
 rw[hW1] at HA2
 have HA:=hid HA2
 clear HA2 hW1
 go_enter Tryz.func10,Tryz.ntmps10
 go_wp2_with (
   (go_at_call 26
    go_must (
      refine HA.out.mono ?_
      rintro e w2 ⟨v2,u2,rfl,hn2,hu2,hb2⟩
      rw[HW1.out] at hn2 hu2 hb2
      obtain ⟨rs,r1,r2,r3⟩:=hn2
      obtain ⟨A2,c2,rfl,_,_,hg2⟩:=r1.form
      have e2:rs.length=cnT v:=by rw[r2,List.length_map,HLEN.out]
      obtain ⟨ss,s1,s2,s3⟩:=hu2
      obtain ⟨U2,d2,rfl,_,_,hh2⟩:=s1.form
      have f2:ss.length=cnT v:=by rw[s2,List.length_map,HLEN.out]
      rw[e2] at r1 hg2 ⊢
      rw[f2] at s1 hh2 ⊢
      have HN2:=hid (show NsB W w2 W.heap.size W1.heap.size (.slice A2 (cnT v) c2) ((allN v [] []).map (·.1)) from ⟨rs,r1,r2,r3⟩)
      have HU2:=hid (show WsB w2 W.heap.size W1.heap.size (.slice U2 (cnT v) d2) ((allN v [] []).map (·.2)) from ⟨ss,s1,s2,s3⟩)
      have HLOW:=hid (fun g hg=>(r1.low (g:=g) hg).1)
      have HG2:=hid hg2
      have HH2:=hid hh2
      have HB2:=hid hb2
      clear r1 r2 r3 s1 s2 s3 e2 f2 hg2 hh2 hb2)))
 go_loopw [5,19] (fun vo i wr=>RelNo W Wb W1.heap.size v q (.slice A2 (cnT v) c2) (.slice U2 (cnT v) d2) vo i wr) (fun _ i _=>cnT v-(intOf i).toNat)
 case atStart =>
   exact ⟨0,_,rfl,Nat.zero_le _,rfl,HOUT.out.keep HB2.out (Nat.le_refl _),HN2.out,HU2.out,fun g hg he=>by
     have h1:=HLOW.out g he
     have h2:W.heap.size+1=g:=by simpa [Value.ownBlock] using hg
     have:=HZ1.out
     omega,HBB.out.trans (HB2.out.mono HBB.out.size)⟩
 case round =>
   obtain ⟨k,V,rfl,hk,rfl,hns,hn2,hu2,hne,hb⟩:=hrel
   have hk9:(k:Int)≤90000:=by omega
   by_cases hlt:k<cnT v
   rotate_left
   ·have q2:¬ (k:Int)<(cnT v:Int):=by omega
    have HN:=hid (show NosEnd W (nodesT v q) (.returned V) wr from by
      rw[List.take_of_length_le (by rw[HLEN.out];omega)] at hns
      exact ⟨V,rfl,hns.low (by have:=HZB.out;omega),HWB.out.trans (hb.mono HWB.out.size)⟩)
    clear hns hn2 hu2 hb
    go_wp2
    go_ret
    exact HN.out
   have q2:(k:Int)<(cnT v:Int):=by omega
   have hbW:=HWB.out.trans (hb.mono HWB.out.size)
   obtain ⟨rs,r1,r2,r3⟩:=hn2
   obtain ⟨ss,s1,s2,s3⟩:=hu2
   have hkl:k<(allN v [] []).length:=by rw[HLEN.out];exact hlt
   have hkr:k<rs.length:=by rw[r2,List.length_map];exact hkl
   have hks:k<ss.length:=by rw[s2,List.length_map];exact hkl
   obtain ⟨g,rfl,_,_⟩:=HG2.out (by omega)
   obtain ⟨ug,rfl,_,_⟩:=HH2.out (by omega)
   have hcell:∀ r u,(ndCells rs[k])[r]?=some u→wr.cell? ⟨g,k*7+r,none⟩=some u:=fun r u hu=>by
     have h1:=r1.rd.at rfl (List.getElem?_eq_getElem hkr) (j:=r) (u:=u) hu
     rw[show 0+(k*ndK.n+r)=k*7+r by show 0+(k*7+r)=_;omega] at h1
     exact h1
   have hpc:wr.cell? ⟨ug,k,none⟩=some (.slice ss[k].A ss[k].n ss[k].c):=by
     have h1:=s1.rd.at rfl (List.getElem?_eq_getElem hks) (j:=0) (u:=.slice ss[k].A ss[k].n ss[k].c) rfl
     rw[show 0+(k*sliK.n+0)=k by show 0+(k*1+0)=_;omega] at h1
     exact h1
   have nd:=r3 k _ (allN v [] [])[k].1 (List.getElem?_eq_getElem hkr) (by rw[List.getElem?_map,List.getElem?_eq_getElem hkl];rfl)
   have pl:=s3 k _ (allN v [] [])[k].2 (List.getElem?_eq_getElem hks) (by rw[List.getElem?_map,List.getElem?_eq_getElem hkl];rfl)
   have hwy:=HWAY.out _ (List.getElem_mem hkl)
   have HFY:=hid (show ledT (allN v [] [])[k].2 v q=true→(((allN v [] []).take (k+1)).filter fun x=>ledT x.2 v q).map (·.1)=(((allN v [] []).take k).filter fun x=>ledT x.2 v q).map (·.1)++[(allN v [] [])[k].1] from fun h=>filt_yes (f:=fun x=>ledT x.2 v q) hkl h)
   have HFN:=hid (show ledT (allN v [] [])[k].2 v q=false→(((allN v [] []).take (k+1)).filter fun x=>ledT x.2 v q).map (·.1)=(((allN v [] []).take k).filter fun x=>ledT x.2 v q).map (·.1) from fun h=>filt_no (f:=fun x=>ledT x.2 v q) hkl h)
   have hfl:((((allN v [] []).take k).filter fun x=>ledT x.2 v q).map (·.1)).length≤90000:=by
     rw[List.length_map]
     have h1:=List.length_filter_le (fun x=>ledT x.2 v q) ((allN v [] []).take k)
     rw[List.length_take] at h1
     omega
   have HR:=hid (And.intro r1 (And.intro r2 r3))
   have HS:=hid (And.intro s1 (And.intro s2 s3))
   clear r1 r2 r3 s1 s2 s3
   generalize rs[k]=s at *
   generalize ss[k]=sl at *
   generalize (allN v [] [])[k]=y at *
   obtain ⟨d,pw⟩:=y
   obtain ⟨⟨k1,f1,t1,x1,A3,n3,c3,B3,m3,d3⟩,S3,sn3,sc3⟩:=s
   obtain ⟨B4,m4,d4⟩:=sl
   have z0:wr.cell? ⟨g,k*7,none⟩=some (.int .i64 k1):=hcell 0 _ rfl
   have z1:wr.cell? ⟨g,k*7+1,none⟩=some (.int .i64 f1):=hcell 1 _ rfl
   have z2:wr.cell? ⟨g,k*7+2,none⟩=some (.int .i64 t1):=hcell 2 _ rfl
   have z3:wr.cell? ⟨g,k*7+3,none⟩=some (.string ⟨x1.toArray⟩):=hcell 3 _ rfl
   have z4:wr.cell? ⟨g,k*7+4,none⟩=some (.slice A3 n3 c3):=hcell 4 _ rfl
   have z5:wr.cell? ⟨g,k*7+5,none⟩=some (.slice B3 m3 d3):=hcell 5 _ rfl
   have z6:wr.cell? ⟨g,k*7+6,none⟩=some (.slice S3 sn3 sc3):=hcell 6 _ rfl
   have hA:Below wr.heap.size wr (wr.alloc (.cells #[.int .i64 k1,.int .i64 f1,.int .i64 t1,.string ⟨x1.toArray⟩,.slice A3 n3 c3,.slice B3 m3 d3,.slice S3 sn3 sc3] 60)):=below1 wr _
   have KS:=hid (fun w' (hb':Below wr.heap.size wr w')=>HSEL.out w' (hbW.trans (hb'.mono hbW.size)) pw B4 m4 d4 ((grow_rd pl).below hb') hwy.1 (by have:=hwy.2;simp at this;omega))
   have HSS:=hid (fun w' (hb':Below wr.heap.size wr w')=>show (w'.cell? ⟨W.heap.size,0,none⟩=some (.int .i64 xk)∧w'.cell? ⟨W.heap.size,1,none⟩=some (.int .i64 xf)∧w'.cell? ⟨W.heap.size,2,none⟩=some (.int .i64 xt)∧w'.cell? ⟨W.heap.size,3,none⟩=some (.string ⟨xx.toArray⟩)∧w'.cell? ⟨W.heap.size,4,none⟩=some (.slice xA xn xc)∧w'.cell? ⟨W.heap.size,5,none⟩=some (.slice xB xm xd))∧w'.cell? ⟨ug,k,none⟩=some (.slice B4 m4 d4) from by
     have o:=HBOX.out.stay (hb.trans (hb'.mono hb.size)) HBOX.out.inside
     exact ⟨⟨o.at 0,o.at 1,o.at 2,o.at 3,o.at 4,o.at 5⟩,(hb'.cell (p:=⟨ug,k,none⟩) (cell_inside hpc)).trans hpc⟩)
   have ho:=Own.fresh wr 60 #[.int .i64 k1,.int .i64 f1,.int .i64 t1,.string ⟨x1.toArray⟩,.slice A3 n3 c3,.slice B3 m3 d3,.slice S3 sn3 sc3]
   have HO:=hid ho
   have HND:=hid nd
   have HNS:=hid hns
   have HB:=hid hb
   have HNE:=hid hne
   have HAA:=hid hA
   have hSA:=HSS.out _ hA
   clear hcell nd pl hwy ho hns hb hne hbW hkl hkr hks hA
   generalize ledT pw v q=res at *
   obtain ⟨wN,hwN⟩:∃ wN,wN=wr.alloc (.cells #[.int .i64 k1,.int .i64 f1,.int .i64 t1,.string ⟨x1.toArray⟩,.slice A3 n3 c3,.slice B3 m3 d3,.slice S3 sn3 sc3] 60):=⟨_,rfl⟩
   have HWN:=hid hwN.symm
   rw[← hwN] at HAA HO hSA
   clear hwN
   cases res
   all_goals
     go_upto_region 6 with fail
     rw[HWN.out]
     go_region_held3 (fun w'=>(w'.cell? ⟨W.heap.size,0,none⟩=some (.int .i64 xk)∧w'.cell? ⟨W.heap.size,1,none⟩=some (.int .i64 xf)∧w'.cell? ⟨W.heap.size,2,none⟩=some (.int .i64 xt)∧w'.cell? ⟨W.heap.size,3,none⟩=some (.string ⟨xx.toArray⟩)∧w'.cell? ⟨W.heap.size,4,none⟩=some (.slice xA xn xc)∧w'.cell? ⟨W.heap.size,5,none⟩=some (.slice xB xm xd))∧w'.cell? ⟨ug,k,none⟩=some (.slice B4 m4 d4))
       (first|exact HSS.out _ HAA.out|exact HSS.out _ HAA.out.drew|exact HSS.out _ h6)
       (first
         | (go_at_call 27;refine (KS.out _ (by first|exact HAA.out.drew|exact HAA.out)).mono ?_;rintro e w6 ⟨rfl,hb6⟩;have h6N:Below wN.heap.size wN w6:=(by first|exact (Below.refl wN.heap.size wN).drew.trans hb6|exact hb6);have h6:Below wr.heap.size wr w6:=HAA.out.trans (h6N.mono HAA.out.size)))
   ·have HN:=hid (show RelNo W Wb W1.heap.size v q (.slice (some ⟨g,0,none⟩) (cnT v) c2) (.slice (some ⟨ug,0,none⟩) (cnT v) d2) V (.int .i64 ((k+1:Nat):Int)) w6 from
      ⟨k+1,V,rfl,hlt,rfl,by rw[HFN.out (by first|rfl|trivial)];exact HNS.out.keep h6 (Nat.le_refl _),NsB.keep ⟨rs,HR.out⟩ h6 (Nat.le_refl _),WsB.keep ⟨ss,HS.out⟩ h6 (Nat.le_refl _),HNE.out,HB.out.trans (h6.mono HB.out.size)⟩)
    clear h6 h6N hb6 hSA
    go_wp2
    go_roundw
    case rel=>exact HN.out
    case measure=>simp[intOf]<;>omega
   ·have o6 := HO.out.stay h6N HO.out.inside
    have y0:w6.cell? ⟨wr.heap.size,0,none⟩=some (.int .i64 k1):=o6.at 0
    have y1:w6.cell? ⟨wr.heap.size,1,none⟩=some (.int .i64 f1):=o6.at 1
    have y2:w6.cell? ⟨wr.heap.size,2,none⟩=some (.int .i64 t1):=o6.at 2
    have y3:w6.cell? ⟨wr.heap.size,3,none⟩=some (.string ⟨x1.toArray⟩):=o6.at 3
    have y4:w6.cell? ⟨wr.heap.size,4,none⟩=some (.slice A3 n3 c3):=o6.at 4
    have y5:w6.cell? ⟨wr.heap.size,5,none⟩=some (.slice B3 m3 d3):=o6.at 5
    have y6:w6.cell? ⟨wr.heap.size,6,none⟩=some (.slice S3 sn3 sc3):=o6.at 6
    have h6a:Below wr.heap.size wr (w6.alloc (.cells #[.int .i64 k1,.int .i64 f1,.int .i64 t1,.string ⟨x1.toArray⟩,.slice A3 n3 c3,.slice B3 m3 d3,.slice S3 sn3 sc3] 60)):=h6.trans ((below1 w6 _).mono h6.size)
    have H6A:=hid h6a
    have hn6:=HNS.out.keep h6a (Nat.le_refl _)
    obtain ⟨rs',q1,q2',q3⟩:=nsb_ready hn6
    have HQ1:=hid q1
    have HQ2:=hid q2'
    have HQ3:=hid q3
    clear h6 h6N hb6 hSA o6 h6a hn6 q1 q2' q3
    go_wp2_with (
      (at_builtin
       go_must (
         refine row_append (K:=ndK) _ rfl (.tmp 31) (.tmp 33) rfl Wb.heap.size V rs' rfl HQ1.out _ 1 1 [⟨⟨k1,f1,t1,x1,A3,n3,c3,B3,m3,d3⟩,S3,sn3,sc3⟩] rfl (GRow.made (K:=ndK) (base:=0) (l:=[⟨⟨k1,f1,t1,x1,A3,n3,c3,B3,m3,d3⟩,S3,sn3,sc3⟩]) w6 _ rfl (by simp[maxLen]) (Nat.zero_le _)).rd (by rw[HQ2.out];omega) (Nat.le_trans HB.out.size H6A.out.size) ?_
         intro v7 w7 row7 grown7 at7
         have n7:=HQ3.out [⟨⟨k1,f1,t1,x1,A3,n3,c3,B3,m3,d3⟩,S3,sn3,sc3⟩] [d] v7 w7 rfl (one_nd ⟨HND.out.1,HND.out.2.keepB H6A.out (Nat.le_refl _)⟩) row7 grown7
         have m7:NsB W w7 W.heap.size W1.heap.size (.slice (some ⟨g,0,none⟩) (cnT v) c2) ((allN v [] []).map (·.1)):=by
           refine ⟨rs,(HR.out.1.keepB H6A.out (Nat.le_refl _)).stay (fun g' hg'=>grown7.block g' (Nat.lt_of_lt_of_le (HR.out.1.low hg').2 H6A.out.size) (fun e=>HNE.out g' e.symm hg')),HR.out.2.1,fun i s y h1 h2=>⟨(HR.out.2.2 i s y h1 h2).1,HQ1.out.grownBy (show ndK.T≠stpK.T by decide) ((HR.out.2.2 i s y h1 h2).2.keepB H6A.out (Nat.le_refl _)) grown7⟩⟩
         have u7:=(WsB.keep ⟨ss,HS.out⟩ H6A.out (Nat.le_refl _)).grownN HQ1.out grown7
         have ne7:∀ g',v7.ownBlock=some g'→(Value.slice (some ⟨g,0,none⟩) (cnT v) c2).ownBlock≠some g':=fun g' h1 h2=>by
           rcases at7 with h|h
           ·exact HNE.out g' (h▸h1) h2
           ·have h3:=(HR.out.1.low h2).2
            have h4:=H6A.out.size
            rw[h] at h1
            injection h1 with h1
            omega
         have b7:=below_grown (HB.out.trans (H6A.out.mono HB.out.size)) grown7 (Nat.le_trans HB.out.size H6A.out.size) (fun g hg=>(HQ1.out.low hg).1)
         have HN:=hid (show RelNo W Wb W1.heap.size v q (.slice (some ⟨g,0,none⟩) (cnT v) c2) (.slice (some ⟨ug,0,none⟩) (cnT v) d2) v7 (.int .i64 ((k+1:Nat):Int)) w7 from
           ⟨k+1,v7,rfl,hlt,rfl,by rw[HFY.out (by first|rfl|trivial)];exact n7,m7,u7,ne7,b7⟩)
         clear n7 m7 u7 ne7 b7 row7 grown7 at7)))
    go_roundw
    case rel=>exact HN.out
    case measure=>simp[intOf]<;>omega
end
section
open Go.RowKit
theorem nsrd_of {V0 w:World} {b1 b2:Nat} {A:Option Addr} {m c:Nat} {l:List Nd} (h:NsB V0 w b1 b2 (.slice A m c) l):NsRd V0 w A m l:=by
 obtain ⟨ns,h1,h2,h3⟩:=h
 exact ⟨ns,grow_rd16 h1,h2,fun i s d e1 e2=>⟨(h3 i s d e1 e2).1,grow_rd16 (h3 i s d e1 e2).2⟩⟩
end
section
open Go.RowKit
mutual
theorem all_ok (N:Nat):∀ (t:Tree) (p:List Pst) (w:List Nat),OkN N ⟨t,p⟩ → ∀ m∈allN t p w,OkN N m.1
 | .mk kd fr td tx items names,p,w,h,m,hm=>by
   rw[allN] at hm
   rcases List.mem_cons.1 hm with rfl|hm
   ·exact h
   ·exact allL_ok N (.mk kd fr td tx items names) p h items 0 w (fun j u hu=>by rw[Nat.zero_add];exact hu) m hm
theorem allL_ok (N:Nat) (v:Tree) (p:List Pst) (h:OkN N ⟨v,p⟩):∀ (ts:List Tree) (i:Nat) (w:List Nat),(∀ (j:Nat) (u:Tree),ts[j]?=some u→v.items[i+j]?=some u) → ∀ m∈allL v ts i p w,OkN N m.1
 | [],i,w,hts,m,hm=>by rw[allL] at hm;cases hm
 | t :: ts,i,w,hts,m,hm=>by
   rw[allL,List.mem_append] at hm
   have h0:=hts 0 t rfl
   rw[Nat.add_zero] at h0
   have hi:=(List.getElem?_eq_some_iff.1 h0).1
   rcases hm with hm|hm
   ·have e:itmT v i=t:=by have:=items_getD v hi;rw[h0] at this;exact (Option.some.inj this).symm
    have hk:=itm_ok (i:=i) h hi
    unfold itmN at hk
    rw[show itmT (⟨v,p⟩:Nd).t i=t from e] at hk
    exact all_ok N t (p++[stpT v i]) (w++[i]) hk m hm
   ·exact allL_ok N v p h ts (i+1) w (fun j u hu=>by rw[show i+1+j=i+(j+1) by omega];exact hts (j+1) u hu) m hm
end
theorem nodes_ok {v:Tree} {q:List Sgm} {N:Nat} (hN:NamT v) (hc:cnT v≤N):∀ d∈nodesT v q,OkN N d:=by
 intro d hd
 unfold nodesT at hd
 obtain ⟨x,hx,rfl⟩:=List.mem_map.1 hd
 exact all_ok N v [] [] ⟨hN,hc,by simpa using hc⟩ x (List.mem_filter.1 hx).1
theorem EsRd.below {w w':World} {A:Option Addr} {m:Nat} {l:List Nd} (h:EsRd w A m l) (hb:Below w.heap.size w w'):EsRd w' A m l:=by
 obtain ⟨ns,h1,h2,h3⟩:=h
 exact ⟨ns,h1.below hb,h2,fun i s d e1 e2=>⟨(h3 i s d e1 e2).1,(h3 i s d e1 e2).2.1,(h3 i s d e1 e2).2.2.below hb⟩⟩
theorem evalNodes_core {G:World→Prop} {X:Tree→Prop} (hstay:∀ w w',G w→Below w.heap.size w w'→G w')
   (hal:∀ w,G w→Calls Tryz.prog 6 #[] w fun e w'=>e=.returned (.bool true)∧Below w.heap.size w w')
   (hnodes:∀ (v:Tree) (x:V6) (q:List Sgm) (A:Option Addr) (n c:Nat) (w:World),G w→VIs w v x→QRd w A n q→OkQ q→NamT v→cnT v≤1000→X v→Calls Tryz.prog 9 #[.agg #[.int .i64 x.kd,.int .i64 x.fr,.int .i64 x.to,.string ⟨x.tx.toArray⟩,.slice x.A x.n x.c,.slice x.B x.m x.d],.slice A n c] w
     fun e w' => ∃ A' m' c',e=.returned (.slice A' m' c')∧EsRd w' A' m' (nodesT v q)∧Below w.heap.size w w')
   (KS:∀ (p:List Pst) (B B':Option Addr) (n n' d d':Nat) (w:World),RdG stpK w B n p→RdG stpK w B' n' p→p.length≤100000→Calls Tryz.prog 20 #[.slice B n d,.slice B' n' d'] w fun e w'=>e=.returned (.bool true)∧Below w.heap.size w w')
   (q:List Sgm) (A:Option Addr) (n c:Nat) (B:Option Addr) (bl bc:Nat) (W:World) (hG:G W) (hq:QRd W A n q)
   (hgiv:∀ w,Below W.heap.size W w→Calls Tryz.prog 7 #[.slice B bl bc,.slice A n c] w (GivEnd X q w)) :
   Calls Tryz.prog 3 #[.slice B bl bc,.slice A n c] W fun e w'=>e=.returned (.bool true)∧Below W.heap.size W w':=by
 have KA:=hid (hal W hG)
 have KG:=hid hgiv
 unfold GivEnd at KG
 have HQ:=hid hq
 have HGW:=hid (fun w (hb:Below W.heap.size W w)=>hstay W w hG hb)
 have HNO:=hid hnodes
 have HKS:=hid KS
 clear hal hgiv hq hstay hnodes KS
 go_enter Tryz.func3,Tryz.ntmps3
 go_wp2_with (first
   | (go_at_call 6;refine KA.out.mono ?_;rintro e w1 ⟨rfl,hb1⟩;have HB1:=hid hb1;clear hb1)
   | (go_at_call 7
      go_must (
        refine (KG.out _ HB1.out).mono ?_
        rintro e w2 ⟨k1,f1,t1,x1,A2,n2,c2,B2,m2,d2,ok,rfl,hok,hb2⟩
        have HB2:=hid (HB1.out.trans (hb2.mono HB1.out.size))
        have HOK:=hid hok
        clear hb2 hok)))
 have hb3:=HB2.out.trans ((below1 w2 (.cells #[.int .i64 k1,.int .i64 f1,.int .i64 t1,.string ⟨x1.toArray⟩,.slice A2 n2 c2,.slice B2 m2 d2] 29)).mono HB2.out.size)
 have HB3:=hid hb3
 clear hb3
 cases ok
 ·go_wp2_with fail
  go_region
  all_goals
    go_wp2
    go_ret
    exact ⟨rfl,HB3.out.drew⟩
 obtain ⟨v,hv,hN,hc,hoq,hxv⟩:=HOK.out rfl
 have HXV:=hid hxv
 clear hxv
 have hO:=Own.fresh w2 29 #[.int .i64 k1,.int .i64 f1,.int .i64 t1,.string ⟨x1.toArray⟩,.slice A2 n2 c2,.slice B2 m2 d2]
 have HV:=hid (hv.stay (below1 w2 (.cells #[.int .i64 k1,.int .i64 f1,.int .i64 t1,.string ⟨x1.toArray⟩,.slice A2 n2 c2,.slice B2 m2 d2] 29)))
 have HO:=hid hO
 have HNM:=hid hN
 have HC:=hid hc
 have HOQ:=hid hoq
 clear hv hN hc hoq hO HOK
 obtain ⟨w3,hw3⟩:∃ w3,w3=w2.alloc (.cells #[.int .i64 k1,.int .i64 f1,.int .i64 t1,.string ⟨x1.toArray⟩,.slice A2 n2 c2,.slice B2 m2 d2] 29):=⟨_,rfl⟩
 have HW3:=hid hw3.symm
 rw[← hw3] at HB3 HV HO
 clear hw3
 have HSS:=hid (fun w' (hb:Below w3.heap.size w3 w')=>show w'.cell? ⟨w2.heap.size,0,none⟩=some (.int .i64 k1)∧w'.cell? ⟨w2.heap.size,1,none⟩=some (.int .i64 f1)∧w'.cell? ⟨w2.heap.size,2,none⟩=some (.int .i64 t1)∧w'.cell? ⟨w2.heap.size,3,none⟩=some (.string ⟨x1.toArray⟩)∧w'.cell? ⟨w2.heap.size,4,none⟩=some (.slice A2 n2 c2)∧w'.cell? ⟨w2.heap.size,5,none⟩=some (.slice B2 m2 d2) from by
   have o:=HO.out.stay hb HO.out.inside
   exact ⟨o.at 0,o.at 1,o.at 2,o.at 3,o.at 4,o.at 5⟩)
 have K1:=hid (fun w' (hb:Below w3.heap.size w3 w')=>HNO.out v ⟨k1,f1,t1,x1,A2,n2,c2,B2,m2,d2⟩ q A n c w' (HGW.out w' (HB3.out.trans (hb.mono HB3.out.size))) (HV.out.stay hb) (HQ.out.stay (HB3.out.trans (hb.mono HB3.out.size))) HOQ.out HNM.out HC.out HXV.out)
 have K2:=hid (fun w' (hb:Below w3.heap.size w3 w')=>rnodes_any v ⟨k1,f1,t1,x1,A2,n2,c2,B2,m2,d2⟩ q A n c w' (HV.out.stay hb) (HQ.out.stay (HB3.out.trans (hb.mono HB3.out.size))) (fun g hg=>⟨Nat.le_trans (HOQ.out.2 g hg).1 (by omega),(HOQ.out.2 g hg).2⟩) (Nat.le_trans HOQ.out.1 (by omega)) HNM.out (Nat.le_trans HC.out (by omega)))
 unfold NosEnd at K2
 have hSA:=HSS.out w3 (Below.refl _ _)
 go_upto_region 4 with fail
 rw[HW3.out]
 go_region_held3 (fun w'=>w'.cell? ⟨w2.heap.size,0,none⟩=some (.int .i64 k1)∧w'.cell? ⟨w2.heap.size,1,none⟩=some (.int .i64 f1)∧w'.cell? ⟨w2.heap.size,2,none⟩=some (.int .i64 t1)∧w'.cell? ⟨w2.heap.size,3,none⟩=some (.string ⟨x1.toArray⟩)∧w'.cell? ⟨w2.heap.size,4,none⟩=some (.slice A2 n2 c2)∧w'.cell? ⟨w2.heap.size,5,none⟩=some (.slice B2 m2 d2))
   (first|exact HSS.out _ (Below.refl _ _)|exact HSS.out _ (Below.refl _ _).drew|exact HSS.out _ h6|exact HSS.out _ h7|exact HSS.out _ h8)
   (first
     | (go_at_call 9;refine (K1.out _ (by first|exact (Below.refl w3.heap.size w3).drew|exact Below.refl _ _)).mono ?_;rintro e w6 ⟨A6,m6,c6,rfl,he6,hb6⟩;have h6:Below w3.heap.size w3 w6:=(by first|exact (Below.refl w3.heap.size w3).drew.trans hb6|exact hb6))
     | (go_at_call 10;refine (K2.out w6 h6).mono ?_;rintro e w7 ⟨u7,rfl,hn7,hb7⟩;have h7:Below w3.heap.size w3 w7:=h6.trans (hb7.mono h6.size);obtain ⟨ns7,r71,r72,r73⟩:=hn7;have R72:=hid r72;clear r72;obtain ⟨A7,c7,rfl,_⟩:=r71.form;have hd7:NsRd w6 w7 A7 ns7.length (nodesT v q):=nsrd_of ⟨ns7,r71,R72.out,r73⟩)
     | (go_at_call 8;refine (same16_yes (nodesT v q) A6 A7 m6 ns7.length c6 c7 w6 w7 (he6.below hb7) hd7 (Nat.le_trans (nodes_len v q) (Nat.le_trans HC.out (by omega))) (fun d hd=>by have:=(nodes_ok (q:=q) HNM.out HC.out d hd).2.2;omega) HKS.out).mono ?_;rintro e w8 ⟨rfl,hb8⟩;have h8:Below w3.heap.size w3 w8:=h7.trans (hb8.mono h7.size)))
 all_goals
   have HE:=hid (HB3.out.trans (h8.mono HB3.out.size))
   clear h6 h7 h8 he6 hd7 r71 r73 hb6 hb7 hb8 hSA
   go_wp2
   go_ret
   exact ⟨rfl,HE.out⟩
end
section
open Go.RowKit
theorem evalNodes_all {G:World→Prop} {X:Tree→Prop} (hX:∀ v,X v→ArmT v∧OrdT v 0 1000) (hstay:∀ w w',G w→Below w.heap.size w w'→G w')
   (hal:∀ w,G w→Calls Tryz.prog 6 #[] w fun e w'=>e=.returned (.bool true)∧Below w.heap.size w w')
   (q:List Sgm) (A:Option Addr) (n c:Nat) (B:Option Addr) (bl bc:Nat) (W:World) (hG:G W) (hq:QRd W A n q)
   (hgiv:∀ w,Below W.heap.size W w→Calls Tryz.prog 7 #[.slice B bl bc,.slice A n c] w (GivEnd X q w)) :
   Calls Tryz.prog 3 #[.slice B bl bc,.slice A n c] W fun e w'=>e=.returned (.bool true)∧Below W.heap.size W w' :=
 evalNodes_core hstay hal (fun v x q A n c w _ hv hq hoq hN hc hx=>enodes_any v x q A n c 1000 w hv hq (okE_of hN hc (hX v hx).1 (hX v hx).2 hoq)) same_steps q A n c B bl bc W hG hq hgiv
end
end Go.Proofs.YtnokhgfifbkflaaGreat
