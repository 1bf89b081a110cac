/- Lemmas. -/
import Derived.Test.YtbpilcklglhloaaGreatDoorJ35
import Derived.Test.YtbpilcklglhloaaGreatDoorJ18
set_option maxRecDepth 100000
set_option maxHeartbeats 8000000
set_option linter.unusedVariables false
namespace Go.Proofs.YtbpilcklglhloaaGreatDoor
section
open Go.RowKit
def RdH {α:Type} (K:RowK α) (w:World) (G:Nat→Prop) (A:Option Addr) (m:Nat) (l:List α):Prop :=
 l.length=m∧(0<m → ∃ b o:Nat,A=some ⟨b,o,none⟩∧G b∧b<w.heap.size ∧ ∀ j u,(K.all l)[j]?=some u→w.cell? ⟨b,o+j,none⟩=some u)
mutual
def VIsG (w:World) (G:Nat→Prop):Tree→V6→Prop
 | .mk kd fr tt tx items names,x=>x.kd=kd∧x.fr=fr∧x.to=tt∧x.tx=tx∧x.n≤x.c∧x.m≤x.d∧RdH namK w G x.B x.m names ∧ ∃ xs,RdH valK w G x.A x.n xs∧VLsG w G items xs
def VLsG (w:World) (G:Nat→Prop):List Tree→List V6→Prop
 | [],xs=>xs=[]
 | t :: ts,xs => ∃ x r,xs=x :: r∧VIsG w G t x∧VLsG w G ts r
end
section
variable {α:Type} {K:RowK α} {w w':World} {G H:Nat→Prop} {A:Option Addr} {m:Nat} {l:List α}
theorem RdH.stay (h:RdH K w G A m l) (hb:∀ b,G b→b<w.heap.size→w'.heap[b]?=w.heap[b]?) (hs:w.heap.size≤w'.heap.size) (hm:∀ b,b<w.heap.size→G b→H b):RdH K w' H A m l :=
 ⟨h.1,fun hn=>by
   obtain ⟨b,o,e,g,hl,hc⟩:=h.2 hn
   exact ⟨b,o,e,hm b hl g,by omega,fun j u hu=>(World.cell?_of_block (by exact hb b g hl)).trans (hc j u hu)⟩⟩
theorem RdH.rd (h:RdH K w G A m l):RdG K w A m l :=
 ⟨h.1,fun hn=>by
   obtain ⟨b,o,e,g,hl,hc⟩:=h.2 hn
   exact ⟨b,o,e,hl,hc⟩⟩
theorem RdH.of_row {v:Value} {c:Nat} (h:GRow K w 0 (.slice A m c) l) (hm:l.length=m) (hG:∀ g,(Value.slice A m c).ownBlock=some g→G g):RdH K w G A m l :=
 ⟨hm,fun hn=>by
   subst hm
   obtain ⟨b,o,e,hl,hc⟩:=h.rd.2 hn
   obtain ⟨A',c',e1,_,_,h4⟩:=h.form
   injection e1 with e1 _ _
   subst e1
   obtain ⟨g,e2,_,hgl⟩:=h4 hn
   subst e2
   injection e with e
   injection e with e3 e4
   subst e3 e4
   exact ⟨g,0,rfl,hG g rfl,hl,hc⟩⟩
mutual
theorem VIsG.stay (hb:∀ b,G b→b<w.heap.size→w'.heap[b]?=w.heap[b]?) (hs:w.heap.size≤w'.heap.size) (hm:∀ b,b<w.heap.size→G b→H b):∀ (t:Tree) (x:V6),VIsG w G t x→VIsG w' H t x
 | .mk kd fr tt tx items names,x,h=>by
   unfold VIsG at h ⊢
   obtain ⟨h1,h2,h3,h4,h5,h6,h7,xs,h8,h9⟩:=h
   exact ⟨h1,h2,h3,h4,h5,h6,h7.stay hb hs hm,xs,h8.stay hb hs hm,VLsG.stay hb hs hm items xs h9⟩
theorem VLsG.stay (hb:∀ b,G b→b<w.heap.size→w'.heap[b]?=w.heap[b]?) (hs:w.heap.size≤w'.heap.size) (hm:∀ b,b<w.heap.size→G b→H b):∀ (ts:List Tree) (xs:List V6),VLsG w G ts xs→VLsG w' H ts xs
 | [],xs,h=>by unfold VLsG at h ⊢;exact h
 | t :: ts,xs,h=>by
   unfold VLsG at h ⊢
   obtain ⟨x,r,rfl,h1,h2⟩:=h
   exact ⟨x,r,rfl,VIsG.stay hb hs hm t x h1,VLsG.stay hb hs hm ts r h2⟩
end
mutual
theorem VIsG.vis:∀ (t:Tree) (x:V6),VIsG w G t x→VIs w t x
 | .mk kd fr tt tx items names,x,h=>by
   unfold VIsG at h
   unfold VIs
   obtain ⟨h1,h2,h3,h4,h5,h6,h7,xs,h8,h9⟩:=h
   exact ⟨h1,h2,h3,h4,h5,h6,h7.rd,xs,h8.rd,VLsG.vls items xs h9⟩
theorem VLsG.vls:∀ (ts:List Tree) (xs:List V6),VLsG w G ts xs→VLs w ts xs
 | [],xs,h=>by unfold VLsG at h;unfold VLs;exact h
 | t :: ts,xs,h=>by
   unfold VLsG at h
   unfold VLs
   obtain ⟨x,r,rfl,h1,h2⟩:=h
   exact ⟨x,r,rfl,VIsG.vis t x h1,VLsG.vls ts r h2⟩
end
theorem VLsG.snoc {t:Tree} {x:V6}:∀ {ts:List Tree} {xs:List V6},VLsG w G ts xs→VIsG w G t x→VLsG w G (ts++[t]) (xs++[x])
 | [],xs,h,hx=>by
   unfold VLsG at h
   subst h
   show VLsG w G [t] [x]
   unfold VLsG
   exact ⟨x,[],rfl,hx,by unfold VLsG;rfl⟩
 | u :: ts,xs,h,hx=>by
   unfold VLsG at h
   obtain ⟨y,r,rfl,h1,h2⟩:=h
   show VLsG w G (u :: (ts++[t])) (y :: (r++[x]))
   unfold VLsG
   exact ⟨y,_,rfl,h1,VLsG.snoc h2 hx⟩
theorem VLsG.len {ts:List Tree}{xs:List V6}(h:VLsG w G ts xs):xs.length=ts.length:=(VLsG.vls ts xs h).len
end
def CtxIs (w:World) (G:Nat→Prop) (wb:Nat):List (Tree×Stp)→Stp→Addr→V6→List (Option Addr)→(Nat→Prop)→Prop
 | [],s,p,x,ps,S=>p=⟨wb,0,none⟩∧Own w wb 27 (v6Cells x).toArray∧ps=[]∧S wb
 | (t, s') :: r,s,p,x,ps,S => ∃ (X:V6) (xs:List V6) (P:Addr) (ps':List (Option Addr)) (S':Nat→Prop) (g:Nat),X.kd=t.kd∧X.fr=t.fr∧X.to=t.to∧X.tx=t.tx∧X.A=some ⟨g,0,none⟩∧p=⟨g,xs.length*6,none⟩∧X.n=xs.length+1 ∧
     GRow valK w 0 (.slice X.A X.n X.c) (xs++[x])∧VLsG w G t.items xs∧GRow namK w 0 (.slice X.B X.m X.d) (if s.named then t.names++[s.name] else t.names)∧X.m=(if s.named then t.names++[s.name] else t.names).length ∧
     CtxIs w G wb r s' P X ps' S'∧ps=ps'++[some P]∧(∀ k,S' k→S k)∧S g∧¬ S' g∧(∀ h,(Value.slice X.B X.m X.d).ownBlock=some h→S h∧¬ S' h∧h≠g)
structure TopIs (w:World) (G S:Nat→Prop) (t:Tree) (x:V6) (xs:List V6):Prop where
 kd:x.kd=t.kd
 fr:x.fr=t.fr
 tt:x.to=t.to
 tx:x.tx=t.tx
 n:x.n=xs.length
 m:x.m=t.names.length
 rowA:GRow valK w 0 (.slice x.A x.n x.c) xs
 items:VLsG w G t.items xs
 rowB:GRow namK w 0 (.slice x.B x.m x.d) t.names
 offA:∀ g,(Value.slice x.A x.n x.c).ownBlock=some g→¬ S g∧¬ G g
 offB:∀ g,(Value.slice x.B x.m x.d).ownBlock=some g→¬ S g∧¬ G g∧(Value.slice x.A x.n x.c).ownBlock≠some g
theorem all_last {xs:List V6} {x y:V6}:(xs++[x]).set xs.length y=xs++[y]:=by
 rw[List.set_append_right _ _ (Nat.le_refl _)]
 simp
section
variable {w w':World} {G H:Nat→Prop} {wb:Nat}
theorem CtxIs.stay (hG:∀ b,G b→b<w.heap.size→w'.heap[b]?=w.heap[b]?) (hs:w.heap.size≤w'.heap.size) (hm:∀ b,b<w.heap.size→G b→H b):∀ (r:List (Tree×Stp)) (s:Stp) (p:Addr) (x:V6) (ps:List (Option Addr)) (S:Nat→Prop),CtxIs w G wb r s p x ps S →
   (∀ b,S b→b<w.heap.size→w'.heap[b]?=w.heap[b]?)→CtxIs w' H wb r s p x ps S
 | [],s,p,x,ps,S,h,hS=>by
   obtain ⟨h1,h2,h3,h4⟩:=h
   exact ⟨h1,(hS wb h4 h2.inside).trans h2,h3,h4⟩
 | (t, s') :: r,s,p,x,ps,S,h,hS=>by
   obtain ⟨X,xs,P,ps',S',g,a1,a2,a3,a4,a5,a6,a7,a8,a9,a10,am,a11,a12,a13,a14,a15,a17⟩:=h
   have hgl:=a8.low (g:=g) (by rw[a5];rfl)
   refine ⟨X,xs,P,ps',S',g,a1,a2,a3,a4,a5,a6,a7,?_,VLsG.stay hG hs hm _ _ a9,?_,am,CtxIs.stay hG hs hm r s' P X ps' S' a11 (fun b hb=>hS b (a13 b hb)),a12,a13,a14,a15,a17⟩
   ·refine a8.stay (fun k hk => ?_)
    rw[a5] at hk
    obtain rfl:=ownBlock_is hk
    exact hS _ a14 hgl.2
   ·exact a10.stay (fun k hk=>hS k (a17 k hk).1 (a10.low hk).2)
theorem CtxIs.put {r:List (Tree×Stp)} {s:Stp} {p:Addr} {x y:V6} {ps:List (Option Addr)} {S:Nat→Prop} {j:Nat} {u:Value} (h:CtxIs w G wb r s p x ps S) (hSG:∀ b,S b→¬ G b) (hj:j<6) (hy:v6Cells y=(v6Cells x).set j u) :
   CtxIs (w.setCell ⟨p.block,p.off+j,none⟩ u) G wb r s p y ps S:=by
 cases r with
 | nil =>
   obtain ⟨h1,h2,h3,h4⟩:=h
   subst h1
   refine ⟨rfl,?_,h3,h4⟩
   have:=h2.put j u
   rw[hy]
   show Own (w.setCell ⟨wb,0+j,none⟩ u) wb _ _
   rw[Nat.zero_add]
   simpa using this
 | cons q r =>
   obtain ⟨t,s'⟩:=q
   obtain ⟨X,xs,P,ps',S',g,a1,a2,a3,a4,a5,a6,a7,a8,a9,a10,am,a11,a12,a13,a14,a15,a17⟩:=h
   subst a6
   have hne:∀ k,k≠g→(w.setCell ⟨g,xs.length*6+j,none⟩ u).heap[k]?=w.heap[k]?:=fun k hk=>Below.heap_setCell _ _ _ _ hk
   have hGg:¬ G g:=hSG g a14
   refine ⟨X,xs,P,ps',S',g,a1,a2,a3,a4,a5,rfl,a7,?_,?_,?_,am,?_,a12,a13,a14,a15,a17⟩
   ·rw[a5] at a8 ⊢
    have:=a8.putAt (i:=xs.length) (j:=j) (a:=y) (b:=x) (u:=u) (by simp) hj hy
    rw[all_last] at this
    exact this
   ·exact VLsG.stay (fun b hb _=>hne b (fun e=>hGg (e▸hb))) (by rw[set_size];exact Nat.le_refl _) (fun b _ h=>h) _ _ a9
   ·exact a10.stay (fun k hk=>hne k (a17 k hk).2.2)
   ·exact CtxIs.stay (fun b hb _=>hne b (fun e=>hGg (e▸hb))) (by rw[set_size];exact Nat.le_refl _) (fun b _ h=>h) _ _ _ _ _ _ a11 (fun b hb _=>hne b (fun e=>a15 (e▸hb)))
theorem CtxIs.cells {r:List (Tree×Stp)} {s:Stp} {p:Addr} {x:V6} {ps:List (Option Addr)} {S:Nat→Prop} (h:CtxIs w G wb r s p x ps S):∃ b o:Nat,p=⟨b,o,none⟩∧S b∧CellsAt w p x ∧ ∀ i,w.frozen? ⟨b,i,none⟩=false:=by
 cases r with
 | nil =>
   obtain ⟨h1,h2,h3,h4⟩:=h
   subst h1
   exact ⟨wb,0,rfl,h4,CellsAt.of_own h2,fun i=>h2.free i⟩
 | cons q r =>
   obtain ⟨t,s'⟩:=q
   obtain ⟨X,xs,P,ps',S',g,a1,a2,a3,a4,a5,a6,a7,a8,a9,a10,am,a11,a12,a13,a14,a15,a17⟩:=h
   subst a6
   rw[a5] at a8
   refine ⟨g,xs.length*6,rfl,a14,?_,fun i=>a8.free i⟩
   obtain ⟨b,o,e,hc⟩:=a8.rd.item (i:=xs.length) (x:=x) (by simp)
   injection e with e
   injection e with e1 e2
   subst e1 e2
   rwa [Nat.zero_add] at hc
theorem CtxIs.len:∀ {r:List (Tree×Stp)} {s:Stp} {p:Addr} {x:V6} {ps:List (Option Addr)} {S:Nat→Prop},CtxIs w G wb r s p x ps S→ps.length=r.length
 | [],s,p,x,ps,S,h=>by
   obtain ⟨_,_,h3,_⟩:=h
   subst h3
   rfl
 | (t,s') :: r,s,p,x,ps,S,h=>by
   obtain ⟨X,xs,P,ps',S',g,a1,a2,a3,a4,a5,a6,a7,a8,a9,a10,am,a11,a12,_⟩:=h
   subst a12
   simp[CtxIs.len a11]
def nowT (t:Tree) (s:Stp):List (Tree×Stp)→Tree
 | []=>t
 | (u,s') :: r=>nowT (addT t s u) s' r
theorem addT_kd (t:Tree) (s:Stp) (u:Tree):(addT t s u).kd=u.kd∧(addT t s u).fr=u.fr∧(addT t s u).to=u.to∧(addT t s u).tx=u.tx∧(addT t s u).items=u.items++[t]∧(addT t s u).names=if s.named then u.names++[s.name] else u.names:=by
 cases u
 exact ⟨rfl,rfl,rfl,rfl,rfl,rfl⟩
theorem vis_of {w:World} {t:Tree} {x:V6} {xs:List V6} (h1:x.kd=t.kd) (h2:x.fr=t.fr) (h3:x.to=t.to) (h4:x.tx=t.tx) (h5:x.n≤x.c) (h6:x.m≤x.d) (h7:RdG namK w x.B x.m t.names) (h8:RdG valK w x.A x.n xs) (h9:VLs w t.items xs):VIs w t x:=by
 cases t
 unfold VIs
 exact ⟨h1,h2,h3,h4,h5,h6,h7,xs,h8,h9⟩
theorem VLs.snoc {w:World} {t:Tree} {x:V6}:∀ {ts:List Tree} {xs:List V6},VLs w ts xs→VIs w t x→VLs w (ts++[t]) (xs++[x])
 | [],xs,h,hx=>by
   unfold VLs at h
   subst h
   show VLs w [t] [x]
   unfold VLs
   exact ⟨x,[],rfl,hx,by unfold VLs;rfl⟩
 | u :: ts,xs,h,hx=>by
   unfold VLs at h
   obtain ⟨y,r,rfl,h1,h2⟩:=h
   show VLs w (u :: (ts++[t])) (y :: (r++[x]))
   unfold VLs
   exact ⟨y,_,rfl,h1,VLs.snoc h2 hx⟩
theorem GRow.cap {α:Type} {K:RowK α} {w:World} {A:Option Addr} {m c:Nat} {l:List α} {B:Nat} (h:GRow K w B (.slice A m c) l):l.length=m∧m≤c:=by
 obtain ⟨A',c',e,h1,_⟩:=h.form
 injection e with _ e2 e3
 omega
theorem CtxIs.now:∀ (r:List (Tree×Stp)) (s:Stp) (p:Addr) (x:V6) (ps:List (Option Addr)) (S:Nat→Prop) (t:Tree),CtxIs w G wb r s p x ps S→VIs w t x → ∃ X,Own w wb 27 (v6Cells X).toArray∧VIs w (nowT t s r) X
 | [],s,p,x,ps,S,t,h,hx=>⟨x,h.2.1,hx⟩
 | (u, s') :: r,s,p,x,ps,S,t,h,hx=>by
   obtain ⟨X,xs,P,ps',S',g,a1,a2,a3,a4,a5,a6,a7,a8,a9,a10,am,a11,a12,_⟩:=h
   obtain ⟨k1,k2,k3,k4,k5,k6⟩:=addT_kd t s u
   refine CtxIs.now r s' P X ps' S' (addT t s u) a11 (vis_of (xs:=xs++[x]) (by rw[k1,a1]) (by rw[k2,a2]) (by rw[k3,a3]) (by rw[k4,a4]) a8.cap.2 a10.cap.2 ?_ ?_ ?_)
   ·rw[k6]
    have:=a10.rd
    rwa [a10.cap.1] at this
   ·have:=a8.rd
    rwa [a8.cap.1] at this
   ·rw[k5]
    exact (VLsG.vls _ _ a9).snoc hx
theorem TopIs.vis {S:Nat→Prop} {t:Tree} {x:V6} {xs:List V6} (h:TopIs w G S t x xs):VIs w t x :=
 vis_of h.kd h.fr h.tt h.tx h.rowA.cap.2 h.rowB.cap.2 (by have:=h.rowB.rd;rwa [h.rowB.cap.1] at this) (by have:=h.rowA.rd;rwa [h.rowA.cap.1] at this) (VLsG.vls _ _ h.items)
end
end
end Go.Proofs.YtbpilcklglhloaaGreatDoor
