/- Lemmas. -/
import Derived.Test.YtbpilcklglhloaaGreatDoorJ14
import Derived.Deep.LoopGhost
set_option maxRecDepth 100000
set_option maxHeartbeats 8000000
set_option linter.unusedVariables false
namespace Go.Proofs.YtbpilcklglhloaaGreatDoor
section
open Go.RowKit
structure Pr where
 p:Addr
 t:Tree
 x:V6
 q:Addr
 u:Tree
 y:V6
def PrOk (W:World)(e:Pr):Prop:=CellsAt W e.p e.x∧VIs W e.t e.x∧CellsAt W e.q e.y∧VIs W e.u e.y
def prSize:List Pr→Nat
 | []=>0
 | e :: r=>sizeT e.t+prSize r
def prSame:List Pr→Bool
 | []=>true
 | e :: r=>sameT e.t e.u&&prSame r
def prRow (es:List Pr):List (Addr×Addr):=es.map fun e=>(e.p,e.q)
theorem prSize_app:∀ a b:List Pr,prSize (a++b)=prSize a+prSize b
 | [],b=>by simp[prSize]
 | e :: a,b=>by
   show sizeT e.t+prSize (a++b)=sizeT e.t+prSize a+prSize b
   rw[prSize_app a b]
   omega
theorem prSame_app:∀ a b:List Pr,prSame (a++b)=(prSame a&&prSame b)
 | [],b=>by simp[prSame]
 | e :: a,b=>by
   show (sameT e.t e.u&&prSame (a++b))=(sameT e.t e.u&&prSame a&&prSame b)
   rw[prSame_app a b,Bool.and_assoc]
theorem prSize_len:∀ es:List Pr,es.length≤prSize es
 | []=>Nat.le_refl _
 | e :: r=>by
   have:=prSize_len r
   have:=sizeT_pos e.t
   unfold prSize
   simp
   omega
def kids (b o b' o':Nat):Nat→List Tree→List V6→List Tree→List V6→List Pr
 | i,t :: ts,x :: xs,u :: us,y :: ys=>⟨⟨b,o+i*6,none⟩,t,x,⟨b',o'+i*6,none⟩,u,y⟩ :: kids b o b' o' (i+1) ts xs us ys
 | _,_,_,_,_=>[]
theorem kids_size (b o b' o':Nat):∀ (i:Nat) (ts:List Tree) (xs:List V6) (us:List Tree) (ys:List V6),ts.length=us.length→xs.length=ts.length→ys.length=us.length→prSize (kids b o b' o' i ts xs us ys)=sizeL ts∧prSame (kids b o b' o' i ts xs us ys)=sameL ts us∧(kids b o b' o' i ts xs us ys).length=ts.length
 | i,[],xs,[],ys,_,h2,h3=>by cases xs<;>cases ys<;>exact ⟨rfl,rfl,rfl⟩
 | i, t :: ts,x :: xs,u :: us,y :: ys,h1,h2,h3=>by
   obtain ⟨g1,g2,g3⟩:=kids_size b o b' o' (i+1) ts xs us ys (by simpa using h1) (by simpa using h2) (by simpa using h3)
   refine ⟨?_,?_,?_⟩
   ·show sizeT t+prSize _=sizeT t+sizeL ts
    rw[g1]
   ·show (sameT t u&&prSame _)=(sameT t u&&sameL ts us)
    rw[g2]
   ·show (kids b o b' o' (i+1) ts xs us ys).length+1=ts.length+1
    rw[g3]
theorem kids_row (b o b' o':Nat):∀ (i:Nat) (ts:List Tree) (xs:List V6) (us:List Tree) (ys:List V6),ts.length=us.length→xs.length=ts.length→ys.length=us.length → ∀ k,k<ts.length →
   (prRow (kids b o b' o' i ts xs us ys))[k]?=some (⟨b,o+(i+k)*6,none⟩,⟨b',o'+(i+k)*6,none⟩)
 | i,t :: ts,x :: xs,u :: us,y :: ys,h1,h2,h3,0,_=>rfl
 | i,t :: ts,x :: xs,u :: us,y :: ys,h1,h2,h3,k+1,hk=>by
   have:=kids_row b o b' o' (i+1) ts xs us ys (by simpa using h1) (by simpa using h2) (by simpa using h3) k (by simpa using hk)
   rw[show i+(k+1)=i+1+k by omega]
   exact this
theorem kids_ok {W:World} {b o b' o':Nat}:∀ (i:Nat) (ts:List Tree) (xs:List V6) (us:List Tree) (ys:List V6),VLs W ts xs→VLs W us ys→(∀ k x,xs[k]?=some x→CellsAt W ⟨b,o+(i+k)*6,none⟩ x)→(∀ k y,ys[k]?=some y→CellsAt W ⟨b',o'+(i+k)*6,none⟩ y) →
   ∀ e∈kids b o b' o' i ts xs us ys,PrOk W e
 | i,[],xs,us,ys,_,_,_,_=>by unfold kids;simp
 | i,t :: ts,xs,[],ys,_,_,_,_=>by unfold kids;simp
 | i,t :: ts,[],u :: us,ys,h1,_,_,_=>by
   unfold VLs at h1
   obtain ⟨x,r,h,_⟩:=h1
   cases h
 | i,t :: ts,x :: xs,u :: us,[],_,h2,_,_=>by
   unfold VLs at h2
   obtain ⟨x,r,h,_⟩:=h2
   cases h
 | i,t :: ts,x :: xs,u :: us,y :: ys,h1,h2,h3,h4=>by
   unfold VLs at h1 h2
   obtain ⟨_,_,e1,v1,l1⟩:=h1
   obtain ⟨_,_,e2,v2,l2⟩:=h2
   injection e1 with ea eb
   injection e2 with ec ed
   subst ea eb ec ed
   intro e he
   rcases List.mem_cons.1 he with rfl|he
   ·exact ⟨h3 0 x rfl,v1,h4 0 y rfl,v2⟩
   ·exact kids_ok (i+1) ts xs us ys l1 l2 (fun k x hk=>by have:=h3 (k+1) x hk;rwa [show i+(k+1)=i+1+k by omega] at this) (fun k y hk=>by have:=h4 (k+1) y hk;rwa [show i+(k+1)=i+1+k by omega] at this) e he
theorem sameL_len:∀ ts us:List Tree,ts.length≠us.length→sameL ts us=false
 | [],[],h=>absurd rfl h
 | [],_ :: _,_=>rfl
 | _ :: _,[],_=>rfl
 | t :: ts,u :: us,h=>by
   show (sameT t u&&sameL ts us)=false
   rw[sameL_len ts us (fun e=>h (by simp[e]))]
   simp
structure AtSm (R:Bool) (W wr:World) (base:Nat) (es:List Pr) (v:Value):Prop where
 row:GRow pairK wr base v (prRow es)
 ok:∀ e∈es,PrOk W e
 bel:Below W.heap.size W wr
 same:R=prSame es
def RelSm (R:Bool)(W:World)(base k:Nat)(v:Value)(wr:World):Prop:=∃ es,prSize es=k∧k≤420000000∧AtSm R W wr base es v
structure AtSk (W wr:World) (base pb:Nat) (rest ks:List (Addr×Addr)) (p q:Addr) (k:Nat) (v:Value):Prop where
 le:k≤ks.length
 row:GRow pairK wr base v (rest++ks.take k)
 off:∀ g,v.ownBlock=some g→g≠pb
 own:Own wr pb 41 #[.pointer (some p),.pointer (some q)]
 bel:Below W.heap.size W wr
def RelSk (W:World)(base pb:Nat)(rest ks:List (Addr×Addr))(p q:Addr)(v i:Value)(wr:World):Prop:=∃ k:Nat,i=.int .i64 k∧AtSk W wr base pb rest ks p q k v
theorem PrOk.parts {W:World} {e:Pr} (h:PrOk W e):∃ (ts us:List Tree) (xs ys:List V6) (nt nu:List (List UInt8)),RdG valK W e.x.A e.x.n xs∧RdG valK W e.y.A e.y.n ys∧VLs W ts xs∧VLs W us ys∧RdG namK W e.x.B e.x.m nt∧RdG namK W e.y.B e.y.m nu ∧
   sizeT e.t=1+nt.length+sizeL ts∧sameT e.t e.u=(decide (e.x.kd=e.y.kd)&&decide (e.x.tx=e.y.tx)&&decide (nt=nu)&&sameL ts us):=by
 obtain ⟨p,t,x,q,u,y⟩:=e
 obtain ⟨_,h1,_,h2⟩:=h
 obtain ⟨k1,f1,t1,x1,i1,n1⟩:=t
 obtain ⟨k2,f2,t2,x2,i2,n2⟩:=u
 unfold VIs at h1 h2
 obtain ⟨a1,_,_,a4,_,_,a7,xs,a8,a9⟩:=h1
 obtain ⟨b1,_,_,b4,_,_,b7,ys,b8,b9⟩:=h2
 exact ⟨i1,i2,xs,ys,n1,n2,a8,b8,a9,b9,a7,b7,by show sizeT _=_;unfold sizeT;rfl,by rw[a1,b1,a4,b4];rfl⟩
end
end Go.Proofs.YtbpilcklglhloaaGreatDoor
