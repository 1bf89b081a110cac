/- Lemmas. -/
import Derived.Test.YtnokhgfifbkflaaGreatProg
import Derived.Test.YtnokhgfifbkflaaGreatJ10
import Derived.Test.YtnokhgfifbkflaaGreatJ18
import Derived.Lib.OwnBridge
import Derived.Lib.RuneBytes
import Derived.Shelf.Slices.Cells
import Derived.Shelf.Small.Bits
import Derived.Shelf.Small.Strs
import Derived.Shelf.Small.Wraps
import Derived.Shelf.Strings.BuilderK
import Derived.Shelf.Strings.OnBuilder
import Derived.StillTailTactics
set_option maxRecDepth 100000
set_option maxHeartbeats 8000000
set_option linter.unusedVariables false
set_option linter.unusedSimpArgs false
namespace Go.Proofs.YtnokhgfifbkflaaGreat
open Go.Lib (hid)
section
def placeI (i m:Int):Int:=if 0≤i then i else m+i
def clipI (n lo hi:Int):Int:=if (if n>hi then hi else n)<lo then lo else (if n>hi then hi else n)
def startI (s:Sel)(m:Int):Int:=placeI s.start m
def endI (s:Sel)(m:Int):Int:=placeI s.en m
def lowS (s:Sel) (m:Int):Int :=
 if s.stride=0 then 0 else if 0<s.stride then clipI (if s.hs then startI s m else 0) 0 m else clipI (if s.he then endI s m else -1) (-1) (m-1)
def highI (s:Sel) (m:Int):Int :=
 if s.stride=0 then 0 else if 0<s.stride then clipI (if s.he then endI s m else m) 0 m else clipI (if s.hs then startI s m else m-1) (-1) (m-1)
def hasS (s:Sel) (i m:Int):Bool :=
 if i<0∨m≤i then false
 else if s.kind=2 then decide (placeI s.index m=i)
 else if s.kind≠3∨s.stride=0 then false
 else if 0<s.stride then decide (lowS s m≤i∧i<highI s m∧(i-lowS s m)%s.stride=0)
 else decide (lowS s m<i∧i≤highI s m∧(highI s m-i)%(0-s.stride)=0)
def okI (n:Int):Prop:=-9007199254740991≤n∧n≤9007199254740991
structure RightI (s:Sel):Prop where
 index:okI s.index
 start:okI s.start
 en:okI s.en
 stride:okI s.stride
def allI (s:Sel)(m:Nat):List Nat:=(List.range m).filter fun i=>hasS s i m
theorem clip_cases (n lo hi:Int) (h:lo≤hi+1):(clipI n lo hi=lo∧n<lo)∨(clipI n lo hi=hi∧hi<n∧lo≤hi)∨(clipI n lo hi=n∧lo≤n∧n≤hi)∨(clipI n lo hi=lo∧hi<lo):=by
 unfold clipI
 split<;>split<;>omega
theorem place_bound (i m:Int) (hi:okI i) (h0:0≤m) (h9:m≤9007199254740992) : -9007199254740991≤placeI i m∧placeI i m≤9007199254740992:=by
 unfold placeI okI at *
 split<;>omega
theorem bounds_in (s:Sel) (m:Int) (h0:0≤m) : -1≤lowS s m∧lowS s m≤m ∧ -1≤highI s m∧highI s m≤m∧(0<s.stride→0≤lowS s m∧0≤highI s m)∧(s.stride<0→lowS s m≤m-1∧highI s m≤m-1):=by
 unfold lowS highI
 by_cases h1:s.stride=0
 ·rw[if_pos h1,if_pos h1];omega
 rw[if_neg h1,if_neg h1]
 by_cases h2:0<s.stride
 ·rw[if_pos h2,if_pos h2]
  have a:=clip_cases (if s.hs then startI s m else 0) 0 m (by omega)
  have b:=clip_cases (if s.he then endI s m else m) 0 m (by omega)
  generalize clipI (if s.hs then startI s m else 0) 0 m=x at *
  generalize clipI (if s.he then endI s m else m) 0 m=y at *
  omega
 ·rw[if_neg h2,if_neg h2]
  have a:=clip_cases (if s.he then endI s m else -1) (-1) (m-1) (by omega)
  have b:=clip_cases (if s.hs then startI s m else m-1) (-1) (m-1) (by omega)
  generalize clipI (if s.he then endI s m else -1) (-1) (m-1)=x at *
  generalize clipI (if s.hs then startI s m else m-1) (-1) (m-1)=y at *
  omega
end
section
open Go.RowKit
theorem below1s (w:World)(a:Obj):Below w.heap.size w (w.alloc a):=(Below.refl w.heap.size w).alloc (Nat.le_refl _) a
def midI (n:Int):Prop:=-20000000000000000≤n∧n≤20000000000000000
theorem okI.mid {n:Int}(h:okI n):midI n:=by unfold okI midI at *;omega
end
section
open Go.RowKit
theorem has_out (s:Sel)(i m:Int)(h:i<0∨m≤i):hasS s i m=false:=by unfold hasS;rw[if_pos h]
theorem has_index (s:Sel) (i m:Int) (h0:0≤i) (h1:i<m) (h2:s.kind=2):hasS s i m=(placeI s.index m==i):=by
 unfold hasS
 rw[if_neg (show ¬ (i<0∨m≤i) by omega),if_pos h2]
 by_cases h:placeI s.index m=i
 ·simp[h]
 ·simp[h]
theorem has_none (s:Sel) (i m:Int) (h0:0≤i) (h1:i<m) (h2:s.kind≠2) (h3:s.kind≠3∨s.stride=0):hasS s i m=false:=by
 unfold hasS
 rw[if_neg (show ¬ (i<0∨m≤i) by omega),if_neg h2,if_pos h3]
theorem has_up (s:Sel) (i m:Int) (h0:0≤i) (h1:i<m) (h2:s.kind=3) (h3:0<s.stride):hasS s i m=decide (lowS s m≤i∧i<highI s m∧(i-lowS s m)%s.stride=0):=by
 unfold hasS
 rw[if_neg (show ¬ (i<0∨m≤i) by omega),if_neg (by omega),if_neg (by omega),if_pos h3]
theorem has_down (s:Sel) (i m:Int) (h0:0≤i) (h1:i<m) (h2:s.kind=3) (h3:s.stride<0):hasS s i m=decide (lowS s m<i∧i≤highI s m∧(highI s m-i)%(0-s.stride)=0):=by
 unfold hasS
 rw[if_neg (show ¬ (i<0∨m≤i) by omega),if_neg (by omega),if_neg (by omega),if_neg (by omega)]
end
section
open Go.RowKit
def noT:Tree:=.mk 0 0 0 [] [] []
def itmT (v:Tree)(i:Nat):Tree:=v.items.getD i noT
def stpT (v:Tree)(i:Nat):Pst:=if v.kd=5 then ⟨true,v.names.getD i [],0⟩ else ⟨false,[],i⟩
structure Nd where
 t:Tree
 p:List Pst
def itmN (n:Nd)(i:Nat):Nd:=⟨itmT n.t i,n.p++[stpT n.t i]⟩
def hitT (v:Tree) (i:Nat) (s:Sel):Bool :=
 if v.kd=5 then decide (s.kind=1)||(decide (s.kind=0)&&decide (v.names.getD i []=s.name.data.toList))
 else decide (v.kd=4)&&(decide (s.kind=1)||hasS s i v.items.length)
def childT (v:Tree) (s:Sel):List Nat :=
 if s.kind=3∧s.stride<0 then ((List.range v.items.length).filter fun i=>hitT v i s).reverse else (List.range v.items.length).filter fun i=>hitT v i s
def pickN (s:Sgm)(n:Nd):List Nd:=s.sels.flatMap fun x=>(childT n.t x).map (itmN n)
mutual
def selN (s:Sgm):Tree→List Pst→List Nd
 | .mk kd fr td tx items names,p=>pickN s ⟨.mk kd fr td tx items names,p⟩++(if s.deep then selL s (.mk kd fr td tx items names) items 0 p else [])
def selL (s:Sgm) (v:Tree):List Tree→Nat→List Pst→List Nd
 | [],_,_=>[]
 | t :: ts,i,p=>selN s t (p++[stpT v i])++selL s v ts (i+1) p
end
def rowG (q:List Sgm)(l:List Nd):List Nd:=q.foldl (fun l s=>l.flatMap fun n=>selN s n.t n.p) l
def rowT (v:Tree)(q:List Sgm):List Nd:=rowG q [⟨v,[]⟩]
def atT:Tree→List Nat→Tree
 | v,[]=>v
 | v,i :: r=>atT (itmT v i) r
def stpsT:Tree→List Nat→List Pst
 | _,[]=>[]
 | v,i :: r=>stpT v i :: stpsT (itmT v i) r
def wayT:Tree→List Nat→Prop
 | _,[]=>True
 | v,i :: r=>i<v.items.length∧wayT (itmT v i) r
def ledT:List Nat→Tree→List Sgm→Bool
 | [],_,q=>q.isEmpty
 | _ :: _,_,[]=>false
 | i :: r,v,s :: q=>(s.deep&&ledT r (itmT v i) (s :: q))||((s.sels.any fun x=>hitT v i x)&&ledT r (itmT v i) q)
def ndN (n:Nd)(w:List Nat):Nd:=⟨atT n.t w,n.p++stpsT n.t w⟩
def ndT (v:Tree)(w:List Nat):Nd:=⟨atT v w,stpsT v w⟩
mutual
def allN:Tree→List Pst→List Nat→List (Nd×List Nat)
 | .mk kd fr td tx items names,p,w=>(⟨.mk kd fr td tx items names,p⟩,w) :: allL (.mk kd fr td tx items names) items 0 p w
def allL (v:Tree):List Tree→Nat→List Pst→List Nat→List (Nd×List Nat)
 | [],_,_,_=>[]
 | t :: ts,i,p,w=>allN t (p++[stpT v i]) (w++[i])++allL v ts (i+1) p w
end
def nodesT (v:Tree)(q:List Sgm):List Nd:=((allN v [] []).filter fun x=>ledT x.2 v q).map (·.1)
theorem items_getD (v:Tree) {i:Nat} (h:i<v.items.length):v.items[i]?=some (itmT v i):=by
 unfold itmT
 rw[List.getD_eq_getElem?_getD,List.getElem?_eq_getElem h]
 rfl
theorem mem_child {v:Tree} {s:Sel} {i:Nat}:i∈childT v s↔i<v.items.length∧hitT v i s=true:=by
 unfold childT
 split
 ·rw[List.mem_reverse,List.mem_filter,List.mem_range]
 ·rw[List.mem_filter,List.mem_range]
theorem mem_pick {s:Sgm} {n m:Nd}:m∈pickN s n ↔ ∃ i,i<n.t.items.length∧(s.sels.any fun x=>hitT n.t i x)=true∧m=itmN n i:=by
 unfold pickN
 rw[List.mem_flatMap]
 constructor
 ·rintro ⟨x,hx,h⟩
  obtain ⟨i,hi,rfl⟩:=List.mem_map.1 h
  obtain ⟨h1,h2⟩:=mem_child.1 hi
  exact ⟨i,h1,List.any_eq_true.2 ⟨x,hx,h2⟩,rfl⟩
 ·rintro ⟨i,h1,h2,rfl⟩
  obtain ⟨x,hx,h3⟩:=List.any_eq_true.1 h2
  exact ⟨x,hx,List.mem_map.2 ⟨i,mem_child.2 ⟨h1,h3⟩,rfl⟩⟩
theorem mem_selL {s:Sgm} {v:Tree} {p:List Pst} {m:Nd}:∀ (ts:List Tree) (i0:Nat),m∈selL s v ts i0 p ↔ ∃ j t,ts[j]?=some t∧m∈selN s t (p++[stpT v (i0+j)])
 | [],i0=>by
   rw[selL]
   constructor
   ·intro h;cases h
   ·rintro ⟨j,t,h,_⟩;simp at h
 | t :: ts,i0=>by
   rw[selL,List.mem_append,mem_selL ts (i0+1)]
   constructor
   ·rintro (h|⟨j,u,h1,h2⟩)
    ·exact ⟨0,t,rfl,by rw[Nat.add_zero];exact h⟩
    ·exact ⟨j+1,u,by simpa using h1,by rw[show i0+(j+1)=i0+1+j by omega];exact h2⟩
   ·rintro ⟨j,u,h1,h2⟩
    cases j with
    | zero =>
      obtain rfl:t=u:=by simpa using h1
      rw[Nat.add_zero] at h2
      exact .inl h2
    | succ j=>exact .inr ⟨j,u,by simpa using h1,by rw[show i0+1+j=i0+(j+1) by omega];exact h2⟩
theorem itm_nd (n:Nd)(i:Nat):itmN n i=ndN n [i]:=rfl
theorem nd_cons (n:Nd) (i:Nat) (w:List Nat):ndN n (i :: w)=ndN (itmN n i) w:=by
 unfold ndN itmN
 show (⟨atT (itmT n.t i) w,n.p++stpT n.t i :: stpsT (itmT n.t i) w⟩:Nd)=⟨atT (itmT n.t i) w,(n.p++[stpT n.t i])++stpsT (itmT n.t i) w⟩
 rw[List.append_assoc]
 rfl
theorem at_app:∀ (u:List Nat) (v:Tree) (w:List Nat),atT v (u++w)=atT (atT v u) w
 | [],v,w=>rfl
 | i :: u,v,w=>at_app u (itmT v i) w
theorem stps_app:∀ (u:List Nat) (v:Tree) (w:List Nat),stpsT v (u++w)=stpsT v u++stpsT (atT v u) w
 | [],v,w=>rfl
 | i :: u,v,w=>by
   show stpT v i :: stpsT (itmT v i) (u++w)=stpT v i :: (stpsT (itmT v i) u++stpsT (atT (itmT v i) u) w)
   rw[stps_app u]
theorem way_app:∀ (u:List Nat) (v:Tree) (w:List Nat),wayT v (u++w)↔wayT v u∧wayT (atT v u) w
 | [],v,w=>⟨fun h=>⟨trivial,h⟩,fun h=>h.2⟩
 | i :: u,v,w=>by
   show (i<v.items.length∧wayT (itmT v i) (u++w))↔(i<v.items.length∧wayT (itmT v i) u)∧wayT (atT (itmT v i) u) w
   rw[way_app u]
   exact ⟨fun h=>⟨⟨h.1,h.2.1⟩,h.2.2⟩,fun h=>⟨h.1.1,h.1.2,h.2⟩⟩
theorem nd_app (n:Nd) (u w:List Nat):ndN (ndN n u) w=ndN n (u++w):=by
 unfold ndN
 rw[at_app,stps_app,List.append_assoc]
def SelIn (s:Sgm)(t:Tree):Prop:=∀ (p:List Pst) (m:Nd),m∈selN s t p ↔ ∃ w i,wayT t (w++[i])∧(w=[]∨s.deep=true)∧(s.sels.any fun x=>hitT (atT t w) i x)=true∧m=ndN ⟨t,p⟩ (w++[i])
theorem selIn_of {s:Sgm} (kd:Int) (fr td:Nat) (tx:List UInt8) (items:List Tree) (names:List (List UInt8)) (ih:∀ t∈items,SelIn s t):SelIn s (.mk kd fr td tx items names):=by
 intro p m
 generalize hv:Tree.mk kd fr td tx items names=v
 have hi:v.items=items:=by rw[← hv];rfl
 have e:selN s v p=pickN s ⟨v,p⟩++(if s.deep then selL s v items 0 p else []):=by rw[← hv,selN]
 rw[e,List.mem_append,mem_pick]
 constructor
 ·rintro (⟨i,h1,h2,rfl⟩|h)
  ·exact ⟨[],i,⟨h1,trivial⟩,.inl rfl,h2,rfl⟩
  ·split at h
   ·rename_i hd
    obtain ⟨j,t,h1,h2⟩:=(mem_selL items 0).1 h
    rw[Nat.zero_add] at h2
    have hj:j<v.items.length:=by rw[hi];exact (List.getElem?_eq_some_iff.1 h1).1
    have ht:itmT v j=t:=by
      have:=items_getD v hj
      rw[hi,h1] at this
      exact (Option.some.inj this).symm
    obtain ⟨w,i,g1,g2,g3,rfl⟩:=(ih t (List.mem_of_getElem? h1) _ m).1 h2
    refine ⟨j :: w,i,⟨hj,by rw[ht];exact g1⟩,.inr hd,?_,?_⟩
    ·show (s.sels.any fun x=>hitT (atT (itmT v j) w) i x)=true
     rw[ht];exact g3
    ·rw[List.cons_append,nd_cons]
     unfold itmN
     rw[ht]
   ·cases h
 ·rintro ⟨w,i,h1,h2,h3,rfl⟩
  cases w with
  | nil=>exact .inl ⟨i,h1.1,h3,rfl⟩
  | cons j w =>
    have hd:s.deep=true:=by rcases h2 with h2|h2;cases h2;exact h2
    right
    rw[if_pos hd,mem_selL]
    have hj:j<v.items.length:=h1.1
    have e1:=items_getD v hj
    rw[hi] at e1
    refine ⟨j,itmT v j,e1,?_⟩
    rw[Nat.zero_add]
    refine (ih _ (List.mem_of_getElem? e1) _ _).2 ⟨w,i,h1.2,.inr hd,h3,?_⟩
    rw[List.cons_append,nd_cons]
    rfl
mutual
theorem sel_in (s:Sgm):∀ t:Tree,SelIn s t
 | .mk kd fr td tx items names=>selIn_of kd fr td tx items names (sel_ins s items)
theorem sel_ins (s:Sgm):∀ ts:List Tree,∀ t∈ts,SelIn s t
 | [],t,h=>by cases h
 | u :: ts,t,h=>by
   rcases List.mem_cons.1 h with e|e
   ·rw[e];exact sel_in s u
   ·exact sel_ins s ts t e
end
theorem led_split (s:Sgm) (q:List Sgm):∀ (w:List Nat) (v:Tree),ledT w v (s :: q)=true ↔ ∃ u i r,w=u++i :: r∧(u=[]∨s.deep=true)∧(s.sels.any fun x=>hitT (atT v u) i x)=true∧ledT r (atT v (u++[i])) q=true
 | [], v=>by
   constructor
   ·intro h;cases h
   ·rintro ⟨u,i,r,h,_⟩
    cases u<;>cases h
 | j :: w,v=>by
   have e:ledT (j :: w) v (s :: q)=((s.deep&&ledT w (itmT v j) (s :: q))||((s.sels.any fun x=>hitT v j x)&&ledT w (itmT v j) q)):=rfl
   rw[e,Bool.or_eq_true,Bool.and_eq_true,Bool.and_eq_true,led_split s q w (itmT v j)]
   constructor
   ·rintro (⟨hd,u,i,r,rfl,_,h2,h3⟩|⟨h1,h2⟩)
    ·exact ⟨j :: u,i,r,rfl,.inr hd,h2,h3⟩
    ·exact ⟨[],j,w,rfl,.inl rfl,h1,h2⟩
   ·rintro ⟨u,i,r,h,hd,h2,h3⟩
    cases u with
    | nil =>
      injection h with h h'
      subst h h'
      exact .inr ⟨h2,h3⟩
    | cons k u =>
      injection h with h h'
      subst h h'
      have hd:s.deep=true:=by rcases hd with hd|hd;cases hd;exact hd
      exact .inl ⟨hd,u,i,r,rfl,.inr hd,h2,h3⟩
theorem rowG_cons (s:Sgm)(q:List Sgm)(l:List Nd):rowG (s :: q) l=rowG q (l.flatMap fun n=>selN s n.t n.p):=rfl
theorem mem_rowG {m:Nd}:∀ (q:List Sgm) (l:List Nd),m∈rowG q l ↔ ∃ n∈l,∃ w,wayT n.t w∧ledT w n.t q=true∧m=ndN n w
 | [], l=>by
   constructor
   ·intro h
    exact ⟨m,h,[],trivial,rfl,by unfold ndN;show m=⟨m.t,m.p++[]⟩;rw[List.append_nil]⟩
   ·rintro ⟨n,h,w,_,h2,rfl⟩
    cases w with
    | nil=>unfold ndN;show (⟨n.t,n.p++[]⟩:Nd)∈rowG [] l;rw[List.append_nil];exact h
    | cons i w=>cases h2
 | s :: q,l=>by
   rw[rowG_cons,mem_rowG q]
   constructor
   ·rintro ⟨n',hn,w,h1,h2,rfl⟩
    obtain ⟨n,hn0,hs⟩:=List.mem_flatMap.1 hn
    obtain ⟨u,i,g1,g2,g3,rfl⟩:=(sel_in s n.t n.p n').1 hs
    refine ⟨n,hn0,(u++[i])++w,(way_app _ _ _).2 ⟨g1,h1⟩,?_,?_⟩
    ·exact (led_split s q _ _).2 ⟨u,i,w,by simp,g2,g3,h2⟩
    ·exact nd_app n (u++[i]) w
   ·rintro ⟨n,hn,w,h1,h2,rfl⟩
    obtain ⟨u,i,r,rfl,g2,g3,g4⟩:=(led_split s q _ _).1 h2
    rw[show u++i :: r=(u++[i])++r by simp] at h1 ⊢
    obtain ⟨f1,f2⟩:=(way_app _ _ _).1 h1
    exact ⟨ndN n (u++[i]),List.mem_flatMap.2 ⟨n,hn,(sel_in s n.t n.p _).2 ⟨u,i,f1,g2,g3,rfl⟩⟩,r,f2,g4,(nd_app n _ r).symm⟩
theorem nd_top (v:Tree)(w:List Nat):ndN ⟨v,[]⟩ w=ndT v w:=rfl
theorem mem_row {v:Tree} {q:List Sgm} {m:Nd}:m∈rowT v q ↔ ∃ w,wayT v w∧ledT w v q=true∧m=ndT v w:=by
 unfold rowT
 rw[mem_rowG]
 constructor
 ·rintro ⟨n,h,w,h1,h2,rfl⟩
  obtain rfl:n=⟨v,[]⟩:=by simpa using h
  exact ⟨w,h1,h2,rfl⟩
 ·rintro ⟨w,h1,h2,rfl⟩
  exact ⟨_,List.mem_cons_self,w,h1,h2,rfl⟩
end
section
open Go.RowKit
theorem mem_allL {v:Tree} {p:List Pst} {w0:List Nat} {x:Nd×List Nat}:∀ (ts:List Tree) (i0:Nat),x∈allL v ts i0 p w0 ↔ ∃ j t,ts[j]?=some t∧x∈allN t (p++[stpT v (i0+j)]) (w0++[i0+j])
 | [],i0=>by
   rw[allL]
   constructor
   ·intro h;cases h
   ·rintro ⟨j,t,h,_⟩;simp at h
 | t :: ts,i0=>by
   rw[allL,List.mem_append,mem_allL ts (i0+1)]
   constructor
   ·rintro (h|⟨j,u,h1,h2⟩)
    ·exact ⟨0,t,rfl,by rw[Nat.add_zero];exact h⟩
    ·exact ⟨j+1,u,by simpa using h1,by rw[show i0+(j+1)=i0+1+j by omega];exact h2⟩
   ·rintro ⟨j,u,h1,h2⟩
    cases j with
    | zero =>
      obtain rfl:t=u:=by simpa using h1
      rw[Nat.add_zero] at h2
      exact .inl h2
    | succ j=>exact .inr ⟨j,u,by simpa using h1,by rw[show i0+1+j=i0+(j+1) by omega];exact h2⟩
def AllIn (t:Tree):Prop:=∀ (p:List Pst) (w0:List Nat) (x:Nd×List Nat),x∈allN t p w0 ↔ ∃ u,wayT t u∧x.1=ndN ⟨t,p⟩ u∧x.2=w0++u
theorem allIn_of (kd:Int) (fr td:Nat) (tx:List UInt8) (items:List Tree) (names:List (List UInt8)) (ih:∀ t∈items,AllIn t):AllIn (.mk kd fr td tx items names):=by
 intro p w0 x
 generalize hv:Tree.mk kd fr td tx items names=v
 have hi:v.items=items:=by rw[← hv];rfl
 have e:allN v p w0=(⟨v,p⟩,w0) :: allL v items 0 p w0:=by rw[← hv,allN]
 rw[e,List.mem_cons,mem_allL]
 constructor
 ·rintro (rfl|⟨j,t,h1,h2⟩)
  ·exact ⟨[],trivial,by unfold ndN;show (⟨v,p⟩:Nd)=⟨v,p++[]⟩;rw[List.append_nil],by rw[List.append_nil]⟩
  ·rw [Nat.zero_add] at h2
   have hj:j<v.items.length:=by rw[hi];exact (List.getElem?_eq_some_iff.1 h1).1
   have ht:itmT v j=t:=by
     have:=items_getD v hj
     rw[hi,h1] at this
     exact (Option.some.inj this).symm
   obtain ⟨u,g1,g2,g3⟩:=(ih t (List.mem_of_getElem? h1) _ _ x).1 h2
   refine ⟨j :: u,⟨hj,by rw[ht];exact g1⟩,?_,by rw[g3,List.append_assoc];rfl⟩
   rw[g2,nd_cons]
   unfold itmN
   rw[ht]
 ·rintro ⟨u,h1,h2,h3⟩
  cases u with
  | nil =>
    left
    obtain ⟨a,b⟩:=x
    have h2:a=ndN ⟨v,p⟩ []:=h2
    have h3:b=w0++[]:=h3
    rw[h2,h3,List.append_nil]
    unfold ndN
    show ((⟨v,p++[]⟩:Nd),w0)=_
    rw[List.append_nil]
  | cons j u =>
    have hj:j<v.items.length:=h1.1
    have e1:=items_getD v hj
    rw[hi] at e1
    refine .inr ⟨j,itmT v j,e1,?_⟩
    rw[Nat.zero_add]
    exact (ih _ (List.mem_of_getElem? e1) _ _ _).2 ⟨u,h1.2,by rw[h2,nd_cons];rfl,by rw[h3,List.append_assoc];rfl⟩
mutual
theorem all_in:∀ t:Tree,AllIn t
 | .mk kd fr td tx items names=>allIn_of kd fr td tx items names (all_ins items)
theorem all_ins:∀ ts:List Tree,∀ t∈ts,AllIn t
 | [],t,h=>by cases h
 | u :: ts,t,h=>by
   rcases List.mem_cons.1 h with e|e
   ·rw[e];exact all_in u
   ·exact all_ins ts t e
end
theorem mem_nodes {v:Tree} {q:List Sgm} {m:Nd}:m∈nodesT v q ↔ ∃ w,wayT v w∧ledT w v q=true∧m=ndT v w:=by
 unfold nodesT
 rw[List.mem_map]
 constructor
 ·rintro ⟨x,hx,rfl⟩
  obtain ⟨h1,h2⟩:=List.mem_filter.1 hx
  obtain ⟨u,g1,g2,g3⟩:=(all_in v [] [] x).1 h1
  have g3:x.2=u:=g3
  exact ⟨u,g1,by rw[← g3];exact h2,g2⟩
 ·rintro ⟨w,h1,h2,rfl⟩
  exact ⟨(ndT v w,w),List.mem_filter.2 ⟨(all_in v [] [] _).2 ⟨w,h1,rfl,rfl⟩,h2⟩,rfl⟩
theorem nodes_row {v:Tree}{q:List Sgm}{m:Nd}:m∈nodesT v q↔m∈rowT v q:=mem_nodes.trans mem_row.symm
mutual
def OrdT:Tree→Nat→Nat→Prop
 | .mk kd fr td tx items names,i,j=>i≤fr∧fr<td∧td≤j∧OrdL items (fr+1) td
def OrdL:List Tree→Nat→Nat→Prop
 | [],_,_=>True
 | t :: ts,i,j=>OrdT t i j∧OrdL ts t.to j
end
theorem ordT_iff (t:Tree) (i j:Nat):OrdT t i j↔i≤t.fr∧t.fr<t.to∧t.to≤j∧OrdL t.items (t.fr+1) t.to:=by
 obtain ⟨kd,fr,td,tx,items,names⟩:=t
 rw[OrdT]
 exact Iff.rfl
theorem ordL_at:∀ (ts:List Tree) (i j k:Nat) (t:Tree),OrdL ts i j→ts[k]?=some t→OrdT t i j
 | [],i,j,k,t,h,e=>by simp at e
 | u :: ts,i,j,0,t,h,e=>by
   rw[OrdL] at h
   obtain rfl:u=t:=by simpa using e
   exact h.1
 | u :: ts,i,j,k+1,t,h,e=>by
   rw[OrdL] at h
   have h2:=(ordT_iff _ _ _).1 h.1
   have h3:=(ordT_iff _ _ _).1 (ordL_at ts u.to j k t h.2 (by simpa using e))
   exact (ordT_iff _ _ _).2 ⟨by omega,h3.2⟩
theorem ordL_two:∀ (ts:List Tree) (i j k m:Nat) (t u:Tree),OrdL ts i j→k<m→ts[k]?=some t→ts[m]?=some u→t.to≤u.fr
 | [],i,j,k,m,t,u,h,hk,e,_=>by simp at e
 | x :: ts,i,j,k,0,t,u,h,hk,e,_=>by omega
 | x :: ts,i,j,0,m+1,t,u,h,hk,e,e'=>by
   rw[OrdL] at h
   obtain rfl:x=t:=by simpa using e
   exact ((ordT_iff _ _ _).1 (ordL_at ts x.to j m u h.2 (by simpa using e'))).1
 | x :: ts,i,j,k+1,m+1,t,u,h,hk,e,e'=>by
   rw[OrdL] at h
   exact ordL_two ts x.to j k m t u h.2 (by omega) (by simpa using e) (by simpa using e')
theorem ord_itm {v:Tree} {i j k:Nat} (h:OrdT v i j) (hk:k<v.items.length):OrdT (itmT v k) (v.fr+1) v.to :=
 ordL_at _ _ _ k _ ((ordT_iff _ _ _).1 h).2.2.2 (items_getD v hk)
theorem ord_two {v:Tree} {i j k m:Nat} (h:OrdT v i j) (hk:k<m) (hm:m<v.items.length):(itmT v k).to≤(itmT v m).fr :=
 ordL_two _ _ _ k m _ _ ((ordT_iff _ _ _).1 h).2.2.2 hk (items_getD v (by omega)) (items_getD v hm)
theorem ord_at:∀ (w:List Nat) (v:Tree) (i j:Nat),OrdT v i j→wayT v w→v.fr≤(atT v w).fr∧(atT v w).fr<v.to∧(w≠[]→v.fr<(atT v w).fr)
 | [],v,i,j,h,_=>by
   have:=(ordT_iff _ _ _).1 h
   exact ⟨Nat.le_refl _,this.2.1,fun e=>absurd rfl e⟩
 | k :: w,v,i,j,h,hw=>by
   have h1:=ord_itm h hw.1
   have h2:=ord_at w (itmT v k) _ _ h1 hw.2
   have h3:=(ordT_iff _ _ _).1 h1
   have e:(atT v (k :: w))=atT (itmT v k) w:=rfl
   rw[e]
   exact ⟨by omega,by omega,fun _=>by omega⟩
theorem place_inj:∀ (w w':List Nat) (v:Tree) (i j:Nat),OrdT v i j→wayT v w→wayT v w'→(atT v w).fr=(atT v w').fr→w=w'
 | [],[],v,i,j,h,_,_,e=>rfl
 | [],k :: w',v,i,j,h,h1,h2,e=>by
   have:=(ord_at _ v i j h h2).2.2 (by simp)
   have e:v.fr=(atT v (k :: w')).fr:=e
   omega
 | k :: w,[],v,i,j,h,h1,h2,e=>by
   have:=(ord_at _ v i j h h1).2.2 (by simp)
   have e:(atT v (k :: w)).fr=v.fr:=e
   omega
 | k :: w,k' :: w',v,i,j,h,h1,h2,e=>by
   have e:(atT (itmT v k) w).fr=(atT (itmT v k') w').fr:=e
   have g1:=ord_at w _ _ _ (ord_itm h h1.1) h1.2
   have g2:=ord_at w' _ _ _ (ord_itm h h2.1) h2.2
   by_cases hk:k=k'
   ·subst hk
    rw[place_inj w w' _ _ _ (ord_itm h h1.1) h1.2 h2.2 e]
   ·exfalso
    by_cases hlt:k<k'
    ·have:=ord_two h hlt h2.1
     omega
    ·have:=ord_two h (show k'<k by omega) h1.1
     omega
def AllOrd (t:Tree):Prop:=∀ (i j:Nat) (p:List Pst) (w:List Nat),OrdT t i j→(allN t p w).Pairwise (fun a b=>a.1.t.fr<b.1.t.fr) ∧ ∀ a∈allN t p w,t.fr≤a.1.t.fr∧a.1.t.fr<t.to
theorem allL_ord {v:Tree} {p:List Pst} {w:List Nat}:∀ (ts:List Tree) (i j k:Nat),(∀ t∈ts,AllOrd t)→OrdL ts i j→(allL v ts k p w).Pairwise (fun a b=>a.1.t.fr<b.1.t.fr) ∧ ∀ a∈allL v ts k p w,i≤a.1.t.fr∧a.1.t.fr<j
 | [],i,j,k,ih,h=>by
   rw[allL]
   exact ⟨List.Pairwise.nil,fun a ha=>by cases ha⟩
 | t :: ts,i,j,k,ih,h=>by
   rw[OrdL] at h
   rw[allL]
   have h1:=ih t List.mem_cons_self i j (p++[stpT v k]) (w++[k]) h.1
   have h2:=allL_ord (v:=v) (p:=p) (w:=w) ts t.to j (k+1) (fun u hu=>ih u (List.mem_cons_of_mem _ hu)) h.2
   have h3:=(ordT_iff _ _ _).1 h.1
   refine ⟨List.pairwise_append.2 ⟨h1.1,h2.1,fun a ha b hb => ?_⟩,fun a ha => ?_⟩
   ·have:=h1.2 a ha
    have:=h2.2 b hb
    omega
   ·rcases List.mem_append.1 ha with ha|ha
    ·have:=h1.2 a ha
     omega
    ·have:=h2.2 a ha
     omega
theorem allOrd_of (kd:Int) (fr td:Nat) (tx:List UInt8) (items:List Tree) (names:List (List UInt8)) (ih:∀ t∈items,AllOrd t):AllOrd (.mk kd fr td tx items names):=by
 intro i j p w h
 rw[OrdT] at h
 obtain ⟨h1,h2,h3,h4⟩:=h
 have hL:=allL_ord (v:=.mk kd fr td tx items names) (p:=p) (w:=w) items (fr+1) td 0 ih h4
 rw[allN]
 refine ⟨List.pairwise_cons.2 ⟨fun b hb => ?_,hL.1⟩,fun a ha => ?_⟩
 ·show fr<b.1.t.fr
  have:=hL.2 b hb
  omega
 ·show fr≤a.1.t.fr∧a.1.t.fr<td
  rcases List.mem_cons.1 ha with rfl|ha
  ·exact ⟨Nat.le_refl _,h2⟩
  ·have:=hL.2 a ha
   omega
mutual
theorem all_ord:∀ t:Tree,AllOrd t
 | .mk kd fr td tx items names=>allOrd_of kd fr td tx items names (all_ords items)
theorem all_ords:∀ ts:List Tree,∀ t∈ts,AllOrd t
 | [],t,h=>by cases h
 | u :: ts,t,h=>by
   rcases List.mem_cons.1 h with e|e
   ·rw[e];exact all_ord u
   ·exact all_ords ts t e
end
theorem nodes_ord {v:Tree} {i j:Nat} (h:OrdT v i j) (q:List Sgm):(nodesT v q).Pairwise (fun a b=>a.t.fr<b.t.fr):=by
 unfold nodesT
 rw[List.pairwise_map]
 exact ((all_ord v i j [] [] h).1).filter _
theorem sorted_eq {α:Type} (f:α→Nat):∀ (l m:List α),l.Pairwise (fun a b=>f a<f b)→m.Pairwise (fun a b=>f a<f b)→(∀ x,x∈l↔x∈m)→l=m
 | [],[],_,_,_=>rfl
 | [],b :: m,_,_,h=>by have:=(h b).2 List.mem_cons_self;cases this
 | a :: l,[],_,_,h=>by have:=(h a).1 List.mem_cons_self;cases this
 | a :: l, b :: m,hl,hm,h=>by
   obtain ⟨l1,l2⟩:=List.pairwise_cons.1 hl
   obtain ⟨m1,m2⟩:=List.pairwise_cons.1 hm
   have hab:a=b:=by
     rcases List.mem_cons.1 ((h a).1 List.mem_cons_self) with e|e
     ·exact e
     ·rcases List.mem_cons.1 ((h b).2 List.mem_cons_self) with e'|e'
      ·exact e'.symm
      ·have:=m1 a e
       have:=l1 b e'
       omega
   subst hab
   rw[sorted_eq f l m l2 m2]
   intro x
   constructor
   ·intro hx
    rcases List.mem_cons.1 ((h x).1 (List.mem_cons_of_mem _ hx)) with e|e
    ·subst e;have:=l1 x hx;omega
    ·exact e
   ·intro hx
    rcases List.mem_cons.1 ((h x).2 (List.mem_cons_of_mem _ hx)) with e|e
    ·subst e;have:=m1 x hx;omega
    ·exact e
theorem nodes_uniq {v:Tree} {i j:Nat} (h:OrdT v i j) (q:List Sgm) {l:List Nd} (hl:l.Pairwise (fun a b=>a.t.fr<b.t.fr)) (hm:∀ m,m∈l↔m∈rowT v q):l=nodesT v q :=
 sorted_eq (fun n=>n.t.fr) l _ hl (nodes_ord h q) fun x=>(hm x).trans nodes_row.symm
end
section
open Go.RowKit
theorem nam_cell {w:World} {B:Option Addr} {m:Nat} {names:List (List UInt8)} (h:RdG namK w B m names) {i:Nat} (hi:i<names.length):∃ b o:Nat,B=some ⟨b,o,none⟩∧b<w.heap.size∧w.cell? ⟨b,o+i,none⟩=some (.string ⟨(names.getD i []).toArray⟩):=by
 have hm:0<m:=by have:=h.1;omega
 obtain ⟨b,o,e,hlt,_⟩:=h.2 hm
 have hx:names[i]?=some (names.getD i []):=by rw[List.getD_eq_getElem?_getD,List.getElem?_eq_getElem hi];rfl
 have:=h.at e hx (j:=0) (u:=.string ⟨(names.getD i []).toArray⟩) rfl
 rw[show i*namK.n+0=i by show i*1+0=i;omega] at this
 exact ⟨b,o,e,hlt,this⟩
theorem ba_list16 (l:List UInt8):(⟨l.toArray⟩:ByteArray).toList=l:=by simp
theorem name_beq (l:List UInt8) (s:ByteArray):((⟨l.toArray⟩:ByteArray).toList==s.toList)=decide (l=s.data.toList):=by
 have h1:(⟨l.toArray⟩:ByteArray).toList=l:=by simp
 have h2:s.toList=s.data.toList:=by
   have h3:=ba_list16 s.data.toList
   rw[show (⟨s.data.toList.toArray⟩:ByteArray)=s from by simp] at h3
   exact h3
 rw[h1,h2]
 by_cases h:l=s.data.toList
 ·rw[decide_eq_true h,h];simp
 ·rw[decide_eq_false h];exact beq_eq_false_iff_ne.2 h
end
section
open Go.RowKit
def plcK:RowK Nat where
 T:=3
 S:=43
 n:=1
 bytes:=8
 zero:=.int .i64 0
 enc:=fun i=>[.int .i64 i]
 pos:=by decide
 len:=fun _=>rfl
 one:=fun s u h=>by simp at h;subst h;rfl
 under:=Tryz.underlying43
 info:=by kernel_rfl
 zlen:=rfl
 small:=by decide
theorem GRow.keepB {α:Type} {K:RowK α} {w w':World} {base B:Nat} {v:Value} {d:List α} (h:GRow K w base v d) (hb:Below B w w') (hB:w.heap.size≤B):GRow K w' base v d :=
 h.stay fun g hg=>hb.block g (Nat.lt_of_lt_of_le (h.low hg).2 hB)
def preT (v:Tree)(s:Sel)(k:Nat):List Nat:=if s.kind=3∧s.stride<0 then ((List.range k).filter fun i=>hitT v i s).reverse else (List.range k).filter fun i=>hitT v i s
theorem pre_child (v:Tree)(s:Sel):preT v s v.items.length=childT v s:=rfl
theorem pre_zero (v:Tree)(s:Sel):preT v s 0=[]:=by unfold preT;split<;>rfl
theorem pre_not {v:Tree} {s:Sel} {k:Nat} (h:hitT v k s=false):preT v s (k+1)=preT v s k:=by
 unfold preT
 rw[List.range_succ,List.filter_append]
 simp[h]
theorem pre_up {v:Tree} {s:Sel} {k:Nat} (h:hitT v k s=true) (hn:¬ (s.kind=3∧s.stride<0)):preT v s (k+1)=preT v s k++[k]:=by
 unfold preT
 rw[List.range_succ,List.filter_append,if_neg hn,if_neg hn]
 simp[h]
theorem pre_len (v:Tree) (s:Sel) (k:Nat):(preT v s k).length≤k:=by
 have:=List.length_filter_le (fun i=>hitT v i s) (List.range k)
 rw[List.length_range] at this
 unfold preT
 split
 ·rw[List.length_reverse];exact this
 ·exact this
theorem new_plc (w:World) (i:Nat) (base:Nat) (hb:base≤w.heap.size):GRow plcK (w.alloc (.cells #[.int .i64 i] 3)) base (.slice (some ⟨w.heap.size,0,none⟩) 1 1) [i] :=
 GRow.made (K:=plcK) (l:=[i]) w _ rfl (show 1≤maxLen by decide) hb
def ChEnd (l:List Nat)(W:World)(e:Ending)(w':World):Prop:=∃ u,e=.returned u∧GRow plcK w' W.heap.size u l∧Below W.heap.size W w'
end
section
open Go.RowKit
theorem step_size16:(Tryz.prog.info? 86).map (·.size)=some 3:=by kernel_rfl
end
section
open Go.RowKit
def anyS:Sel:=⟨1,⟨#[]⟩,0,0,0,false,false,0⟩
mutual
def ArmT:Tree→Prop
 | .mk kd fr td tx items names=>(items=[]∨kd=4∨kd=5)∧ArmL items
def ArmL:List Tree→Prop
 | []=>True
 | t :: ts=>ArmT t∧ArmL ts
end
theorem armT_iff (v:Tree):ArmT v↔(v.items=[]∨v.kd=4∨v.kd=5)∧ArmL v.items:=by
 obtain ⟨kd,fr,td,tx,items,names⟩:=v
 rw[ArmT]
 exact Iff.rfl
theorem armL_at:∀ (ts:List Tree) (k:Nat) (t:Tree),ArmL ts→ts[k]?=some t→ArmT t
 | [],k,t,h,e=>by simp at e
 | u :: ts,0,t,h,e=>by
   rw[ArmL] at h
   obtain rfl:u=t:=by simpa using e
   exact h.1
 | u :: ts,k+1,t,h,e=>by
   rw[ArmL] at h
   exact armL_at ts k t h.2 (by simpa using e)
theorem arm_at:∀ (w:List Nat) (v:Tree),ArmT v→wayT v w→ArmT (atT v w)
 | [],v,h,_=>h
 | i :: w,v,h,hw=>arm_at w (itmT v i) (armL_at _ i _ ((armT_iff v).1 h).2 (items_getD v hw.1)) hw.2
theorem child_any {v:Tree} (h:ArmT v):childT v anyS=List.range v.items.length:=by
 have h1:=((armT_iff v).1 h).1
 unfold childT
 rw[if_neg (by unfold anyS;simp)]
 rcases h1 with h1|h1
 ·rw[h1];rfl
 ·refine List.filter_eq_self.2 fun i _ => ?_
  unfold hitT anyS
  rcases h1 with h1|h1
  ·rw[if_neg (by omega)];simp[h1]
  ·rw[if_pos h1];simp
def yl (q:List Sgm)(n:Nd)(i:Nat):List Nd:=rowG q [itmN n i]
theorem rowG_flat:∀ (q:List Sgm) (l:List Nd),rowG q l=l.flatMap fun n=>rowG q [n]
 | [],l=>by show l=l.flatMap fun n=>[n];simp
 | s :: q,l=>by
   rw[rowG_cons,rowG_flat q,List.flatMap_assoc]
   congr 1
   funext n
   rw[rowG_cons,← rowG_flat q]
   simp
theorem selL_flat (s:Sgm) (v:Tree) (p:List Pst):∀ (ts:List Tree) (k:Nat),(∀ j t,ts[j]?=some t→v.items[k+j]?=some t)→selL s v ts k p=(List.range ts.length).flatMap fun j=>selN s (itmT v (k+j)) (p++[stpT v (k+j)])
 | [],k,h=>by rw[selL];rfl
 | t :: ts,k,h=>by
   rw[selL,selL_flat s v p ts (k+1) (fun j u hu=>by rw[show k+1+j=k+(j+1) by omega];exact h (j+1) u hu)]
   rw[show (t :: ts).length=ts.length+1 from rfl,List.range_succ_eq_map,List.flatMap_cons,List.flatMap_map]
   have h0:=h 0 t rfl
   have hi:=(List.getElem?_eq_some_iff.1 h0).1
   have e:itmT v (k+0)=t:=by have:=items_getD v hi;rw[h0] at this;exact (Option.some.inj this).symm
   rw[e]
   congr 1
   congr 1
   funext j
   show _=selN s (itmT v (k+(j+1))) (p++[stpT v (k+(j+1))])
   rw[show k+(j+1)=k+1+j by omega]
theorem rowG_node (s:Sgm) (r:List Sgm) (n:Nd):rowG (s :: r) [n]=(s.sels.flatMap fun x=>(childT n.t x).flatMap (yl r n))++(if s.deep then (List.range n.t.items.length).flatMap (yl (s :: r) n) else []):=by
 obtain ⟨v,p⟩:=n
 rw[rowG_cons]
 show rowG r ([(⟨v,p⟩:Nd)].flatMap fun n=>selN s n.t n.p)=_
 have e:selN s v p=pickN s ⟨v,p⟩++(if s.deep then selL s v v.items 0 p else []):=by
   obtain ⟨kd,fr,td,tx,items,names⟩:=v
   rw[selN];rfl
 rw[show ([(⟨v,p⟩:Nd)].flatMap fun n=>selN s n.t n.p)=selN s v p by simp,e,rowG_flat,List.flatMap_append]
 congr 1
 ·unfold pickN
  rw[List.flatMap_assoc]
  congr 1
  funext x
  rw[List.flatMap_map]
  rfl
 ·by_cases hd:s.deep=true
  ·rw[if_pos hd,if_pos hd,selL_flat s v p v.items 0 (fun j t h=>by rw[Nat.zero_add];exact h),List.flatMap_assoc]
   congr 1
   funext i
   rw[Nat.zero_add]
   show _=rowG (s :: r) [itmN ⟨v,p⟩ i]
   rw[rowG_cons,rowG_flat]
   simp[itmN]
  ·rw[if_neg hd,if_neg hd];rfl
mutual
def cstS (s:Sgm) (g:Tree→Nat):Tree→Nat
 | .mk kd fr td tx items names=>2+((s.sels.map fun x=>((childT (.mk kd fr td tx items names) x).map fun i=>g (itmT (.mk kd fr td tx items names) i)).sum).sum+(if s.deep then cstL s g items else 0))
def cstL (s:Sgm) (g:Tree→Nat):List Tree→Nat
 | []=>0
 | t :: ts=>cstS s g t+cstL s g ts
end
def cst:List Sgm→Tree→Nat
 | []=>fun _=>1
 | s :: r=>cstS s (cst r)
theorem cst_pos (q:List Sgm) (t:Tree):0<cst q t:=by
 cases q with
 | nil=>exact Nat.one_pos
 | cons s r=>obtain ⟨kd,fr,td,tx,items,names⟩:=t;show 0<cstS s (cst r) _;rw[cstS];omega
theorem cstL_sum (s:Sgm) (g:Tree→Nat) (v:Tree):∀ (ts:List Tree) (k:Nat),(∀ j t,ts[j]?=some t→v.items[k+j]?=some t)→cstL s g ts=((List.range ts.length).map fun j=>cstS s g (itmT v (k+j))).sum
 | [],k,h=>by rw[cstL];rfl
 | t :: ts,k,h=>by
   rw[cstL,cstL_sum s g v ts (k+1) (fun j u hu=>by rw[show k+1+j=k+(j+1) by omega];exact h (j+1) u hu)]
   rw[show (t :: ts).length=ts.length+1 from rfl,List.range_succ_eq_map,List.map_cons,List.map_map,List.sum_cons]
   have h0:=h 0 t rfl
   have hi:=(List.getElem?_eq_some_iff.1 h0).1
   have e:itmT v (k+0)=t:=by have:=items_getD v hi;rw[h0] at this;exact (Option.some.inj this).symm
   rw[e]
   congr 2
   refine congrArg (fun f=>List.map f (List.range ts.length)) ?_
   funext j
   show cstS s g (itmT v (k+1+j))=cstS s g (itmT v (k+(j+1)))
   rw[show k+(j+1)=k+1+j by omega]
def restV (s:Sgm) (r:List Sgm) (n:Nd) (a:Nat) (l:List Nat):List Nd :=
 if a≤s.sels.length then l.flatMap (yl r n)++((s.sels.drop a).flatMap (fun x=>(childT n.t x).flatMap (yl r n))++(if s.deep then (List.range n.t.items.length).flatMap (yl (s :: r) n) else []))
 else l.flatMap (yl (s :: r) n)
def costV (s:Sgm) (r:List Sgm) (t:Tree) (a:Nat) (l:List Nat):Nat :=
 if a≤s.sels.length then (l.map fun i=>cst r (itmT t i)).sum+(((s.sels.drop a).map fun x=>((childT t x).map fun i=>cst r (itmT t i)).sum).sum+(if s.deep then ((List.range t.items.length).map fun i=>cst (s :: r) (itmT t i)).sum else 0))
 else (l.map fun i=>cst (s :: r) (itmT t i)).sum
theorem rest_fresh (s:Sgm) (r:List Sgm) (n:Nd):restV s r n 0 []=rowG (s :: r) [n]:=by
 rw[rowG_node]
 unfold restV
 rw[if_pos (Nat.zero_le _)]
 rfl
theorem cost_fresh (s:Sgm) (r:List Sgm) (t:Tree):costV s r t 0 []+2=cst (s :: r) t:=by
 have h:cst (s :: r) t=2+((s.sels.map fun x=>((childT t x).map fun i=>cst r (itmT t i)).sum).sum+(if s.deep then cstL s (cst r) t.items else 0)):=by
   obtain ⟨kd,fr,td,tx,items,names⟩:=t
   show cstS s (cst r) _=_
   rw[cstS];rfl
 rw[h]
 unfold costV
 rw[if_pos (Nat.zero_le _),List.drop_zero,cstL_sum s (cst r) t t.items 0 (fun j u hu=>by rw[Nat.zero_add];exact hu)]
 have e:(fun j=>cstS s (cst r) (itmT t (0+j)))=fun i=>cst (s :: r) (itmT t i):=by funext j;rw[Nat.zero_add];rfl
 rw[e]
 simp
 omega
def nxtV (t:Tree) (s:Sgm):Nat→Nat→List Nat→Option (Nat×Nat×List Nat)
 | _,a,i :: l=>some (i,a,l)
 | 0,_,[]=>none
 | f+1,a,[]=>if h:a<s.sels.length then nxtV t s f (a+1) (childT t s.sels[a]) else if a=s.sels.length∧s.deep=true then nxtV t s f (a+1) (childT t anyS) else none
def segV (s:Sgm)(r:List Sgm)(a:Nat):List Sgm:=if a≤s.sels.length then r else s :: r
theorem nxt_more {t:Tree} {s:Sgm} {a:Nat} (h:a<s.sels.length):nxtV t s (s.sels.length+1-a) a []=nxtV t s (s.sels.length+1-(a+1)) (a+1) (childT t s.sels[a]):=by
 rw[show s.sels.length+1-a=(s.sels.length+1-(a+1))+1 by omega,nxtV,dif_pos h]
theorem nxt_deep {t:Tree} {s:Sgm} (h:s.deep=true):nxtV t s (s.sels.length+1-s.sels.length) s.sels.length []=nxtV t s (s.sels.length+1-(s.sels.length+1)) (s.sels.length+1) (childT t anyS):=by
 rw[show s.sels.length+1-s.sels.length=(s.sels.length+1-(s.sels.length+1))+1 by omega,nxtV,dif_neg (by omega),if_pos ⟨rfl,h⟩]
theorem nxt_end {t:Tree} {s:Sgm} {a:Nat} (h:s.sels.length<a∨(a=s.sels.length∧s.deep=false)):nxtV t s (s.sels.length+1-a) a []=none:=by
 rcases h with h|⟨rfl,h⟩
 ·rw[show s.sels.length+1-a=0 by omega,nxtV]
 ·rw[show s.sels.length+1-s.sels.length=0+1 by omega,nxtV,dif_neg (by omega),if_neg (by simp[h])]
theorem nxt_is (s:Sgm) (r:List Sgm) (n:Nd) (ha:ArmT n.t):∀ (f a:Nat) (l:List Nat),f=s.sels.length+1-a→(∀ j∈l,j<n.t.items.length) →
   match nxtV n.t s f a l with
   | none=>restV s r n a l=[]
   | some (i,a',l')=>restV s r n a l=yl (segV s r a') n i++restV s r n a' l'∧costV s r n.t a l=cst (segV s r a') (itmT n.t i)+costV s r n.t a' l'∧i<n.t.items.length∧(∀ j∈l',j<n.t.items.length)∧a≤a'∧a'≤max a (s.sels.length+1)
 | f, a,i :: l,hf,hl=>by
   rw[nxtV]
   refine ⟨?_,?_,hl i List.mem_cons_self,fun j hj=>hl j (List.mem_cons_of_mem _ hj),Nat.le_refl _,by omega⟩
   ·unfold restV segV
    split
    ·rw[List.flatMap_cons,List.append_assoc]
    ·rw[List.flatMap_cons]
   ·unfold costV segV
    split
    ·rw[List.map_cons,List.sum_cons,Nat.add_assoc]
    ·rw[List.map_cons,List.sum_cons]
 | 0,a,[],hf,hl=>by
   rw[nxtV]
   show restV s r n a []=[]
   unfold restV
   rw[if_neg (by omega)]
   rfl
 | f + 1, a,[],hf,hl=>by
   rw[nxtV]
   by_cases h:a<s.sels.length
   ·rw [dif_pos h]
    have ih:=nxt_is s r n ha f (a+1) (childT n.t s.sels[a]) (by omega) (fun j hj=>(mem_child.1 hj).1)
    have e1:restV s r n a []=restV s r n (a+1) (childT n.t s.sels[a]):=by
      unfold restV
      rw[if_pos (show a≤s.sels.length by omega),if_pos (show a+1≤s.sels.length by omega),List.drop_eq_getElem_cons h,List.flatMap_cons,List.flatMap_nil,List.nil_append,List.append_assoc]
    have e2:costV s r n.t a []=costV s r n.t (a+1) (childT n.t s.sels[a]):=by
      unfold costV
      rw[if_pos (show a≤s.sels.length by omega),if_pos (show a+1≤s.sels.length by omega),List.drop_eq_getElem_cons h,List.map_cons,List.sum_cons]
      simp[Nat.add_assoc]
    rw[e1,e2]
    split
    ·rename_i h0
     rw[h0] at ih
     exact ih
    ·rename_i i a' l' h0
     rw[h0] at ih
     exact ⟨ih.1,ih.2.1,ih.2.2.1,ih.2.2.2.1,by have:=ih.2.2.2.2.1;omega,by have:=ih.2.2.2.2.2;omega⟩
   ·rw [dif_neg h]
    by_cases hd:a=s.sels.length∧s.deep=true
    ·rw [if_pos hd]
     obtain ⟨rfl,hd⟩:=hd
     have ih:=nxt_is s r n ha f (s.sels.length+1) (childT n.t anyS) (by omega) (fun j hj=>(mem_child.1 hj).1)
     have e1:restV s r n s.sels.length []=restV s r n (s.sels.length+1) (childT n.t anyS):=by
       unfold restV
       rw[if_pos (Nat.le_refl _),if_neg (show ¬ s.sels.length+1≤s.sels.length by omega),if_pos hd,child_any ha,List.drop_length]
       rfl
     have e2:costV s r n.t s.sels.length []=costV s r n.t (s.sels.length+1) (childT n.t anyS):=by
       unfold costV
       rw[if_pos (Nat.le_refl _),if_neg (show ¬ s.sels.length+1≤s.sels.length by omega),if_pos hd,child_any ha,List.drop_length]
       simp
     rw[e1,e2]
     split
     ·rename_i h0
      rw[h0] at ih
      exact ih
     ·rename_i i a' l' h0
      rw[h0] at ih
      exact ⟨ih.1,ih.2.1,ih.2.2.1,ih.2.2.2.1,by have:=ih.2.2.2.2.1;omega,by have:=ih.2.2.2.2.2;omega⟩
    ·rw[if_neg hd]
     have hal:a=s.sels.length:=by omega
     subst hal
     have hd':s.deep≠true:=fun e=>hd ⟨rfl,e⟩
     show restV s r n s.sels.length []=[]
     unfold restV
     rw[if_pos (Nat.le_refl _),if_neg hd',List.drop_length]
     rfl
end
section
open Go.RowKit
structure Vis where
 n:Nd
 s:Sgm
 r:List Sgm
 a:Nat
 l:List Nat
 h:Nat
structure Cfg where
 st:List Vis
 ov:Nat→Nat→Bool
 row:List Nd
def putO (o:Nat→Nat→Bool)(f k:Nat):Nat→Nat→Bool:=fun f' k'=>if f'=f∧k'=k then true else o f' k'
def numV (q r:List Sgm):Nat:=q.length-r.length
def entC (q:List Sgm) (once:Bool) (n:Nd) (i:Nat) (rest:List Sgm) (c:Cfg):Cfg :=
 if c.ov (itmT n.t i).fr (numV q rest)=true then c else
 match rest with
 | []=>⟨c.st,if once=true then putO c.ov (itmT n.t i).fr (numV q []) else c.ov,c.row++[itmN n i]⟩
 | s :: r=>if (itmT n.t i).items.length=0 then c else ⟨⟨itmN n i,s,r,0,[],c.row.length⟩ :: c.st,c.ov,c.row⟩
def leaC (q:List Sgm)(u:Vis)(st:List Vis)(ov:Nat→Nat→Bool)(row:List Nd):Cfg:=⟨st,if row.length=u.h then putO ov u.n.t.fr (numV q (u.s :: u.r)) else ov,row⟩
def stepC (q:List Sgm) (once:Bool) (c:Cfg):Cfg :=
 match c.st with
 | []=>c
 | u :: st=>match nxtV u.n.t u.s (u.s.sels.length+1-u.a) u.a u.l with
   | none=>leaC q u st c.ov c.row
   | some (i,a,l)=>entC q once u.n i (segV u.s u.r a) ⟨⟨u.n,u.s,u.r,a,l,u.h⟩ :: st,c.ov,c.row⟩
inductive RunM (q:List Sgm) (once:Bool) (v:Tree):Cfg→Prop
 | start (s:Sgm) (r:List Sgm) (h:q=s :: r):RunM q once v ⟨[⟨⟨v,[]⟩,s,r,0,[],0⟩],fun _ _=>false,[]⟩
 | step (c:Cfg) (h:RunM q once v c) (hn:c.st≠[]):RunM q once v (stepC q once c)
theorem put_same (o:Nat→Nat→Bool)(f k:Nat):putO o f k f k=true:=by unfold putO;simp
theorem put_other {o:Nat→Nat→Bool}{f k f' k':Nat}(h:¬ (f'=f∧k'=k)):putO o f k f' k'=o f' k':=by unfold putO;rw[if_neg h]
theorem put_inv {o:Nat→Nat→Bool} {f k f' k':Nat} (h:putO o f k f' k'=true):(f'=f∧k'=k)∨o f' k'=true:=by
 unfold putO at h
 split at h
 ·rename_i e;exact .inl e
 ·exact .inr h
theorem num_drop {q pre r:List Sgm} (h:q=pre++r):q.drop (numV q r)=r∧numV q r≤q.length:=by
 subst h
 unfold numV
 rw[List.length_append,Nat.add_sub_cancel]
 exact ⟨by simp,by omega⟩
theorem num_lt {q pre r:List Sgm} {s:Sgm} (h:q=pre++s :: r):numV q (s :: r)<q.length:=by
 subst h
 unfold numV
 simp
theorem num_step {q pre r:List Sgm} {s:Sgm} (h:q=pre++s :: r):numV q r=numV q (s :: r)+1:=by
 subst h
 unfold numV
 simp
 omega
theorem itm_ndT (v:Tree) (w:List Nat) (i:Nat):itmN (ndT v w) i=ndT v (w++[i]):=by
 rw[itm_nd,← nd_top,nd_app,nd_top]
def prsO (M Q:Nat):List (Nat×Nat):=(List.range M).flatMap fun f=>(List.range (Q+1)).map fun k=>(f,k)
def cntO (M Q:Nat)(o:Nat→Nat→Bool):Nat:=(prsO M Q).countP fun x=>o x.1 x.2
theorem prs_mem {M Q f k:Nat} (hf:f<M) (hk:k≤Q):(f,k)∈prsO M Q:=by
 unfold prsO
 rw[List.mem_flatMap]
 exact ⟨f,List.mem_range.2 hf,List.mem_map.2 ⟨k,List.mem_range.2 (by omega),rfl⟩⟩
theorem prs_len (M Q:Nat):(prsO M Q).length=M*(Q+1):=by
 unfold prsO
 rw[List.length_flatMap]
 have h:∀ l:List Nat,(l.map fun f=>((List.range (Q+1)).map fun k=>(f,k)).length).sum=l.length*(Q+1):=by
   intro l
   induction l with
   | nil=>simp
   | cons x l ih=>rw[List.map_cons,List.sum_cons,ih,List.length_map,List.length_range,List.length_cons,Nat.add_mul];omega
 rw[h,List.length_range]
theorem count_lt {α:Type} {p p':α→Bool} (h:∀ x,p x=true→p' x=true) {y:α} (h1:p y=false) (h2:p' y=true):∀ l:List α,y∈l→l.countP p<l.countP p'
 | [],hy=>by cases hy
 | x :: l,hy=>by
   have hm:∀ l:List α,l.countP p≤l.countP p':=fun l=>List.countP_mono_left (fun x _=>h x)
   rw[List.countP_cons,List.countP_cons]
   by_cases hx:y=x
   ·subst hx
    rw[h1,h2]
    have:=hm l
    simp
    omega
   ·have hy':y∈l:=by
      rcases List.mem_cons.1 hy with e|e
      ·exact absurd e hx
      ·exact e
    have:=count_lt h h1 h2 l hy'
    cases e:p x
    ·cases e':p' x<;>simp<;>omega
    ·rw[h x e];simp;omega
theorem cnt_put {M Q f k:Nat} {o:Nat→Nat→Bool} (hf:f<M) (hk:k≤Q) (h:o f k=false):cntO M Q o+1≤cntO M Q (putO o f k) :=
 Nat.succ_le_of_lt (count_lt (p:=fun x:Nat×Nat=>o x.1 x.2) (p':=fun x:Nat×Nat=>putO o f k x.1 x.2) (y:=(f,k)) (fun x hx=>by
   show putO o f k x.1 x.2=true
   unfold putO
   split
   ·rfl
   ·exact hx) h (put_same o f k) _ (prs_mem hf hk))
theorem cnt_le (M Q:Nat)(o:Nat→Nat→Bool):cntO M Q o≤M*(Q+1):=by rw[← prs_len];exact List.countP_le_length
theorem cnt_zero (M Q:Nat):cntO M Q (fun _ _=>false)=0:=by unfold cntO;simp
structure GoodV (v:Tree) (q:List Sgm) (ov:Nat→Nat→Bool) (m:Nat) (u:Vis):Prop where
 way:∃ w,wayT v w∧u.n=ndT v w
 suf:∃ pre,q=pre++u.s :: u.r
 low:∀ j∈u.l,j<u.n.t.items.length
 few:u.a≤u.s.sels.length+1
 had:u.h≤m
 free:ov u.n.t.fr (numV q (u.s :: u.r))=false
def ChnS:List Vis→Prop
 | []=>True
 | u :: st=>u.n.p.length=st.length∧(∀ x∈st,x.n.p=u.n.p.take x.n.p.length∧x.n.t.fr<u.n.t.fr)∧ChnS st
structure InvA (M:Nat) (v:Tree) (q:List Sgm) (c:Cfg):Prop where
 vis:∀ u∈c.st,GoodV v q c.ov c.row.length u
 chn:ChnS c.st
 dom:∀ f k,c.ov f k=true→f<M∧k≤q.length
structure ItmV (M:Nat) (v:Tree) (q:List Sgm) (n:Nd) (i:Nat) (rest:List Sgm):Prop where
 inn:i<n.t.items.length
 way:∃ w,wayT v (w++[i])∧n=ndT v w∧itmN n i=ndT v (w++[i])
 suf:∃ pre,q=pre++rest
 lt:(itmT n.t i).fr<M
 up:n.t.fr<(itmT n.t i).fr
theorem itm_good {M:Nat} {v:Tree} {q:List Sgm} {u:Vis} {ov:Nat→Nat→Bool} {m:Nat} (ho:OrdT v 0 M) (hu:GoodV v q ov m u) {i a:Nat} (hi:i<u.n.t.items.length):ItmV M v q u.n i (segV u.s u.r a):=by
 obtain ⟨w,hw,e⟩:=hu.way
 obtain ⟨pre,hp⟩:=hu.suf
 have hw2:wayT v (w++[i]):=(way_app w v [i]).2 ⟨hw,by rw[e] at hi;exact hi,trivial⟩
 have e2:itmN u.n i=ndT v (w++[i]):=by rw[e,itm_ndT]
 have e3:itmT u.n.t i=atT v (w++[i]):=congrArg Nd.t e2
 have h1:=ord_at _ v 0 M ho hw2
 have h2:=ord_at _ v 0 M ho hw
 have h0:=(ordT_iff v 0 M).1 ho
 refine ⟨hi,⟨w,hw2,e,e2⟩,?_,by rw[e3];omega,?_⟩
 ·unfold segV
  split
  ·exact ⟨pre++[u.s],by rw[hp];simp⟩
  ·exact ⟨pre,hp⟩
 ·have hx:=itm_ndT v w i
  have:OrdT (atT v w) ((atT v w).fr) ((atT v w).to)∨True:=.inr trivial
  have ha:u.n.t=atT v w:=congrArg Nd.t e
  rw[e3,ha,at_app]
  have hsub:∀ (w:List Nat) (t:Tree) (i j:Nat),OrdT t i j→wayT t w → ∃ i' j',OrdT (atT t w) i' j':=by
    intro w
    induction w with
    | nil=>intro t i j h _;exact ⟨i,j,h⟩
    | cons k w ih=>intro t i j h hw;exact ih (itmT t k) _ _ (ord_itm h hw.1) hw.2
  obtain ⟨i',j',ho'⟩:=hsub w v 0 M ho hw
  have hi':i<(atT v w).items.length:=by rw[ha] at hi;exact hi
  exact (ord_at [i] (atT v w) i' j' ho' ⟨hi',trivial⟩).2.2 (by simp)
theorem ent_cases {P:Cfg→Prop} {q:List Sgm} {once:Bool} {n:Nd} {i:Nat} {rest:List Sgm} {c:Cfg}
   (h1:c.ov (itmT n.t i).fr (numV q rest)=true→P c)
   (h2:rest=[]→c.ov (itmT n.t i).fr (numV q rest)=false→P ⟨c.st,if once=true then putO c.ov (itmT n.t i).fr (numV q []) else c.ov,c.row++[itmN n i]⟩)
   (h3:∀ s r,rest=s :: r→c.ov (itmT n.t i).fr (numV q rest)=false→(itmT n.t i).items.length=0→P c)
   (h4:∀ s r,rest=s :: r→c.ov (itmT n.t i).fr (numV q rest)=false→(itmT n.t i).items.length≠0→P ⟨⟨itmN n i,s,r,0,[],c.row.length⟩ :: c.st,c.ov,c.row⟩):P (entC q once n i rest c):=by
 unfold entC
 by_cases ho:c.ov (itmT n.t i).fr (numV q rest)=true
 ·rw[if_pos ho];exact h1 ho
 ·rw [if_neg ho]
  have ho:c.ov (itmT n.t i).fr (numV q rest)=false:=by simpa using ho
  cases rest with
  | nil=>exact h2 rfl ho
  | cons s r =>
    show P (if (itmT n.t i).items.length=0 then c else _)
    by_cases he:(itmT n.t i).items.length=0
    ·rw[if_pos he];exact h3 s r rfl ho he
    ·rw[if_neg he];exact h4 s r rfl ho he
theorem GoodV.of {v:Tree} {q:List Sgm} {ov ov':Nat→Nat→Bool} {m m':Nat} {u:Vis} (h:GoodV v q ov m u) (hm:m≤m') (hf:ov' u.n.t.fr (numV q (u.s :: u.r))=false):GoodV v q ov' m' u :=
 ⟨h.way,h.suf,h.low,h.few,Nat.le_trans h.had hm,hf⟩
theorem invA_ent {M:Nat} {v:Tree} {q:List Sgm} {once:Bool} {c:Cfg} {u:Vis} {st:List Vis} {i:Nat} {rest:List Sgm} (h:InvA M v q c) (hst:c.st=u :: st) (hi:ItmV M v q u.n i rest):InvA M v q (entC q once u.n i rest c):=by
 obtain ⟨w,hw,e,e2⟩:=hi.way
 obtain ⟨pre,hp⟩:=hi.suf
 refine ent_cases (fun _=>h) (fun hr ho => ?_) (fun _ _ _ _ _=>h) (fun s r hr ho he => ?_)
 ·subst hr
  refine ⟨fun x hx=>(h.vis x hx).of (by simp) ?_,h.chn,fun f k hk => ?_⟩
  ·obtain ⟨p',hp'⟩:=(h.vis x hx).suf
   have:=num_lt hp'
   show (if once=true then putO c.ov (itmT u.n.t i).fr (numV q []) else c.ov) _ _=false
   split
   ·rw[put_other (fun e=>by have:=e.2;unfold numV at *;simp at *;omega)]
    exact (h.vis x hx).free
   ·exact (h.vis x hx).free
  ·have hk:(if once=true then putO c.ov (itmT u.n.t i).fr (numV q []) else c.ov) f k=true:=hk
   split at hk
   ·rcases put_inv hk with ⟨e1,e2⟩|h'
    ·exact ⟨by rw[e1];exact hi.lt,by rw[e2];exact (num_drop hp).2⟩
    ·exact h.dom f k h'
   ·exact h.dom f k hk
 ·subst hr
  refine ⟨fun x hx => ?_,⟨?_,fun x hx => ?_,h.chn⟩,h.dom⟩
  ·rcases List.mem_cons.1 hx with rfl|hx
   ·exact ⟨⟨_,hw,e2⟩,⟨pre,hp⟩,(fun j hj=>by cases hj),Nat.zero_le _,Nat.le_refl _,ho⟩
   ·exact h.vis x hx
  ·have:=h.chn
   rw[hst] at this ⊢
   show (u.n.p++[stpT u.n.t i]).length=st.length+1
   rw[List.length_append,this.1]
   rfl
  ·have hc:=h.chn
   rw[hst] at hc hx
   show x.n.p=(u.n.p++[stpT u.n.t i]).take x.n.p.length∧x.n.t.fr<(itmT u.n.t i).fr
   rcases List.mem_cons.1 hx with rfl|hx
   ·exact ⟨by rw[List.take_left'] ;rfl,hi.up⟩
   ·have h1:=hc.2.1 x hx
    have h2:x.n.p.length≤u.n.p.length:=by
      have:=congrArg List.length h1.1
      rw[List.length_take] at this
      omega
    exact ⟨by rw[List.take_append_of_le_length h2];exact h1.1,Nat.lt_trans h1.2 hi.up⟩
theorem nxt_good {M:Nat} {v:Tree} {q:List Sgm} {c:Cfg} {u:Vis} {st:List Vis} (ha:ArmT v) (h:InvA M v q c) (hst:c.st=u :: st) {i a:Nat} {l:List Nat} (hn:nxtV u.n.t u.s (u.s.sels.length+1-u.a) u.a u.l=some (i,a,l)) :
   InvA M v q ⟨⟨u.n,u.s,u.r,a,l,u.h⟩ :: st,c.ov,c.row⟩∧i<u.n.t.items.length:=by
 have hu:=h.vis u (by rw[hst];exact List.mem_cons_self)
 obtain ⟨w,hw,e⟩:=hu.way
 have hx:=nxt_is u.s u.r u.n (by rw[e];exact arm_at w v ha hw) _ u.a u.l rfl hu.low
 rw[hn] at hx
 obtain ⟨_,_,x3,x4,x5,x6⟩:=hx
 have hc:=h.chn
 rw[hst] at hc
 refine ⟨⟨fun x hx => ?_,hc,h.dom⟩,x3⟩
 rcases List.mem_cons.1 hx with rfl|hx
 ·exact ⟨hu.way,hu.suf,x4,by have:=hu.few;show a≤u.s.sels.length+1;omega,hu.had,hu.free⟩
 ·exact h.vis x (by rw[hst];exact List.mem_cons_of_mem _ hx)
theorem invA_lea {M:Nat} {v:Tree} {q:List Sgm} {c:Cfg} {u:Vis} {st:List Vis} (ho:OrdT v 0 M) (h:InvA M v q c) (hst:c.st=u :: st):InvA M v q (leaC q u st c.ov c.row):=by
 have hu:=h.vis u (by rw[hst];exact List.mem_cons_self)
 obtain ⟨w,hw,e⟩:=hu.way
 obtain ⟨pre,hp⟩:=hu.suf
 have hc:=h.chn
 rw[hst] at hc
 have hf:u.n.t.fr<M:=by
   have h1:=ord_at _ v 0 M ho hw
   have h0:=(ordT_iff v 0 M).1 ho
   have:u.n.t=atT v w:=congrArg Nd.t e
   rw[this];omega
 refine ⟨fun x hx => ?_,hc.2.2,fun f k hk => ?_⟩
 ·have hx':=h.vis x (by rw[hst];exact List.mem_cons_of_mem _ hx)
  have hlt:=(hc.2.1 x hx).2
  refine hx'.of (Nat.le_refl _) ?_
  show (if c.row.length=u.h then putO c.ov u.n.t.fr (numV q (u.s :: u.r)) else c.ov) _ _=false
  split
  ·rw[put_other (fun e=>by have:=e.1;omega)];exact hx'.free
  ·exact hx'.free
 ·have hk:(if c.row.length=u.h then putO c.ov u.n.t.fr (numV q (u.s :: u.r)) else c.ov) f k=true:=hk
  split at hk
  ·rcases put_inv hk with ⟨e1,e2⟩|h'
   ·exact ⟨by rw[e1];exact hf,by rw[e2];exact (num_drop hp).2⟩
   ·exact h.dom f k h'
  ·exact h.dom f k hk
theorem invA_step {M:Nat} {v:Tree} {q:List Sgm} {once:Bool} {c:Cfg} (ha:ArmT v) (ho:OrdT v 0 M) (h:InvA M v q c):InvA M v q (stepC q once c):=by
 unfold stepC
 split
 ·exact h
 ·rename_i u st hst
  split
  ·exact invA_lea ho h hst
  ·rename_i i a l hn
   obtain ⟨h1,h2⟩:=nxt_good ha h hst hn
   have hu:=h.vis u (by rw[hst];exact List.mem_cons_self)
   exact invA_ent (u:=⟨u.n,u.s,u.r,a,l,u.h⟩) h1 rfl (itm_good ho hu h2)
theorem invA_run {M:Nat} {v:Tree} {q:List Sgm} {once:Bool} (ha:ArmT v) (ho:OrdT v 0 M) {c:Cfg} (h:RunM q once v c):InvA M v q c:=by
 induction h with
 | start s r hq =>
   refine ⟨fun u hu => ?_,⟨rfl,(fun x hx=>by cases hx),trivial⟩,(fun f k hk=>by cases hk)⟩
   obtain rfl:u=_:=List.mem_singleton.1 hu
   exact ⟨⟨[],trivial,rfl⟩,⟨[],hq⟩,fun j hj=>(by cases hj),Nat.zero_le _,Nat.le_refl _,rfl⟩
 | step c _ _ ih=>exact invA_step ha ho ih
def costC (c:Cfg):Nat:=(c.st.map fun u=>1+costV u.s u.r u.n.t u.a u.l).sum
theorem cost_step {M:Nat} {v:Tree} {q:List Sgm} {once:Bool} {c:Cfg} (ha:ArmT v) (ho:OrdT v 0 M) (h:InvA M v q c) (hn:c.st≠[]):costC (stepC q once c)<costC c:=by
 unfold stepC
 split
 ·rename_i e;exact absurd e hn
 ·rename_i u st hst
  have hu:=h.vis u (by rw[hst];exact List.mem_cons_self)
  have e0:costC c=1+costV u.s u.r u.n.t u.a u.l+(st.map fun u=>1+costV u.s u.r u.n.t u.a u.l).sum:=by unfold costC;rw[hst,List.map_cons,List.sum_cons]
  rw[e0]
  split
  ·show (st.map fun u=>1+costV u.s u.r u.n.t u.a u.l).sum<_
   omega
  ·rename_i i a l hx
   obtain ⟨w,hw,e⟩:=hu.way
   have hy:=nxt_is u.s u.r u.n (by rw[e];exact arm_at w v ha hw) _ u.a u.l rfl hu.low
   rw[hx] at hy
   obtain ⟨_,x2,_⟩:=hy
   have hpos:=cst_pos (segV u.s u.r a) (itmT u.n.t i)
   rw[x2]
   have eC:∀ (o:Nat→Nat→Bool) (w:List Nd),costC ⟨⟨u.n,u.s,u.r,a,l,u.h⟩ :: st,o,w⟩=1+costV u.s u.r u.n.t a l+(st.map fun u=>1+costV u.s u.r u.n.t u.a u.l).sum:=fun o w=>by unfold costC;rw[List.map_cons,List.sum_cons]
   refine ent_cases (P:=fun c=>costC c<1+(cst (segV u.s u.r a) (itmT u.n.t i)+costV u.s u.r u.n.t a l)+(st.map fun u=>1+costV u.s u.r u.n.t u.a u.l).sum) (fun _ => ?_) (fun _ _ => ?_) (fun _ _ _ _ _ => ?_) (fun s r hr _ _ => ?_)
   ·show costC _<_;rw[eC];omega
   ·show costC _<_;rw[eC];omega
   ·show costC _<_;rw[eC];omega
   ·have:=cost_fresh s r (itmT u.n.t i)
    rw[← hr] at this
    have e5:∀ w:List Nd,costC ⟨⟨itmN u.n i,s,r,0,[],w.length⟩ :: ⟨u.n,u.s,u.r,a,l,u.h⟩ :: st,c.ov,w⟩=(1+costV s r (itmT u.n.t i) 0 [])+(1+costV u.s u.r u.n.t a l+(st.map fun u=>1+costV u.s u.r u.n.t u.a u.l).sum):=fun w=>by unfold costC;rw[List.map_cons,List.sum_cons,List.map_cons,List.sum_cons];rfl
    show costC _<_
    rw[e5]
    omega
end
section
open Go.RowKit
def restU (u:Vis):List Nd:=restV u.s u.r u.n u.a u.l
def remS (st:List Vis):List Nd:=st.flatMap restU
def Yld (row:List Nd):List Nd→List Vis→Prop
 | _,[]=>True
 | acc,u :: st=>rowG (u.s :: u.r) [u.n]=row.drop u.h++(acc++restU u)∧Yld row (acc++restU u) st
theorem yld_more {row:List Nd} {x:Nd}:∀ (st:List Vis) (acc:List Nd),(∀ u∈st,u.h≤row.length)→Yld row (x :: acc) st→Yld (row++[x]) acc st
 | [],acc,_,_=>trivial
 | u :: st,acc,hh,h=>by
   refine ⟨?_,yld_more st _ (fun y hy=>hh y (List.mem_cons_of_mem _ hy)) h.2⟩
   rw[h.1,List.drop_append_of_le_length (hh u List.mem_cons_self),List.append_assoc]
   rfl
structure InvR (v:Tree) (q:List Sgm) (c:Cfg):Prop where
 yld:Yld c.row [] c.st
 tot:rowT v q=c.row++remS c.st
 ovr:∀ f k,c.ov f k=true → ∀ w,wayT v w→(atT v w).fr=f→rowG (q.drop k) [ndT v w]=[]
theorem invR_step {M:Nat} {v:Tree} {q:List Sgm} {c:Cfg} (ha:ArmT v) (ho:OrdT v 0 M) (hA:InvA M v q c) (h:InvR v q c):InvR v q (stepC q false c):=by
 unfold stepC
 split
 ·exact h
 rename_i u st hst
 have hu:=hA.vis u (by rw[hst];exact List.mem_cons_self)
 obtain ⟨w,hw,e⟩:=hu.way
 obtain ⟨pre,hp⟩:=hu.suf
 have hx:=nxt_is u.s u.r u.n (by rw[e];exact arm_at w v ha hw) _ u.a u.l rfl hu.low
 have hy:=h.yld
 have ht:=h.tot
 rw[hst] at hy ht
 split
 ·rename_i hn
  rw[hn] at hx
  have hx:restU u=[]:=hx
  have hy1:=hy.1
  have hy2:=hy.2
  rw[hx] at hy1 hy2
  refine ⟨hy2,?_,fun f k hk w' hw' hf => ?_⟩
  ·rw[ht];show c.row++(restU u++remS st)=c.row++remS st;rw[hx];rfl
  ·have hk:(if c.row.length=u.h then putO c.ov u.n.t.fr (numV q (u.s :: u.r)) else c.ov) f k=true:=hk
   split at hk
   ·rename_i hl
    rcases put_inv hk with ⟨e1,e2⟩|h'
    ·subst e2
     rw[(num_drop hp).1]
     have hww:w'=w:=place_inj w' w v 0 M ho hw' hw (by rw[hf,e1,e];rfl)
     rw[hww,← e,hy1,← hl,List.drop_length]
     rfl
    ·exact h.ovr f k h' w' hw' hf
   ·exact h.ovr f k hk w' hw' hf
 ·rename_i i a l hn
  rw[hn] at hx
  obtain ⟨x1,_,x3,_⟩:=hx
  have x1:restU u=yl (segV u.s u.r a) u.n i++restU ⟨u.n,u.s,u.r,a,l,u.h⟩:=x1
  have hit:=itm_good (a:=a) ho hu x3
  obtain ⟨w1,hw1,e1,e2⟩:=hit.way
  obtain ⟨pre1,hp1⟩:=hit.suf
  have hfr:(itmT u.n.t i).fr=(atT v (w1++[i])).fr:=by
    have:itmT u.n.t i=atT v (w1++[i]):=congrArg Nd.t e2
    rw[this]
  have yT:Yld c.row (yl (segV u.s u.r a) u.n i) (⟨u.n,u.s,u.r,a,l,u.h⟩ :: st):=by
    have g1:=hy.1
    have g2:=hy.2
    rw[List.nil_append,x1] at g1 g2
    exact ⟨g1,g2⟩
  have tT:rowT v q=c.row++(yl (segV u.s u.r a) u.n i++remS (⟨u.n,u.s,u.r,a,l,u.h⟩ :: st)):=by
    rw[ht]
    show c.row++(restU u++remS st)=c.row++(_++(restU ⟨u.n,u.s,u.r,a,l,u.h⟩++remS st))
    rw[x1,List.append_assoc]
  have same:yl (segV u.s u.r a) u.n i=[]→InvR v q ⟨⟨u.n,u.s,u.r,a,l,u.h⟩ :: st,c.ov,c.row⟩:=fun e0=>by
    rw[e0] at yT tT
    exact ⟨yT,tT,h.ovr⟩
  refine ent_cases (fun ho1=>same ?_) (fun hr ho1 => ?_) (fun s r hr ho1 he=>same ?_) (fun s r hr ho1 he => ?_)
  ·have:=h.ovr _ _ ho1 (w1++[i]) hw1 hfr.symm
   rw[(num_drop hp1).1] at this
   unfold yl
   rw[e2];exact this
  ·rw [hr] at yT tT
   have e0:yl [] u.n i=[itmN u.n i]:=rfl
   rw[e0] at yT tT
   refine ⟨yld_more _ _ (fun y hy => ?_) yT,?_,h.ovr⟩
   ·rcases List.mem_cons.1 hy with rfl|hy
    ·exact hu.had
    ·exact (hA.vis y (by rw[hst];exact List.mem_cons_of_mem _ hy)).had
   ·rw[tT,List.append_assoc]
  ·rw[hr]
   unfold yl
   rw[rowG_node]
   have e0:(itmN u.n i).t.items.length=0:=he
   have e3:∀ x,childT (itmN u.n i).t x=[]:=fun x=>List.eq_nil_iff_forall_not_mem.2 fun j hj=>by have:=(mem_child.1 hj).1;omega
   rw[e0]
   simp[e3]
  ·rw [hr] at yT tT
   have e0:yl (s :: r) u.n i=restU ⟨itmN u.n i,s,r,0,[],c.row.length⟩:=(rest_fresh s r _).symm
   rw[e0] at yT tT
   refine ⟨⟨?_,?_⟩,?_,h.ovr⟩
   ·show rowG (s :: r) [itmN u.n i]=c.row.drop c.row.length++([]++restU _)
    rw[List.drop_length]
    exact (rest_fresh s r _).symm
   ·exact yT
   ·rw[tT];rfl
theorem invR_run {M:Nat} {v:Tree} {q:List Sgm} (ha:ArmT v) (ho:OrdT v 0 M) {c:Cfg} (h:RunM q false v c):InvR v q c:=by
 induction h with
 | start s r hq =>
   subst hq
   have e0:restU ⟨⟨v,[]⟩,s,r,0,[],0⟩=rowG (s :: r) [⟨v,[]⟩]:=rest_fresh s r _
   refine ⟨⟨?_,trivial⟩,?_,fun f k hk=>by cases hk⟩
   ·show _=([]:List Nd)++([]++restU _);rw[e0];rfl
   ·show rowT v (s :: r)=[]++(restU _++[]);rw[e0,List.append_nil];rfl
 | step c hc _ ih=>exact invR_step ha ho (invA_run ha ho hc) ih
theorem row_done {M:Nat} {v:Tree} {q:List Sgm} (ha:ArmT v) (ho:OrdT v 0 M) {c:Cfg} (h:RunM q false v c) (hs:c.st=[]):c.row=rowT v q:=by
 have:=(invR_run ha ho h).tot
 rw[hs] at this
 rw[this]
 show c.row=c.row++[]
 rw[List.append_nil]
theorem row_short {M:Nat} {v:Tree} {q:List Sgm} (ha:ArmT v) (ho:OrdT v 0 M) {c:Cfg} (h:RunM q false v c):c.row.length≤(rowT v q).length:=by
 rw[(invR_run ha ho h).tot,List.length_append]
 omega
def YldM (row:List Nd):List Nd→List Vis→Prop
 | _,[]=>True
 | acc,u :: st=>(∀ m∈rowG (u.s :: u.r) [u.n],m∈row∨m∈acc++restU u)∧YldM row (acc++restU u) st
theorem yldM_imp {row row':List Nd}:∀ (st:List Vis) (acc acc':List Nd),(∀ m,m∈row∨m∈acc→m∈row'∨m∈acc')→YldM row acc st→YldM row' acc' st
 | [],acc,acc',_,_=>trivial
 | u :: st,acc,acc',hi,h=>by
   have hi':∀ m,m∈row∨m∈acc++restU u→m∈row'∨m∈acc'++restU u:=fun m hm=>by
     rw[List.mem_append] at hm ⊢
     rcases hm with hm|hm|hm
     ·rcases hi m (.inl hm) with g|g
      ·exact .inl g
      ·exact .inr (.inl g)
     ·rcases hi m (.inr hm) with g|g
      ·exact .inl g
      ·exact .inr (.inl g)
     ·exact .inr (.inr hm)
   exact ⟨fun m hm=>hi' m (h.1 m hm),yldM_imp st _ _ hi' h.2⟩
structure InvO (v:Tree) (q:List Sgm) (c:Cfg):Prop where
 yld:YldM c.row [] c.st
 tot:∀ m,m∈rowT v q↔m∈c.row∨m∈remS c.st
 ovr:∀ f k,c.ov f k=true → ∀ w,wayT v w→(atT v w).fr=f → ∀ m∈rowG (q.drop k) [ndT v w],m∈c.row
 one:c.row.Pairwise fun a b=>a.t.fr≠b.t.fr
 had:∀ m∈c.row,c.ov m.t.fr q.length=true
theorem invO_step {M:Nat} {v:Tree} {q:List Sgm} {c:Cfg} (ha:ArmT v) (ho:OrdT v 0 M) (hA:InvA M v q c) (h:InvO v q c):InvO v q (stepC q true c):=by
 unfold stepC
 split
 ·exact h
 rename_i u st hst
 have hu:=hA.vis u (by rw[hst];exact List.mem_cons_self)
 obtain ⟨w,hw,e⟩:=hu.way
 obtain ⟨pre,hp⟩:=hu.suf
 have hx:=nxt_is u.s u.r u.n (by rw[e];exact arm_at w v ha hw) _ u.a u.l rfl hu.low
 have hy:=h.yld
 have ht:=h.tot
 rw[hst] at hy ht
 split
 ·rename_i hn
  rw[hn] at hx
  have hx:restU u=[]:=hx
  have hy1:=hy.1
  have hy2:=hy.2
  rw[hx] at hy1 hy2
  refine ⟨hy2,fun m => ?_,fun f k hk w' hw' hf m hm => ?_,h.one,fun m hm => ?_⟩
  ·rw[ht m]
   show m∈c.row∨m∈restU u++remS st↔m∈c.row∨m∈remS st
   rw[hx];rfl
  ·have hk:(if c.row.length=u.h then putO c.ov u.n.t.fr (numV q (u.s :: u.r)) else c.ov) f k=true:=hk
   split at hk
   ·rcases put_inv hk with ⟨e1,e2⟩|h'
    ·subst e2
     rw[(num_drop hp).1] at hm
     have hww:w'=w:=place_inj w' w v 0 M ho hw' hw (by rw[hf,e1,e];rfl)
     rw[hww,← e] at hm
     rcases hy1 m hm with g|g
     ·exact g
     ·cases g
    ·exact h.ovr f k h' w' hw' hf m hm
   ·exact h.ovr f k hk w' hw' hf m hm
  ·have g:=h.had m hm
   show (if c.row.length=u.h then putO c.ov u.n.t.fr (numV q (u.s :: u.r)) else c.ov) _ _=true
   split
   ·unfold putO
    split
    ·rfl
    ·exact g
   ·exact g
 ·rename_i i a l hn
  rw[hn] at hx
  obtain ⟨x1,_,x3,_⟩:=hx
  have x1:restU u=yl (segV u.s u.r a) u.n i++restU ⟨u.n,u.s,u.r,a,l,u.h⟩:=x1
  have hit:=itm_good (a:=a) ho hu x3
  obtain ⟨w1,hw1,e1,e2⟩:=hit.way
  obtain ⟨pre1,hp1⟩:=hit.suf
  have hfr:(itmT u.n.t i).fr=(atT v (w1++[i])).fr:=by
    have:itmT u.n.t i=atT v (w1++[i]):=congrArg Nd.t e2
    rw[this]
  have yT:YldM c.row (yl (segV u.s u.r a) u.n i) (⟨u.n,u.s,u.r,a,l,u.h⟩ :: st):=by
    have g1:=hy.1
    have g2:=hy.2
    rw[List.nil_append,x1] at g1 g2
    exact ⟨g1,g2⟩
  have tT:∀ m,m∈rowT v q↔m∈c.row∨m∈yl (segV u.s u.r a) u.n i∨m∈remS (⟨u.n,u.s,u.r,a,l,u.h⟩ :: st):=fun m=>by
    rw[ht m]
    show m∈c.row∨m∈restU u++remS st↔m∈c.row∨m∈_∨m∈restU ⟨u.n,u.s,u.r,a,l,u.h⟩++remS st
    rw[x1,List.append_assoc,List.mem_append]
  have same:(∀ m∈yl (segV u.s u.r a) u.n i,m∈c.row)→InvO v q ⟨⟨u.n,u.s,u.r,a,l,u.h⟩ :: st,c.ov,c.row⟩:=fun e0=>by
    refine ⟨yldM_imp _ _ _ (fun m hm => ?_) yT,fun m => ?_,h.ovr,h.one,h.had⟩
    ·rcases hm with hm|hm
     ·exact .inl hm
     ·exact .inl (e0 m hm)
    ·rw [tT m]
     constructor
     ·rintro (g|g|g)
      ·exact .inl g
      ·exact .inl (e0 m g)
      ·exact .inr g
     ·rintro (g|g)
      ·exact .inl g
      ·exact .inr (.inr g)
  refine ent_cases (fun ho1=>same fun m hm => ?_) (fun hr ho1 => ?_) (fun s r hr ho1 he=>same ?_) (fun s r hr ho1 he => ?_)
  ·refine h.ovr _ _ ho1 (w1++[i]) hw1 hfr.symm m ?_
   rw[(num_drop hp1).1]
   unfold yl at hm
   rw[e2] at hm;exact hm
  ·rw [hr] at yT tT ho1
   have e0:yl [] u.n i=[itmN u.n i]:=rfl
   rw[e0] at yT tT
   have eq:numV q []=q.length:=by unfold numV;simp
   rw[eq] at ho1
   have ho1:c.ov (itmT u.n.t i).fr q.length=false:=ho1
   refine ⟨yldM_imp _ _ _ (fun m hm => ?_) yT,fun m => ?_,fun f k hk w' hw' hf m hm => ?_,?_,fun m hm => ?_⟩
   ·rcases hm with hm|hm
    ·exact .inl (List.mem_append_left _ hm)
    ·exact .inl (List.mem_append_right _ hm)
   ·rw[tT m]
    show _↔m∈c.row++[itmN u.n i]∨m∈remS _
    rw[List.mem_append,or_assoc]
   ·have hk:(if true=true then putO c.ov (itmT u.n.t i).fr (numV q []) else c.ov) f k=true:=hk
    rw[if_pos rfl] at hk
    show m∈c.row++[itmN u.n i]
    rw[List.mem_append]
    rcases put_inv hk with ⟨k1,k2⟩|h'
    ·rw[k2,eq,List.drop_length] at hm
     have hm:m∈[ndT v w']:=hm
     have hww:w'=w1++[i]:=place_inj w' _ v 0 M ho hw' hw1 (by rw[hf,k1,hfr])
     rw[hww,← e2] at hm
     exact .inr hm
    ·exact .inl (h.ovr f k h' w' hw' hf m hm)
   ·show (c.row++[itmN u.n i]).Pairwise _
    refine List.pairwise_append.2 ⟨h.one,List.pairwise_singleton _ _,fun x hx y hy hf => ?_⟩
    obtain rfl:=List.mem_singleton.1 hy
    have g:=h.had x hx
    have hf:x.t.fr=(itmT u.n.t i).fr:=hf
    rw[hf,ho1] at g
    cases g
   ·show (if true=true then putO c.ov (itmT u.n.t i).fr (numV q []) else c.ov) m.t.fr q.length=true
    rw[if_pos rfl,eq]
    rcases List.mem_append.1 hm with hm|hm
    ·unfold putO
     split
     ·rfl
     ·exact h.had m hm
    ·obtain rfl:=List.mem_singleton.1 hm
     exact put_same _ _ _
  ·rw[hr]
   unfold yl
   rw[rowG_node]
   have e0:(itmN u.n i).t.items.length=0:=he
   have e3:∀ x,childT (itmN u.n i).t x=[]:=fun x=>List.eq_nil_iff_forall_not_mem.2 fun j hj=>by have:=(mem_child.1 hj).1;omega
   rw[e0]
   simp[e3]
  ·rw [hr] at yT tT
   have e0:yl (s :: r) u.n i=restU ⟨itmN u.n i,s,r,0,[],c.row.length⟩:=(rest_fresh s r _).symm
   rw[e0] at yT tT
   refine ⟨⟨fun m hm => ?_,yT⟩,fun m => ?_,h.ovr,h.one,h.had⟩
   ·right
    show m∈[]++restU ⟨itmN u.n i,s,r,0,[],c.row.length⟩
    rw[← e0];exact hm
   ·rw[tT m]
    show _↔m∈c.row∨m∈restU ⟨itmN u.n i,s,r,0,[],c.row.length⟩++remS (⟨u.n,u.s,u.r,a,l,u.h⟩ :: st)
    rw[List.mem_append]
theorem invO_run {M:Nat} {v:Tree} {q:List Sgm} (ha:ArmT v) (ho:OrdT v 0 M) {c:Cfg} (h:RunM q true v c):InvO v q c:=by
 induction h with
 | start s r hq =>
   subst hq
   have e0:restU ⟨⟨v,[]⟩,s,r,0,[],0⟩=rowG (s :: r) [⟨v,[]⟩]:=rest_fresh s r _
   refine ⟨⟨fun m hm => ?_,trivial⟩,fun m => ?_,(fun f k hk=>by cases hk),List.Pairwise.nil,(fun m hm=>by cases hm)⟩
   ·right
    show m∈[]++restU _
    rw[e0];exact hm
   ·show m∈rowT v (s :: r)↔m∈[]∨m∈restU _++[]
    rw[e0,List.append_nil]
    exact ⟨fun g=>.inr g,fun g=>by rcases g with g|g;cases g;exact g⟩
 | step c hc _ ih=>exact invO_step ha ho (invA_run ha ho hc) ih
theorem once_done {M:Nat} {v:Tree} {q:List Sgm} (ha:ArmT v) (ho:OrdT v 0 M) {c:Cfg} (h:RunM q true v c) (hs:c.st=[]):(∀ m,m∈c.row↔m∈rowT v q)∧c.row.Pairwise fun a b=>a.t.fr≠b.t.fr:=by
 have hO:=invO_run ha ho h
 refine ⟨fun m => ?_,hO.one⟩
 rw[hO.tot m,hs]
 exact ⟨fun g=>.inl g,fun g=>by rcases g with g|g;exact g;cases g⟩
theorem less_few:∀ (M:Nat) (l:List Nat),l.Pairwise (· ≠ ·)→(∀ x∈l,x<M)→l.length≤M
 | 0,[],_,_=>Nat.le_refl _
 | 0,x :: l,_,h=>by have:=h x List.mem_cons_self;omega
 | M + 1, l,hp,h=>by
   have h1:=less_few M (l.filter fun x=>decide (x≠M)) (hp.filter _) (fun x hx=>by
     obtain ⟨a,b⟩:=List.mem_filter.1 hx
     have:=h x a
     have b:x≠M:=by simpa using b
     omega)
   have h2:∀ l:List Nat,l.Pairwise (· ≠ ·)→l.length≤(l.filter fun x=>decide (x≠M)).length+1:=by
     intro l hp
     induction l with
     | nil=>simp
     | cons x l ih =>
       obtain ⟨p1,p2⟩:=List.pairwise_cons.1 hp
       rw[List.filter_cons]
       by_cases hx:x=M
       ·subst hx
        have e:l.filter (fun y=>decide (y≠x))=l:=List.filter_eq_self.2 fun y hy=>by simpa using (p1 y hy).symm
        rw[if_neg (by simp),e]
        simp
       ·rw[if_pos (by simpa using hx)]
        have:=ih p2
        simp only [List.length_cons]
        omega
   have:=h2 l hp
   omega
theorem once_short {M:Nat} {v:Tree} {q:List Sgm} (ha:ArmT v) (ho:OrdT v 0 M) {c:Cfg} (h:RunM q true v c):c.row.length≤M:=by
 have hO:=invO_run ha ho h
 have hA:=invA_run ha ho h
 have:=less_few M (c.row.map fun n=>n.t.fr) (by rw[List.pairwise_map];exact hO.one) (fun x hx=>by
   obtain ⟨m,hm,rfl⟩:=List.mem_map.1 hx
   exact (hA.dom _ _ (hO.had m hm)).1)
 rwa [List.length_map] at this
theorem chn_short:∀ (u:Vis) (st:List Vis),ChnS (u :: st)→st.length≤u.n.t.fr
 | u,[],_=>Nat.zero_le _
 | u,x :: st,h=>by
   have h1:=chn_short x st h.2.2
   have h2:=(h.2.1 x List.mem_cons_self).2
   simp only [List.length_cons]
   omega
theorem open_short {M:Nat} {v:Tree} {q:List Sgm} {c:Cfg} (ho:OrdT v 0 M) (h:InvA M v q c):c.st.length≤M:=by
 cases hs:c.st with
 | nil=>exact Nat.zero_le _
 | cons u st =>
   have hc:=h.chn
   rw[hs] at hc
   have h1:=chn_short u st hc
   obtain ⟨w,hw,e⟩:=(h.vis u (by rw[hs];exact List.mem_cons_self)).way
   have h2:=ord_at _ v 0 M ho hw
   have h0:=(ordT_iff v 0 M).1 ho
   have:u.n.t=atT v w:=congrArg Nd.t e
   rw[this] at h1
   simp only [List.length_cons]
   omega
theorem once_sorted {M:Nat} {v:Tree} {q:List Sgm} (ho:OrdT v 0 M) {l d:List Nd} (h1:∀ m,m∈l↔m∈rowT v q) (h2:l.Pairwise fun a b=>a.t.fr≠b.t.fr) (hp:d.Perm l) (hs:d.Pairwise fun a b=>a.t.fr≤b.t.fr):d=nodesT v q:=by
 refine nodes_uniq ho q ?_ (fun m=>(hp.mem_iff).trans (h1 m))
 have h3:d.Pairwise fun a b=>a.t.fr≠b.t.fr:=(hp.pairwise_iff (fun {a b} (h:a.t.fr≠b.t.fr)=>h.symm)).2 h2
 exact (h3.and hs).imp fun ⟨g1,g2⟩=>by omega
end
section
open Go.RowKit
theorem pplace_any (i m:Int) (w:World) (hi:midI i) (hm:midI m) :
   Calls Tryz.prog 74 #[.int .i64 i,.int .i64 m] w fun e w'=>e=.returned (.int .i64 (placeI i m))∧w'=w:=by
 obtain ⟨h1,h2⟩:=hi
 obtain ⟨h3,h4⟩:=hm
 by_cases h:i<0
 ·have e:placeI i m=m+i:=by unfold placeI;rw[if_neg (by omega)]
  rw[e]
  go_enter Tryz.func74,Tryz.ntmps74
  go_wp2
  go_ret
  exact ⟨rfl,rfl⟩
 ·have e:placeI i m=i:=by unfold placeI;rw[if_pos (by omega)]
  rw[e]
  go_enter Tryz.func74,Tryz.ntmps74
  go_wp2
  go_ret
  exact ⟨rfl,rfl⟩
theorem clip_max (n lo hi:Int):clipI n lo hi=max lo (min n hi):=by
 unfold clipI
 split<;>split<;>omega
theorem pclip_any (n lo hi:Int) (w:World) :
   Calls Tryz.prog 100 #[.int .i64 n,.int .i64 lo,.int .i64 hi] w fun e w'=>e=.returned (.int .i64 (clipI n lo hi))∧w'=w:=by
 have HC:=hid (clip_max n lo hi)
 go_enter Tryz.func100,Tryz.ntmps100
 go_wp2
 all_goals
   go_ret
   rw[HC.out]
   clear HC
   refine ⟨congrArg (fun x=>Ending.returned (Value.int .i64 x)) ?_,rfl⟩
   first
     | (simp only [Int.min_def,Int.max_def];done)
     | (simp only [Int.min_def,Int.max_def];split at * <;> split at * <;> omega)
theorem pbounds_any (s:Sel) (m:Int) (w:World) (hs:RightI s) (h0:0≤m) (h9:m≤9007199254740992) :
   Calls Tryz.prog 75 #[.agg (selV s),.int .i64 m] w fun e w'=>e=.returned (.tuple #[.int .i64 (lowS s m),.int .i64 (highI s m)])∧Below w.heap.size w w':=by
 have HS:=hid (fun w=>pplace_any s.start m w hs.start.mid ⟨by omega,by omega⟩)
 have HE:=hid (fun w=>pplace_any s.en m w hs.en.mid ⟨by omega,by omega⟩)
 have HC:=hid (fun n lo hi w=>pclip_any n lo hi w)
 have t1:True:=trivial
 obtain ⟨kind,name,index,start,en,hs',he',stride⟩:=s
 have HL:=hid (show lowS ⟨kind,name,index,start,en,hs',he',stride⟩ m=(if stride=0 then 0 else if 0<stride then clipI (if hs' then placeI start m else 0) 0 m else clipI (if he' then placeI en m else -1) (-1) (m-1)) from rfl)
 have HH:=hid (show highI ⟨kind,name,index,start,en,hs',he',stride⟩ m=(if stride=0 then 0 else if 0<stride then clipI (if he' then placeI en m else m) 0 m else clipI (if hs' then placeI start m else m-1) (-1) (m-1)) from rfl)
 rw[HL.out,HH.out]
 clear HL HH hs
 by_cases h1:stride=0
 ·rw [if_pos h1,if_pos h1]
  subst h1
  unfold selV
  cases hs'<;>cases he'
  all_goals
    go_enter Tryz.func75,Tryz.ntmps75
    go_wp2_with (first
      | (go_at_call 74;with_reducible refine (HS.out _).mono ?_;rintro e w' ⟨rfl,rfl⟩)
      | (go_at_call 74;with_reducible refine (HE.out _).mono ?_;rintro e w' ⟨rfl,rfl⟩))
    go_ret2
    exact ⟨rfl,below1s _ _⟩
 rw[if_neg h1,if_neg h1]
 by_cases h2:0<stride
 ·rw [if_pos h2,if_pos h2]
  have h2g:stride>0:=h2
  have h2n:¬ stride<0:=by omega
  unfold selV
  cases hs'<;>cases he'
  all_goals
    go_enter Tryz.func75,Tryz.ntmps75
    go_wp2_with (first
      | (go_at_call 74;with_reducible refine (HS.out _).mono ?_;rintro e w' ⟨rfl,rfl⟩)
      | (go_at_call 74;with_reducible refine (HE.out _).mono ?_;rintro e w' ⟨rfl,rfl⟩)
      | (go_at_call 100;refine (HC.out _ _ _ _).mono ?_;rintro e w' ⟨rfl,rfl⟩))
    go_ret2
    exact ⟨rfl,below1s _ _⟩
 ·rw [if_neg h2,if_neg h2]
  have h2g:¬ stride>0:=h2
  have h2n:stride<0:=by omega
  unfold selV
  cases hs'<;>cases he'
  all_goals
    go_enter Tryz.func75,Tryz.ntmps75
    go_wp2_with (first
      | (go_at_call 74;with_reducible refine (HS.out _).mono ?_;rintro e w' ⟨rfl,rfl⟩)
      | (go_at_call 74;with_reducible refine (HE.out _).mono ?_;rintro e w' ⟨rfl,rfl⟩)
      | (go_at_call 100;refine (HC.out _ _ _ _).mono ?_;rintro e w' ⟨rfl,rfl⟩))
    go_ret2
    exact ⟨rfl,below1s _ _⟩
end
section
open Go.RowKit
def withinI (s:Sel) (i m:Int):Bool :=
 if 0<s.stride then decide (lowS s m≤i∧i<highI s m∧(i-lowS s m)%s.stride=0)
 else if s.stride<0 then decide (lowS s m<i∧i≤highI s m∧(highI s m-i)%(0-s.stride)=0)
 else false
theorem has_within (s:Sel) (i m:Int) (h0:0≤i) (h1:i<m) (h2:s.kind=3):hasS s i m=withinI s i m:=by
 unfold withinI
 by_cases hp:0<s.stride
 ·rw[if_pos hp,has_up s i m h0 h1 h2 hp]
 ·rw[if_neg hp]
  by_cases hn:s.stride<0
  ·rw[if_pos hn,has_down s i m h0 h1 h2 hn]
  ·rw[if_neg hn,has_none s i m h0 h1 (by omega) (.inr (by omega))]
theorem pwithin_any (s:Sel) (i m:Int) (w:World) (hs:RightI s) (h0:0≤m) (h9:m≤9007199254740992) (g0:0≤i) (g1:i<m) :
   Calls Tryz.prog 76 #[.agg (selV s),.int .i64 i,.int .i64 m] w fun e w'=>e=.returned (.bool (withinI s i m))∧Below w.heap.size w w':=by
 have HB:=hid (fun w=>pbounds_any s m w hs h0 h9)
 have hb:=bounds_in s m h0
 have hsb:=hs.stride
 unfold okI at hsb
 unfold withinI
 by_cases hp:0<s.stride
 ·rw [if_pos hp]
  have hp2:s.stride>0:=hp
  have hb1:=hb.2.2.2.2.1 hp
  unfold selV at *
  clear hs
  generalize lowS s m=lo at *
  generalize highI s m=hi at *
  generalize hst2:s.stride=st at *
  have hne:st≠0:=by omega
  by_cases q1:lo≤i
  ·by_cases q2:i<hi
   ·have HD:=hid (show decide (lo≤i∧i<hi∧(i-lo)%st=0)=((i-lo)%st==0) by
      by_cases h:(i-lo)%st=0
      ·simp[h,q1,q2]
      ·simp[h])
    rw[HD.out]
    have hd0:0≤i-lo:=by omega
    go_enter Tryz.func76,Tryz.ntmps76
    go_wp2_with (go_at_call 75;refine (HB.out _).mono ?_;rintro e w2 ⟨rfl,hb2⟩;have ho:=(Own.fresh w 42 #[.int .i64 s.kind,.string s.name,.int .i64 s.index,.int .i64 s.start,.int .i64 s.en,.bool s.hs,.bool s.he,.int .i64 st]).stay hb2 (by simp);have c7:=ho.at 7;simp at c7;clear ho)
    go_ret
    exact ⟨rfl,(below1s _ _).trans (hb2.mono (by simp))⟩
   ·have HD:=hid (show decide (lo≤i∧i<hi∧(i-lo)%st=0)=false from decide_eq_false (fun h=>q2 h.2.1))
    rw[HD.out]
    go_enter Tryz.func76,Tryz.ntmps76
    go_wp2_with (go_at_call 75;refine (HB.out _).mono ?_;rintro e w2 ⟨rfl,hb2⟩;have ho:=(Own.fresh w 42 #[.int .i64 s.kind,.string s.name,.int .i64 s.index,.int .i64 s.start,.int .i64 s.en,.bool s.hs,.bool s.he,.int .i64 st]).stay hb2 (by simp);have c7:=ho.at 7;simp at c7;clear ho)
    go_ret
    exact ⟨rfl,(below1s _ _).trans (hb2.mono (by simp))⟩
  ·have HD:=hid (show decide (lo≤i∧i<hi∧(i-lo)%st=0)=false from decide_eq_false (fun h=>q1 h.1))
   rw[HD.out]
   go_enter Tryz.func76,Tryz.ntmps76
   go_wp2_with (go_at_call 75;refine (HB.out _).mono ?_;rintro e w2 ⟨rfl,hb2⟩;have ho:=(Own.fresh w 42 #[.int .i64 s.kind,.string s.name,.int .i64 s.index,.int .i64 s.start,.int .i64 s.en,.bool s.hs,.bool s.he,.int .i64 st]).stay hb2 (by simp);have c7:=ho.at 7;simp at c7;clear ho)
   go_ret
   exact ⟨rfl,(below1s _ _).trans (hb2.mono (by simp))⟩
 rw[if_neg hp]
 have hp2:¬ s.stride>0:=hp
 by_cases hn:s.stride<0
 ·rw [if_pos hn]
  have hb1:=hb.2.2.2.2.2 hn
  unfold selV at *
  clear hs
  generalize lowS s m=lo at *
  generalize highI s m=hi at *
  generalize hst2:s.stride=st at *
  have hne:st≠0:=by omega
  by_cases q1:lo<i
  ·by_cases q2:i≤hi
   ·have HD:=hid (show decide (lo<i∧i≤hi∧(hi-i)%(0-st)=0)=((hi-i)%st==0) by
      rw[Bool.eq_iff_iff,decide_eq_true_eq,beq_iff_eq,Int.zero_sub,Int.emod_neg]
      exact ⟨fun h=>h.2.2,fun h=>⟨q1,q2,h⟩⟩)
    rw[HD.out]
    have hd0:0≤hi-i:=by omega
    go_enter Tryz.func76,Tryz.ntmps76
    go_wp2_with (go_at_call 75;refine (HB.out _).mono ?_;rintro e w2 ⟨rfl,hb2⟩;have ho:=(Own.fresh w 42 #[.int .i64 s.kind,.string s.name,.int .i64 s.index,.int .i64 s.start,.int .i64 s.en,.bool s.hs,.bool s.he,.int .i64 st]).stay hb2 (by simp);have c7:=ho.at 7;simp at c7;clear ho)
    go_ret
    exact ⟨rfl,(below1s _ _).trans (hb2.mono (by simp))⟩
   ·have HD:=hid (show decide (lo<i∧i≤hi∧(hi-i)%(0-st)=0)=false from decide_eq_false (fun h=>q2 h.2.1))
    rw[HD.out]
    go_enter Tryz.func76,Tryz.ntmps76
    go_wp2_with (go_at_call 75;refine (HB.out _).mono ?_;rintro e w2 ⟨rfl,hb2⟩;have ho:=(Own.fresh w 42 #[.int .i64 s.kind,.string s.name,.int .i64 s.index,.int .i64 s.start,.int .i64 s.en,.bool s.hs,.bool s.he,.int .i64 st]).stay hb2 (by simp);have c7:=ho.at 7;simp at c7;clear ho)
    go_ret
    exact ⟨rfl,(below1s _ _).trans (hb2.mono (by simp))⟩
  ·have HD:=hid (show decide (lo<i∧i≤hi∧(hi-i)%(0-st)=0)=false from decide_eq_false (fun h=>q1 h.1))
   rw[HD.out]
   go_enter Tryz.func76,Tryz.ntmps76
   go_wp2_with (go_at_call 75;refine (HB.out _).mono ?_;rintro e w2 ⟨rfl,hb2⟩;have ho:=(Own.fresh w 42 #[.int .i64 s.kind,.string s.name,.int .i64 s.index,.int .i64 s.start,.int .i64 s.en,.bool s.hs,.bool s.he,.int .i64 st]).stay hb2 (by simp);have c7:=ho.at 7;simp at c7;clear ho)
   go_ret
   exact ⟨rfl,(below1s _ _).trans (hb2.mono (by simp))⟩
 ·rw[if_neg hn]
  unfold selV at *
  clear hs
  generalize lowS s m=lo at *
  generalize highI s m=hi at *
  generalize hst2:s.stride=st at *
  go_enter Tryz.func76,Tryz.ntmps76
  go_wp2_with (go_at_call 75;refine (HB.out _).mono ?_;rintro e w2 ⟨rfl,hb2⟩;have ho:=(Own.fresh w 42 #[.int .i64 s.kind,.string s.name,.int .i64 s.index,.int .i64 s.start,.int .i64 s.en,.bool s.hs,.bool s.he,.int .i64 st]).stay hb2 (by simp);have c7:=ho.at 7;simp at c7;clear ho)
  go_ret
  exact ⟨rfl,(below1s _ _).trans (hb2.mono (by simp))⟩
theorem phas_any (s:Sel) (i m:Int) (w:World) (hs:RightI s) (h0:0≤m) (h9:m≤9007199254740992) :
   Calls Tryz.prog 49 #[.agg (selV s),.int .i64 i,.int .i64 m] w fun e w'=>e=.returned (.bool (hasS s i m))∧Below w.heap.size w w':=by
 by_cases hi0:i<0
 ·rw[has_out s i m (.inl hi0)]
  unfold selV
  go_enter Tryz.func49,Tryz.ntmps49
  go_wp2
  go_ret
  exact ⟨rfl,below1s _ _⟩
 by_cases him:m≤i
 ·rw[has_out s i m (.inr him)]
  have him2:i≥m:=him
  unfold selV
  go_enter Tryz.func49,Tryz.ntmps49
  go_wp2
  go_ret
  exact ⟨rfl,below1s _ _⟩
 have g1:i<m:=by omega
 have g1n:¬ i≥m:=by omega
 have g0:0≤i:=by omega
 by_cases hk:s.kind=2
 ·rw[has_index s i m g0 g1 hk]
  have HP:=hid (fun w=>pplace_any s.index m w hs.index.mid ⟨by omega,by omega⟩)
  have hcm:(i==placeI s.index m)=(placeI s.index m==i):=BEq.comm
  unfold selV
  rw[hk]
  generalize placeI s.index m=x at *
  rw[← hcm]
  clear hcm
  go_enter Tryz.func49,Tryz.ntmps49
  go_wp2_with (go_at_call 74;refine (HP.out _).mono ?_;rintro e w' ⟨rfl,rfl⟩)
  go_ret
  exact ⟨rfl,below1s _ _⟩
 have gk:(s.kind==2)=false:=beq_eq_false_iff_ne.2 hk
 by_cases hk3:s.kind≠3
 ·rw[has_none s i m g0 g1 hk (.inl hk3)]
  have gk3:(s.kind==3)=false:=beq_eq_false_iff_ne.2 hk3
  unfold selV
  clear hs hk hk3
  generalize s.kind=kd at *
  go_enter Tryz.func49,Tryz.ntmps49
  go_wp2
  go_ret
  exact ⟨rfl,below1s _ _⟩
 have hk3:s.kind=3:=Decidable.not_not.1 hk3
 rw[has_within s i m g0 g1 hk3]
 have HW:=hid (fun w=>pwithin_any s i m w hs h0 h9 g0 g1)
 unfold selV at *
 rw[hk3] at *
 clear hs hk hk3 gk
 generalize withinI s i m=x at *
 go_enter Tryz.func49,Tryz.ntmps49
 go_wp2_with (go_at_call 76;refine (HW.out _).mono ?_;rintro e w2 ⟨rfl,hb2⟩)
 go_ret
 exact ⟨rfl,(below1s _ _).trans (hb2.mono (by simp))⟩
def leastI (s:Sel) (m:Int):Int :=
 if s.kind=2 then placeI s.index m else if s.stride<0 then lowS s m+1+(highI s m-lowS s m-1).tmod s.stride else lowS s m
def byI (s:Sel):Int:=if s.kind=2 then 1 else if s.stride<0 then 0-s.stride else s.stride
end
section
open Go.RowKit
def goodA (s:Sel)(m i:Int):Prop:=∀ j,i≤j→hasS s j m=true→hasS s i m=true
theorem has_in {s:Sel} {i m:Int} (h:hasS s i m=true):0≤i∧i<m:=by
 by_cases h0:i<0∨m≤i
 ·rw[has_out s i m h0] at h;cases h
 ·omega
theorem has_yes_index {s:Sel} {i m:Int} (hk:s.kind=2) (h:hasS s i m=true):i=placeI s.index m:=by
 obtain ⟨h0,h1⟩:=has_in h
 rw[has_index s i m h0 h1 hk,beq_iff_eq] at h
 exact h.symm
theorem has_yes_up {s:Sel} {i m:Int} (hk:s.kind=3) (hp:0<s.stride):hasS s i m=true↔0≤i∧i<m∧lowS s m≤i∧i<highI s m∧(i-lowS s m)%s.stride=0:=by
 constructor
 ·intro h
  obtain ⟨h0,h1⟩:=has_in h
  rw[has_up s i m h0 h1 hk hp,decide_eq_true_eq] at h
  exact ⟨h0,h1,h⟩
 ·rintro ⟨h0,h1,h⟩
  rw[has_up s i m h0 h1 hk hp,decide_eq_true_eq]
  exact h
theorem has_yes_down {s:Sel} {i m:Int} (hk:s.kind=3) (hp:s.stride<0):hasS s i m=true↔0≤i∧i<m∧lowS s m<i∧i≤highI s m∧(highI s m-i)%(0-s.stride)=0:=by
 constructor
 ·intro h
  obtain ⟨h0,h1⟩:=has_in h
  rw[has_down s i m h0 h1 hk hp,decide_eq_true_eq] at h
  exact ⟨h0,h1,h⟩
 ·rintro ⟨h0,h1,h⟩
  rw[has_down s i m h0 h1 hk hp,decide_eq_true_eq]
  exact h
theorem has_yes_kind {s:Sel} {i m:Int} (h2:s.kind≠2) (h:hasS s i m=true):s.kind=3∧s.stride≠0:=by
 obtain ⟨h0,h1⟩:=has_in h
 by_cases h3:s.kind≠3∨s.stride=0
 ·rw[has_none s i m h0 h1 h2 h3] at h;cases h
 ·exact ⟨Classical.not_not.1 fun h=>h3 (.inl h),fun h=>h3 (.inr h)⟩
theorem mod_same {a b st:Int} (ha:a%st=0) (hb:b%st=0):(a-b)%st=0:=by
 rw[Int.sub_emod,ha,hb];simp
theorem mod_small {x st:Int} (h0:0≤x) (h1:x<st) (h:x%st=0):x=0:=by
 rw[Int.emod_eq_of_lt h0 h1] at h;exact h
theorem all_step (s:Sel) (m i:Int) (h:hasS s i m=true):0<byI s∧(∀ j,i<j→j<i+byI s→hasS s j m=false)∧goodA s m (i+byI s):=by
 by_cases hk:s.kind=2
 ·have hb:byI s=1:=by unfold byI;rw[if_pos hk]
  rw[hb]
  refine ⟨by omega,fun j h1 h2=>by omega,fun j h1 h2 => ?_⟩
  have e1:=has_yes_index hk h
  have e2:=has_yes_index hk h2
  omega
 obtain ⟨hk3,hst⟩:=has_yes_kind hk h
 by_cases hp:0<s.stride
 ·have hb:byI s=s.stride:=by unfold byI;rw[if_neg hk,if_neg (by omega)]
  rw[hb]
  obtain ⟨a0,a1,a2,a3,a4⟩:=(has_yes_up hk3 hp).1 h
  refine ⟨hp,fun j h1 h2=>Bool.eq_false_iff.2 fun h3 => ?_,fun j h1 h2 => ?_⟩
  ·obtain ⟨b0,b1,b2,b3,b4⟩:=(has_yes_up hk3 hp).1 h3
   have e:=mod_same b4 a4
   rw[show j-lowS s m-(i-lowS s m)=j-i by omega] at e
   have:=mod_small (by omega) (by omega) e
   omega
  ·obtain ⟨b0,b1,b2,b3,b4⟩:=(has_yes_up hk3 hp).1 h2
   refine (has_yes_up hk3 hp).2 ⟨by omega,by omega,by omega,by omega,?_⟩
   rw[show i+s.stride-lowS s m=(i-lowS s m)+s.stride by omega,Int.add_emod_right]
   exact a4
 ·have hn:s.stride<0:=by omega
  have hb:byI s=0-s.stride:=by unfold byI;rw[if_neg hk,if_pos hn]
  rw[hb]
  obtain ⟨a0,a1,a2,a3,a4⟩:=(has_yes_down hk3 hn).1 h
  refine ⟨by omega,fun j h1 h2=>Bool.eq_false_iff.2 fun h3 => ?_,fun j h1 h2 => ?_⟩
  ·obtain ⟨b0,b1,b2,b3,b4⟩:=(has_yes_down hk3 hn).1 h3
   have e:=mod_same a4 b4
   rw[show highI s m-i-(highI s m-j)=j-i by omega] at e
   have:=mod_small (by omega) (by omega) e
   omega
  ·obtain ⟨b0,b1,b2,b3,b4⟩:=(has_yes_down hk3 hn).1 h2
   refine (has_yes_down hk3 hn).2 ⟨by omega,by omega,by omega,by omega,?_⟩
   have e:(highI s m-i-(0-s.stride))%(0-s.stride)=(highI s m-i)%(0-s.stride):=Int.sub_emod_right _ _
   rw[show highI s m-(i+(0-s.stride))=highI s m-i-(0-s.stride) by omega,e]
   exact a4
theorem all_start (s:Sel) (m:Int) (hm:0≤m):(∀ j,j<leastI s m→hasS s j m=false)∧goodA s m (leastI s m):=by
 by_cases hk:s.kind=2
 ·have hb:leastI s m=placeI s.index m:=by unfold leastI;rw[if_pos hk]
  rw[hb]
  refine ⟨fun j h1=>Bool.eq_false_iff.2 fun h3 => ?_,fun j h1 h2 => ?_⟩
  ·have:=has_yes_index hk h3
   omega
  ·have:=has_yes_index hk h2
   rw[this] at h2
   exact h2
 have hbd:=bounds_in s m hm
 by_cases hn:s.stride<0
 ·have hb:leastI s m=lowS s m+1+(highI s m-lowS s m-1).tmod s.stride:=by unfold leastI;rw[if_neg hk,if_pos hn]
  by_cases hlh:highI s m≤lowS s m
  ·have hno:∀ j,hasS s j m=false:=fun j=>Bool.eq_false_iff.2 fun h3=>by
     obtain ⟨hk3,_⟩:=has_yes_kind hk h3
     have:=(has_yes_down hk3 hn).1 h3
     omega
   exact ⟨fun j _=>hno j,fun j _ h=>by rw[hno j] at h;cases h⟩
  obtain ⟨S,hS⟩:∃ S,S=0-s.stride:=⟨_,rfl⟩
  have ht:(highI s m-lowS s m-1).tmod s.stride=(highI s m-lowS s m-1)%S:=by
    rw[Int.tmod_eq_emod_of_nonneg (by omega),hS,Int.zero_sub,Int.emod_neg]
  rw[ht] at hb
  have h1:=Int.emod_nonneg (highI s m-lowS s m-1) (show S≠0 by omega)
  have h2:=Int.emod_lt_of_pos (highI s m-lowS s m-1) (show 0<S by omega)
  have h3:=Int.emod_add_mul_ediv (highI s m-lowS s m-1) S
  have h5:0≤S*((highI s m-lowS s m-1)/S):=Int.mul_nonneg (by omega) (Int.ediv_nonneg (by omega) (by omega))
  have h4:(highI s m-leastI s m)%S=0:=by
    rw[show highI s m-leastI s m=S*((highI s m-lowS s m-1)/S) by omega]
    exact Int.mul_emod_right _ _
  refine ⟨fun j g1=>Bool.eq_false_iff.2 fun g3 => ?_,fun j g1 g2 => ?_⟩
  ·obtain ⟨hk3,_⟩:=has_yes_kind hk g3
   obtain ⟨b0,b1,b2,b3,b4⟩:=(has_yes_down hk3 hn).1 g3
   rw[← hS] at b4
   have e:=mod_same b4 h4
   rw[show highI s m-j-(highI s m-leastI s m)=leastI s m-j by omega] at e
   have:=mod_small (by omega) (by omega) e
   omega
  ·obtain ⟨hk3,_⟩:=has_yes_kind hk g2
   obtain ⟨b0,b1,b2,b3,b4⟩:=(has_yes_down hk3 hn).1 g2
   refine (has_yes_down hk3 hn).2 ⟨by omega,by omega,by omega,by omega,?_⟩
   rw[← hS]
   exact h4
 ·have hb:leastI s m=lowS s m:=by unfold leastI;rw[if_neg hk,if_neg hn]
  rw[hb]
  refine ⟨fun j g1=>Bool.eq_false_iff.2 fun g3 => ?_,fun j g1 g2 => ?_⟩
  ·obtain ⟨hk3,hs0⟩:=has_yes_kind hk g3
   have:=(has_yes_up hk3 (by omega)).1 g3
   omega
  ·obtain ⟨hk3,hs0⟩:=has_yes_kind hk g2
   have hp:0<s.stride:=by omega
   obtain ⟨b0,b1,b2,b3,b4⟩:=(has_yes_up hk3 hp).1 g2
   have:=hbd.2.2.2.2.1 hp
   refine (has_yes_up hk3 hp).2 ⟨by omega,by omega,by omega,by omega,?_⟩
   simp
def aheadI (s:Sel)(n:Nat)(i:Int):List Nat:=(List.range i.toNat).filter fun j=>hasS s j n
theorem filt_none (f:Nat→Bool) (a:Nat):∀ d,(∀ j,a≤j→j<a+d→f j=false)→(List.range (a+d)).filter f=(List.range a).filter f
 | 0,_=>rfl
 | d+1,h=>by
   rw[← Nat.add_assoc,List.range_succ,List.filter_append,filt_none f a d (fun j h1 h2=>h j h1 (by omega))]
   simp[h (a+d) (by omega) (by omega)]
theorem ahead_start (s:Sel) (n:Nat):aheadI s n (leastI s n)=[]:=by
 obtain ⟨h1,_⟩:=all_start s n (by omega)
 unfold aheadI
 have:=filt_none (fun (j:Nat)=>hasS s j n) 0 (leastI s n).toNat (fun j _ h=>h1 j (by omega))
 rw[Nat.zero_add] at this
 rw[this]
 rfl
theorem ahead_next (s:Sel) (n k:Nat) (h:hasS s k n=true):aheadI s n ((k:Int)+byI s)=aheadI s n k++[k]:=by
 obtain ⟨h1,h2,_⟩:=all_step s n k h
 unfold aheadI
 rw[show ((k:Int)+byI s).toNat=(k+1)+((byI s).toNat-1) by omega,filt_none _ _ _ (fun j g1 g2=>h2 j (by omega) (by omega)),List.range_succ,List.filter_append]
 simp[h]
theorem ahead_end (s:Sel) (n:Nat) (i:Int) (hg:goodA s n i) (h:hasS s i n=false):aheadI s n i=allI s n:=by
 unfold aheadI allI
 by_cases hle:i.toNat≤n
 ·have:=filt_none (fun (j:Nat)=>hasS s j n) i.toNat (n-i.toNat) (fun j g1 _=>Bool.eq_false_iff.2 fun h3=>by rw[hg j (by omega) h3] at h;cases h)
  rw[show i.toNat+(n-i.toNat)=n by omega] at this
  exact this.symm
 ·have:=filt_none (fun (j:Nat)=>hasS s j n) n (i.toNat-n) (fun j g1 _=>has_out s j n (.inr (by omega)))
  rw[show n+(i.toNat-n)=i.toNat by omega] at this
  exact this
theorem ahead_few (s:Sel) (n:Nat) (i:Int):(aheadI s n i).length≤n:=by
 have key:∀ k,((List.range k).filter fun (j:Nat)=>hasS s j n).length≤n:=fun k=>by
   by_cases hk:k≤n
   ·have:=List.length_filter_le (fun j:Nat=>hasS s j n) (List.range k)
    rw[List.length_range] at this
    omega
   ·have e:=filt_none (fun (j:Nat)=>hasS s j n) n (k-n) (fun j g1 _=>has_out s j n (.inr (by omega)))
    rw[show n+(k-n)=k by omega] at e
    rw[e]
    have:=List.length_filter_le (fun j:Nat=>hasS s j n) (List.range n)
    rw[List.length_range] at this
    exact this
 exact key _
end
section
open Go.RowKit
def fstI (s:Sel)(m:Int):Int:=if s.kind=2 then placeI s.index m else if s.stride<0 then highI s m else lowS s m
def stpI (s:Sel):Int:=if s.kind=2 then 1 else s.stride
def backS (s:Sel):Prop:=s.kind≠2∧s.stride<0
theorem fst_up {s:Sel} (m:Int) (h:¬ backS s):fstI s m=leastI s m∧stpI s=byI s:=by
 unfold fstI stpI leastI byI
 by_cases hk:s.kind=2
 ·simp[hk]
 ·have:¬ s.stride<0:=fun h'=>h ⟨hk,h'⟩
  simp[hk,this]
def behI (s:Sel)(n:Nat)(i:Int):List Nat:=((List.range n).filter fun j:Nat=>hasS s j n&&decide (i<(j:Int))).reverse
theorem filt_first {f g:Nat→Bool} {k:Nat} (h1:∀ j,j<k→f j=false) (h2:f k=true) (h3:∀ j,j≤k→g j=false) (h4:∀ j,k<j→f j=g j):∀ n,k<n→(List.range n).filter f=k :: (List.range n).filter g
 | 0,h=>by omega
 | n + 1,h=>by
   have none:∀ (p:Nat→Bool) (m:Nat),(∀ j,j<m→p j=false)→(List.range m).filter p=[]:=fun p m hp=>by
     rw[List.filter_eq_nil_iff]
     intro j hj
     rw[hp j (List.mem_range.1 hj)]
     simp
   rw[List.range_succ,List.filter_append,List.filter_append]
   by_cases hk:k=n
   ·subst hk
    rw[none f k h1,none g k (fun j hj=>h3 j (by omega))]
    simp[h2,h3 k (Nat.le_refl _)]
   ·rw[filt_first h1 h2 h3 h4 n (by omega)]
    simp only [List.filter_cons,List.filter_nil,h4 n (by omega),List.cons_append]
def goodDn (s:Sel)(m i:Int):Prop:=∀ j,j≤i→hasS s j m=true→hasS s i m=true
theorem fall_step {s:Sel} {m i:Int} (hb:backS s) (h:hasS s i m=true):(∀ j,i+s.stride<j→j<i→hasS s j m=false)∧goodDn s m (i+s.stride):=by
 obtain ⟨hk3,hst⟩:=has_yes_kind hb.1 h
 have hn:=hb.2
 obtain ⟨a0,a1,a2,a3,a4⟩:=(has_yes_down hk3 hn).1 h
 refine ⟨fun j h1 h2=>Bool.eq_false_iff.2 fun h3 => ?_,fun j h1 h2 => ?_⟩
 ·obtain ⟨b0,b1,b2,b3,b4⟩:=(has_yes_down hk3 hn).1 h3
  have e:=mod_same b4 a4
  rw[show highI s m-j-(highI s m-i)=i-j by omega] at e
  have:=mod_small (by omega) (by omega) e
  omega
 ·obtain ⟨b0,b1,b2,b3,b4⟩:=(has_yes_down hk3 hn).1 h2
  refine (has_yes_down hk3 hn).2 ⟨by omega,by omega,by omega,by omega,?_⟩
  rw[show highI s m-(i+s.stride)=(highI s m-i)+(0-s.stride) by omega,Int.add_emod_right]
  exact a4
theorem fall_start {s:Sel} (n:Nat) (hb:backS s):behI s n (fstI s n)=[]∧goodDn s n (fstI s n):=by
 have e:fstI s n=highI s n:=by unfold fstI;rw[if_neg hb.1,if_pos hb.2]
 have hbd:=bounds_in s n (by omega)
 rw[e]
 constructor
 ·unfold behI
  rw[List.reverse_eq_nil_iff,List.filter_eq_nil_iff]
  intro j _ hj
  rw[Bool.and_eq_true,decide_eq_true_eq] at hj
  obtain ⟨hk3,_⟩:=has_yes_kind hb.1 hj.1
  have:=(has_yes_down hk3 hb.2).1 hj.1
  omega
 ·intro j h1 h2
  obtain ⟨hk3,_⟩:=has_yes_kind hb.1 h2
  obtain ⟨b0,b1,b2,b3,b4⟩:=(has_yes_down hk3 hb.2).1 h2
  have:=hbd.2.2.2.2.2 hb.2
  exact (has_yes_down hk3 hb.2).2 ⟨by omega,by omega,by omega,by omega,by simp⟩
theorem fall_next {s:Sel} {n k:Nat} (hb:backS s) (h:hasS s k n=true):behI s n ((k:Int)+s.stride)=behI s n k++[k]:=by
 obtain ⟨h1,_⟩:=fall_step hb h
 have hlt:=(has_in h).2
 have hn:=hb.2
 unfold behI
 have := filt_first (f:=fun j:Nat=>hasS s j n&&decide ((k:Int)+s.stride<(j:Int))) (g:=fun j:Nat=>hasS s j n&&decide ((k:Int)<(j:Int))) (k:=k)
   (fun j hj=>by
     by_cases hj2:(k:Int)+s.stride<j
     ·have:=h1 j hj2 (by omega)
      simp[this]
     ·simp[hj2])
   (by simp[h];omega)
   (fun j hj=>by
     have:¬ (k:Int)<j:=by omega
     simp[this])
   (fun j hj=>by
     have e1:(k:Int)+s.stride<j:=by omega
     have e2:(k:Int)<j:=by omega
     simp[e1,e2]) n (by omega)
 rw[this,List.reverse_cons]
theorem fall_end {s:Sel} {n:Nat} {i:Int} (hg:goodDn s n i) (h:hasS s i n=false):behI s n i=((List.range n).filter fun j:Nat=>hasS s j n).reverse:=by
 unfold behI
 congr 1
 refine List.filter_congr fun j _ => ?_
 by_cases hj:i<(j:Int)
 ·simp[hj]
 ·have:hasS s j n=false:=Bool.eq_false_iff.2 fun h3=>by rw[hg j (by omega) h3] at h;cases h
  simp[this]
def gotI (s:Sel)(n:Nat)(i:Int):Prop×List Nat:=if s.kind≠2∧s.stride<0 then (goodDn s n i,behI s n i) else (goodA s n i,aheadI s n i)
theorem got_start (s:Sel) (n:Nat):(gotI s n (fstI s n)).1∧(gotI s n (fstI s n)).2=[]:=by
 unfold gotI
 by_cases hb:s.kind≠2∧s.stride<0
 ·rw[if_pos hb]
  exact ⟨(fall_start n hb).2,(fall_start n hb).1⟩
 ·rw[if_neg hb,(fst_up n hb).1]
  exact ⟨(all_start s n (by omega)).2,ahead_start s n⟩
theorem got_next {s:Sel} {n k:Nat} (h:hasS s k n=true):(gotI s n ((k:Int)+stpI s)).1∧(gotI s n ((k:Int)+stpI s)).2=(gotI s n k).2++[k]:=by
 unfold gotI
 by_cases hb:s.kind≠2∧s.stride<0
 ·rw[if_pos hb,if_pos hb]
  have e:stpI s=s.stride:=by unfold stpI;rw[if_neg hb.1]
  rw[e]
  exact ⟨(fall_step hb h).2,fall_next hb h⟩
 ·rw[if_neg hb,if_neg hb,(fst_up n hb).2]
  exact ⟨(all_step s n k h).2.2,ahead_next s n k h⟩
theorem got_few (s:Sel) (n:Nat) (i:Int):(gotI s n i).2.length≤n:=by
 unfold gotI
 split
 ·unfold behI
  rw[List.length_reverse]
  have:=List.length_filter_le (fun j:Nat=>hasS s j n&&decide (i<(j:Int))) (List.range n)
  rwa [List.length_range] at this
 ·exact ahead_few s n i
theorem got_end {v:Tree} {s:Sel} {i:Int} (h4:v.kd=4) (hk:s.kind=2∨s.kind=3) (hg:(gotI s v.items.length i).1) (h:hasS s i v.items.length=false):(gotI s v.items.length i).2=childT v s:=by
 have e1:(fun i=>hitT v i s)=fun i:Nat=>hasS s i v.items.length:=by
   funext j
   unfold hitT
   rw[if_neg (by omega),decide_eq_true h4,decide_eq_false (show ¬ s.kind=1 by omega)]
   simp
 unfold childT
 rw[e1]
 unfold gotI at hg ⊢
 by_cases hb:s.kind≠2∧s.stride<0
 ·rw[if_pos hb] at hg ⊢
  rw[if_pos ⟨by omega,hb.2⟩]
  exact fall_end hg h
 ·rw[if_neg hb] at hg ⊢
  rw[if_neg (fun g=>hb ⟨by omega,g.2⟩)]
  exact ahead_end s _ i hg h
theorem has_nat {s:Sel}{i:Int}{n:Nat}(h:hasS s i n=true):∃ k:Nat,i=k∧k<n:=⟨i.toNat,by have:=has_in h;omega,by have:=has_in h;omega⟩
end
section
open Go.RowKit
structure NdV where
 x:V6
 S:Option Addr
 n:Nat
 c:Nat
def ndCells (s:NdV):List Value:=[.int .i64 s.x.kd,.int .i64 s.x.fr,.int .i64 s.x.to,.string ⟨s.x.tx.toArray⟩,.slice s.x.A s.x.n s.x.c,.slice s.x.B s.x.m s.x.d,.slice s.S s.n s.c]
end
section
open Go.RowKit
theorem efirst_any (s:Sel) (n:Nat) (W:World) (hs:RightI s) (hn:n≤1000) :
   Calls Tryz.prog 48 #[.agg (selV s),.int .i64 n] W fun e w'=>e=.returned (.tuple #[.int .i64 (fstI s n),.int .i64 (stpI s)])∧Below W.heap.size W w':=by
 have HP:=hid (fun w=>pplace_any s.index n w hs.index.mid ⟨by omega,by omega⟩)
 have HB:=hid (fun w=>pbounds_any s n w hs (by omega) (by omega))
 unfold fstI stpI
 by_cases hk:s.kind=2
 ·rw[if_pos hk,if_pos hk]
  unfold selV
  rw[hk]
  clear HB hs
  generalize placeI s.index n=x at *
  go_enter Tryz.func48,Tryz.ntmps48
  go_wp2_with (go_at_call 74;refine (HP.out _).mono ?_;rintro e w' ⟨rfl,rfl⟩)
  go_ret2
  exact ⟨rfl,below1s _ _⟩
 have gk:(s.kind==2)=false:=beq_eq_false_iff_ne.2 hk
 rw[if_neg hk,if_neg hk]
 unfold selV at *
 clear HP hs
 generalize lowS s n=lo at *
 generalize highI s n=hi at *
 by_cases hst:s.stride<0
 all_goals
   first|rw[if_pos hst]|rw[if_neg hst]
   clear hk
   have HO:=hid (fun w2 (hb2:Below (W.alloc (.cells #[.int .i64 s.kind,.string s.name,.int .i64 s.index,.int .i64 s.start,.int .i64 s.en,.bool s.hs,.bool s.he,.int .i64 s.stride] 42)).heap.size (W.alloc (.cells #[.int .i64 s.kind,.string s.name,.int .i64 s.index,.int .i64 s.start,.int .i64 s.en,.bool s.hs,.bool s.he,.int .i64 s.stride] 42)) w2)=>(Own.fresh W 42 #[.int .i64 s.kind,.string s.name,.int .i64 s.index,.int .i64 s.start,.int .i64 s.en,.bool s.hs,.bool s.he,.int .i64 s.stride]).stay hb2 (by simp))
   go_enter Tryz.func48,Tryz.ntmps48
   go_wp2_with (go_at_call 75;refine (HB.out _).mono ?_;rintro e w2 ⟨rfl,hb2⟩;have h7:=(HO.out _ hb2).at 7;simp at h7;have HE:=hid ((below1s W (.cells #[.int .i64 s.kind,.string s.name,.int .i64 s.index,.int .i64 s.start,.int .i64 s.en,.bool s.hs,.bool s.he,.int .i64 s.stride] 42)).trans (hb2.mono (by simp)));clear hb2)
   go_quiet (fail)
   go_wp2
   go_ret2
   exact ⟨rfl,below_drewN HE.out _⟩
def lenV:Value→Nat
 | .slice _ n _=>n
 | _=>0
def RelMt (W W2:World) (s:Sel) (n:Nat) (vo i:Value) (wr:World):Prop :=
 ∃ (k:Int) (V:Value),V=vo∧i=.int .i64 k ∧ -9007199254740992≤k∧k≤9007199254742000∧(gotI s n k).1∧GRow plcK wr W2.heap.size vo (gotI s n k).2∧Below W2.heap.size W2 wr
theorem emeant_any (v:Tree) (s:Sel) (n:Nat) (W:World) (h4:v.kd=4) (hk:s.kind=2∨s.kind=3) (hs:RightI s) (hn:n=v.items.length) (h9:v.items.length≤1000) :
   Calls Tryz.prog 30 #[.agg (selV s),.int .i64 n] W (ChEnd (childT v s) W):=by
 have HF:=hid (fun w=>efirst_any s n w hs (by omega))
 have HH:=hid (fun (i:Int) w=>phas_any s i n w hs (by omega) (by omega))
 have HE:=hid (fun (i:Int) (a:(gotI s n i).1) (b:hasS s i n=false)=>show (gotI s n i).2=childT v s by subst hn;exact got_end h4 hk a b)
 have hst : -9007199254740991≤stpI s∧stpI s≤9007199254740991:=by
   unfold stpI
   split
   ·omega
   ·exact hs.stride
 have hf0 : -9007199254740992≤fstI s n∧fstI s n≤9007199254742000:=by
   unfold fstI
   have h1:=place_bound s.index n hs.index (by omega) (by omega)
   have h2:=bounds_in s n (by omega)
   split
   ·omega
   ·split<;>omega
 have HST:=hid hst
 have HF0:=hid hf0
 have h9n:n≤1000:=by omega
 clear hst hf0 hs hk h4 hn h9
 unfold selV at *
 obtain ⟨W2,hW2⟩:∃ W2,W2=W.alloc (.cells #[.int .i64 s.kind,.string s.name,.int .i64 s.index,.int .i64 s.start,.int .i64 s.en,.bool s.hs,.bool s.he,.int .i64 s.stride] 42):=⟨_,rfl⟩
 have HO:=hid (show Own W2 W.heap.size 42 #[.int .i64 s.kind,.string s.name,.int .i64 s.index,.int .i64 s.start,.int .i64 s.en,.bool s.hs,.bool s.he,.int .i64 s.stride] by rw[hW2];exact Own.fresh W 42 _)
 have HB2:=hid (show Below W.heap.size W W2 by rw[hW2];exact below1s W _)
 have HW2:=hid hW2
 clear hW2
 go_enter Tryz.func30,Tryz.ntmps30
 go_wp2_with (go_at_call 48;refine (HF.out _).mono ?_;rintro e w2 ⟨rfl,hb2⟩;rw[← HW2.out] at hb2;have HB3:=hid hb2;clear hb2)
 go_loopw [5,6] (fun vo i wr=>RelMt W W2 s n vo i wr) (fun vo _ _=>n-lenV vo)
 case atStart =>
   have g:=got_start s n
   exact ⟨_,_,rfl,rfl,HF0.out.1,HF0.out.2,g.1,by rw[g.2];exact GRow.nil _ _,HB3.out⟩
 case round =>
   obtain ⟨k,V,rfl,rfl,hk0,hk9,hg,hq,hb⟩:=hrel
   have o:=HO.out.stay hb HO.out.inside
   have c0:=o.at 0
   have c1:=o.at 1
   have c2:=o.at 2
   have c3:=o.at 3
   have c4:=o.at 4
   have c5:=o.at 5
   have c6:=o.at 6
   have c7:=o.at 7
   simp at c0 c1 c2 c3 c4 c5 c6 c7
   have HQ:=hid hq
   have HB:=hid hb
   have HG:=hid hg
   have K1:=HH.out k wr
   have HX:=hid (HE.out k hg)
   have hfew:=got_few s n k
   have hw0:=HB2.out.size
   have hw1:=hb.size
   clear o hq hb hg HE HH HF
   cases hit:hasS s k n
   ·rw[hit] at K1
    have K1:=hid K1
    have HE2:=hid (HX.out hit)
    clear HX hit
    go_wp2_with (go_at_call 49;refine K1.out.mono ?_;rintro e w4 ⟨rfl,hb4⟩;have HQ4:=hid (HQ.out.keepB hb4 (Nat.le_refl _));have HB4:=hid (HB2.out.trans ((HB.out.trans (hb4.mono HB.out.size)).mono HB2.out.size));clear hb4)
    go_ret
    exact ⟨_,rfl,by rw[← HE2.out];exact HQ4.out.mono HB2.out.size,HB4.out⟩
   ·rw [hit] at K1
    have K1:=hid K1
    obtain ⟨kn,hkn,hlt⟩:=has_nat hit
    subst hkn
    have HGN:=hid (got_next hit)
    have hlen:(gotI s n ((kn:Int)+stpI s)).2.length=(gotI s n kn).2.length+1:=by rw[HGN.out.2];simp
    have hfew2:=got_few s n ((kn:Int)+stpI s)
    have hst:=HST.out
    have t1:True:=trivial
    clear HX hit hk0 hk9
    go_wp2_with (first
      | (go_at_call 49;refine K1.out.mono ?_;rintro e w4 ⟨rfl,hb4⟩;have hw2:=hb4.size;have HQ4:=hid ((HQ.out.keepB hb4 (Nat.le_refl _)).keepB (below1s w4 (.cells #[.int .i64 kn] 3)) (Nat.le_refl _));have HB4:=hid (HB.out.trans (hb4.mono HB.out.size));have HN4:=hid (new_plc w4 kn W2.heap.size (by omega));have HB5:=hid (HB4.out.trans ((below1s w4 (.cells #[.int .i64 kn] 3)).mono HB4.out.size));clear hb4)
      | (at_builtin
         go_must (
           refine row_append (K:=plcK) _ rfl (.tmp 18) (.tmp 20) rfl W2.heap.size _ (gotI s n kn).2 rfl HQ4.out _ 1 1 [kn] rfl HN4.out.rd (by simp;omega) (by simp;omega) ?_
           intro v6 w6 row6 grown6 at6
           have HB6:=hid (below_grown HB5.out grown6 HB5.out.size (fun g' hg'=>(HQ4.out.low (g:=g') hg').1))
           have R6:=hid row6
           clear grown6 at6 row6)))
    go_roundw
    case rel=>exact ⟨(kn:Int)+stpI s,_,rfl,by go_num,by omega,by omega,HGN.out.1,by rw[HGN.out.2];exact R6.out,HB6.out⟩
    case measure =>
      obtain ⟨A,c,e,_⟩:=R6.out.form
      obtain ⟨A',c',e',_⟩:=HQ.out.form
      rw[e,e']
      simp only [lenV,List.length_append,List.length_cons,List.length_nil]
      rw[hlen] at hfew2
      omega
end
end Go.Proofs.YtnokhgfifbkflaaGreat
