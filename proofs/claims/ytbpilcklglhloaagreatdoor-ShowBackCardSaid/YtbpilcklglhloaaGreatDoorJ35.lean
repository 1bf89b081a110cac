/- Lemmas. -/
import Derived.Test.YtbpilcklglhloaaGreatDoorJ33
import Derived.Laws.CopyRow
set_option maxRecDepth 100000
set_option maxHeartbeats 8000000
set_option linter.unusedVariables false
namespace Go.Proofs.YtbpilcklglhloaaGreatDoor
open Go.Lib (hid)
section
open Go.RowKit
theorem val_size:(Tryz.prog.info? 27).map (·.size)=some 6:=by kernel_rfl
def zeroV:List Value:=[.int .i64 0,.int .i64 0,.int .i64 0,.string ⟨#[]⟩,.slice none 0 0,.slice none 0 0]
structure AtCl (W wr:World) (D:Nat→Prop) (root rb:Nat) (T:Tree) (es:List Pd) (v:Value):Prop where
 inv:ClInv W wr W.heap.size D root T es
 row:GRow ptrK wr W.heap.size v (pdRow es)
 off:∀ g,v.ownBlock=some g→¬ D g∧g≠rb
 res:Own wr rb 27 zeroV.toArray
 rbD:¬ D rb
def RelCl (W:World)(root rb:Nat)(T:Tree)(k:Nat)(v:Value)(wr:World):Prop:=∃ es D,pdSize es=k∧k≤420000000∧AtCl W wr D root rb T es v
structure AtCk (W w7 wr:World) (D:Nat→Prop) (rb:Nat) (rest ks:List (Option Addr)) (k:Nat) (v:Value):Prop where
 le:k≤ks.length
 row:GRow ptrK wr W.heap.size v (rest++ks.take k)
 off:∀ g,v.ownBlock=some g→¬ D g∧g≠rb
 kept:∀ j,(D j∨j=rb)→wr.heap[j]?=w7.heap[j]?
 size:w7.heap.size≤wr.heap.size
 bel:Below W.heap.size W wr
def RelCk (W w7:World)(D:Nat→Prop)(rb:Nat)(rest ks:List (Option Addr))(v i:Value)(wr:World):Prop:=∃ k:Nat,i=.int .i64 k∧AtCk W w7 wr D rb rest ks k v
theorem AtCk.next {W w7 wr w0 w9:World} {D:Nat→Prop} {rb:Nat} {rest ks:List (Option Addr)} {k:Nat} {v v9:Value} {d:Option Addr} (h:AtCk W w7 wr D rb rest ks k v) (hD:∀ j,D j∨j=rb→j<w7.heap.size) (hk:k+1≤ks.length) (he:ks.take (k+1)=ks.take k++[d]) (hb:Below wr.heap.size wr w0)
   (row:GRow ptrK w9 W.heap.size v9 (rest++ks.take k++[d])) (hg:w0.grownBy w9 v.ownBlock) (ha:v9.ownBlock=v.ownBlock∨v9.ownBlock=some w0.heap.size):AtCk W w7 w9 D rb rest ks (k+1) v9:=by
 have hs:=hb.size
 have hz:=h.size
 have ht:Touch (fun j=>v.ownBlock=some j) w0 w9:=(Touch.refl _ w0).grown hg (fun j e=>.inl e)
 refine ⟨hk,by rw[he,← List.append_assoc];exact row,fun g hg => ?_,fun j hj => ?_,?_,?_⟩
 ·rcases ha with e|e
  ·exact h.off g (e▸hg)
  ·rw[e] at hg
   injection hg with hg
   refine ⟨fun hd => ?_,fun hr => ?_⟩
   ·have:=hD g (.inl hd);omega
   ·have:=hD g (.inr hr);omega
 ·have hj7:=hD j hj
  refine ((ht.block j (by omega) (fun e => ?_)).trans (hb.block j (by omega))).trans (h.kept j hj)
  rcases hj with hj|hj
  ·exact (h.off j e).1 hj
  ·exact (h.off j e).2 hj
 ·exact Nat.le_trans (Nat.le_trans hz hs) ht.size
 ·have hbs:=h.bel.size
  exact (h.bel.trans (hb.mono hbs)).trans (ht.below (fun j _ e=>by have:=(h.row.low e).1;omega) (by omega))
theorem AtCl.last {W wr:World} {D:Nat→Prop} {root rb:Nat} {T:Tree} {rest:List Pd} {e:Pd} {v:Value} (h:AtCl W wr D root rb T (rest++[e]) v) :
   ∃ g c:Nat,v=.slice (some ⟨g,0,none⟩) (rest.length+1) c∧rest.length+1≤c∧g<wr.heap.size∧¬ D g∧g≠rb∧wr.cell? ⟨g,rest.length,none⟩=some (.pointer (some e.p))∧GRow ptrK wr W.heap.size (.slice (some ⟨g,0,none⟩) rest.length c) (pdRow rest):=by
 have hl:(pdRow (rest++[e])).length=rest.length+1:=by simp[pdRow]
 have ho:=h.off
 obtain ⟨A,c,rfl,hc,_,hg⟩:=h.row.form
 obtain ⟨g,rfl,hb,hlt⟩:=hg (by omega)
 have hr:=h.row
 rw[hl] at hc hr ⊢
 have hx:(pdRow (rest++[e]))[rest.length]?=some (some e.p):=by
   unfold pdRow
   rw[List.map_append,List.getElem?_append_right (by simp)]
   simp
 have h0:=(hr.rd).at rfl hx (j:=0) rfl
 simp[show ptrK.n=1 from rfl] at h0
 have hcut:=hr.cut (k:=rest.length) (by omega)
 have e1:(pdRow (rest++[e])).take rest.length=pdRow rest:=by
   unfold pdRow
   rw[List.map_append,List.take_append_of_le_length (by simp),List.take_of_length_le (by simp)]
 rw[e1] at hcut
 have:=ho g rfl
 exact ⟨g,c,rfl,hc,hlt,this.1,this.2,h0,hcut⟩
theorem bel_grown {w w':World}(h:w.grownBy w' none):Below w.heap.size w w':=⟨h.os,h.tape,h.output,h.size,fun k hk=>h.block k hk (fun e=>by cases e)⟩
theorem VIs.parts {W:World} {t:Tree} {x:V6} (h:VIs W t x):∃ (items:List Tree) (names:List (List UInt8)) (xs:List V6),t=.mk t.kd t.fr t.to t.tx items names∧RdG valK W x.A x.n xs∧VLs W items xs∧RdG namK W x.B x.m names∧sizeT t=1+names.length+sizeL items:=by
 obtain ⟨k1,f1,t1,x1,i1,n1⟩:=t
 unfold VIs at h
 obtain ⟨_,_,_,_,_,_,a7,xs,a8,a9⟩:=h
 exact ⟨i1,n1,xs,rfl,a8,a9,a7,by unfold sizeT;rfl⟩
theorem set_size (w:World)(p:Addr)(u:Value):(w.setCell p u).heap.size=w.heap.size:=by simp[World.setCell]
theorem cl_two {W wr w5 w6 w7 w8:World} {b o n5 c n7 d:Nat} {A B:Option Addr} {xs:List V6} {names:List (List UInt8)} {u4 u5:Value} (hbw:b<wr.heap.size) (hb5:Below wr.heap.size wr w5) (row5:GRow valK w5 wr.heap.size (.slice A n5 c) xs) (e6:w6=w5.setCell ⟨b,o+4,none⟩ (.slice A n5 c))
   (hb7:Below w6.heap.size w6 w7) (row7:GRow namK w7 w6.heap.size (.slice B n7 d) names) (e8:w8=w7.setCell ⟨b,o+5,none⟩ (.slice B n7 d)) (c4:wr.cell? ⟨b,o+4,none⟩=some u4) (c5:wr.cell? ⟨b,o+5,none⟩=some u5) (hbel:Below W.heap.size W wr) (hWb:W.heap.size≤b) :
   wr.heap.size≤w8.heap.size∧GRow valK w8 wr.heap.size (.slice A n5 c) xs∧GRow namK w8 wr.heap.size (.slice B n7 d) names∧(∀ k,(Value.slice A n5 c).ownBlock=some k→(Value.slice B n7 d).ownBlock≠some k)∧w8.cell? ⟨b,o+4,none⟩=some (.slice A n5 c)∧w8.cell? ⟨b,o+5,none⟩=some (.slice B n7 d) ∧
     (∀ b' o',b'<wr.heap.size→¬ (b'=b∧(o'=o+4∨o'=o+5))→w8.cell? ⟨b',o',none⟩=wr.cell? ⟨b',o',none⟩)∧(∀ b' i,b'<wr.heap.size→w8.frozen? ⟨b',i,none⟩=wr.frozen? ⟨b',i,none⟩)∧Below W.heap.size W w8∧(∀ k,k<wr.heap.size→k≠b→w8.heap[k]?=wr.heap[k]?):=by
 have z5:=hb5.size
 have z6:w6.heap.size=w5.heap.size:=by rw[e6,set_size]
 have z7:=hb7.size
 have z8:w8.heap.size=w7.heap.size:=by rw[e8,set_size]
 have k6:∀ k,k≠b→w6.heap[k]?=w5.heap[k]?:=fun k hk=>by rw[e6];exact Below.heap_setCell _ _ _ _ hk
 have k8:∀ k,k≠b→w8.heap[k]?=w7.heap[k]?:=fun k hk=>by rw[e8];exact Below.heap_setCell _ _ _ _ hk
 have cell5:∀ b' o',b'<wr.heap.size→w5.cell? ⟨b',o',none⟩=wr.cell? ⟨b',o',none⟩:=fun b' o' h=>hb5.cell (p:=⟨b',o',none⟩) h
 have cell7:∀ b' o',b'<wr.heap.size→w7.cell? ⟨b',o',none⟩=w6.cell? ⟨b',o',none⟩:=fun b' o' h=>hb7.cell (p:=⟨b',o',none⟩) (by show b'<w6.heap.size;omega)
 have x4:w6.cell? ⟨b,o+4,none⟩=some (.slice A n5 c):=by rw[e6];exact World.cell?_setCell_same _ _ _ ((cell5 b (o+4) hbw).trans c4)
 have x5:w6.cell? ⟨b,o+5,none⟩=some u5:=by rw[e6,World.cell?_setCell_other _ _ _ _ (by intro e;injection e with _ e _;omega)];exact (cell5 b (o+5) hbw).trans c5
 refine ⟨by omega,?_,?_,?_,?_,?_,?_,?_,?_,?_⟩
 ·refine row5.stay (fun k hk => ?_)
  have:=row5.low hk
  rw[k8 k (by omega),hb7.block k (by omega),k6 k (by omega)]
 ·refine (row7.stay (fun k hk => ?_)).mono (by omega)
  have:=row7.low hk
  exact k8 k (by omega)
 ·intro k h1 h2
  have:=row5.low h1
  have:=row7.low h2
  omega
 ·rw[e8,World.cell?_setCell_other _ _ _ _ (by intro e;injection e with _ e _;omega),cell7 b _ hbw]
  exact x4
 ·rw[e8]
  exact World.cell?_setCell_same _ _ _ ((cell7 b _ hbw).trans x5)
 ·intro b' o' hb' hn
  rw[e8,World.cell?_setCell_other _ _ _ _ (by intro e;injection e with e1 e2 _;omega),cell7 b' _ hb',e6,World.cell?_setCell_other _ _ _ _ (by intro e;injection e with e1 e2 _;omega)]
  exact cell5 b' o' hb'
 ·intro b' i hb'
  rw[e8,World.frozen?_setCell,World.frozen?_of_block (w:=w6) (w':=w7) (by exact hb7.block b' (by omega)),e6,World.frozen?_setCell]
  exact World.frozen?_of_block (by exact hb5.block b' hb')
 ·have hW:=hbel.size
  rw[e8]
  refine Below.setCell ?_ hWb _
  refine Below.trans ?_ (hb7.mono (by omega))
  rw[e6]
  exact Below.setCell (hbel.trans (hb5.mono hW)) hWb _
 ·intro k hk hne
  rw[k8 k hne,hb7.block k (by omega),k6 k hne]
  exact hb5.block k hk
theorem cells_eq {w:World} {p:Addr} {x y:V6} (hx:CellsAt w p x) (hy:CellsAt w p y):v6Cells x=v6Cells y:=by
 obtain ⟨b,o,rfl,_,h1⟩:=hx
 obtain ⟨b',o',e,_,h2⟩:=hy
 injection e with e1 e2
 subst e1 e2
 refine List.ext_getElem? fun j => ?_
 by_cases hj:j<6
 ·have l1:j<(v6Cells x).length:=hj
  have l2:j<(v6Cells y).length:=hj
  rw[List.getElem?_eq_getElem l1,List.getElem?_eq_getElem l2]
  have a:=h1 j _ (List.getElem?_eq_getElem l1)
  have b:=h2 j _ (List.getElem?_eq_getElem l2)
  rw[← a,← b]
 ·rw[List.getElem?_eq_none (by simp[v6Cells];omega),List.getElem?_eq_none (by simp[v6Cells];omega)]
def put6 (w:World)(b:Nat)(x:V6):World:=(((((w.setCell ⟨b,0,none⟩ (.int .i64 x.kd)).setCell ⟨b,1,none⟩ (.int .i64 x.fr)).setCell ⟨b,2,none⟩ (.int .i64 x.to)).setCell ⟨b,3,none⟩ (.string ⟨x.tx.toArray⟩)).setCell ⟨b,4,none⟩ (.slice x.A x.n x.c)).setCell ⟨b,5,none⟩ (.slice x.B x.m x.d)
theorem put6_own {w:World} {b:Nat} {T:TypeId} (h:Own w b T zeroV.toArray) (x:V6):Own (put6 w b x) b T (v6Cells x).toArray:=by
 have:=(((((h.put 0 (.int .i64 x.kd)).put 1 (.int .i64 x.fr)).put 2 (.int .i64 x.to)).put 3 (.string ⟨x.tx.toArray⟩)).put 4 (.slice x.A x.n x.c)).put 5 (.slice x.B x.m x.d)
 exact this
theorem put6_touch (w:World) (b:Nat) (x:V6):Touch (fun j=>j=b) w (put6 w b x) :=
 ((((((Touch.refl (fun j=>j=b) w).setCell (p:=⟨b,0,none⟩) (.inl rfl) _).setCell (p:=⟨b,1,none⟩) (.inl rfl) _).setCell (p:=⟨b,2,none⟩) (.inl rfl) _).setCell (p:=⟨b,3,none⟩) (.inl rfl) _).setCell (p:=⟨b,4,none⟩) (.inl rfl) _).setCell (p:=⟨b,5,none⟩) (.inl rfl) _
end
section
open Go.RowKit
theorem v6_inj {x y:V6} (h:v6Cells x=v6Cells y):x=y:=by
 obtain ⟨k,f,o,tx,A,n,c,B,m,d⟩:=x
 obtain ⟨k',f',o',tx',A',n',c',B',m',d'⟩:=y
 unfold v6Cells at h
 simp at h
 obtain ⟨h1,h2,h3,h4,⟨h5,h6,h7⟩,h8,h9,h10⟩:=h
 have h2:f=f':=by omega
 have h3:o=o':=by omega
 subst h1 h2 h3 h4 h5 h6 h7 h8 h9 h10
 rfl
theorem clone_any (t:Tree) (x:V6) (W:World) (hx:VIs W t x) (hz:sizeT t≤420000000) :
   Calls Tryz.prog 38 #[.agg (v6Cells x).toArray] W fun e w' => ∃ y:V6,e=.returned (.agg (v6Cells y).toArray)∧(∀ w'':World,w'.heap.size≤w''.heap.size→(∀ k,W.heap.size≤k→k<w'.heap.size→w''.heap[k]?=w'.heap[k]?)→VIs w'' t y)∧Below W.heap.size W w':=by
 obtain ⟨W1,hW1⟩:∃ W1,W1=W.alloc (.cells (v6Cells x).toArray 27):=⟨_,rfl⟩
 have s1:W1.heap.size=W.heap.size+1:=by subst hW1;simp
 obtain ⟨W2,hW2⟩:∃ W2,W2=W1.alloc (.cells zeroV.toArray 27):=⟨_,rfl⟩
 have s2:W2.heap.size=W.heap.size+2:=by subst hW2;simp[s1]
 obtain ⟨W3,hW3⟩:∃ W3,W3=W2.alloc (.cells #[.pointer (some ⟨W.heap.size,0,none⟩)] 39):=⟨_,rfl⟩
 have s3:W3.heap.size=W.heap.size+3:=by subst hW3;simp[s2]
 have hb3:Below W.heap.size W W3:=by subst hW3 hW2 hW1;exact (below2 _ _ _).alloc (by simp;omega) _
 have o1:Own W3 W.heap.size 27 (v6Cells x).toArray:=by
   have h1:Own W1 W.heap.size 27 (v6Cells x).toArray:=by subst hW1;exact Own.fresh _ _ _
   subst hW3 hW2;exact (h1.over _).over _
 have o2:Own W3 (W.heap.size+1) 27 zeroV.toArray:=by
   have h1:Own W2 W1.heap.size 27 zeroV.toArray:=by subst hW2;exact Own.fresh _ _ _
   rw[s1] at h1
   subst hW3;exact h1.over _
 have r3:GRow ptrK W3 W.heap.size (.slice (some ⟨W.heap.size+2,0,none⟩) 1 1) [some ⟨W.heap.size,0,none⟩]:=by
   have:=GRow.made (K:=ptrK) (base:=W.heap.size) (l:=[some ⟨W.heap.size,0,none⟩]) W2 _ rfl (by simp[maxLen]) (by omega)
   rw[s2] at this
   subst hW3
   exact this
 have H0:AtCl W W3 (fun j=>j=W.heap.size) W.heap.size (W.heap.size+1) t [⟨⟨W.heap.size,0,none⟩,t,x⟩] (.slice (some ⟨W.heap.size+2,0,none⟩) 1 1):=by
   refine ⟨⟨fun b hb=>by omega,rfl,fun e he => ?_,List.pairwise_singleton _ _,hb3,fun w' h1 h2 h3=>h3 ⟨⟨W.heap.size,0,none⟩,t,x⟩ (by simp)⟩,r3,fun g hg => ?_,o2,by omega⟩
   ·obtain rfl:e=⟨⟨W.heap.size,0,none⟩,t,x⟩:=by simpa using he
    exact ⟨_,0,rfl,rfl,fun j u hu=>by rw[Nat.zero_add,o1.at j];simpa using hu,fun i=>o1.free i,hx⟩
   ·obtain rfl:=ownBlock_is hg
    exact ⟨by omega,by omega⟩
 have H0':=hid (show RelCl W W.heap.size (W.heap.size+1) t (sizeT t) (.slice (some ⟨W.heap.size+2,0,none⟩) 1 1) W3 from ⟨_,_,by simp[pdSize],hz,H0⟩)
 have HW1:=hid hW1
 have HW2:=hid hW2
 have HW3:=hid hW3
 have HS1:=hid s1
 have HS2:=hid s2
 generalize hz0:sizeT t=z0 at *
 generalize (v6Cells x).toArray=cx at *
 clear hx hz hb3 o1 o2 r3 H0 hz0 s1 s2 s3 hW1 hW2 hW3
 go_enter Tryz.func38,Tryz.ntmps38
 go_wp2
 generalize hw3:World.alloc (World.alloc (World.alloc W _) _) _=w3
 have e3:w3=W3:=by
   rw[← hw3,HW3.out,HW2.out,HW1.out]
   simp[zeroV]
 subst e3
 clear hw3
 rw[show W.heap.size+1+1=W.heap.size+2 from rfl]
 go_loopg [3] z0 (fun k v wr=>RelCl W W.heap.size (W.heap.size+1) t k v wr)
 case atStart=>exact H0'.out
 case round =>
   obtain ⟨es,D,hk,hk9,hat⟩:=hrel
   rcases List.eq_nil_or_concat es with rfl|⟨rest,e,rfl⟩
   ·obtain ⟨A,c,rfl,_⟩:=hat.row.form
    obtain ⟨X,hcl,_⟩:=hat.inv.wand wr (fun b hb=>(hat.inv.dom b hb).2) (fun _ _ _ _=>rfl) (by simp)
    have HI:=hid hat
    obtain ⟨b,o,eb,hbl,x0,x1,x2,x3,x4,x5⟩:=hcl.six
    injection eb with eb eo
    subst eb eo
    simp only [Nat.zero_add] at x0 x1 x2 x3 x4 x5
    have y0:=hat.res.at 0
    have y1:=hat.res.at 1
    have y2:=hat.res.at 2
    have y3:=hat.res.at 3
    have y4:=hat.res.at 4
    have y5:=hat.res.at 5
    simp[zeroV] at y0 y1 y2 y3 y4 y5
    have f0:=hat.res.free 0
    have f1:=hat.res.free 1
    have f2:=hat.res.free 2
    have f3:=hat.res.free 3
    have f4:=hat.res.free 4
    have f5:=hat.res.free 5
    have HC:=hid hcl
    clear hat hk hk9 hcl
    go_wp2
    have hfold:((((((wr.setCell ⟨W.heap.size+1,0,none⟩ (.int .i64 X.kd)).setCell ⟨W.heap.size+1,1,none⟩ (.int .i64 X.fr)).setCell ⟨W.heap.size+1,2,none⟩ (.int .i64 X.to)).setCell ⟨W.heap.size+1,3,none⟩ (.string ⟨X.tx.toArray⟩)).setCell ⟨W.heap.size+1,4,none⟩ (.slice X.A X.n X.c)).setCell ⟨W.heap.size+1,5,none⟩ (.slice X.B X.m X.d))=put6 wr (W.heap.size+1) X:=rfl
    rw[hfold]
    have H9:=And.intro (put6_own HI.out.res X) (put6_touch wr (W.heap.size+1) X)
    clear hfold
    generalize put6 wr (W.heap.size+1) X=w9 at *
    obtain ⟨ho9,ht9⟩:=H9
    have hi:=HI.out.inv
    have hne:∀ b,D b→b≠W.heap.size+1:=fun b hb e=>HI.out.rbD (e▸hb)
    refine bodyPost_ret (results_cell_row rfl _ _ (W.heap.size+1) _ _ (0,0) _ rfl ho9 Tryz.underlying27 rfl val_size) rfl ?_
    refine ⟨X,rfl,fun w'' hs'' hw'' => ?_,hi.bel.trans (ht9.below (B:=W.heap.size) (fun j _ e=>by have e:j=W.heap.size+1:=e;omega) hi.bel.size)⟩
    have same:∀ b,D b→w''.heap[b]?=wr.heap[b]?:=fun b hb=>(hw'' b (hi.dom b hb).1 (Nat.lt_of_lt_of_le (hi.dom b hb).2 ht9.size)).trans (ht9.block b (hi.dom b hb).2 (hne b hb))
    obtain ⟨Y,hcy,hvy⟩:=hi.wand w'' (fun b hb=>Nat.lt_of_lt_of_le (hi.dom b hb).2 (Nat.le_trans ht9.size hs'')) (fun b o hb _=>World.cell?_of_block (by exact same b hb)) (by simp)
    have hcx:CellsAt w'' ⟨W.heap.size,0,none⟩ X:=by
      obtain ⟨b,o,e,hl,hh⟩:=HC.out
      injection e with e1 e2
      subst e1 e2
      exact ⟨_,_,rfl,Nat.lt_of_lt_of_le hl (Nat.le_trans ht9.size hs''),fun j u hu=>(World.cell?_of_block (by exact same W.heap.size hi.rt)).trans (hh j u hu)⟩
    rw[v6_inj (cells_eq hcx hcy)]
    exact hvy
   ·rw [List.concat_eq_append] at hat hk
    obtain ⟨p,t',x'⟩:=e
    obtain ⟨g,c,rfl,hc,hg,hgD,hgr,d0,hcut⟩:=hat.last
    obtain ⟨b,o,hp,hDb,hcc,hfz,hv⟩:=hat.inv.ok ⟨p,t',x'⟩ (by simp)
    simp only at hp hcc hv d0
    subst hp
    obtain ⟨items,names,xs,ht,rA,lt,rn,hse⟩:=hv.parts
    have hszr:=pdSize_app rest [⟨⟨b,o,none⟩,t',x'⟩]
    have hone:pdSize [(⟨⟨b,o,none⟩,t',x'⟩:Pd)]=sizeT t':=by simp[pdSize]
    rw[hone,hse] at hszr
    have hrl:=pdSize_len rest
    have hxl:=lt.len
    have hxs:=sizeL_len items
    have hxn:xs.length=x'.n:=rA.1
    have hnm:names.length=x'.m:=rn.1
    have hbel:=hat.inv.bel
    have hbw:=(hat.inv.dom b hDb).2
    have hWb:=(hat.inv.dom b hDb).1
    have c4:=hcc 4 _ rfl
    have c5:=hcc 5 _ rfl
    have f4:=hfz (o+4)
    have f5:=hfz (o+5)
    have RA:=hid (rA.below hbel)
    have RN:=hid (fun w (h:Below W.heap.size W w)=>rn.below h)
    have HI:=hid hat
    have HCUT:=hid hcut
    have HSZ:=hid (show pdSize rest+1+names.length+sizeL items=gk by omega)
    have HB:=hid hbel
    have HBW:=hid hbw
    have HWB:=hid hWb
    have HGD:=hid (show ¬ D g∧g≠W.heap.size+1∧g<wr.heap.size from ⟨hgD,hgr,hg⟩)
    have HDB:=hid hDb
    have HLT:=hid lt
    have HT:=hid ht
    have HXN:=hid hxn
    have HNM:=hid hnm
    have HXI:=hid (show xs.length=items.length from hxl)
    have n9:(x'.n:Int)≤420000000:=by omega
    have m9:(x'.m:Int)≤420000000:=by omega
    obtain ⟨n1,hn1⟩:∃ n,n=rest.length+1:=⟨_,rfl⟩
    rw[← hn1]
    have s1:(n1:Int)-1=(rest.length:Int):=by omega
    have s2:(0:Int)≤(rest.length:Int):=by omega
    have s3:(rest.length:Int)<n1:=by omega
    have s4:(n1:Int)≤420000001:=by omega
    have s5:(n1:Int)≤c:=by omega
    have s6:(rest.length:Int)≤c:=by omega
    have s7:(0:Int)<(n1:Int):=by omega
    have C4:=hid c4
    have C5:=hid c5
    have tok1:True:=trivial
    clear hat hk hcut hbel hgD hgr hg hDb lt ht rA rn hxn hnm hxl hxs hse hszr hone hrl hn1 hcc hfz hv hbw hWb hc
    go_wp2_with (first
      | (have _t:=tok1;at_builtin;go_must (
         refine row_append (K:=valK) _ rfl (.const (.slice none 0 0)) (.tmp 25) rfl wr.heap.size _ [] rfl (GRow.nil _ _) x'.A x'.n x'.c xs rfl RA.out (by simp;omega) (Nat.le_refl _) ?_
         intro v5 w5 row5 grown5 at5
         clear tok1 _t
         rw[List.nil_append] at row5
         have hb5:=bel_grown grown5
         obtain ⟨A5,k5,rfl,h51,h52,h53⟩:=row5.form
         rw[HXN.out] at row5 h51
         have g4:w5.cell? ⟨b,o+4,none⟩=_:=(hb5.cell (p:=⟨b,o+4,none⟩) HBW.out).trans C4.out
         have g5:w5.cell? ⟨b,o+5,none⟩=_:=(hb5.cell (p:=⟨b,o+5,none⟩) HBW.out).trans C5.out
         have j4:w5.frozen? ⟨b,o+4,none⟩=false:=(World.frozen?_of_block (by exact hb5.block b HBW.out)).trans f4
         have ROW5:=hid row5
         have HB5:=hid hb5
         have H53:=hid h53
         have H51:=hid h51
         rw[HXN.out]
         clear row5 hb5 grown5 at5 h51 h52 h53))
      | (at_builtin;go_must (
         generalize hw6:World.setCell w5 _ _=w6
         have HW6:=hid hw6
         have hb6:Below W.heap.size W w6:=by rw[← hw6];exact Below.setCell (HB.out.trans (HB5.out.mono HB.out.size)) HWB.out _
         have hbz6:b<w6.heap.size:=by rw[← hw6,set_size];have:=HB5.out.size;have:=HBW.out;omega
         have i4:w6.cell? ⟨b,o+4,none⟩=some (.slice A5 x'.n k5):=by rw[← hw6];exact World.cell?_setCell_same _ _ _ g4
         have i5:w6.cell? ⟨b,o+5,none⟩=some (.slice x'.B x'.m x'.d):=by rw[← hw6,World.cell?_setCell_other _ _ _ _ (by intro e;injection e with _ e _;omega)];exact g5
         have i6:w6.frozen? ⟨b,o+5,none⟩=false:=by rw[← hw6,World.frozen?_setCell];exact (World.frozen?_of_block (by exact HB5.out.block b HBW.out)).trans f5
         clear hw6
         refine row_append (K:=namK) _ rfl (.const (.slice none 0 0)) (.tmp 33) rfl w6.heap.size _ [] rfl (GRow.nil _ _) x'.B x'.m x'.d names rfl (RN.out _ hb6) (by simp;omega) (Nat.le_refl _) ?_
         intro v7 w7 row7 grown7 at7
         rw[List.nil_append] at row7
         have hb7:=bel_grown grown7
         obtain ⟨A7,k7,rfl,h71,h72,h73⟩:=row7.form
         rw[HNM.out] at row7 h71
         have g4':w7.cell? ⟨b,o+4,none⟩=_:=(hb7.cell (p:=⟨b,o+4,none⟩) hbz6).trans i4
         have g5':w7.cell? ⟨b,o+5,none⟩=_:=(hb7.cell (p:=⟨b,o+5,none⟩) hbz6).trans i5
         have j5':w7.frozen? ⟨b,o+5,none⟩=false:=(World.frozen?_of_block (by exact hb7.block b hbz6)).trans i6
         have ROW7:=hid row7
         have HB7:=hid hb7
         have H71:=hid h71
         rw[HNM.out]
         clear row7 hb7 grown7 at7 h71 h72 h73 g4 g5 j4 i4 i5 i6 hb6)))
    obtain ⟨w8,hw8⟩:∃ w8,w8=w7.setCell ⟨b,o+5,none⟩ (.slice A7 x'.m k7):=⟨_,rfl⟩
    rw[← hw8]
    obtain ⟨z8,rw8,rn8,hap8,c48,c58,hk8,hf8,hbel8,hh8⟩:=cl_two HBW.out HB5.out ROW5.out HW6.out.symm HB7.out ROW7.out hw8 C4.out C5.out HB.out HWB.out
    obtain ⟨g5,hg5⟩:∃ g5:Nat,0<xs.length→A5=some ⟨g5,0,none⟩:=by
      by_cases h0:0<xs.length
      ·obtain ⟨g,e,_⟩:=H53.out h0
       exact ⟨g,fun _=>e⟩
      ·exact ⟨0,fun h=>absurd h h0⟩
    have hI8:=(HI.out.inv).step rfl HT.out HXN.out.symm HNM.out.symm HLT.out (Nat.le_trans HB.out.size (Nat.le_refl _)) rw8 rn8 hg5 hap8 H51.out H71.out c48 c58 (fun b' o' hb' _ hn=>hk8 b' o' hb' hn) (fun b' i hD=>hf8 b' i (HI.out.inv.dom b' hD).2) hbel8 z8
    obtain ⟨ks1,ks2⟩:=pds_size g5 0 items xs HXI.out
    have KR:=hid (pds_row g5 0 items xs HXI.out)
    have KZ:=hid ks1
    have KL:=hid (show (pdRow (pds g5 0 items xs)).length=items.length by rw[← ks2];simp[pdRow])
    have hres8:Own w8 (W.heap.size+1) 27 zeroV.toArray:=(hh8 _ HI.out.res.inside (fun e=>HI.out.rbD (e▸HDB.out))).trans HI.out.res
    have hcut8:GRow ptrK w8 W.heap.size (.slice (some ⟨g,0,none⟩) rest.length c) (pdRow rest):=HCUT.out.stay (fun j hj=>by
      obtain rfl:=ownBlock_is hj
      exact hh8 _ HGD.out.2.2 (fun e=>HGD.out.1 (e▸HDB.out)))
    obtain ⟨D8,hD8⟩:∃ D8:Nat→Prop,D8=fun k=>D k∨(wr.heap.size≤k∧k<w8.heap.size):=⟨_,rfl⟩
    rw[← hD8] at hI8
    have hoff8:∀ j,(Value.slice (some ⟨g,0,none⟩) rest.length c).ownBlock=some j→¬ D8 j∧j≠W.heap.size+1:=fun j hj=>by
      obtain rfl:=ownBlock_is hj
      refine ⟨fun h => ?_,HGD.out.2.1⟩
      rw[hD8] at h
      rcases h with h|h
      ·exact HGD.out.1 h
      ·have:=HGD.out.2.2;omega
    have hrb8:¬ D8 (W.heap.size+1):=fun h=>by
      rw[hD8] at h
      rcases h with h|h
      ·exact HI.out.rbD h
      ·have:=HI.out.res.inside;omega
    have hDb8:D8 b:=by rw[hD8];exact .inl HDB.out
    have HI8:=hid hI8
    have HRES8:=hid hres8
    have HCUT8:=hid hcut8
    have HOFF8:=hid hoff8
    have HRB8:=hid hrb8
    have HDB8:=hid hDb8
    have C48:=hid c48
    have HG5:=hid hg5
    have HBEL8:=hid hbel8
    generalize hkd:pds g5 0 items xs=kd at *
    clear hkd ks1 ks2 hI8 hres8 hcut8 hoff8 hrb8 hDb8 hD8 c58 hk8 hf8 hh8 hap8 rw8 rn8 z8 hw8 hg5 hbel8 g4' g5' j5' f4 f5
    clear HW6 HB7 HB5 ROW5 ROW7 H53 HGD HCUT HI HWB HBW C4 C5
    go_loopw [3,42] (fun v i w=>RelCk W w8 D8 (W.heap.size+1) (pdRow rest) (pdRow kd) v i w) (fun _ i _=>x'.n-(intOf i).toNat)
    case atStart=>exact ⟨0,rfl,Nat.zero_le _,by simpa using HCUT8.out,HOFF8.out,fun _ _=>rfl,Nat.le_refl _,HBEL8.out⟩
    case round =>
      obtain ⟨k,rfl,h⟩:=hrel
      obtain ⟨A',c',rfl,hc1',hc2',_⟩:=h.row.form
      have hkl:=h.le
      rw[KL.out,← HXI.out,HXN.out] at hkl
      have hlen:(pdRow rest++(pdRow kd).take k).length=rest.length+k:=by
        rw[List.length_append,List.length_take,Nat.min_eq_left h.le]
        simp[pdRow]
      have hkept:∀ j,(D8 j∨j=W.heap.size+1)→j<w8.heap.size:=fun j hj=>by
        rcases hj with hj|rfl
        ·exact (HI8.out.dom j hj).2
        ·exact HRES8.out.inside
      have hbz:=hkept b (.inl HDB8.out)
      have c4':wr.cell? ⟨b,o+4,none⟩=some (.slice A5 x'.n k5):=(World.cell?_of_block (by exact h.kept b (.inl HDB8.out))).trans C48.out
      by_cases hlt:k<x'.n
      ·have eA:=HG5.out (by rw[HXN.out];omega)
       rw[eA] at c4'
       have l1:(k:Int)<(x'.n:Int):=by omega
       have l3:(0:Int)≤(k:Int):=by omega
       have l5:(k:Int)≤420000000:=by omega
       have hnew:(pdRow kd).take (k+1)=(pdRow kd).take k++[some ⟨g5,k*6,none⟩]:=by
         have e1:=KR.out k (by rw[← HXI.out,HXN.out];exact hlt)
         rw[Nat.zero_add] at e1
         rw[List.take_add_one,e1]
         rfl
       have hbw2:Below wr.heap.size wr (wr.alloc (.cells #[.pointer (some ⟨g5,k*6,none⟩)] 39)):=(Below.refl _ _).alloc (Nat.le_refl _) _
       have ROW:=hid (h.row.stay (fun j hj=>hbw2.block j (h.row.low hj).2))
       have NEW:=hid ((GRow.made (K:=ptrK) (base:=0) (l:=[some ⟨g5,k*6,none⟩]) wr #[.pointer (some ⟨g5,k*6,none⟩)] rfl (by simp[maxLen]) (Nat.zero_le _)).rd)
       have HNEW:=hid hnew
       have HIK:=hid h
       have HB2:=hid hbw2
       have HKEPT:=hid hkept
       have HKL:=hid (show k+1≤(pdRow kd).length by rw[KL.out,← HXI.out,HXN.out];exact hlt)
       have hgrow:(pdRow rest++(pdRow kd).take k).length+1≤1000000000:=by
         have:=HSZ.out
         have:=pdSize_len rest
         rw[hlen]
         omega
       have HGR:=hid hgrow
       clear h hnew hbw2 hgrow eA hkept hbz hc1' hc2' hlen hkl
       generalize hL9:pdRow rest++(pdRow kd).take k=L9 at *
       have HL9:=hid hL9
       have l6:(L9.length:Int)≤1000000000:=by have:=HGR.out;omega
       clear hL9
       go_wp2_with (at_builtin;go_must (
         refine row_append (K:=ptrK) _ rfl (.tmp 45) (.tmp 52) rfl W.heap.size _ _ rfl ROW.out _ 1 1 [some ⟨g5,k*6,none⟩] rfl NEW.out HGR.out (by have:=HIK.out.bel.size;have:=HB2.out.size;omega) ?_
         intro v9 w9 row9 grown9 at9
         have HR9:=hid row9
         have HG9:=hid grown9
         have HA9:=hid at9
         clear row9 grown9 at9))
       go_roundw
       case rel=>exact ⟨k+1,by go_num,HIK.out.next HKEPT.out HKL.out HNEW.out HB2.out (by rw[HL9.out];exact HR9.out) HG9.out HA9.out⟩
       case measure=>simp[intOf];omega
      ·have hke:k=x'.n:=by omega
       subst hke
       have no1:¬ (x'.n:Int)<(x'.n:Int):=by omega
       have hall:(pdRow kd).take x'.n=pdRow kd:=List.take_of_length_le (by rw[KL.out,← HXI.out,HXN.out];exact Nat.le_refl _)
       have hrw:=h.row
       have hl9:((pdRow rest++(pdRow kd).take x'.n).length:Int)≤1000000000:=by
         have:=HSZ.out
         have:=pdSize_len rest
         rw[hlen]
         omega
       have ho9:=h.off
       generalize (pdRow rest++(pdRow kd).take x'.n).length=m9 at *
       have HRW:=hid (show GRow ptrK wr W.heap.size (.slice A' m9 c') (pdRow (rest++kd)) by
         rw[hall] at hrw
         unfold pdRow at hrw ⊢
         rw[List.map_append]
         exact hrw)
       have HO9:=hid ho9
       have HINV:=hid (HI8.out.stay h.bel h.size (fun j hj=>h.kept j (.inl hj)))
       have HRES:=hid (show Own wr (W.heap.size+1) 27 zeroV.toArray from (h.kept _ (.inr rfl)).trans HRES8.out)
       clear h hrw hall ho9 hlen hkept hbz hc1' hc2' hkl c4'
       go_wp2
       go_roundg (pdSize rest+pdSize kd)
       case measure=>have:=HSZ.out;have:=KZ.out;omega
       case rel=>exact ⟨rest++kd,D8,pdSize_app _ _,by have:=HSZ.out;have:=KZ.out;omega,HINV.out,HRW.out,HO9.out,HRES.out,HRB8.out⟩
end
end Go.Proofs.YtbpilcklglhloaaGreatDoor
