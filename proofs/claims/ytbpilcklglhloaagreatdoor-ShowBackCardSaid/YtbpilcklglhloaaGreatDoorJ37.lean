/- Lemmas. -/
import Derived.Test.YtbpilcklglhloaaGreatDoorJ36
import Derived.Deep.RegionHeld3
set_option maxRecDepth 100000
set_option maxHeartbeats 8000000
set_option linter.unusedVariables false
namespace Go.Proofs.YtbpilcklglhloaaGreatDoor
open Go.Lib (hid)
section
open Go.RowKit
def zeroX:V6:=⟨0,0,0,[],none,0,0,none,0,0⟩
def put6at (w:World)(g k:Nat)(x:V6):World:=(((((w.setCell ⟨g,k,none⟩ (.int .i64 x.kd)).setCell ⟨g,k+1,none⟩ (.int .i64 x.fr)).setCell ⟨g,k+2,none⟩ (.int .i64 x.to)).setCell ⟨g,k+3,none⟩ (.string ⟨x.tx.toArray⟩)).setCell ⟨g,k+4,none⟩ (.slice x.A x.n x.c)).setCell ⟨g,k+5,none⟩ (.slice x.B x.m x.d)
theorem put6at_touch (w:World) (g k:Nat) (x:V6):Touch (fun j=>j=g) w (put6at w g k x) :=
 ((((((Touch.refl (fun j=>j=g) w).setCell (p:=⟨g,k,none⟩) (.inl rfl) _).setCell (p:=⟨g,k+1,none⟩) (.inl rfl) _).setCell (p:=⟨g,k+2,none⟩) (.inl rfl) _).setCell (p:=⟨g,k+3,none⟩) (.inl rfl) _).setCell (p:=⟨g,k+4,none⟩) (.inl rfl) _).setCell (p:=⟨g,k+5,none⟩) (.inl rfl) _
theorem put6at_row {w:World} {g m c:Nat} {xs:List V6} (z x:V6) (h:GRow valK w 0 (.slice (some ⟨g,0,none⟩) m c) (xs++[z])):GRow valK (put6at w g (xs.length*6) x) 0 (.slice (some ⟨g,0,none⟩) m c) (xs++[x]):=by
 have hl:∀ u:V6,(xs++[u])[xs.length]?=some u:=fun u=>by simp
 have st:∀ (w:World) (u v:V6) (j:Nat) (q:Value),GRow valK w 0 (.slice (some ⟨g,0,none⟩) m c) (xs++[u])→j<6→v6Cells v=(v6Cells u).set j q→GRow valK (w.setCell ⟨g,xs.length*6+j,none⟩ q) 0 (.slice (some ⟨g,0,none⟩) m c) (xs++[v]):=fun w u v j q h hj he=>by
   have:=h.putAt (i:=xs.length) (j:=j) (a:=v) (b:=u) (u:=q) (hl u) hj he
   rw[all_last] at this
   exact this
 have h1:=st w z ⟨x.kd,z.fr,z.to,z.tx,z.A,z.n,z.c,z.B,z.m,z.d⟩ 0 (.int .i64 x.kd) h (by decide) rfl
 have h2:=st _ _ ⟨x.kd,x.fr,z.to,z.tx,z.A,z.n,z.c,z.B,z.m,z.d⟩ 1 (.int .i64 x.fr) h1 (by decide) rfl
 have h3:=st _ _ ⟨x.kd,x.fr,x.to,z.tx,z.A,z.n,z.c,z.B,z.m,z.d⟩ 2 (.int .i64 x.to) h2 (by decide) rfl
 have h4:=st _ _ ⟨x.kd,x.fr,x.to,x.tx,z.A,z.n,z.c,z.B,z.m,z.d⟩ 3 (.string ⟨x.tx.toArray⟩) h3 (by decide) rfl
 have h5:=st _ _ ⟨x.kd,x.fr,x.to,x.tx,x.A,x.n,x.c,z.B,z.m,z.d⟩ 4 (.slice x.A x.n x.c) h4 (by decide) rfl
 exact st _ _ x 5 (.slice x.B x.m x.d) h5 (by decide) rfl
def Added (w wc:World) (b o:Nat) (x y:V6) (xs:List V6) (sb:Nat) (sc:List Value):Prop :=
 ∃ (g c:Nat),GRow valK wc 0 (.slice (some ⟨g,0,none⟩) (xs.length+1) c) (xs++[y])∧((Value.slice x.A x.n x.c).ownBlock=some g∨w.heap.size≤g)∧g≠b∧g≠sb∧wc.heap[b]?=(w.setCell ⟨b,o+4,none⟩ (.slice (some ⟨g,0,none⟩) (xs.length+1) c)).heap[b]? ∧
   Touch (fun k=>k=b∨(Value.slice x.A x.n x.c).ownBlock=some k) w wc∧Own wc sb 59 sc.toArray
theorem added_one {w w2 wd w9:World} {b o:Nat} {x y:V6} {xs:List V6} {sb:Nat} {sc:List Value} {A9:Option Addr} {m9 c9:Nat} (hb:b<w.heap.size) (hB2:Below w.heap.size w w2) (hs:sb<w2.heap.size) (hsw:w.heap.size≤sb) (hS:Own w2 sb 59 sc.toArray) (hd:Below w2.heap.size w2 wd)
   (hne:∀ g,(Value.slice x.A x.n x.c).ownBlock=some g→g≠b∧g<w.heap.size) (hr:GRow valK w9 0 (.slice A9 m9 c9) (xs++[zeroX])) (hg:wd.grownBy w9 (Value.slice x.A x.n x.c).ownBlock) (ha:(Value.slice A9 m9 c9).ownBlock=(Value.slice x.A x.n x.c).ownBlock∨(Value.slice A9 m9 c9).ownBlock=some wd.heap.size) :
   ∃ g,A9=some ⟨g,0,none⟩∧m9=xs.length+1∧xs.length+1≤c9∧g≠b∧g<w9.heap.size∧b<w9.heap.size∧(∀ i,w9.frozen? ⟨g,i,none⟩=false)∧(∀ i,w9.cell? ⟨b,i,none⟩=w.cell? ⟨b,i,none⟩)∧(∀ i,w9.frozen? ⟨b,i,none⟩=w.frozen? ⟨b,i,none⟩)∧(∀ k,k<w2.heap.size→w.heap.size≤k→w9.heap[k]?=w2.heap[k]?∧k≠g∧k≠b) ∧
     w9.cell? ⟨g,xs.length*6,none⟩=some (.int .i64 0)∧w9.cell? ⟨g,xs.length*6+1,none⟩=some (.int .i64 0)∧w9.cell? ⟨g,xs.length*6+2,none⟩=some (.int .i64 0)∧w9.cell? ⟨g,xs.length*6+3,none⟩=some (.string ⟨#[]⟩)∧w9.cell? ⟨g,xs.length*6+4,none⟩=some (.slice none 0 0)∧w9.cell? ⟨g,xs.length*6+5,none⟩=some (.slice none 0 0) ∧
     Added w (put6at (w9.setCell ⟨b,o+4,none⟩ (.slice (some ⟨g,0,none⟩) (xs.length+1) c9)) g (xs.length*6) y) b o x y xs sb sc∧Added w ((put6at w9 g (xs.length*6) y).setCell ⟨b,o+4,none⟩ (.slice (some ⟨g,0,none⟩) (xs.length+1) c9)) b o x y xs sb sc:=by
 have z2:=hB2.size
 have zd:=hd.size
 have z9:=hg.size
 have hcap:=hr.cap
 have hl:(xs++[zeroX]).length=xs.length+1:=by simp
 rw[hl] at hcap
 obtain ⟨hm9,hc9⟩:=hcap
 subst hm9
 obtain ⟨A',c',e,_,_,hA⟩:=hr.form
 injection e with e1 _ e3
 subst e1 e3
 obtain ⟨g,rfl,_,hg9⟩:=hA (by omega)
 have hgb:g≠b∧(∀ k,k<w2.heap.size→w.heap.size≤k→k≠g)∧((Value.slice x.A x.n x.c).ownBlock=some g∨w.heap.size≤g):=by
   rcases ha with e|e
   ·have e:(Value.slice x.A x.n x.c).ownBlock=some g:=e.symm
    have:=hne g e
    exact ⟨this.1,fun k _ h=>by omega,.inl e⟩
   ·have e:some g=some wd.heap.size:=e
    injection e with e
    exact ⟨by omega,fun k h _=>by omega,.inr (by omega)⟩
 have old:∀ k,k<w2.heap.size→(Value.slice x.A x.n x.c).ownBlock≠some k→w9.heap[k]?=w2.heap[k]?:=fun k hk hn=>(hg.block k (by omega) (fun e=>hn e.symm)).trans (hd.block k hk)
 have hbo:w9.heap[b]?=w.heap[b]?:=(old b (by omega) (fun e=>(hne b e).1 rfl)).trans (hB2.block b hb)
 have hsk:∀ k,k<w2.heap.size→w.heap.size≤k→w9.heap[k]?=w2.heap[k]?:=fun k hk hw=>old k hk (fun e=>by have:=(hne k e).2;omega)
 have hT9:Touch (fun k=>k=b∨(Value.slice x.A x.n x.c).ownBlock=some k) w w9:=by
   refine ⟨hg.os.trans (hd.os.trans hB2.os),hg.tape.trans (hd.tape.trans hB2.tape),hg.output.trans (hd.output.trans hB2.output),by omega,fun k hk hn => ?_⟩
   exact (old k (by omega) (fun e=>hn (.inr e))).trans (hB2.block k hk)
 have rd:=hr.rd
 have cz:∀ j u,(v6Cells zeroX)[j]?=some u→w9.cell? ⟨g,xs.length*6+j,none⟩=some u:=fun j u hu=>by
   have:=rd.at rfl (i:=xs.length) (a:=zeroX) (by simp) (j:=j) (u:=u) hu
   simpa [show valK.n=6 from rfl] using this
 have sbg:=hgb.2.1 sb hs hsw
 refine ⟨g,rfl,rfl,hc9,hgb.1,hg9,by omega,fun i=>hr.free i,fun i=>World.cell?_of_block (by exact hbo),fun i=>World.frozen?_of_block (by exact hbo),fun k h1 h2=>⟨hsk k h1 h2,hgb.2.1 k h1 h2,by omega⟩,cz 0 _ rfl,cz 1 _ rfl,cz 2 _ rfl,cz 3 _ rfl,cz 4 _ rfl,cz 5 _ rfl,?_,?_⟩
 ·have hr':GRow valK (w9.setCell ⟨b,o+4,none⟩ (.slice (some ⟨g,0,none⟩) (xs.length+1) c9)) 0 (.slice (some ⟨g,0,none⟩) (xs.length+1) c9) (xs++[zeroX]):=hr.stay (fun k hk=>by
    obtain rfl:=ownBlock_is hk
    exact Below.heap_setCell _ _ _ _ hgb.1)
  have ht:=put6at_touch (w9.setCell ⟨b,o+4,none⟩ (.slice (some ⟨g,0,none⟩) (xs.length+1) c9)) g (xs.length*6) y
  refine ⟨g,c9,put6at_row zeroX y hr',hgb.2.2,hgb.1,fun e=>sbg e.symm,?_,?_,?_⟩
  ·rw[ht.block b (by rw[set_size];omega) (fun e=>hgb.1 e.symm)]
   simp only [World.setCell,Array.getElem?_modify,hbo]
  ·refine (hT9.setCell (p:=⟨b,o+4,none⟩) (.inl (.inl rfl)) _).trans ht (fun k hk e => ?_)
   subst e
   rcases hgb.2.2 with h|h
   ·exact .inr h
   ·omega
  ·refine ht.own ?_ (fun e=>sbg e)
   exact Own.past ((hsk sb hs hsw).trans hS) (p:=⟨b,o+4,none⟩) (by show sb≠b;omega) _
 ·have ht:=put6at_touch w9 g (xs.length*6) y
  have hr':=put6at_row zeroX y hr
  refine ⟨g,c9,?_,hgb.2.2,hgb.1,fun e=>sbg e.symm,?_,?_,?_⟩
  ·exact hr'.stay (fun k hk=>by
     obtain rfl:=ownBlock_is hk
     exact Below.heap_setCell _ _ _ _ hgb.1)
  ·have:(put6at w9 g (xs.length*6) y).heap[b]?=w.heap[b]?:=(ht.block b (by omega) (fun e=>hgb.1 e.symm)).trans hbo
   simp only [World.setCell,Array.getElem?_modify,this]
  ·refine Touch.setCell ?_ (p:=⟨b,o+4,none⟩) (.inl (.inl rfl)) _
   refine hT9.trans ht (fun k hk e => ?_)
   subst e
   rcases hgb.2.2 with h|h
   ·exact .inr h
   ·omega
  ·refine Own.past ?_ (p:=⟨b,o+4,none⟩) (by show sb≠b;omega) _
   exact ht.own ((hsk sb hs hsw).trans hS) (fun e=>sbg e)
end
section
open Go.RowKit
structure Joined (w w':World) (b o:Nat) (x y:V6) (xs:List V6) (ns:List (List UInt8)) (s:Stp) (g c:Nat) (B:Option Addr) (m d:Nat):Prop where
 rowA:GRow valK w' 0 (.slice (some ⟨g,0,none⟩) (xs.length+1) c) (xs++[y])
 rowB:GRow namK w' 0 (.slice B m d) (if s.named then ns++[s.name] else ns)
 oA:(Value.slice x.A x.n x.c).ownBlock=some g∨w.heap.size≤g
 oB:∀ h,(Value.slice B m d).ownBlock=some h→((Value.slice x.B x.m x.d).ownBlock=some h∨w.heap.size≤h)∧h≠b∧h≠g
 gb:g≠b
 hb:w'.heap[b]?=if s.named then ((w.setCell ⟨b,o+4,none⟩ (.slice (some ⟨g,0,none⟩) (xs.length+1) c)).setCell ⟨b,o+5,none⟩ (.slice B m d)).heap[b]? else (w.setCell ⟨b,o+4,none⟩ (.slice (some ⟨g,0,none⟩) (xs.length+1) c)).heap[b]?
 old:s.named=false→B=x.B∧m=x.m∧d=x.d
 touch:Touch (fun k=>k=b∨(Value.slice x.A x.n x.c).ownBlock=some k∨(Value.slice x.B x.m x.d).ownBlock=some k) w w'
theorem joined_one {w wc wd w9:World} {b o:Nat} {x y:V6} {xs:List V6} {ns:List (List UInt8)} {s:Stp} {g c:Nat} {A9:Option Addr} {m9 c9:Nat} (hs:s.named=true) (hbl:b<w.heap.size) (hrow:GRow valK wc 0 (.slice (some ⟨g,0,none⟩) (xs.length+1) c) (xs++[y])) (hor:(Value.slice x.A x.n x.c).ownBlock=some g∨w.heap.size≤g) (hgb:g≠b)
   (hb:wc.heap[b]?=(w.setCell ⟨b,o+4,none⟩ (.slice (some ⟨g,0,none⟩) (xs.length+1) c)).heap[b]?) (ht:Touch (fun k=>k=b∨(Value.slice x.A x.n x.c).ownBlock=some k) w wc)
   (hoB:∀ g,(Value.slice x.B x.m x.d).ownBlock=some g→(g≠b∧(Value.slice x.A x.n x.c).ownBlock≠some g)∧g<w.heap.size) (hd:Below wc.heap.size wc wd) (hr:GRow namK w9 0 (.slice A9 m9 c9) (ns++[s.name])) (hg:wd.grownBy w9 (Value.slice x.B x.m x.d).ownBlock)
   (ha:(Value.slice A9 m9 c9).ownBlock=(Value.slice x.B x.m x.d).ownBlock∨(Value.slice A9 m9 c9).ownBlock=some wd.heap.size):Joined w (w9.setCell ⟨b,o+5,none⟩ (.slice A9 m9 c9)) b o x y xs ns s g c A9 m9 c9:=by
 have zc:=ht.size
 have zd:=hd.size
 have z9:=hg.size
 have hgl:=(hrow.low (g:=g) rfl).2
 have hBg:∀ h,(Value.slice x.B x.m x.d).ownBlock=some h→h≠g:=fun h hh e=>by
   subst e
   obtain ⟨⟨_,h2⟩,h3⟩:=hoB _ hh
   rcases hor with e|e
   ·exact h2 e
   ·omega
 have old:∀ k,k<wc.heap.size→(Value.slice x.B x.m x.d).ownBlock≠some k→w9.heap[k]?=wc.heap[k]?:=fun k hk hn=>(hg.block k (by omega) (fun e=>hn e.symm)).trans (hd.block k hk)
 have h9b:w9.heap[b]?=wc.heap[b]?:=old b (by omega) (fun e=>(hoB b e).1.1 rfl)
 have own9:∀ h,(Value.slice A9 m9 c9).ownBlock=some h→((Value.slice x.B x.m x.d).ownBlock=some h∨w.heap.size≤h)∧h≠b∧h≠g:=fun h hh=>by
   rcases ha with e|e
   ·have e:=e.symm.trans hh
    exact ⟨.inl e,(hoB h e).1.1,hBg h e⟩
   ·rw[e] at hh
    injection hh with hh
    exact ⟨.inr (by omega),by omega,by omega⟩
 refine ⟨?_,?_,hor,own9,hgb,?_,fun h=>(by rw[hs] at h;cases h),?_⟩
 ·refine hrow.stay (fun k hk => ?_)
  have hk:=ownBlock_is hk
  subst hk
  rw[Below.heap_setCell _ _ _ _ (by exact hgb)]
  exact old _ hgl (fun e=>hBg _ e rfl)
 ·rw[hs]
  exact hr.stay (fun k hk=>Below.heap_setCell _ _ _ _ (own9 k hk).2.1)
 ·rw[if_pos hs]
  show (w9.heap.modify _ _)[b]?=((w.setCell ⟨b,o+4,none⟩ (.slice (some ⟨g,0,none⟩) (xs.length+1) c)).heap.modify _ _)[b]?
  rw[Array.getElem?_modify,Array.getElem?_modify,h9b,hb]
 ·refine Touch.setCell ?_ (p:=⟨b,o+5,none⟩) (.inl (.inl rfl)) _
  refine ⟨hg.os.trans (hd.os.trans ht.os),hg.tape.trans (hd.tape.trans ht.tape),hg.output.trans (hd.output.trans ht.output),by omega,fun k hk hn => ?_⟩
  rw[old k (by omega) (fun e=>hn (.inr (.inr e)))]
  exact ht.block k hk (fun e=>hn (e.elim .inl (fun e=>.inr (.inl e))))
theorem addItem_any (w:World) (b o:Nat) (x y:V6) (xs:List V6) (ns:List (List UInt8)) (s:Stp) (hx:CellsAt w ⟨b,o,none⟩ x) (hf:∀ i,w.frozen? ⟨b,i,none⟩=false) (hrA:GRow valK w 0 (.slice x.A x.n x.c) xs) (hrB:GRow namK w 0 (.slice x.B x.m x.d) ns)
   (hoA:∀ g,(Value.slice x.A x.n x.c).ownBlock=some g→g≠b) (hoB:∀ g,(Value.slice x.B x.m x.d).ownBlock=some g→g≠b∧(Value.slice x.A x.n x.c).ownBlock≠some g) (h9:xs.length≤420000000) (h8:ns.length≤420000000) :
   Calls Tryz.prog 59 #[.pointer (some ⟨b,o,none⟩),.agg (stpCells s).toArray,.agg (v6Cells y).toArray] w fun e w' => ∃ g c B m d,e=.returned (.pointer (some ⟨g,xs.length*6,none⟩))∧Joined w w' b o x y xs ns s g c B m d:=by
 obtain ⟨b',o',eb,hbl,_,_,_,_,c4,c5⟩:=hx.six
 injection eb with e1 e2
 subst e1 e2
 have hnA:xs.length=x.n:=hrA.cap.1
 have hnB:ns.length=x.m:=hrB.cap.1
 obtain ⟨w1,hw1⟩:∃ w1,w1=w.alloc (.cells (stpCells s).toArray 59):=⟨_,rfl⟩
 have z1:w1.heap.size=w.heap.size+1:=by subst hw1;simp
 obtain ⟨w2,hw2⟩:∃ w2,w2=w1.alloc (.cells (v6Cells y).toArray 27):=⟨_,rfl⟩
 have z2:w2.heap.size=w.heap.size+2:=by subst hw2;simp[z1]
 have hB2:Below w.heap.size w w2:=by subst hw2 hw1;exact below2 _ _ _
 have oS:Own w2 w.heap.size 59 (stpCells s).toArray:=by
   have h1:Own w1 w.heap.size 59 (stpCells s).toArray:=by subst hw1;exact Own.fresh _ _ _
   subst hw2;exact h1.over _
 have oY:Own w2 (w.heap.size+1) 27 (v6Cells y).toArray:=by
   have h1:Own w2 w1.heap.size 27 (v6Cells y).toArray:=by subst hw2;exact Own.fresh _ _ _
   rwa [z1] at h1
 have y0:=oY.at 0
 have y1:=oY.at 1
 have y2:=oY.at 2
 have y3:=oY.at 3
 have y4:=oY.at 4
 have y5:=oY.at 5
 simp[v6Cells] at y0 y1 y2 y3 y4 y5
 have k4:w2.cell? ⟨b,o+4,none⟩=some (.slice x.A x.n x.c):=(hB2.cell (p:=⟨b,o+4,none⟩) hbl).trans c4
 have f4:w2.frozen? ⟨b,o+4,none⟩=false:=(World.frozen?_of_block (by exact hB2.block b hbl)).trans (hf _)
 have n1:(x.n:Int)≤420000000:=by omega
 have HOA:=hid (show ∀ g,(Value.slice x.A x.n x.c).ownBlock=some g→g≠b∧g<w.heap.size from fun g hg=>⟨hoA g hg,(hrA.low hg).2⟩)
 have HRA:=hid hrA
 have HRB:=hid hrB
 have HOB:=hid hoB
 have HF:=hid hf
 have HS:=hid oS
 have HB2:=hid hB2
 have HN:=hid hnA
 have HM:=hid hnB
 have H9:=hid h9
 have H8:=hid h8
 have HBL:=hid hbl
 have C4:=hid c4
 have C5:=hid c5
 have Z2:=hid z2
 have HW:=hid (show w2=(w.alloc (.cells (stpCells s).toArray 59)).alloc (.cells #[.int .i64 y.kd,.int .i64 y.fr,.int .i64 y.to,.string ⟨y.tx.toArray⟩,.slice y.A y.n y.c,.slice y.B y.m y.d] 27) by rw[hw2,hw1];rfl)
 obtain ⟨nm,sn,si⟩:=s
 show Calls _ _ #[.pointer (some ⟨b,o,none⟩),.agg #[.bool nm,.string ⟨sn.toArray⟩,.int .i64 si],.agg #[.int .i64 y.kd,.int .i64 y.fr,.int .i64 y.to,.string ⟨y.tx.toArray⟩,.slice y.A y.n y.c,.slice y.B y.m y.d]] _ _
 clear hx hf hrA hrB hoA hoB hB2 oS oY hnA hnB h9 h8 c4 c5 hw1 hw2 z1 z2 hbl
 go_enter Tryz.func59,Tryz.ntmps59
 go_upto_region 1 with fail
 generalize hw:World.alloc (World.alloc w _) _=w2'
 have e2:w2=w2':=HW.out.trans hw
 subst e2
 clear hw
 go_cut [4] from 7 to 17 (fun v wc=>v=.pointer (some ⟨w.heap.size,0,none⟩)∧Added w wc b o x y xs w.heap.size (stpCells ⟨nm,sn,si⟩))
 case first =>
   have hbZ:Below w2.heap.size w2 (w2.drew.alloc (.cells #[.int .i64 0,.int .i64 0,.int .i64 0,.string ⟨#[]⟩,.slice none 0 0,.slice none 0 0] 27)):=((Below.refl _ _).drew).alloc (Nat.le_refl _) _
   have hbl2:b<w2.heap.size:=by have:=HBL.out;have:=Z2.out;omega
   have hyl2:w.heap.size+1<w2.heap.size:=by have:=Z2.out;omega
   have hbz:Below w2.heap.size w2 (w2.alloc (.cells #[.int .i64 0,.int .i64 0,.int .i64 0,.string ⟨#[]⟩,.slice none 0 0,.slice none 0 0] 27)):=(Below.refl _ _).alloc (Nat.le_refl _) _
   have a0:(w2.alloc (.cells #[.int .i64 0,.int .i64 0,.int .i64 0,.string ⟨#[]⟩,.slice none 0 0,.slice none 0 0] 27)).cell? ⟨b,o+4,none⟩=some (.slice x.A x.n x.c):=(hbz.cell (p:=⟨b,o+4,none⟩) hbl2).trans k4
   have a1:(w2.alloc (.cells #[.int .i64 0,.int .i64 0,.int .i64 0,.string ⟨#[]⟩,.slice none 0 0,.slice none 0 0] 27)).cell? ⟨w.heap.size+1,0,none⟩=some (.int .i64 y.kd):=(hbz.cell (p:=⟨w.heap.size+1,0,none⟩) hyl2).trans y0
   have a2:(w2.alloc (.cells #[.int .i64 0,.int .i64 0,.int .i64 0,.string ⟨#[]⟩,.slice none 0 0,.slice none 0 0] 27)).cell? ⟨w.heap.size+1,1,none⟩=some (.int .i64 y.fr):=(hbz.cell (p:=⟨w.heap.size+1,1,none⟩) hyl2).trans y1
   have a3:(w2.alloc (.cells #[.int .i64 0,.int .i64 0,.int .i64 0,.string ⟨#[]⟩,.slice none 0 0,.slice none 0 0] 27)).cell? ⟨w.heap.size+1,2,none⟩=some (.int .i64 y.to):=(hbz.cell (p:=⟨w.heap.size+1,2,none⟩) hyl2).trans y2
   have a4:(w2.alloc (.cells #[.int .i64 0,.int .i64 0,.int .i64 0,.string ⟨#[]⟩,.slice none 0 0,.slice none 0 0] 27)).cell? ⟨w.heap.size+1,3,none⟩=some (.string ⟨y.tx.toArray⟩):=(hbz.cell (p:=⟨w.heap.size+1,3,none⟩) hyl2).trans y3
   have a5:(w2.alloc (.cells #[.int .i64 0,.int .i64 0,.int .i64 0,.string ⟨#[]⟩,.slice none 0 0,.slice none 0 0] 27)).cell? ⟨w.heap.size+1,4,none⟩=some (.slice y.A y.n y.c):=(hbz.cell (p:=⟨w.heap.size+1,4,none⟩) hyl2).trans y4
   have a6:(w2.alloc (.cells #[.int .i64 0,.int .i64 0,.int .i64 0,.string ⟨#[]⟩,.slice none 0 0,.slice none 0 0] 27)).cell? ⟨w.heap.size+1,5,none⟩=some (.slice y.B y.m y.d):=(hbz.cell (p:=⟨w.heap.size+1,5,none⟩) hyl2).trans y5
   have ROW:=hid (HRA.out.stay (w':=w2.drew.alloc (.cells #[.int .i64 0,.int .i64 0,.int .i64 0,.string ⟨#[]⟩,.slice none 0 0,.slice none 0 0] 27)) (fun k hk=>((hbZ.block k (by have:=(HRA.out.low hk).2;have:=Z2.out;omega)).trans (HB2.out.block k (HRA.out.low hk).2))))
   have NEW:=hid ((GRow.made (K:=valK) (base:=0) (l:=[zeroX]) w2.drew #[.int .i64 0,.int .i64 0,.int .i64 0,.string ⟨#[]⟩,.slice none 0 0,.slice none 0 0] rfl (by simp[maxLen]) (Nat.zero_le _)).rd)
   have HBZ:=hid hbZ
   have HBL2:=hid hbl2
   have SB:=hid (show w.heap.size<w2.heap.size by have:=Z2.out;omega)
   clear hbZ hbz hbl2 hyl2
   go_region_law (
     (refine step_row_app (KK:=valK) rfl (.tmp 10) (.tmp 13) rfl 0 _ xs rfl ROW.out _ 1 1 [zeroX] rfl NEW.out (by have:=H9.out;omega) (Nat.zero_le _) ?_
      intro v9 w9 row9 grown9 at9
      obtain ⟨A9,c9,rfl,_⟩:=row9.form
      obtain ⟨g,eA,em,hc9,hgb,hg9,hb9,fz,cb,fb,_,z0,z1,z2,z3,z4,z5,AD1,AD2⟩:=added_one (y:=y) (o:=o) HBL.out HB2.out SB.out (Nat.le_refl _) HS.out HBZ.out HOA.out row9 grown9 at9
      subst eA
      rw[HN.out] at em hc9 z0 z1 z2 z3 z4 z5 AD1 AD2
      rw[em]
      obtain ⟨n1,hn1⟩:∃ n1,n1=x.n+1:=⟨_,rfl⟩
      rw[← hn1] at AD1 AD2 hc9 ⊢
      have q4:=(cb (o+4)).trans C4.out
      have q5:=(fb (o+4)).trans (HF.out _)
      have fz0:=fz (x.n*6)
      have fz1:=fz (x.n*6+1)
      have fz2:=fz (x.n*6+2)
      have fz3:=fz (x.n*6+3)
      have fz4:=fz (x.n*6+4)
      have fz5:=fz (x.n*6+5)
      have i1:(x.n:Int)<(n1:Int):=by omega
      have i2:(0:Int)≤(x.n:Int):=by omega
      have i3:(n1:Int)≤c9:=by omega
      have i4:(n1:Int)≤420000001:=by omega
      unfold put6at at AD1 AD2
      have A1:=hid AD1
      have A2:=hid AD2
      clear row9 grown9 at9 AD1 AD2 fz cb fb em hc9 hn1))
   all_goals
     go_wp2
     go_meet
     case rel=>first
       | (with_reducible exact ⟨rfl,A1.out⟩)
       | (with_reducible exact ⟨rfl,A2.out⟩)
 case rest =>
   obtain ⟨rfl,g,c,hrow,hor,hgb,hgs,hb,ht,hs⟩:=hcut
   have zc:=ht.size
   have e4:wc.cell? ⟨b,o+4,none⟩=some (.slice (some ⟨g,0,none⟩) (xs.length+1) c):=by
     rw[World.cell?_of_block (w:=w.setCell ⟨b,o+4,none⟩ (.slice (some ⟨g,0,none⟩) (xs.length+1) c)) (by exact hb)]
     exact World.cell?_setCell_same _ _ _ C4.out
   have e5:wc.cell? ⟨b,o+5,none⟩=some (.slice x.B x.m x.d):=by
     rw[World.cell?_of_block (w:=w.setCell ⟨b,o+4,none⟩ (.slice (some ⟨g,0,none⟩) (xs.length+1) c)) (by exact hb),World.cell?_setCell_other _ _ _ _ (by intro e;injection e with _ e _;omega)]
     exact C5.out
   have fr:∀ i,wc.frozen? ⟨b,i,none⟩=false:=fun i=>by
     rw[World.frozen?_of_block (w:=w.setCell ⟨b,o+4,none⟩ (.slice (some ⟨g,0,none⟩) (xs.length+1) c)) (by exact hb),World.frozen?_setCell]
     exact HF.out i
   have fr5:=fr (o+5)
   have t0:=hs.at 0
   have t1:=hs.at 1
   simp[stpCells] at t0 t1
   obtain ⟨n1,hn1⟩:∃ n1,n1=xs.length+1:=⟨_,rfl⟩
   have s1:(n1:Int)-1=(xs.length:Int):=by omega
   have s2:(0:Int)≤(xs.length:Int):=by omega
   have s3:(xs.length:Int)<n1:=by omega
   have s4:(n1:Int)≤420000001:=by have:=H9.out;omega
   have hm1:(x.m:Int)≤420000000:=by have:=H8.out;have:=HM.out;omega
   have HROW:=hid hrow
   have HOR:=hid hor
   have HGB:=hid hgb
   have HHB:=hid hb
   have HT:=hid ht
   have HN1:=hid hn1
   have ZC:=hid zc
   rw[← hn1] at e4
   clear hrow hor hgb hgs hb ht hs hn1 fr k4 f4 y0 y1 y2 y3 y4 y5 zc
   cases nm with
   | false =>
     go_wp2
     go_quiet (fail)
     go_wp2
     go_ret
     refine ⟨g,c,x.B,x.m,x.d,rfl,?_⟩
     have ht:=HT.out
     have hBo:∀ k,(Value.slice x.B x.m x.d).ownBlock=some k→wc.heap[k]?=w.heap[k]?:=fun k hk=>ht.block k (HRB.out.low hk).2 (fun e=>by
       rcases e with e|e
       ·exact (HOB.out k hk).1 e
       ·exact (HOB.out k hk).2 e)
     exact ⟨HROW.out,HRB.out.stay hBo,HOR.out,fun h hh=>⟨.inl hh,(HOB.out h hh).1,fun e=>by
       subst e
       rcases HOR.out with e|e
       ·exact (HOB.out _ hh).2 e
       ·have:=(HRB.out.low hh).2;omega⟩,HGB.out,HHB.out,fun _=>⟨rfl,rfl,rfl⟩,(ht.mono (fun k _ e=>e.elim .inl (fun e=>.inr (.inl e)))).drewN _⟩
   | true =>
     have hbZ:Below wc.heap.size wc (wc.drew.alloc (.cells #[.string ⟨sn.toArray⟩] 9)):=((Below.refl _ _).drew).alloc (Nat.le_refl _) _
     have hBo:∀ k,(Value.slice x.B x.m x.d).ownBlock=some k→wc.heap[k]?=w.heap[k]?:=fun k hk=>HT.out.block k (HRB.out.low hk).2 (fun e=>by
       rcases e with e|e
       ·exact (HOB.out k hk).1 e
       ·exact (HOB.out k hk).2 e)
     have ROW:=hid ((HRB.out.stay hBo).stay (w':=wc.drew.alloc (.cells #[.string ⟨sn.toArray⟩] 9)) (fun k hk=>hbZ.block k (by have:=(HRB.out.low hk).2;have:=ZC.out;omega)))
     have NEW:=hid ((GRow.made (K:=namK) (base:=0) (l:=[sn]) wc.drew #[.string ⟨sn.toArray⟩] rfl (by simp[maxLen]) (Nat.zero_le _)).rd)
     have HBZ:=hid hbZ
     have hbc:b<wc.heap.size:=by have:=HBL.out;have:=ZC.out;omega
     have HBC:=hid hbc
     have a5:(wc.alloc (.cells #[.string ⟨sn.toArray⟩] 9)).cell? ⟨b,o+5,none⟩=some (.slice x.B x.m x.d):=(((Below.refl wc.heap.size wc).alloc (Nat.le_refl _) _).cell (p:=⟨b,o+5,none⟩) hbc).trans e5
     clear hbZ hBo hbc
     go_upto_region 3 with fail
     go_cut [6] from 20 to 30 (fun v wx=>v=.pointer none ∧ ∃ B m d,Joined w wx b o x y xs ns ⟨true,sn,si⟩ g c B m d)
     case first =>
       go_region_law (
         (refine step_row_app (KK:=namK) rfl (.tmp 24) (.tmp 27) rfl 0 _ ns rfl ROW.out _ 1 1 [sn] rfl NEW.out (by have:=H8.out;omega) (Nat.zero_le _) ?_
          intro v9 w9 row9 grown9 at9
          obtain ⟨A9,c9,rfl,_⟩:=row9.form
          have q5:w9.cell? ⟨b,o+5,none⟩=some (.slice x.B x.m x.d):=(World.cell?_of_block (by exact grown9.block b (Nat.lt_of_lt_of_le HBC.out HBZ.out.size) (fun e=>(HOB.out b e.symm).1 rfl))).trans a5
          have f5:w9.frozen? ⟨b,o+5,none⟩=false:=(World.frozen?_of_block (by exact (grown9.block b (Nat.lt_of_lt_of_le HBC.out HBZ.out.size) (fun e=>(HOB.out b e.symm).1 rfl)).trans (HBZ.out.block b HBC.out))).trans fr5
          have hj:=(joined_one (s:=⟨true,sn,si⟩) rfl HBL.out HROW.out HOR.out HGB.out HHB.out HT.out (fun h hh=>⟨HOB.out h hh,(HRB.out.low hh).2⟩) HBZ.out row9 grown9 at9)
          rw[show (ns++[sn]).length=ns.length+1 by simp] at hj
          have J:=hid hj
          clear row9 grown9 at9 hj))
       all_goals
         go_wp2
         go_meet
         case rel=>exact ⟨rfl,_,_,_,J.out⟩
     case rest =>
       obtain ⟨rfl,B,m,d,hj⟩:=hcut
       have J:=hid hj
       have e4:wc.cell? ⟨b,o+4,none⟩=some (.slice (some ⟨g,0,none⟩) n1 c):=by
         rw[World.cell?_of_block (w:=(w.setCell ⟨b,o+4,none⟩ (.slice (some ⟨g,0,none⟩) (xs.length+1) c)).setCell ⟨b,o+5,none⟩ (.slice B m d)) (by exact hj.hb),World.cell?_setCell_other _ _ _ _ (by intro e;injection e with _ e _;omega),HN1.out]
         exact World.cell?_setCell_same _ _ _ C4.out
       clear hj e5
       go_wp2
       go_quiet (fail)
       go_wp2
       go_ret
       have j:=J.out
       exact ⟨g,c,B,m,d,rfl,j.rowA.stay (fun _ _=>rfl),j.rowB.stay (fun _ _=>rfl),j.oA,j.oB,j.gb,j.hb,j.old,j.touch.drewN _⟩
end
section
open Go.RowKit
structure FootB (z b:Nat) (vo:Value) (S G F:Nat→Prop) (oA oB:Option Nat):Prop where
 fb:F b
 fo:∀ g,vo.ownBlock=some g→F g∧g≠b
 fS:∀ k,S k→k<z∧F k∧k≠b∧vo.ownBlock≠some k
 fG:∀ k,G k→k<z∧F k∧k≠b∧vo.ownBlock≠some k∧¬ S k
 fA:∀ k,oA=some k→F k∧k≠b∧vo.ownBlock≠some k
 fB:∀ k,oB=some k→F k∧k≠b∧vo.ownBlock≠some k
theorem FootB.mono {z z' b:Nat} {vo:Value} {S G F H:Nat→Prop} {oA oB:Option Nat} (h:FootB z b vo S G F oA oB) (hz:z≤z') (hF:∀ k,F k→H k):FootB z' b vo S G H oA oB :=
 ⟨hF _ h.fb,fun g hg=>⟨hF _ (h.fo g hg).1,(h.fo g hg).2⟩,fun k hk=>by obtain ⟨a,c,d⟩:=h.fS k hk;exact ⟨by omega,hF _ c,d⟩,fun k hk=>by obtain ⟨a,c,d⟩:=h.fG k hk;exact ⟨by omega,hF _ c,d⟩,
  fun k hk=>by obtain ⟨a,c⟩:=h.fA k hk;exact ⟨hF _ a,c⟩,fun k hk=>by obtain ⟨a,c⟩:=h.fB k hk;exact ⟨hF _ a,c⟩⟩
abbrev oA (x:V6):Option Nat:=(Value.slice x.A x.n x.c).ownBlock
abbrev oB (x:V6):Option Nat:=(Value.slice x.B x.m x.d).ownBlock
structure OpenB (w:World) (G S:Nat→Prop) (wb:Nat) (vo:Value) (t:Tree) (s:Stp) (r:List (Tree×Stp)) (x:V6) (xs:List V6) (p:Addr) (ps:List (Option Addr)):Prop where
 ctx:CtxIs w G wb r s p x ps S
 top:TopIs w G S t x xs
 row:GRow ptrK w 0 vo (ps++[some p])
def BIs (w:World) (b:Nat) (F:Nat→Prop) (bl:Bld):Prop:=∃ (wp:Option Addr) (vo:Value),Own w b 47 #[.pointer wp,vo] ∧
 ((bl=⟨[],none⟩∧wp=none∧GRow ptrK w 0 vo []∧FootB w.heap.size b vo (fun _=>False) (fun _=>False) F none none) ∨
  (∃ (t:Tree) (x:V6) (wb:Nat) (G:Nat→Prop),bl=⟨[],some t⟩∧wp=some ⟨wb,0,none⟩∧Own w wb 27 (v6Cells x).toArray∧VIsG w G t x∧GRow ptrK w 0 vo []∧FootB w.heap.size b vo (fun k=>k=wb) G F none none) ∨
  (∃ (t:Tree) (s:Stp) (r:List (Tree×Stp)) (x:V6) (xs:List V6) (p:Addr) (ps:List (Option Addr)) (S G:Nat→Prop) (wb:Nat),bl=⟨(t,s) :: r,none⟩∧wp=some ⟨wb,0,none⟩∧OpenB w G S wb vo t s r x xs p ps∧FootB w.heap.size b vo S G F (oA x) (oB x)))
section
variable {w w':World} {b:Nat} {F H:Nat→Prop} {bl:Bld}
theorem TopIs.stay {G H S:Nat→Prop} {t:Tree} {x:V6} {xs:List V6} (h:TopIs w G S t x xs) (hG:∀ k,G k→k<w.heap.size→w'.heap[k]?=w.heap[k]?) (hs:w.heap.size≤w'.heap.size) (hm:∀ k,k<w.heap.size→G k→H k) (hA:∀ k,oA x=some k→w'.heap[k]?=w.heap[k]?∧¬ H k) (hB:∀ k,oB x=some k→w'.heap[k]?=w.heap[k]?∧¬ H k):TopIs w' H S t x xs :=
 ⟨h.kd,h.fr,h.tt,h.tx,h.n,h.m,h.rowA.stay (fun k hk=>(hA k hk).1),VLsG.stay hG hs hm _ _ h.items,h.rowB.stay (fun k hk=>(hB k hk).1),fun k hk=>⟨(h.offA k hk).1,(hA k hk).2⟩,fun k hk=>⟨(h.offB k hk).1,(hB k hk).2,(h.offB k hk).2.2⟩⟩
theorem BIs.has (h:BIs w b F bl):F b∧b<w.heap.size:=by
 obtain ⟨wp,vo,ho,h⟩:=h
 refine ⟨?_,ho.inside⟩
 rcases h with ⟨_,_,_,h⟩|⟨_,_,_,_,_,_,_,_,_,h⟩|⟨_,_,_,_,_,_,_,_,_,_,_,_,_,h⟩<;>exact h.fb
theorem BIs.mono (h:BIs w b F bl) (hF:∀ k,F k→H k):BIs w b H bl:=by
 obtain ⟨wp,vo,ho,h⟩:=h
 refine ⟨wp,vo,ho,?_⟩
 rcases h with ⟨h1,h2,h3,h⟩|⟨t,x,wb,G,h1,h2,h3,h4,h5,h⟩|⟨t,s,r,x,xs,p,ps,S,G,wb,h1,h2,h3,h⟩
 ·exact .inl ⟨h1,h2,h3,h.mono (Nat.le_refl _) hF⟩
 ·exact .inr (.inl ⟨t,x,wb,G,h1,h2,h3,h4,h5,h.mono (Nat.le_refl _) hF⟩)
 ·exact .inr (.inr ⟨t,s,r,x,xs,p,ps,S,G,wb,h1,h2,h3,h.mono (Nat.le_refl _) hF⟩)
theorem BIs.cut (h:BIs w b F bl):BIs w b (fun k=>F k∧k<w.heap.size) bl:=by
 obtain ⟨wp,vo,ho,h⟩:=h
 refine ⟨wp,vo,ho,?_⟩
 have hb:=ho.inside
 rcases h with ⟨h1,h2,h3,h⟩|⟨t,x,wb,G,h1,h2,h3,h4,h5,h⟩|⟨t,s,r,x,xs,p,ps,S,G,wb,h1,h2,h3,h⟩
 ·refine .inl ⟨h1,h2,h3,⟨⟨h.fb,hb⟩,fun g hg=>⟨⟨(h.fo g hg).1,(h3.low hg).2⟩,(h.fo g hg).2⟩,fun k hk=>hk.elim,fun k hk=>hk.elim,(fun k hk=>by cases hk),(fun k hk=>by cases hk)⟩⟩
 ·exact .inr (.inl ⟨t,x,wb,G,h1,h2,h3,h4,h5,⟨⟨h.fb,hb⟩,fun g hg=>⟨⟨(h.fo g hg).1,(h5.low hg).2⟩,(h.fo g hg).2⟩,fun k hk=>by obtain ⟨a,c,d⟩:=h.fS k hk;exact ⟨a,⟨c,a⟩,d⟩,fun k hk=>by obtain ⟨a,c,d⟩:=h.fG k hk;exact ⟨a,⟨c,a⟩,d⟩,(fun k hk=>by cases hk),(fun k hk=>by cases hk)⟩⟩)
 ·exact .inr (.inr ⟨t,s,r,x,xs,p,ps,S,G,wb,h1,h2,h3,⟨⟨h.fb,hb⟩,fun g hg=>⟨⟨(h.fo g hg).1,(h3.row.low hg).2⟩,(h.fo g hg).2⟩,fun k hk=>by obtain ⟨a,c,d⟩:=h.fS k hk;exact ⟨a,⟨c,a⟩,d⟩,fun k hk=>by obtain ⟨a,c,d⟩:=h.fG k hk;exact ⟨a,⟨c,a⟩,d⟩,
    fun k hk=>⟨⟨(h.fA k hk).1,(h3.top.rowA.low hk).2⟩,(h.fA k hk).2⟩,fun k hk=>⟨⟨(h.fB k hk).1,(h3.top.rowB.low hk).2⟩,(h.fB k hk).2⟩⟩⟩)
theorem BIs.move {T:Nat→Prop} (h:BIs w b F bl) (ht:Touch T w w') (hd:∀ k,k<w.heap.size→F k→¬ T k):BIs w' b F bl:=by
 obtain ⟨wp,vo,ho,h⟩:=h
 have keep:∀ k,k<w.heap.size→F k→w'.heap[k]?=w.heap[k]?:=fun k hk hF=>ht.block k hk (hd k hk hF)
 have hs:=ht.size
 rcases h with ⟨h1,h2,h3,h⟩|⟨t,x,wb,G,h1,h2,h3,h4,h5,h⟩|⟨t,s,r,x,xs,p,ps,S,G,wb,h1,h2,h3,h⟩
 ·refine ⟨wp,vo,(keep b ho.inside h.fb).trans ho,.inl ⟨h1,h2,h3.stay (fun k hk=>keep k (h3.low hk).2 (h.fo k hk).1),h.mono hs (fun _ h=>h)⟩⟩
 ·refine ⟨wp,vo,(keep b ho.inside h.fb).trans ho,.inr (.inl ⟨t,x,wb,G,h1,h2,(keep wb h3.inside (h.fS wb rfl).2.1).trans h3,VIsG.stay (fun k hk hl=>keep k hl (h.fG k hk).2.1) hs (fun _ _ h=>h) _ _ h4,h5.stay (fun k hk=>keep k (h5.low hk).2 (h.fo k hk).1),h.mono hs (fun _ h=>h)⟩)⟩
 ·refine ⟨wp,vo,(keep b ho.inside h.fb).trans ho,.inr (.inr ⟨t,s,r,x,xs,p,ps,S,G,wb,h1,h2,⟨?_,?_,?_⟩,h.mono hs (fun _ h=>h)⟩)⟩
  ·exact CtxIs.stay (fun k hk hl=>keep k hl (h.fG k hk).2.1) hs (fun _ _ h=>h) _ _ _ _ _ _ h3.ctx (fun k hk hl=>keep k hl (h.fS k hk).2.1)
  ·exact h3.top.stay (fun k hk hl=>keep k hl (h.fG k hk).2.1) hs (fun _ _ h=>h) (fun k hk=>⟨keep k (h3.top.rowA.low hk).2 (h.fA k hk).1,(h3.top.offA k hk).2⟩) (fun k hk=>⟨keep k (h3.top.rowB.low hk).2 (h.fB k hk).1,(h3.top.offB k hk).2.1⟩)
  ·exact h3.row.stay (fun k hk=>keep k (h3.row.low hk).2 (h.fo k hk).1)
theorem BIs.start (w:World):BIs (w.alloc (.cells #[.pointer none,.slice none 0 0] 47)) w.heap.size (fun k=>k=w.heap.size) ⟨[],none⟩ :=
 ⟨none,.slice none 0 0,Own.fresh _ _ _,.inl ⟨rfl,rfl,GRow.nil _ _,rfl,(fun g hg=>by cases hg),fun k hk=>hk.elim,fun k hk=>hk.elim,(fun k hk=>by cases hk),(fun k hk=>by cases hk)⟩⟩
end
def begunX (k:Int)(f:Nat):V6:=⟨k,f,0,[],none,0,0,none,0,0⟩
def begunT (k:Int)(f:Nat):Tree:=.mk k f 0 [] [] []
theorem top_begun (w:World) (G S:Nat→Prop) (k:Int) (f:Nat):TopIs w G S (begunT k f) (begunX k f) [] :=
 ⟨rfl,rfl,rfl,rfl,rfl,rfl,GRow.nil _ _,(by show VLsG w G [] [];unfold VLsG;rfl),GRow.nil _ _,(fun g hg=>by cases hg),(fun g hg=>by cases hg)⟩
theorem begin_first {w w':World} {b wb:Nat} {F:Nat→Prop} {vo':Value} {k:Int} {f:Nat} {s:Stp} (hb:Own w' b 47 #[.pointer (some ⟨wb,0,none⟩),vo']) (hw:Own w' wb 27 (v6Cells (begunX k f)).toArray) (hr:GRow ptrK w' 0 vo' [some ⟨wb,0,none⟩])
   (hF:F b∧F wb) (ho:∀ g,vo'.ownBlock=some g→F g∧g≠b∧g≠wb) (hne:wb≠b):BIs w' b F ⟨[(begunT k f,s)],none⟩:=by
 refine ⟨_,_,hb,.inr (.inr ⟨begunT k f,s,[],begunX k f,[],⟨wb,0,none⟩,[],fun j=>j=wb,fun _=>False,wb,rfl,rfl,⟨⟨rfl,hw,rfl,rfl⟩,top_begun _ _ _ _ _,hr⟩,?_⟩)⟩
 refine ⟨hF.1,fun g hg=>⟨(ho g hg).1,(ho g hg).2.1⟩,fun j hj => ?_,fun j hj=>hj.elim,(fun j hj=>by cases hj),(fun j hj=>by cases hj)⟩
 subst hj
 exact ⟨hw.inside,hF.2,hne,fun e=>(ho _ e).2.2 rfl⟩
theorem begin_more {w w1 w':World} {b wb g c m d:Nat} {F:Nat→Prop} {vo vo':Value} {B:Option Addr} {k:Int} {f:Nat} {t:Tree} {s e:Stp} {r:List (Tree×Stp)} {x:V6} {xs:List V6} {p:Addr} {ps:List (Option Addr)} {S G:Nat→Prop} {pb po:Nat}
   (hbw:b<w.heap.size) (hO:OpenB w G S wb vo t s r x xs p ps) (hf:FootB w.heap.size b vo S G F (oA x) (oB x)) (hp:p=⟨pb,po,none⟩) (hJ:Joined w w1 pb po x (begunX k f) xs t.names e g c B m d)
   (hb:Own w' b 47 #[.pointer (some ⟨wb,0,none⟩),vo']) (hr:GRow ptrK w' 0 vo' (ps++[some p]++[some ⟨g,xs.length*6,none⟩])) (hT:Touch (fun j=>j=b∨vo.ownBlock=some j) w1 w') (ho:∀ j,vo'.ownBlock=some j→vo.ownBlock=some j∨w1.heap.size≤j) :
   BIs w' b (fun j=>F j∨w.heap.size≤j) ⟨(begunT k f,e) :: (t,s) :: r,none⟩:=by
 subst hp
 have z1:=hJ.touch.size
 have z2:=hT.size
 obtain ⟨pb',po',ep,hSp,hcells,_⟩:=hO.ctx.cells
 injection ep with ep1 ep2
 subst ep1 ep2
 have hgl:=(hJ.rowA.low (g:=g) rfl).2
 have hpw:pb<w.heap.size:=(hf.fS pb hSp).1
 have gf:g≠b∧vo.ownBlock≠some g∧¬ S g∧¬ G g∧(F g∨w.heap.size≤g):=by
   rcases hJ.oA with h|h
   ·have h1:=hf.fA g h
    have h2:=hO.top.offA g h
    exact ⟨h1.2.1,h1.2.2,h2.1,h2.2,.inl h1.1⟩
   ·refine ⟨by omega,fun e => ?_,fun e => ?_,fun e => ?_,.inr h⟩
    ·have:=(hO.row.low e).2;omega
    ·have:=(hf.fS g e).1;omega
    ·have:=(hf.fG g e).1;omega
 have bf:∀ h,(Value.slice B m d).ownBlock=some h→h≠b∧vo.ownBlock≠some h∧¬ S h∧¬ G h∧(F h∨w.heap.size≤h)∧h≠g∧h<w1.heap.size:=by
   intro h hh
   obtain ⟨o1,o2,o3⟩:=hJ.oB h hh
   have hlt:=(hJ.rowB.low hh).2
   rcases o1 with o1|o1
   ·have h1:=hf.fB h o1
    have h2:=hO.top.offB h o1
    exact ⟨h1.2.1,h1.2.2,h2.1,h2.2.1,.inl h1.1,o3,hlt⟩
   ·refine ⟨by omega,fun e => ?_,fun e => ?_,fun e => ?_,.inr o1,o3,hlt⟩
    ·have:=(hO.row.low e).2;omega
    ·have:=(hf.fS h e).1;omega
    ·have:=(hf.fG h e).1;omega
 have last:∀ k,k<w1.heap.size→k≠b→vo.ownBlock≠some k→w'.heap[k]?=w1.heap[k]?:=fun k hk h1 h2=>hT.block k hk (fun e=>e.elim h1 h2)
 have mid:∀ k,k<w.heap.size→k≠pb→oA x≠some k→oB x≠some k→w1.heap[k]?=w.heap[k]?:=fun k hk h1 h2 h3=>hJ.touch.block k hk (fun e=>e.elim h1 (fun e=>e.elim h2 h3))
 have keepG:∀ k,G k→k<w.heap.size→w'.heap[k]?=w.heap[k]?:=fun k hk hl=>by
   obtain ⟨_,_,g3,g4,g5⟩:=hf.fG k hk
   rw[last k (by omega) g3 g4]
   exact mid k hl (fun e=>g5 (e▸hSp)) (fun e=>(hO.top.offA k e).2 hk) (fun e=>(hO.top.offB k e).2.1 hk)
 have keepS:∀ k,S k→k≠pb→w'.heap[k]?=w.heap[k]?:=fun k hk hne=>by
   obtain ⟨g2,_,g3,g4⟩:=hf.fS k hk
   rw[last k (by omega) g3 g4]
   exact mid k g2 hne (fun e=>(hO.top.offA k e).1 hk) (fun e=>(hO.top.offB k e).1 hk)
 have atp:w'.heap[pb]?=w1.heap[pb]?:=by
   obtain ⟨g2,_,g3,g4⟩:=hf.fS pb hSp
   exact last pb (by omega) g3 g4
 have hSG:∀ k,S k→¬ G k:=fun k hk hg=>(hf.fG k hg).2.2.2.2 hk
 have hctx:CtxIs w' G wb r s ⟨pb,po,none⟩ ⟨x.kd,x.fr,x.to,x.tx,some ⟨g,0,none⟩,xs.length+1,c,B,m,d⟩ ps S:=by
   have move:∀ (w4:World) (y:V6),CtxIs w4 G wb r s ⟨pb,po,none⟩ y ps S→w4.heap.size=w.heap.size→(∀ k,k≠pb→w4.heap[k]?=w.heap[k]?)→w1.heap[pb]?=w4.heap[pb]?→CtxIs w' G wb r s ⟨pb,po,none⟩ y ps S:=fun w4 y h hz hk hp=>by
     refine CtxIs.stay (fun k hg hl => ?_) (by omega) (fun _ _ h=>h) _ _ _ _ _ _ h (fun k hs hl => ?_)
     ·rw[keepG k hg (by omega),hk k (fun e=>hSG k (e▸hSp) hg)]
     ·by_cases e:k=pb
      ·subst e;exact atp.trans hp
      ·rw[keepS k hs e,hk k e]
   have h4:CtxIs (w.setCell ⟨pb,po+4,none⟩ (.slice (some ⟨g,0,none⟩) (xs.length+1) c)) G wb r s ⟨pb,po,none⟩ ⟨x.kd,x.fr,x.to,x.tx,some ⟨g,0,none⟩,xs.length+1,c,x.B,x.m,x.d⟩ ps S:=CtxIs.put (x:=x) (j:=4) hO.ctx hSG (by decide) rfl
   have n4:∀ k,k≠pb→(w.setCell ⟨pb,po+4,none⟩ (.slice (some ⟨g,0,none⟩) (xs.length+1) c)).heap[k]?=w.heap[k]?:=fun k hk=>Below.heap_setCell _ _ _ _ hk
   have hh:=hJ.hb
   cases hn:e.named with
   | true =>
     rw[hn,if_pos rfl] at hh
     refine move ((w.setCell ⟨pb,po+4,none⟩ (.slice (some ⟨g,0,none⟩) (xs.length+1) c)).setCell ⟨pb,po+5,none⟩ (.slice B m d)) _ ?_ (by rw[set_size,set_size]) (fun k hk=>by rw[Below.heap_setCell _ _ _ _ (by exact hk)];exact n4 k hk) hh
     exact CtxIs.put (j:=5) h4 hSG (by decide) rfl
   | false =>
     rw[hn,if_neg (by decide)] at hh
     obtain ⟨e1,e2,e3⟩:=hJ.old hn
     subst e1 e2 e3
     exact move _ _ h4 (by rw[set_size]) n4 hh
 refine ⟨_,_,hb,.inr (.inr ⟨begunT k f,e,(t,s) :: r,begunX k f,[],⟨g,xs.length*6,none⟩,ps++[some ⟨pb,po,none⟩],fun j=>S j∨j=g∨(Value.slice B m d).ownBlock=some j,G,wb,rfl,rfl,⟨?_,top_begun _ _ _ _ _,hr⟩,?_⟩)⟩
 ·refine ⟨⟨x.kd,x.fr,x.to,x.tx,some ⟨g,0,none⟩,xs.length+1,c,B,m,d⟩,xs,⟨pb,po,none⟩,ps,S,g,hO.top.kd,hO.top.fr,hO.top.tt,hO.top.tx,rfl,rfl,rfl,?_,?_,?_,?_,hctx,rfl,fun _ h=>.inl h,.inr (.inl rfl),gf.2.2.1,fun h hh=>⟨.inr (.inr hh),(bf h hh).2.2.1,(bf h hh).2.2.2.2.2.1⟩⟩
  ·exact hJ.rowA.stay (fun k hk=>by
     have hk:=ownBlock_is hk
     subst hk
     exact last _ hgl gf.1 gf.2.1)
  ·exact VLsG.stay (fun k hk hl=>keepG k hk hl) (by omega) (fun _ _ h=>h) _ _ hO.top.items
  ·exact hJ.rowB.stay (fun k hk=>last k (bf k hk).2.2.2.2.2.2 (bf k hk).1 (bf k hk).2.1)
  ·exact hJ.rowB.cap.1.symm
 ·have vf:∀ j,vo'.ownBlock=some j→(F j∨w.heap.size≤j)∧j≠b:=fun j hj=>by
    rcases ho j hj with h|h
    ·exact ⟨.inl (hf.fo j h).1,(hf.fo j h).2⟩
    ·exact ⟨.inr (by omega),by omega⟩
  have vn:∀ j,j<w1.heap.size→vo.ownBlock≠some j→vo'.ownBlock≠some j:=fun j hj hn e=>by
    rcases ho j e with h|h
    ·exact hn h
    ·omega
  refine ⟨.inl hf.fb,vf,fun j hj => ?_,fun j hj => ?_,(fun j hj=>by cases hj),(fun j hj=>by cases hj)⟩
  ·rcases hj with hj|hj|hj
   ·obtain ⟨a1,a2,a3,a4⟩:=hf.fS j hj
    exact ⟨by omega,.inl a2,a3,vn j (by omega) a4⟩
   ·subst hj
    exact ⟨by omega,gf.2.2.2.2,gf.1,vn _ hgl gf.2.1⟩
   ·have:=bf j hj
    exact ⟨by omega,this.2.2.2.2.1,this.1,vn j this.2.2.2.2.2.2 this.2.1⟩
  ·obtain ⟨a1,a2,a3,a4,a5⟩:=hf.fG j hj
   refine ⟨by omega,.inl a2,a3,vn j (by omega) a4,fun h => ?_⟩
   rcases h with h|h|h
   ·exact a5 h
   ·exact gf.2.2.2.1 (h▸hj)
   ·exact (bf j h).2.2.2.1 hj
end
section
open Go.RowKit
theorem bldE_end (t:Tree) (s:Stp) (r:List (Tree×Stp)) (e:Evt) (h:e.kind≠1):bldE ⟨(t,s) :: r,none⟩ e=match r with
   | []=>⟨[],some (.mk e.value t.fr e.to e.text t.items t.names)⟩
   | (u,s') :: r'=>⟨(addT (.mk e.value t.fr e.to e.text t.items t.names) s u,s') :: r',none⟩:=by
 obtain ⟨k1,f1,t1,x1,i1,n1⟩:=t
 unfold bldE
 rw[if_neg h]
 cases r with
 | nil=>rfl
 | cons q r=>rfl
def endX (e:Evt)(x:V6):V6:=⟨e.value,x.fr,e.to,e.text,x.A,x.n,x.c,x.B,x.m,x.d⟩
theorem end_one {w w4 w':World} {b wb:Nat} {F:Nat→Prop} {vo vo':Value} {t:Tree} {s:Stp} {r:List (Tree×Stp)} {x:V6} {xs:List V6} {p:Addr} {ps:List (Option Addr)} {S G:Nat→Prop} {pb po:Nat} {e:Evt} (he:e.kind≠1)
   (hbw:b<w.heap.size) (hO:OpenB w G S wb vo t s r x xs p ps) (hf:FootB w.heap.size b vo S G F (oA x) (oB x)) (hp:p=⟨pb,po,none⟩) (h4:CtxIs w4 G wb r s p (endX e x) ps S) (h4k:∀ k,k<w.heap.size→k≠pb→w4.heap[k]?=w.heap[k]?) (h4s:w.heap.size≤w4.heap.size)
   (hb:Own w' b 47 #[.pointer (some ⟨wb,0,none⟩),vo']) (hr:GRow ptrK w' 0 vo' ps) (hT:Touch (fun j=>j=b∨vo.ownBlock=some j) w4 w') (ho:∀ j,vo'.ownBlock=some j→vo.ownBlock=some j) :
   BIs w' b (fun j=>F j∨w.heap.size≤j) (bldE ⟨(t,s) :: r,none⟩ e):=by
 subst hp
 have z2:=hT.size
 obtain ⟨pb',po',ep,hSp,hcells,_⟩:=hO.ctx.cells
 injection ep with ep1 ep2
 subst ep1 ep2
 have last:∀ k,k<w4.heap.size→k≠b→vo.ownBlock≠some k→w'.heap[k]?=w4.heap[k]?:=fun k hk h1 h2=>hT.block k hk (fun e=>e.elim h1 h2)
 have keepG:∀ k,G k→k<w.heap.size→w'.heap[k]?=w.heap[k]?:=fun k hk hl=>by
   obtain ⟨_,_,g3,g4,g5⟩:=hf.fG k hk
   rw[last k (by omega) g3 g4]
   exact h4k k hl (fun e=>g5 (e▸hSp))
 have keepS:∀ k,S k→w'.heap[k]?=w4.heap[k]?:=fun k hk=>by
   obtain ⟨g2,_,g3,g4⟩:=hf.fS k hk
   exact last k (by omega) g3 g4
 have keepA:∀ k,oA x=some k→w'.heap[k]?=w.heap[k]?:=fun k hk=>by
   obtain ⟨_,g3,g4⟩:=hf.fA k hk
   have hl:=(hO.top.rowA.low hk).2
   rw[last k (by omega) g3 g4]
   exact h4k k hl (fun e=>(hO.top.offA k hk).1 (e▸hSp))
 have keepB:∀ k,oB x=some k→w'.heap[k]?=w.heap[k]?:=fun k hk=>by
   obtain ⟨_,g3,g4⟩:=hf.fB k hk
   have hl:=(hO.top.rowB.low hk).2
   rw[last k (by omega) g3 g4]
   exact h4k k hl (fun e=>(hO.top.offB k hk).1 (e▸hSp))
 have keepG4:∀ k,G k→k<w4.heap.size→w'.heap[k]?=w4.heap[k]?:=fun k hk hl=>by
   obtain ⟨_,_,g3,g4,g5⟩:=hf.fG k hk
   exact last k hl g3 g4
 have hsz:w.heap.size≤w'.heap.size:=by omega
 -- the value that has ended
 have hG':∀ k,(G k∨oA x=some k∨oB x=some k)→k<w'.heap.size∧F k∧k≠b∧vo'.ownBlock≠some k∧¬ S k:=by
   intro k hk
   rcases hk with hk|hk|hk
   ·obtain ⟨g1,g2,g3,g4,g5⟩:=hf.fG k hk
    exact ⟨by omega,g2,g3,fun e=>g4 (ho k e),g5⟩
   ·obtain ⟨g1,g3,g4⟩:=hf.fA k hk
    exact ⟨by have:=(hO.top.rowA.low hk).2;omega,g1,g3,fun e=>g4 (ho k e),(hO.top.offA k hk).1⟩
   ·obtain ⟨g1,g3,g4⟩:=hf.fB k hk
    exact ⟨by have:=(hO.top.rowB.low hk).2;omega,g1,g3,fun e=>g4 (ho k e),(hO.top.offB k hk).1⟩
 have hv:VIsG w' (fun k=>G k∨oA x=some k∨oB x=some k) (.mk e.value t.fr e.to e.text t.items t.names) (endX e x):=by
   unfold VIsG
   refine ⟨rfl,hO.top.fr,rfl,rfl,hO.top.rowA.cap.2,hO.top.rowB.cap.2,?_,xs,?_,?_⟩
   ·exact RdH.of_row (v:=.slice none 0 0) (c:=x.d) (hO.top.rowB.stay (fun k hk=>keepB k hk)) hO.top.m.symm (fun k hk=>.inr (.inr hk))
   ·exact RdH.of_row (v:=.slice none 0 0) (c:=x.c) (hO.top.rowA.stay (fun k hk=>keepA k hk)) hO.top.n.symm (fun k hk=>.inr (.inl hk))
   ·exact VLsG.stay (fun k hk hl=>keepG k hk hl) hsz (fun k _ h=>.inl h) _ _ hO.top.items
 rw[bldE_end t s r e he]
 cases r with
 | nil =>
   obtain ⟨c1,c2,c3,c4⟩:=h4
   have hwb:wb=pb:=by injection c1 with e1 _;exact e1.symm
   refine ⟨_,_,hb,.inr (.inl ⟨_,endX e x,wb,_,rfl,rfl,(keepS wb c4).trans c2,hv,by rw[c3] at hr;exact hr,?_⟩)⟩
   refine ⟨.inl hf.fb,fun g hg=>⟨.inl (hf.fo g (ho g hg)).1,(hf.fo g (ho g hg)).2⟩,fun k hk => ?_,fun k hk => ?_,(fun k hk=>by cases hk),(fun k hk=>by cases hk)⟩
   ·subst hk
    obtain ⟨a1,a2,a3,a4⟩:=hf.fS k c4
    exact ⟨by omega,.inl a2,a3,fun e=>a4 (ho k e)⟩
   ·obtain ⟨a1,a2,a3,a4,a5⟩:=hG' k hk
    exact ⟨a1,.inl a2,a3,a4,fun e=>a5 (e▸c4)⟩
 | cons q r =>
   obtain ⟨u,s'⟩:=q
   have h4':=CtxIs.stay (w':=w') (H:=fun k=>G k∨oA x=some k∨oB x=some k) keepG4 (by omega) (fun k _ h=>.inl h) _ _ _ _ _ _ h4 (fun k hk _=>keepS k hk)
   obtain ⟨X,ys,P,ps',S',g,a1,a2,a3,a4,a5,a6,a7,a8,a9,a10,am,a11,a12,a13,a14,a15,a17⟩:=h4'
   obtain ⟨k1,k2,k3,k4,k5,k6⟩:=addT_kd (.mk e.value t.fr e.to e.text t.items t.names) s u
   refine ⟨_,_,hb,.inr (.inr ⟨_,s',r,X,ys++[endX e x],P,ps',S',_,wb,rfl,rfl,⟨a11,⟨by rw[k1,a1],by rw[k2,a2],by rw[k3,a3],by rw[k4,a4],by rw[a7];simp,by rw[k6,am],a8,?_,by rw[k6];exact a10,?_,?_⟩,by rw[← a12];exact hr⟩,?_⟩)⟩
   ·rw[k5]
    exact VLsG.snoc a9 hv
   ·intro k hk
    rw[a5] at hk
    have hk:=ownBlock_is hk
    subst hk
    exact ⟨a15,fun h=>(hG' _ h).2.2.2.2 a14⟩
   ·intro k hk
    obtain ⟨b1,b2,b3⟩:=a17 k hk
    exact ⟨b2,fun h=>(hG' k h).2.2.2.2 b1,fun e=>by rw[a5] at e;exact b3 (ownBlock_is e)⟩
   ·refine ⟨.inl hf.fb,fun g hg=>⟨.inl (hf.fo g (ho g hg)).1,(hf.fo g (ho g hg)).2⟩,fun k hk => ?_,fun k hk => ?_,fun k hk => ?_,fun k hk => ?_⟩
    ·obtain ⟨c1,c2,c3,c4⟩:=hf.fS k (a13 k hk)
     exact ⟨by omega,.inl c2,c3,fun e=>c4 (ho k e)⟩
    ·obtain ⟨c1,c2,c3,c4,c5⟩:=hG' k hk
     exact ⟨c1,.inl c2,c3,c4,fun e=>c5 (a13 k e)⟩
    ·have hk':(Value.slice X.A X.n X.c).ownBlock=some k:=hk
     rw[a5] at hk'
     have hk':=ownBlock_is hk'
     subst hk'
     obtain ⟨c1,c2,c3,c4⟩:=hf.fS _ a14
     exact ⟨.inl c2,c3,fun e=>c4 (ho _ e)⟩
    ·obtain ⟨b1,b2,b3⟩:=a17 k hk
     obtain ⟨c1,c2,c3,c4⟩:=hf.fS k b1
     exact ⟨.inl c2,c3,fun e=>c4 (ho k e)⟩
end
section
open Go.RowKit
theorem first_one {w w1 w2 w3 wd w9:World} {b:Nat} {F:Nat→Prop} {vo:Value} {k:Int} {f:Nat} {s:Stp} {T1:TypeId} {c1:Array Value} {A9:Option Addr} {m9 c9:Nat} (hbw:b<w.heap.size) (hown:Own w b 47 #[.pointer none,vo]) (hrow:GRow ptrK w 0 vo []) (hf:FootB w.heap.size b vo (fun _=>False) (fun _=>False) F none none)
   (e1:w1=w.alloc (.cells c1 T1)) (e2:w2=w1.alloc (.cells (v6Cells (begunX k f)).toArray 27)) (e3:w3=w2.setCell ⟨b,0,none⟩ (.pointer (some ⟨w.heap.size+1,0,none⟩))) (hd:Below w3.heap.size w3 wd) (hr:GRow ptrK w9 0 (.slice A9 m9 c9) ([]++[some ⟨w.heap.size+1,0,none⟩])) (hg:wd.grownBy w9 vo.ownBlock)
   (ha:(Value.slice A9 m9 c9).ownBlock=vo.ownBlock∨(Value.slice A9 m9 c9).ownBlock=some wd.heap.size) :
   w9.cell? ⟨b,1,none⟩=some vo∧w9.frozen? ⟨b,1,none⟩=false∧BIs (w9.setCell ⟨b,1,none⟩ (.slice A9 m9 c9)) b (fun j=>F j∨w.heap.size≤j) ⟨[(begunT k f,s)],none⟩∧Touch F w (w9.setCell ⟨b,1,none⟩ (.slice A9 m9 c9)):=by
 have s1:w1.heap.size=w.heap.size+1:=by subst e1;simp
 have s2:w2.heap.size=w.heap.size+2:=by subst e2;simp[s1]
 have s3:w3.heap.size=w.heap.size+2:=by rw[e3,set_size,s2]
 have zd:=hd.size
 have z9:=hg.size
 have hvb:vo.ownBlock≠some b:=fun e=>(hf.fo b e).2 rfl
 have hvl:∀ g,vo.ownBlock=some g→g<w.heap.size:=fun g hg=>(hrow.low hg).2
 have hB2:Below w.heap.size w w2:=by subst e2 e1;exact below2 _ _ _
 have old:∀ j,j<w3.heap.size→vo.ownBlock≠some j→w9.heap[j]?=w3.heap[j]?:=fun j hj hn=>(hg.block j (by omega) (fun e=>hn e.symm)).trans (hd.block j hj)
 have o3:Own w3 b 47 #[.pointer (some ⟨w.heap.size+1,0,none⟩),vo]:=by
   rw[e3]
   have:=(hown.stay hB2 hbw).put 0 (.pointer (some ⟨w.heap.size+1,0,none⟩))
   simpa using this
 have o9:Own w9 b 47 #[.pointer (some ⟨w.heap.size+1,0,none⟩),vo]:=(old b (by omega) hvb).trans o3
 have g3:Own w3 (w.heap.size+1) 27 (v6Cells (begunX k f)).toArray:=by
   have h:Own w2 w1.heap.size 27 (v6Cells (begunX k f)).toArray:=by subst e2;exact Own.fresh _ _ _
   rw[s1] at h
   rw[e3]
   exact Own.past h (p:=⟨b,0,none⟩) (by show w.heap.size+1≠b;omega) _
 have hown9:∀ g,(Value.slice A9 m9 c9).ownBlock=some g→(F g∨w.heap.size≤g)∧g≠b∧g≠w.heap.size+1:=fun g hg=>by
   rcases ha with e|e
   ·have e:=e.symm.trans hg
    have:=hvl g e
    exact ⟨.inl (hf.fo g e).1,(hf.fo g e).2,by omega⟩
   ·rw[e] at hg
    injection hg with hg
    exact ⟨.inr (by omega),by omega,by omega⟩
 have g9:Own w9 (w.heap.size+1) 27 (v6Cells (begunX k f)).toArray:=(old _ (by omega) (fun e=>by have:=hvl _ e;omega)).trans g3
 refine ⟨by have:=o9.at 1;simpa using this,o9.free 1,?_,?_⟩
 ·refine begin_first (w:=w) (wb:=w.heap.size+1) (vo':=.slice A9 m9 c9) ?_ ?_ ?_ ⟨.inl hf.fb,.inr (by omega)⟩ hown9 (by omega)
  ·have:=o9.put 1 (.slice A9 m9 c9)
   simpa using this
  ·exact Own.past g9 (p:=⟨b,1,none⟩) (by show w.heap.size+1≠b;omega) _
  ·rw[List.nil_append] at hr
   exact hr.stay (fun g hg=>Below.heap_setCell _ _ _ _ (hown9 g hg).2.1)
 ·refine Touch.setCell ?_ (p:=⟨b,1,none⟩) (.inl hf.fb) _
  have t3:Touch F w w3:=by rw[e3];exact (Touch.of_new hB2).setCell (p:=⟨b,0,none⟩) (.inl hf.fb) _
  refine ⟨hg.os.trans (hd.os.trans t3.os),hg.tape.trans (hd.tape.trans t3.tape),hg.output.trans (hd.output.trans t3.output),by omega,fun j hj hn => ?_⟩
  rw[old j (by omega) (fun e=>hn (hf.fo j e).1)]
  exact t3.block j hj hn
theorem begin_walk1 {w:World} {b:Nat} {F:Nat→Prop} (h:BIs w b F ⟨[],none⟩) (e:Evt) :
   Calls Tryz.prog 32 #[.pointer (some ⟨b,0,none⟩),.agg (evCells e).toArray] w fun e' w'=>e'=.returned (.tuple #[])∧BIs w' b (fun j=>F j∨w.heap.size≤j) ⟨[(begunT e.value e.fr,e.step)],none⟩∧Touch F w w':=by
 obtain ⟨wp,vo,hown,h⟩:=h
 obtain ⟨hwp,hrow,hf⟩:wp=none∧GRow ptrK w 0 vo []∧FootB w.heap.size b vo (fun _=>False) (fun _=>False) F none none:=by
   rcases h with ⟨_,h2,h3,h4⟩|⟨_,_,_,_,h1,_⟩|⟨_,_,_,_,_,_,_,_,_,_,h1,_⟩
   ·exact ⟨h2,h3,h4⟩
   ·cases h1
   ·cases h1
 subst hwp
 clear h
 have hbw:=hown.inside
 obtain ⟨ek,ev,ef,et,⟨nm,sn,si⟩,tx⟩:=e
 obtain ⟨w1,hw1⟩:∃ w1,w1=w.alloc (.cells #[.int .i64 ek,.int .i64 ev,.int .i64 ef,.int .i64 et,.bool nm,.string ⟨sn.toArray⟩,.int .i64 si,.string ⟨tx.toArray⟩] 61):=⟨_,rfl⟩
 obtain ⟨w2,hw2⟩:∃ w2,w2=w1.alloc (.cells #[.int .i64 ev,.int .i64 ef,.int .i64 0,.string ⟨#[]⟩,.slice none 0 0,.slice none 0 0] 27):=⟨_,rfl⟩
 have s1:w1.heap.size=w.heap.size+1:=by subst hw1;simp
 have s2:w2.heap.size=w.heap.size+2:=by subst hw2;simp[s1]
 have hB2:Below w.heap.size w w2:=by subst hw2 hw1;exact below2 _ _ _
 have o2:=hown.stay hB2 hbw
 have c0:=o2.at 0
 have c1:=o2.at 1
 have f0:=o2.free 0
 have f1:=o2.free 1
 simp at c0 c1
 obtain ⟨w3,hw3⟩:∃ w3,w3=w2.setCell ⟨b,0,none⟩ (.pointer (some ⟨w.heap.size+1,0,none⟩)):=⟨_,rfl⟩
 have o3:=o2.put 0 (.pointer (some ⟨w.heap.size+1,0,none⟩))
 rw[← hw3] at o3
 have d0:=o3.at 0
 have d1:=o3.at 1
 have g1:=o3.free 1
 simp at d0 d1
 have s3:w3.heap.size=w.heap.size+2:=by rw[hw3,set_size,s2]
 have hbZ:Below w3.heap.size w3 (w3.drew.alloc (.cells #[.pointer (some ⟨w.heap.size+1,0,none⟩)] 39)):=((Below.refl _ _).drew).alloc (Nat.le_refl _) _
 have b1:(w3.alloc (.cells #[.pointer (some ⟨w.heap.size+1,0,none⟩)] 39)).cell? ⟨b,1,none⟩=some vo:=(((Below.refl w3.heap.size w3).alloc (Nat.le_refl _) _).cell (p:=⟨b,1,none⟩) (show b<w3.heap.size by omega)).trans d1
 have hrow3:GRow ptrK w3 0 vo []:=hrow.stay (fun k hk=>by
   rw[hw3,Below.heap_setCell _ _ _ _ (by exact (hf.fo k hk).2)]
   exact hB2.block k (hrow.low hk).2)
 have ROW:=hid (hrow3.stay (fun k hk=>hbZ.block k (hrow3.low hk).2))
 have NEW:=hid (show RdG ptrK (w3.drew.alloc (.cells #[.pointer (some ⟨w.heap.size+1,0,none⟩)] 39)) (some ⟨w3.heap.size,0,none⟩) 1 [some ⟨w.heap.size+1,0,none⟩] from (GRow.made (K:=ptrK) (base:=0) (l:=[some ⟨w.heap.size+1,0,none⟩]) w3.drew #[.pointer (some ⟨w.heap.size+1,0,none⟩)] rfl (by simp[maxLen]) (Nat.zero_le _)).rd)
 have HZ:=hid hbZ
 have HW1:=hid hw1
 have HW2:=hid hw2
 have HW3:=hid hw3
 have HOWN:=hid hown
 have HROW:=hid hrow
 have HF:=hid hf
 have HBW:=hid hbw
 obtain ⟨A0,k0,hvo,_⟩:=hrow.form
 show Calls _ _ #[.pointer (some ⟨b,0,none⟩),.agg #[.int .i64 ek,.int .i64 ev,.int .i64 ef,.int .i64 et,.bool nm,.string ⟨sn.toArray⟩,.int .i64 si,.string ⟨tx.toArray⟩]] _ _
 clear hown hrow hf hB2 o2 o3 s1 s2 s3 hbZ hrow3 hw1 hw2 hw3 hbw
 subst hvo
 go_enter Tryz.func32,Tryz.ntmps32
 go_upto_region 2 with fail
 generalize hw:World.alloc (World.alloc w _) _=w2'
 have e2:w2=w2':=by rw[HW2.out,HW1.out];exact hw
 subst e2
 clear hw
 go_upto_region 4 with fail
 rw[← HW3.out]
 go_region_law (
   (refine step_row_app (KK:=ptrK) rfl (.tmp 23) (.tmp 28) rfl 0 _ [] rfl ROW.out _ 1 1 [some ⟨w.heap.size+1,0,none⟩] rfl NEW.out (by simp) (Nat.zero_le _) ?_
    intro v9 w9 row9 grown9 at9
    obtain ⟨A9,c9,rfl,_⟩:=row9.form
    obtain ⟨q1,q2,BI,TO⟩:=first_one (s:=⟨nm,sn,si⟩) (k:=ev) (f:=ef) HBW.out HOWN.out HROW.out HF.out HW1.out HW2.out HW3.out HZ.out row9 grown9 at9
    have B1:=hid BI
    have T1:=hid TO
    clear row9 grown9 at9 BI TO))
 all_goals
   go_wp2
   go_end0
   exact ⟨rfl,B1.out,T1.out⟩
end
section
open Go.RowKit
def HeldE (eb:Nat) (nm:Bool) (sn:List UInt8) (si:Nat) (ev:Int) (ef:Nat) (w:World):Prop :=
 w.cell? ⟨eb,4,none⟩=some (.bool nm)∧w.cell? ⟨eb,5,none⟩=some (.string ⟨sn.toArray⟩)∧w.cell? ⟨eb,6,none⟩=some (.int .i64 si)∧w.cell? ⟨eb+1,0,none⟩=some (.int .i64 ev)∧w.cell? ⟨eb+1,1,none⟩=some (.int .i64 ef)∧w.cell? ⟨eb+1,2,none⟩=some (.int .i64 0) ∧
   w.cell? ⟨eb+1,3,none⟩=some (.string ⟨#[]⟩)∧w.cell? ⟨eb+1,4,none⟩=some (.slice none 0 0)∧w.cell? ⟨eb+1,5,none⟩=some (.slice none 0 0)
theorem HeldE.move {eb:Nat} {nm:Bool} {sn:List UInt8} {si:Nat} {ev:Int} {ef:Nat} {w w':World} (h:HeldE eb nm sn si ev ef w) (h1:w'.heap[eb]?=w.heap[eb]?) (h2:w'.heap[eb+1]?=w.heap[eb+1]?):HeldE eb nm sn si ev ef w':=by
 have a:∀ i,w'.cell? ⟨eb,i,none⟩=w.cell? ⟨eb,i,none⟩:=fun i=>World.cell?_of_block (by exact h1)
 have b:∀ i,w'.cell? ⟨eb+1,i,none⟩=w.cell? ⟨eb+1,i,none⟩:=fun i=>World.cell?_of_block (by exact h2)
 unfold HeldE at *
 rw[a,a,a,b,b,b,b,b,b]
 exact h
theorem more_one {w w2 w5 wd w9:World} {b wb g c m d:Nat} {F:Nat→Prop} {vo:Value} {B:Option Addr} {k:Int} {f:Nat} {t:Tree} {s e:Stp} {r:List (Tree×Stp)} {x:V6} {xs:List V6} {ps:List (Option Addr)} {S G:Nat→Prop} {pb po:Nat} {A9:Option Addr} {m9 c9:Nat}
   (hbw:b<w2.heap.size) (hz:w.heap.size≤w2.heap.size) (hown:Own w2 b 47 #[.pointer (some ⟨wb,0,none⟩),vo]) (hO:OpenB w2 G S wb vo t s r x xs ⟨pb,po,none⟩ ps) (hf:FootB w2.heap.size b vo S G F (oA x) (oB x)) (hJ:Joined w2 w5 pb po x (begunX k f) xs t.names e g c B m d) (hd:Below w5.heap.size w5 wd)
   (hr:GRow ptrK w9 0 (.slice A9 m9 c9) (ps++[some ⟨pb,po,none⟩]++[some ⟨g,xs.length*6,none⟩])) (hg:wd.grownBy w9 vo.ownBlock) (ha:(Value.slice A9 m9 c9).ownBlock=vo.ownBlock∨(Value.slice A9 m9 c9).ownBlock=some wd.heap.size) (hw2:Touch F w w2) :
   w9.cell? ⟨b,1,none⟩=some vo∧w9.frozen? ⟨b,1,none⟩=false∧BIs (w9.setCell ⟨b,1,none⟩ (.slice A9 m9 c9)) b (fun j=>F j∨w.heap.size≤j) ⟨(begunT k f,e) :: (t,s) :: r,none⟩∧Touch F w (w9.setCell ⟨b,1,none⟩ (.slice A9 m9 c9)):=by
 have z5:=hJ.touch.size
 have zd:=hd.size
 have z9:=hg.size
 have hvb:vo.ownBlock≠some b:=fun e=>(hf.fo b e).2 rfl
 obtain ⟨pb',po',ep,hSp,hcells,_⟩:=hO.ctx.cells
 injection ep with ep1 ep2
 subst ep1 ep2
 have old:∀ j,j<w5.heap.size→vo.ownBlock≠some j→w9.heap[j]?=w5.heap[j]?:=fun j hj hn=>(hg.block j (by omega) (fun e=>hn e.symm)).trans (hd.block j hj)
 have o5:Own w5 b 47 #[.pointer (some ⟨wb,0,none⟩),vo]:=(hJ.touch.block b hbw (fun h=>by
   rcases h with h|h|h
   ·exact (hf.fS pb hSp).2.2.1 h.symm
   ·exact (hf.fA b h).2.1 rfl
   ·exact (hf.fB b h).2.1 rfl)).trans hown
 have o9:Own w9 b 47 #[.pointer (some ⟨wb,0,none⟩),vo]:=(old b (by omega) hvb).trans o5
 have hown9:∀ j,(Value.slice A9 m9 c9).ownBlock=some j→vo.ownBlock=some j∨w5.heap.size≤j:=fun j hj=>by
   rcases ha with e|e
   ·exact .inl (e.symm.trans hj)
   ·rw[e] at hj
    injection hj with hj
    exact .inr (by omega)
 have hn9:∀ j,(Value.slice A9 m9 c9).ownBlock=some j→j≠b:=fun j hj e=>by
   subst e
   rcases hown9 _ hj with h|h
   ·exact hvb h
   ·omega
 have hT:Touch (fun j=>j=b∨vo.ownBlock=some j) w5 (w9.setCell ⟨b,1,none⟩ (.slice A9 m9 c9)):=by
   refine Touch.setCell ?_ (p:=⟨b,1,none⟩) (.inl (.inl rfl)) _
   exact ⟨hg.os.trans hd.os,hg.tape.trans hd.tape,hg.output.trans hd.output,by omega,fun j hj hn=>old j hj (fun e=>hn (.inr e))⟩
 refine ⟨by have:=o9.at 1;simpa using this,o9.free 1,?_,?_⟩
 ·refine (begin_more (w':=w9.setCell ⟨b,1,none⟩ (.slice A9 m9 c9)) (vo':=.slice A9 m9 c9) hbw hO hf rfl hJ ?_ ?_ hT hown9).mono (fun j hj=>hj.elim .inl (fun h=>.inr (by omega)))
  ·have:=o9.put 1 (.slice A9 m9 c9)
   simpa using this
  ·exact hr.stay (fun j hj=>Below.heap_setCell _ _ _ _ (hn9 j hj))
 ·have t5:Touch F w w5:=hw2.trans (hJ.touch.mono (G:=F) (fun j _ h=>by
    rcases h with h|h|h
    ·subst h;exact (hf.fS _ hSp).2.1
    ·exact (hf.fA j h).1
    ·exact (hf.fB j h).1)) (fun _ _ h=>h)
  exact t5.trans hT (fun j _ h=>by
    rcases h with h|h
    ·subst h;exact hf.fb
    ·exact (hf.fo j h).1)
end
section
open Go.RowKit
section
variable {P:Program} {ops:Array Oper} {Q:Exit→Act→World→Prop} {md:Region.Mode} {S:World→Prop} {z:Nat}
def wpTil (P:Program) (md:Region.Mode) (ops:Array Oper) (Q:Exit→Act→World→Prop) (S:World→Prop) (z:Nat):Nat→Array Bool→Act→World→Prop
 | 0,listed,a,w=>Region.ready md ops listed=[]∧Q .normal a w
 | n+1,listed,a,w=>(Region.ready md ops listed=[]→Q .normal a w) ∧ ∀ j∈Region.ready md ops listed,wpOp P ops Q j (fun a' w'=>(j<z→S w')∧wpTil P md ops Q S z n (listed.setIfInBounds j true) a' w') a w
theorem til_any:∀ (n:Nat) (listed:Array Bool) (a:Act) (w:World),wpTil P md ops Q S z n listed a w→wpAny P md ops Q n listed a w
 | 0,_,_,_,h=>h
 | n+1,_,_,_,h=>⟨h.1,fun j hj=>wpOp_mono (fun a' w' hh=>til_any n _ a' w' hh.2) (h.2 j hj)⟩
theorem til_region {id:Nat} {a:Act} {w:World} (hm:P.follows .mixedOrders=true) (hS:S w.drew) (h:S w.drew→wpTil P .any ops Q S z ops.size (Array.replicate ops.size false) a w.drew):(Code.region id ops true).wp P Q a w :=
 wp_region_any hm (til_any _ _ _ _ (h hS))
def closedB (md:Region.Mode) (ops:Array Oper) (listed:Array Bool):Bool:=(List.range ops.size).all fun j => !(listed.getD j false)||(match ops[j]? with
 | some o=>o.after.toList.all fun e => !(Region.binds md e)||listed.getD e.on false
 | none=>true)
def Closed (md:Region.Mode)(ops:Array Oper)(listed:Array Bool):Prop:=∀ (j:Nat) (o:Oper),ops[j]?=some o→listed.getD j false=true → ∀ e∈o.after,Region.binds md e=true→listed.getD e.on false=true
theorem closed_spec {listed:Array Bool} (h:closedB md ops listed=true):Closed md ops listed:=by
 intro j o ho hl e he hb
 have hj:j<ops.size:=(Array.getElem?_eq_some_iff.1 ho).1
 have h1:=List.all_eq_true.1 h j (List.mem_range.2 hj)
 rw[hl,ho] at h1
 have h2:=List.all_eq_true.1 (show (o.after.toList.all fun e => !(Region.binds md e)||listed.getD e.on false)=true by simpa using h1) e (Array.mem_toList_iff.2 he)
 rw[hb] at h2
 simpa using h2
def awaits (md:Region.Mode) (ops:Array Oper):Nat→Nat→Nat→Bool
 | 0,_,_=>false
 | n+1,j,i=>match ops[j]? with
   | some o=>o.after.toList.any fun e=>Region.binds md e&&(e.on==i||awaits md ops n e.on i)
   | none=>true
theorem awaits_spec {listed:Array Bool} (hc:Closed md ops listed) {i:Nat}:∀ (n j:Nat) (o:Oper),ops[j]?=some o→(∀ e∈o.after,Region.binds md e=true→listed.getD e.on false=true)→awaits md ops n j i=true→(∀ e∈o.after,Region.binds md e=true → ∃ q,ops[e.on]?=some q)→(∀ (j:Nat) (o:Oper),ops[j]?=some o → ∀ e∈o.after,Region.binds md e=true → ∃ q,ops[e.on]?=some q)→listed.getD i false=true
 | 0,j,o,ho,hl,h,_,_=>by cases h
 | n + 1,j,o,ho,hl,h,hin,hall=>by
   unfold awaits at h
   rw[ho] at h
   obtain ⟨e,he,h1⟩:=List.any_eq_true.1 h
   rw[Bool.and_eq_true,Bool.or_eq_true] at h1
   have he':=Array.mem_toList_iff.1 he
   have hle:=hl e he' h1.1
   rcases h1.2 with h2|h2
   ·have:e.on=i:=by simpa using h2
    rwa [this] at hle
   ·obtain ⟨q,hq⟩:=hin e he' h1.1
    exact awaits_spec hc n e.on q hq (fun d hd hb=>hc e.on q hq hle d hd hb) h2 (fun d hd hb=>hall e.on q hq d hd hb) hall
def tillB (md:Region.Mode) (ops:Array Oper) (z i:Nat):Bool:=((List.range ops.size).all fun j=>decide (j<z)||awaits md ops ops.size j i)&&((List.range ops.size).all fun j=>match ops[j]? with
 | some o=>o.after.toList.all fun e=>decide (e.on<ops.size)
 | none=>true)
theorem till_spec {i:Nat} (h:tillB md ops z i=true):(∀ j,z≤j→j<ops.size→awaits md ops ops.size j i=true) ∧ ∀ (j:Nat) (o:Oper),ops[j]?=some o → ∀ e∈o.after,Region.binds md e=true → ∃ q,ops[e.on]?=some q:=by
 unfold tillB at h
 rw[Bool.and_eq_true] at h
 refine ⟨fun j hj hl => ?_,fun j o ho e he _ => ?_⟩
 ·have h1:=List.all_eq_true.1 h.1 j (List.mem_range.2 hl)
  rw[decide_eq_false (by omega)] at h1
  simpa using h1
 ·have hj:j<ops.size:=(Array.getElem?_eq_some_iff.1 ho).1
  have h1:=List.all_eq_true.1 h.2 j (List.mem_range.2 hj)
  rw[ho] at h1
  have h2:=List.all_eq_true.1 h1 e (Array.mem_toList_iff.2 he)
  exact ⟨_,Array.getElem?_eq_getElem (of_decide_eq_true h2)⟩
theorem getD_both {listed:Array Bool} {i:Nat} (h:listed.getD i false=true):listed.getD i true=true:=by
 simp only [Array.getD_eq_getD_getElem?] at *
 cases hg:listed[i]? with
 | none=>rfl
 | some x=>rw[hg] at h;exact h
theorem til_first {i:Nat} {o:Oper} {v:Value} (hi:ops[i]?=some o) (hn:Region.noSelect ops=true) (hz:tillB md ops z i=true) (hQ:∀ c a w,Q (.panic c) (a.put o.dst v) w→Q (.panic c) a w) (n:Nat) :
   ∀ (listed:Array Bool) (a:Act) (w:World),Closed md ops listed→(∀ j q,ops[j]?=some q→j≠i→listed.getD j true=false→(∀ e∈q.after,Region.binds md e=true→e.on≠i)→o.apart ops q=true)→i∈Region.ready md ops listed→YieldsIf P ops S o v a→S w →
     wpTil P md ops Q S z n (listed.setIfInBounds i true) (a.put o.dst v) w→wpTil P md ops Q S z (n+1) listed a w:=by
 induction n with
 | zero =>
   intro listed a w hc _ hr hy hS H
   refine ⟨fun e=>absurd hr (by rw[e];simp),fun j hj => ?_⟩
   by_cases e:j=i
   ·subst e
    exact hy.wpOp hi hS ⟨fun _=>hS,H⟩
   ·exact absurd (ready_mono hj e) (by rw[H.1];simp)
 | succ n ih =>
   intro listed a w hc hap hr hy hS H
   refine ⟨fun e=>absurd hr (by rw[e];simp),fun j hj => ?_⟩
   by_cases e:j=i
   ·subst e
    exact hy.wpOp hi hS ⟨fun _=>hS,H⟩
   obtain ⟨hun,q,hq,hall⟩:=mem_ready.1 hj
   have hi0:=(mem_ready.1 hr).1
   have hne:listed.getD i false≠true:=fun h=>by rw[getD_both h] at hi0;cases hi0
   have ahead:∀ d∈q.after,Region.binds md d=true→d.on≠i:=fun d hd hb hon=>hne (hon▸hall d hd hb)
   obtain ⟨hz1,hz2⟩:=till_spec hz
   have hjz:j<z:=by
     by_cases h:j<z
     ·exact h
     ·exact absurd (awaits_spec hc _ j q hq hall (hz1 j (by omega) (Array.getElem?_eq_some_iff.1 hq).1) (fun d hd hb=>hz2 j q hq d hd hb) hz2) hne
   have hput:=wpOp_putIf hq (hap j q hq e hun ahead) (fun cs b=>Region.noSelect_spec hn i o cs b hi) (fun cs b=>Region.noSelect_spec hn j q cs b hq) hQ hy (H.2 j (ready_mono hj e))
   refine wpOp_mono (fun a' w' hh => ?_) hput
   obtain ⟨hy',hS',H'⟩:=hh
   have hSw:=hS' hjz
   have hc':Closed md ops (listed.setIfInBounds j true):=fun l ql hl hll d hd hb=>by
     by_cases ejl:j=l
     ·subst ejl
      obtain rfl:ql=q:=by rw[hq] at hl;injection hl with hl;exact hl.symm
      exact getD_set_true (hall d hd hb)
     ·refine getD_set_true (hc l ql hl ?_ d hd hb)
      rw[getD_set_ne false ejl] at hll
      exact hll
   refine ⟨fun _=>hSw,ih (listed.setIfInBounds j true) a' w' hc' (fun l ql hl hli hlu hla => ?_) (ready_mono hr (Ne.symm e)) hy' hSw (by rw[Array.setIfInBounds_comm _ _ e];exact H')⟩
   refine hap l ql hl hli ?_ hla
   by_cases ejl:j=l
   ·subst ejl;exact hun
   ·rwa [getD_set_ne true ejl] at hlu
theorem til_take {i:Nat} {d:Tmp} {o:Oper} {v:Value} {n:Nat} {listed:Array Bool} {a:Act} {w:World} (hi:ops[i]?=some o) (hd:o.dst=some d) (hn:Region.noSelect ops=true) (hz:tillB md ops z i=true) (hc:closedB md ops listed=true) (hf:Region.free md ops listed i=true) (hr:(Region.ready md ops listed).contains i=true)
   (hQ:∀ c a w,Q (.panic c) (a.put (some d) v) w→Q (.panic c) a w) (hy:YieldsIf P ops S o v a) (hS:S w) (h:wpTil P md ops Q S z n (listed.setIfInBounds i true) (a.put (some d) v) w):wpTil P md ops Q S z (n+1) listed a w :=
 til_first hi hn hz (fun c a w h=>hQ c a w (hd▸h)) n listed a w (closed_spec hc) (Region.free_spec hi hf) (by simpa using hr) hy hS (by rw[hd];exact h)
theorem til_one {i:Nat} {o:Oper} {n:Nat} {listed:Array Bool} {a:Act} {w:World} (hr:Region.ready md ops listed=[i]) (ho:ops[i]?=some o)
   (h:∀ K:Act→World→Prop,Shut (∀ a w,(i<z→S w)→wpTil P md ops Q S z n (listed.setIfInBounds i true) a w→K a w)→if Region.wanted o (yielded ops a.tmps)=true then Oper.wp P o a w K Q else K (a.put o.dst undef) w):wpTil P md ops Q S z (n+1) listed a w:=by
 refine ⟨fun e=>(by rw[hr] at e;cases e),fun j hj => ?_⟩
 rw[hr] at hj
 obtain rfl:j=i:=by simpa using hj
 exact wpOp_step ho (fun K hK=>h K (fun a w hS hW=>hK a w ⟨hS,hW⟩))
theorem til_done {listed:Array Bool} {a:Act} {w:World} (hr:Region.ready md ops listed=[]) (h:Q .normal a w):∀ n,wpTil P md ops Q S z n listed a w
 | 0=>⟨hr,h⟩
 | _+1=>⟨fun _=>h,by rw[hr];simp⟩
end
end
section
open Go.RowKit
theorem begin_walk2 {w:World} {b:Nat} {F:Nat→Prop} {t:Tree} {s:Stp} {r:List (Tree×Stp)} (h:BIs w b F ⟨(t,s) :: r,none⟩) (e:Evt) (hr9:r.length≤420000000) (hi9:t.items.length≤420000000) (hn9:t.names.length≤420000000) :
   Calls Tryz.prog 32 #[.pointer (some ⟨b,0,none⟩),.agg (evCells e).toArray] w fun e' w'=>e'=.returned (.tuple #[])∧BIs w' b (fun j=>F j∨w.heap.size≤j) ⟨(begunT e.value e.fr,e.step) :: (t,s) :: r,none⟩∧Touch F w w':=by
 obtain ⟨ek,ev,ef,et,⟨nm,sn,si⟩,tx⟩:=e
 obtain ⟨w1,hw1⟩:∃ w1,w1=w.alloc (.cells #[.int .i64 ek,.int .i64 ev,.int .i64 ef,.int .i64 et,.bool nm,.string ⟨sn.toArray⟩,.int .i64 si,.string ⟨tx.toArray⟩] 61):=⟨_,rfl⟩
 obtain ⟨w2,hw2⟩:∃ w2,w2=w1.alloc (.cells #[.int .i64 ev,.int .i64 ef,.int .i64 0,.string ⟨#[]⟩,.slice none 0 0,.slice none 0 0] 27):=⟨_,rfl⟩
 have s1:w1.heap.size=w.heap.size+1:=by subst hw1;simp
 have s2:w2.heap.size=w.heap.size+2:=by subst hw2;simp[s1]
 have hB2:Below w.heap.size w w2:=by subst hw2 hw1;exact below2 _ _ _
 have hbw0:=h.has.2
 have oE:Own w2 w.heap.size 61 #[.int .i64 ek,.int .i64 ev,.int .i64 ef,.int .i64 et,.bool nm,.string ⟨sn.toArray⟩,.int .i64 si,.string ⟨tx.toArray⟩]:=by
   have h1:Own w1 w.heap.size 61 #[.int .i64 ek,.int .i64 ev,.int .i64 ef,.int .i64 et,.bool nm,.string ⟨sn.toArray⟩,.int .i64 si,.string ⟨tx.toArray⟩]:=by subst hw1;exact Own.fresh _ _ _
   subst hw2;exact h1.over _
 have oV:Own w2 (w.heap.size+1) 27 #[.int .i64 ev,.int .i64 ef,.int .i64 0,.string ⟨#[]⟩,.slice none 0 0,.slice none 0 0]:=by
   have h1:Own w2 w1.heap.size 27 #[.int .i64 ev,.int .i64 ef,.int .i64 0,.string ⟨#[]⟩,.slice none 0 0,.slice none 0 0]:=by subst hw2;exact Own.fresh _ _ _
   rwa [s1] at h1
 have hE2:HeldE w.heap.size nm sn si ev ef w2:=⟨oE.at 4,oE.at 5,oE.at 6,oV.at 0,oV.at 1,oV.at 2,oV.at 3,oV.at 4,oV.at 5⟩
 -- the Builder in the world behind the boxes
 obtain ⟨F0,hF0⟩:∃ F0:Nat→Prop,F0=fun k=>F k∧k<w.heap.size:=⟨_,rfl⟩
 have hFF:∀ k,F0 k→F k∧k<w.heap.size:=fun k hk=>by rw[hF0] at hk;exact hk
 have h:=h.cut
 rw[← hF0] at h
 obtain ⟨wp,vo,hown,h⟩:=h.move (w':=w2.drew) (T:=fun _=>False) (Touch.of_new (hB2.drew)) (fun _ _ _ h=>h)
 obtain ⟨x,xs,p,ps,S,G,wb,hwp,hO,hf⟩:∃ (x:V6) (xs:List V6) (p:Addr) (ps:List (Option Addr)) (S G:Nat→Prop) (wb:Nat),wp=some ⟨wb,0,none⟩∧OpenB w2.drew G S wb vo t s r x xs p ps∧FootB w2.drew.heap.size b vo S G F0 (oA x) (oB x):=by
   rcases h with ⟨h1,_⟩|⟨_,_,_,_,h1,_⟩|⟨t',s',r',x,xs,p,ps,S,G,wb,h1,h2,h3,h4⟩
   ·cases h1
   ·cases h1
   ·injection h1 with h1
    injection h1 with h5 h6
    injection h5 with h7 h8
    subst h6 h7 h8
    exact ⟨x,xs,p,ps,S,G,wb,h2,h3,h4⟩
 subst hwp
 clear h
 obtain ⟨pb,po,rfl,hSp,hcl,hfz⟩:=hO.ctx.cells
 have hpl:=hO.ctx.len
 have hxl:=hO.top.items.len
 have hrow:=hO.row
 obtain ⟨Ao,ko,rfl,hko,_,hAo⟩:=hrow.form
 obtain ⟨go,rfl,_,hgo⟩:=hAo (by simp)
 have hll:(ps++[some (⟨pb,po,none⟩:Addr)]).length=r.length+1:=by simp[hpl]
 rw[hll] at hrow hko hown hO hf
 have hptr:=hrow.rd.at rfl (i:=r.length) (a:=some ⟨pb,po,none⟩) (by rw[← hpl];simp) (j:=0) rfl
 simp[show ptrK.n=1 from rfl] at hptr
 have c0:=hown.at 0
 have c1:=hown.at 1
 simp at c0 c1
 obtain ⟨n1,hn1⟩:∃ n1,n1=r.length+1:=⟨_,rfl⟩
 rw[← hn1] at c1 hko hrow hown hO hf
 have i1:(n1:Int)-1=(r.length:Int):=by omega
 have i2:(0:Int)≤(r.length:Int):=by omega
 have i3:(r.length:Int)<n1:=by omega
 have i4:(n1:Int)≤420000001:=by omega
 have i5:(0:Int)<(n1:Int):=by omega
 have hbw:=hown.inside
 -- the call
 have HC:=hid (show Calls Tryz.prog 59 #[.pointer (some ⟨pb,po,none⟩),.agg #[.bool nm,.string ⟨sn.toArray⟩,.int .i64 si],.agg #[.int .i64 ev,.int .i64 ef,.int .i64 0,.string ⟨#[]⟩,.slice none 0 0,.slice none 0 0]] w2.drew fun e w' => ∃ g c B m d,e=.returned (.pointer (some ⟨g,xs.length*6,none⟩))∧Joined w2.drew w' pb po x (begunX ev ef) xs t.names ⟨nm,sn,si⟩ g c B m d from addItem_any w2.drew pb po x (begunX ev ef) xs t.names ⟨nm,sn,si⟩ hcl hfz hO.top.rowA hO.top.rowB (fun g hg e=>(hO.top.offA g hg).1 (e▸hSp)) (fun g hg=>⟨fun e=>(hO.top.offB g hg).1 (e▸hSp),(hO.top.offB g hg).2.2⟩) (by omega) hn9)
 have z2:w2.drew.heap.size=w2.heap.size:=rfl
 have hold:∀ w5:World,(∀ k,(k=b∨k=go∨(w.heap.size≤k∧k<w2.heap.size))→w5.heap[k]?=w2.heap[k]?)→HeldE w.heap.size nm sn si ev ef w5∧w5.cell? ⟨b,1,none⟩=some (.slice (some ⟨go,0,none⟩) n1 ko):=fun w5 h =>
   ⟨hE2.move (h _ (.inr (.inr ⟨by omega,by omega⟩))) (h _ (.inr (.inr ⟨by omega,by omega⟩))),(World.cell?_of_block (w:=w2.drew) (by exact h b (.inl rfl))).trans c1⟩
 have HELD:∀ w5:World,HeldE w.heap.size nm sn si ev ef w5∧w5.cell? ⟨b,1,none⟩=some (.slice (some ⟨go,0,none⟩) n1 ko)→w5.cell? ⟨w.heap.size,4,none⟩=some (.bool nm)∧w5.cell? ⟨w.heap.size,5,none⟩=some (.string ⟨sn.toArray⟩)∧w5.cell? ⟨w.heap.size,6,none⟩=some (.int .i64 si)∧w5.cell? ⟨w.heap.size+1,0,none⟩=some (.int .i64 ev)∧w5.cell? ⟨w.heap.size+1,1,none⟩=some (.int .i64 ef)∧w5.cell? ⟨w.heap.size+1,2,none⟩=some (.int .i64 0)∧w5.cell? ⟨w.heap.size+1,3,none⟩=some (.string ⟨#[]⟩)∧w5.cell? ⟨w.heap.size+1,4,none⟩=some (.slice none 0 0)∧w5.cell? ⟨w.heap.size+1,5,none⟩=some (.slice none 0 0)∧w5.cell? ⟨b,1,none⟩=some (.slice (some ⟨go,0,none⟩) n1 ko):=fun w5 h=>by
   obtain ⟨⟨h0,h1,h2,h3,h4,h5,h6,h7,h8⟩,h9⟩:=h
   exact ⟨h0,h1,h2,h3,h4,h5,h6,h7,h8,h9⟩
 have HT:=hid (show ∀ w5,Touch (fun k=>k=pb∨oA x=some k∨oB x=some k) w2.drew w5→GRow ptrK w5 0 (.slice (some ⟨go,0,none⟩) n1 ko) (ps++[some ⟨pb,po,none⟩])∧(w5.cell? ⟨w.heap.size,4,none⟩=some (.bool nm)∧w5.cell? ⟨w.heap.size,5,none⟩=some (.string ⟨sn.toArray⟩)∧w5.cell? ⟨w.heap.size,6,none⟩=some (.int .i64 si)∧w5.cell? ⟨w.heap.size+1,0,none⟩=some (.int .i64 ev)∧w5.cell? ⟨w.heap.size+1,1,none⟩=some (.int .i64 ef)∧w5.cell? ⟨w.heap.size+1,2,none⟩=some (.int .i64 0)∧w5.cell? ⟨w.heap.size+1,3,none⟩=some (.string ⟨#[]⟩)∧w5.cell? ⟨w.heap.size+1,4,none⟩=some (.slice none 0 0)∧w5.cell? ⟨w.heap.size+1,5,none⟩=some (.slice none 0 0)∧w5.cell? ⟨b,1,none⟩=some (.slice (some ⟨go,0,none⟩) n1 ko)) ∧ ∀ w6,Below w5.heap.size w5 w6→w6.cell? ⟨w.heap.size,4,none⟩=some (.bool nm)∧w6.cell? ⟨w.heap.size,5,none⟩=some (.string ⟨sn.toArray⟩)∧w6.cell? ⟨w.heap.size,6,none⟩=some (.int .i64 si)∧w6.cell? ⟨w.heap.size+1,0,none⟩=some (.int .i64 ev)∧w6.cell? ⟨w.heap.size+1,1,none⟩=some (.int .i64 ef)∧w6.cell? ⟨w.heap.size+1,2,none⟩=some (.int .i64 0)∧w6.cell? ⟨w.heap.size+1,3,none⟩=some (.string ⟨#[]⟩)∧w6.cell? ⟨w.heap.size+1,4,none⟩=some (.slice none 0 0)∧w6.cell? ⟨w.heap.size+1,5,none⟩=some (.slice none 0 0)∧w6.cell? ⟨b,1,none⟩=some (.slice (some ⟨go,0,none⟩) n1 ko) by
   intro w5 ht
   have hS:=hf.fS pb hSp
   have hlt:∀ k,(k=pb∨oA x=some k∨oB x=some k)→k<w.heap.size∧k≠b∧k≠go:=fun k h=>by
     rcases h with h|h|h
     ·subst h;exact ⟨(hFF _ hS.2.1).2,hS.2.2.1,fun e=>hS.2.2.2 (by rw[e];rfl)⟩
     ·have:=hf.fA k h;exact ⟨(hFF _ this.1).2,this.2.1,fun e=>this.2.2 (by rw[e];rfl)⟩
     ·have:=hf.fB k h;exact ⟨(hFF _ this.1).2,this.2.1,fun e=>this.2.2 (by rw[e];rfl)⟩
   have all:∀ k,(k=b∨k=go∨(w.heap.size≤k∧k<w2.heap.size))→w5.heap[k]?=w2.heap[k]?∧k<w5.heap.size:=fun k h=>by
     have hk:k<w2.drew.heap.size:=by
       rcases h with h|h|h
       ·subst h;exact hbw
       ·subst h;exact hgo
       ·exact h.2
     refine ⟨ht.block k hk (fun h' => ?_),Nat.lt_of_lt_of_le hk ht.size⟩
     have:=hlt k h'
     rcases h with h|h|h
     ·exact this.2.1 h
     ·exact this.2.2 h
     ·omega
   refine ⟨hrow.stay (fun k hk => ?_),HELD w5 (hold w5 (fun k h=>(all k h).1)),fun w6 h6=>HELD w6 (hold w6 (fun k h=>(h6.block k (all k h).2).trans (all k h).1))⟩
   have hk:=ownBlock_is hk
   subst hk
   exact (all _ (.inr (.inl rfl))).1)
 have HT9:=hid (show ∀ w5,Touch (fun k=>k=pb∨oA x=some k∨oB x=some k) w2.drew w5 → ∀ w9,∀ {wd:World},wd.grownBy w9 (Value.slice (some ⟨go,0,none⟩) n1 ko).ownBlock→Below w5.heap.size w5 wd→w9.cell? ⟨b,1,none⟩=some (.slice (some ⟨go,0,none⟩) n1 ko)→w9.cell? ⟨w.heap.size,4,none⟩=some (.bool nm)∧w9.cell? ⟨w.heap.size,5,none⟩=some (.string ⟨sn.toArray⟩)∧w9.cell? ⟨w.heap.size,6,none⟩=some (.int .i64 si)∧w9.cell? ⟨w.heap.size+1,0,none⟩=some (.int .i64 ev)∧w9.cell? ⟨w.heap.size+1,1,none⟩=some (.int .i64 ef)∧w9.cell? ⟨w.heap.size+1,2,none⟩=some (.int .i64 0)∧w9.cell? ⟨w.heap.size+1,3,none⟩=some (.string ⟨#[]⟩)∧w9.cell? ⟨w.heap.size+1,4,none⟩=some (.slice none 0 0)∧w9.cell? ⟨w.heap.size+1,5,none⟩=some (.slice none 0 0)∧w9.cell? ⟨b,1,none⟩=some (.slice (some ⟨go,0,none⟩) n1 ko) by
   intro w5 ht w9 wd hg hd y1
   have hS:=hf.fS pb hSp
   have hgo':=(hFF _ (hf.fo go rfl).1).2
   have hlt:∀ k,(k=pb∨oA x=some k∨oB x=some k)→k<w.heap.size:=fun k h=>by
     rcases h with h|h|h
     ·subst h;exact (hFF _ hS.2.1).2
     ·exact (hFF _ (hf.fA k h).1).2
     ·exact (hFF _ (hf.fB k h).1).2
   have z5:w2.heap.size≤w5.heap.size:=ht.size
   have zd:=hd.size
   have all:∀ k,w.heap.size≤k→k<w2.heap.size→w9.heap[k]?=w2.heap[k]?:=fun k h1 h2=>by
     rw[hg.block k (by omega) (fun e=>by have:=ownBlock_is e.symm;omega),hd.block k (by omega)]
     exact ht.block k h2 (fun h=>by have:=hlt k h;omega)
   exact HELD w9 ⟨hE2.move (all _ (by omega) (by omega)) (all _ (by omega) (by omega)),y1⟩)
 have HS:=hid (HELD w2.drew (hold w2.drew (fun _ _=>rfl)))
 have hE2':=hE2
 unfold HeldE at hE2'
 obtain ⟨h0,h1,h2,h3,h4,h5,h6,h7,h8⟩:=hE2'
 have hO':=hid hO
 have hf':=hid hf
 have HOWN:=hid hown
 have HE2:=hid hE2
 have HW1:=hid hw1
 have HW2:=hid hw2
 have HBW:=hid hbw
 have HFF:=hid hFF
 have HTW:=hid (show Touch F0 w w2.drew from Touch.of_new hB2.drew)
 have HN1:=hid hn1
 have HPL:=hid hpl
 have S2:=hid s2
 show Calls _ _ #[.pointer (some ⟨b,0,none⟩),.agg #[.int .i64 ek,.int .i64 ev,.int .i64 ef,.int .i64 et,.bool nm,.string ⟨sn.toArray⟩,.int .i64 si,.string ⟨tx.toArray⟩]] _ _
 have x0:w2.cell? ⟨b,0,none⟩=some (.pointer (some ⟨wb,0,none⟩)):=c0
 have x1:w2.cell? ⟨b,1,none⟩=some (.slice (some ⟨go,0,none⟩) n1 ko):=c1
 have x2:w2.cell? ⟨go,r.length,none⟩=some (.pointer (some ⟨pb,po,none⟩)):=hptr
 clear hO hf hown hE2 hw1 hw2 hbw hFF hn1 hpl s1 s2 hB2 hbw0 oE oV hF0 hSp hcl hfz hxl hrow hAo hll hptr c0 c1 hgo z2 hr9 hi9 hn9 hold HELD
 go_enter Tryz.func32,Tryz.ntmps32
 go_upto_region 2 with fail
 generalize hw:World.alloc (World.alloc w _) _=w2'
 have e2:w2=w2':=by rw[HW2.out,HW1.out];exact hw
 subst e2
 clear hw
 go_upto_region 6 with fail
 have hS2:=HS.out
 have n9:(r.length:Int)≤420000000:=by omega
 have hw14:IntKind.i64.wrap (r.length:Int)=r.length:=by rw[IntKind.wrap_i64];omega
 -- BEGIN
 refine til_region (z:=25) (S:=(fun w'=>w'.cell? ⟨w.heap.size,4,none⟩=some (.bool nm)∧w'.cell? ⟨w.heap.size,5,none⟩=some (.string ⟨sn.toArray⟩)∧w'.cell? ⟨w.heap.size,6,none⟩=some (.int .i64 si)∧w'.cell? ⟨w.heap.size+1,0,none⟩=some (.int .i64 ev)∧w'.cell? ⟨w.heap.size+1,1,none⟩=some (.int .i64 ef)∧w'.cell? ⟨w.heap.size+1,2,none⟩=some (.int .i64 0)∧w'.cell? ⟨w.heap.size+1,3,none⟩=some (.string ⟨#[]⟩)∧w'.cell? ⟨w.heap.size+1,4,none⟩=some (.slice none 0 0)∧w'.cell? ⟨w.heap.size+1,5,none⟩=some (.slice none 0 0)∧w'.cell? ⟨b,1,none⟩=some (.slice (some ⟨go,0,none⟩) n1 ko))) (by kernel_rfl) hS2 (fun hHeld => ?_)
 refine til_take (i:=0) (d:=39) (v:=.pointer (some ⟨b,0,none⟩)) rfl rfl (by kernel_rfl) (by kernel_rfl) (by kernel_rfl) (by kernel_rfl) (by kernel_rfl) (fun _ _ _ h=>h) (Or.inl ⟨by rfl,?_⟩) hHeld ?_
 ·intro w hSw
  (try dsimp only at hSw)
  go_simp
 (try dsimp only)
 (try simp only [Act.put,List.setIfInBounds_toArray,List.set_cons_zero,List.set_cons_succ])
 refine til_take (i:=1) (d:=40) (v:=.pointer (some ⟨b,0,none⟩)) rfl rfl (by kernel_rfl) (by kernel_rfl) (by kernel_rfl) (by kernel_rfl) (by kernel_rfl) (fun _ _ _ h=>h) (Or.inl ⟨by rfl,?_⟩) hHeld ?_
 ·intro w hSw
  (try dsimp only at hSw)
  go_simp
 (try dsimp only)
 (try simp only [Act.put,List.setIfInBounds_toArray,List.set_cons_zero,List.set_cons_succ])
 refine til_take (i:=2) (d:=41) (v:=.pointer (some ⟨b,0,none⟩)) rfl rfl (by kernel_rfl) (by kernel_rfl) (by kernel_rfl) (by kernel_rfl) (by kernel_rfl) (fun _ _ _ h=>h) (Or.inl ⟨by rfl,?_⟩) hHeld ?_
 ·intro w hSw
  (try dsimp only at hSw)
  go_simp
 (try dsimp only)
 (try simp only [Act.put,List.setIfInBounds_toArray,List.set_cons_zero,List.set_cons_succ])
 refine til_take (i:=3) (d:=42) (v:=.pointer (some ⟨b,1,none⟩)) rfl rfl (by kernel_rfl) (by kernel_rfl) (by kernel_rfl) (by kernel_rfl) (by kernel_rfl) (fun _ _ _ h=>h) (Or.inl ⟨by rfl,?_⟩) hHeld ?_
 ·intro w hSw
  (try dsimp only at hSw)
  go_simp
 (try dsimp only)
 (try simp only [Act.put,List.setIfInBounds_toArray,List.set_cons_zero,List.set_cons_succ])
 refine til_take (i:=4) (d:=43) (v:=.slice (some ⟨go,0,none⟩) n1 ko) rfl rfl (by kernel_rfl) (by kernel_rfl) (by kernel_rfl) (by kernel_rfl) (by kernel_rfl) (fun _ _ _ h=>h) (Or.inl ⟨by rfl,?_⟩) hHeld ?_
 ·intro w hSw
  (try dsimp only at hSw)
  go_simp
 (try dsimp only)
 (try simp only [Act.put,List.setIfInBounds_toArray,List.set_cons_zero,List.set_cons_succ])
 refine til_take (i:=5) (d:=44) (v:=.pointer (some ⟨b,0,none⟩)) rfl rfl (by kernel_rfl) (by kernel_rfl) (by kernel_rfl) (by kernel_rfl) (by kernel_rfl) (fun _ _ _ h=>h) (Or.inl ⟨by rfl,?_⟩) hHeld ?_
 ·intro w hSw
  (try dsimp only at hSw)
  go_simp
 (try dsimp only)
 (try simp only [Act.put,List.setIfInBounds_toArray,List.set_cons_zero,List.set_cons_succ])
 refine til_take (i:=6) (d:=45) (v:=.pointer (some ⟨b,0,none⟩)) rfl rfl (by kernel_rfl) (by kernel_rfl) (by kernel_rfl) (by kernel_rfl) (by kernel_rfl) (fun _ _ _ h=>h) (Or.inl ⟨by rfl,?_⟩) hHeld ?_
 ·intro w hSw
  (try dsimp only at hSw)
  go_simp
 (try dsimp only)
 (try simp only [Act.put,List.setIfInBounds_toArray,List.set_cons_zero,List.set_cons_succ])
 refine til_take (i:=7) (d:=46) (v:=.pointer (some ⟨b,1,none⟩)) rfl rfl (by kernel_rfl) (by kernel_rfl) (by kernel_rfl) (by kernel_rfl) (by kernel_rfl) (fun _ _ _ h=>h) (Or.inl ⟨by rfl,?_⟩) hHeld ?_
 ·intro w hSw
  (try dsimp only at hSw)
  go_simp
 (try dsimp only)
 (try simp only [Act.put,List.setIfInBounds_toArray,List.set_cons_zero,List.set_cons_succ])
 refine til_take (i:=8) (d:=47) (v:=.slice (some ⟨go,0,none⟩) n1 ko) rfl rfl (by kernel_rfl) (by kernel_rfl) (by kernel_rfl) (by kernel_rfl) (by kernel_rfl) (fun _ _ _ h=>h) (Or.inl ⟨by rfl,?_⟩) hHeld ?_
 ·intro w hSw
  (try dsimp only at hSw)
  go_simp
 (try dsimp only)
 (try simp only [Act.put,List.setIfInBounds_toArray,List.set_cons_zero,List.set_cons_succ])
 refine til_take (i:=9) (d:=48) (v:=.pointer (some ⟨b,0,none⟩)) rfl rfl (by kernel_rfl) (by kernel_rfl) (by kernel_rfl) (by kernel_rfl) (by kernel_rfl) (fun _ _ _ h=>h) (Or.inl ⟨by rfl,?_⟩) hHeld ?_
 ·intro w hSw
  (try dsimp only at hSw)
  go_simp
 (try dsimp only)
 (try simp only [Act.put,List.setIfInBounds_toArray,List.set_cons_zero,List.set_cons_succ])
 refine til_take (i:=10) (d:=49) (v:=.pointer (some ⟨b,0,none⟩)) rfl rfl (by kernel_rfl) (by kernel_rfl) (by kernel_rfl) (by kernel_rfl) (by kernel_rfl) (fun _ _ _ h=>h) (Or.inl ⟨by rfl,?_⟩) hHeld ?_
 ·intro w hSw
  (try dsimp only at hSw)
  go_simp
 (try dsimp only)
 (try simp only [Act.put,List.setIfInBounds_toArray,List.set_cons_zero,List.set_cons_succ])
 refine til_take (i:=11) (d:=50) (v:=.pointer (some ⟨b,1,none⟩)) rfl rfl (by kernel_rfl) (by kernel_rfl) (by kernel_rfl) (by kernel_rfl) (by kernel_rfl) (fun _ _ _ h=>h) (Or.inl ⟨by rfl,?_⟩) hHeld ?_
 ·intro w hSw
  (try dsimp only at hSw)
  go_simp
 (try dsimp only)
 (try simp only [Act.put,List.setIfInBounds_toArray,List.set_cons_zero,List.set_cons_succ])
 refine til_take (i:=12) (d:=51) (v:=.slice (some ⟨go,0,none⟩) n1 ko) rfl rfl (by kernel_rfl) (by kernel_rfl) (by kernel_rfl) (by kernel_rfl) (by kernel_rfl) (fun _ _ _ h=>h) (Or.inl ⟨by rfl,?_⟩) hHeld ?_
 ·intro w hSw
  (try dsimp only at hSw)
  go_simp
 (try dsimp only)
 (try simp only [Act.put,List.setIfInBounds_toArray,List.set_cons_zero,List.set_cons_succ])
 refine til_take (i:=13) (d:=52) (v:=.int .i64 n1) rfl rfl (by kernel_rfl) (by kernel_rfl) (by kernel_rfl) (by kernel_rfl) (by kernel_rfl) (fun _ _ _ h=>h) (Or.inl ⟨by rfl,?_⟩) hHeld ?_
 ·intro w hSw
  (try dsimp only at hSw)
  go_simp
 (try dsimp only)
 (try simp only [Act.put,List.setIfInBounds_toArray,List.set_cons_zero,List.set_cons_succ])
 refine til_take (i:=14) (d:=53) (v:=.int .i64 r.length) rfl rfl (by kernel_rfl) (by kernel_rfl) (by kernel_rfl) (by kernel_rfl) (by kernel_rfl) (fun _ _ _ h=>h) (Or.inl ⟨by rfl,?_⟩) hHeld ?_
 ·intro w hSw
  (try dsimp only at hSw)
  go_simp
 (try dsimp only)
 (try simp only [Act.put,List.setIfInBounds_toArray,List.set_cons_zero,List.set_cons_succ])
 refine til_take (i:=15) (d:=54) (v:=.pointer (some ⟨go,r.length,none⟩)) rfl rfl (by kernel_rfl) (by kernel_rfl) (by kernel_rfl) (by kernel_rfl) (by kernel_rfl) (fun _ _ _ h=>h) (Or.inl ⟨by rfl,?_⟩) hHeld ?_
 ·intro w hSw
  (try dsimp only at hSw)
  go_simp
 (try dsimp only)
 (try simp only [Act.put,List.setIfInBounds_toArray,List.set_cons_zero,List.set_cons_succ])
 refine til_take (i:=17) (d:=56) (v:=.pointer (some ⟨w.heap.size,4,none⟩)) rfl rfl (by kernel_rfl) (by kernel_rfl) (by kernel_rfl) (by kernel_rfl) (by kernel_rfl) (fun _ _ _ h=>h) (Or.inl ⟨by rfl,?_⟩) hHeld ?_
 ·intro w hSw
  (try dsimp only at hSw)
  go_simp
 (try dsimp only)
 (try simp only [Act.put,List.setIfInBounds_toArray,List.set_cons_zero,List.set_cons_succ])
 refine til_take (i:=18) (d:=57) (v:=.agg #[.bool nm,.string ⟨sn.toArray⟩,.int .i64 si]) rfl rfl (by kernel_rfl) (by kernel_rfl) (by kernel_rfl) (by kernel_rfl) (by kernel_rfl) (fun _ _ _ h=>h) (Or.inl ⟨by rfl,?_⟩) hHeld ?_
 ·intro w hSw
  (try dsimp only at hSw)
  go_simp
 (try dsimp only)
 (try simp only [Act.put,List.setIfInBounds_toArray,List.set_cons_zero,List.set_cons_succ])
 refine til_take (i:=19) (d:=58) (v:=.agg #[.int .i64 ev,.int .i64 ef,.int .i64 0,.string ⟨#[]⟩,.slice none 0 0,.slice none 0 0]) rfl rfl (by kernel_rfl) (by kernel_rfl) (by kernel_rfl) (by kernel_rfl) (by kernel_rfl) (fun _ _ _ h=>h) (Or.inl ⟨by rfl,?_⟩) hHeld ?_
 ·intro w hSw
  (try dsimp only at hSw)
  go_simp
 (try dsimp only)
 (try simp only [Act.put,List.setIfInBounds_toArray,List.set_cons_zero,List.set_cons_succ])
 refine til_one (i:=16) (by kernel_rfl) rfl (fun K16 hK16 => ?_)
 go_simp
 refine hK16.out _ _ (fun _=>hHeld) ?_
 (try dsimp only)
 (try simp only [Act.put,List.setIfInBounds_toArray,List.set_cons_zero,List.set_cons_succ])
 refine til_one (i:=20) (by kernel_rfl) rfl (fun K20 hK20 => ?_)
 go_simp
 go_at_call 59
 refine HC.out.mono ?_
 rintro e w5 ⟨g,c,B,m,d,rfl,hJ⟩
 have hS5:=HT.out w5 hJ.touch
 have hbz:Below w5.heap.size w5 (w5.alloc (.cells #[.pointer (some ⟨g,xs.length*6,none⟩)] 39)):=(Below.refl _ _).alloc (Nat.le_refl _) _
 have z5:w2.heap.size≤w5.heap.size:=hJ.touch.size
 have hS5a:=hS5.2.2 (w5.alloc (.cells #[.pointer (some ⟨g,xs.length*6,none⟩)] 39)) hbz
 have row5:=hS5.1
 have ROW:=hid (row5.stay (w':=w5.alloc (.cells #[.pointer (some ⟨g,xs.length*6,none⟩)] 39)) (fun k hk=>hbz.block k (row5.low hk).2))
 have NEW:=hid ((GRow.made (K:=ptrK) (base:=0) (l:=[some ⟨g,xs.length*6,none⟩]) w5 #[.pointer (some ⟨g,xs.length*6,none⟩)] rfl (by simp[maxLen]) (Nat.zero_le _)).rd)
 have HJ:=hid hJ
 have HBZ:=hid hbz
 have HS5:=hid hS5.2.1
 have HS5A:=hid hS5a
 clear hJ hbz row5 z5 hS5 hS5a
 refine hK20.out _ _ (fun _=>HS5.out) ?_
 (try dsimp only)
 (try simp only [Act.put,List.setIfInBounds_toArray,List.set_cons_zero,List.set_cons_succ])
 refine til_one (i:=21) (by kernel_rfl) rfl (fun K21 hK21 => ?_)
 go_simp
 refine hK21.out _ _ (fun _=>HS5A.out) ?_
 (try dsimp only)
 (try simp only [Act.put,List.setIfInBounds_toArray,List.set_cons_zero,List.set_cons_succ])
 refine til_one (i:=22) (by kernel_rfl) rfl (fun K22 hK22 => ?_)
 refine step_row_app (KK:=ptrK) rfl (.tmp 43) (.tmp 60) rfl 0 _ (ps++[some (⟨pb,po,none⟩:Addr)]) rfl ROW.out _ 1 1 [some (⟨g,xs.length*6,none⟩:Addr)] rfl NEW.out (by have:=HPL.out;simp;omega) (Nat.zero_le _) ?_
 intro v9 w9 row9 grown9 at9
 obtain ⟨A9,c9,hv9,_⟩:=row9.form
 generalize (ps++[some (⟨pb,po,none⟩:Addr)]++[some (⟨g,xs.length*6,none⟩:Addr)]).length=m9 at hv9
 subst hv9
 have grown9x:=grown9
 obtain ⟨y1,y2,BI,TO⟩:=more_one HBW.out (Nat.le_trans (Nat.le_add_right _ 2) (Nat.le_of_eq (S2.out.symm))) HOWN.out hO'.out hf'.out HJ.out HBZ.out row9 grown9 at9 HTW.out
 have B1:=hid (BI.mono (H:=fun j=>F j∨w.heap.size≤j) (fun j hj=>hj.elim (fun h=>.inl (HFF.out j h).1) .inr))
 have T1:=hid (TO.mono (G:=F) (fun j _ hj=>(HFF.out j hj).1))
 clear row9 grown9 at9 BI TO
 have hS9:=HT9.out w5 HJ.out.touch w9 grown9x HBZ.out y1
 have HS9:=hid hS9
 clear hS9 grown9x
 refine hK22.out _ _ (fun _=>HS9.out) ?_
 (try dsimp only)
 (try simp only [Act.put,List.setIfInBounds_toArray])
 refine til_take (i:=23) (d:=62) (v:=.pointer (some ⟨b,0,none⟩)) rfl rfl (by kernel_rfl) (by kernel_rfl) (by kernel_rfl) (by kernel_rfl) (by kernel_rfl) (fun _ _ _ h=>h) (Or.inl ⟨by rfl,?_⟩) HS9.out ?_
 ·intro w hSw
  (try dsimp only at hSw)
  go_simp
 (try dsimp only)
 (try simp only [Act.put])
 refine til_take (i:=24) (d:=63) (v:=.pointer (some ⟨b,1,none⟩)) rfl rfl (by kernel_rfl) (by kernel_rfl) (by kernel_rfl) (by kernel_rfl) (by kernel_rfl) (fun _ _ _ h=>h) (Or.inl ⟨by rfl,?_⟩) HS9.out ?_
 ·intro w hSw
  (try dsimp only at hSw)
  go_simp
 (try dsimp only)
 (try simp only [Act.put])
 refine til_one (i:=25) (by kernel_rfl) rfl (fun K25 hK25 => ?_)
 go_simp
 refine hK25.out _ _ (fun h=>absurd h (by decide)) ?_
 (try dsimp only)
 (try simp only [Act.put])
 refine til_done (by kernel_rfl) ?_ _
 -- END
 go_wp2
 go_end0
 exact ⟨rfl,B1.out,T1.out⟩
end
section
open Go.RowKit
theorem end_walk {w:World} {b:Nat} {F:Nat→Prop} {t:Tree} {s:Stp} {r:List (Tree×Stp)} (h:BIs w b F ⟨(t,s) :: r,none⟩) (e:Evt) (he:e.kind≠1) (hr9:r.length≤420000000) :
   Calls Tryz.prog 33 #[.pointer (some ⟨b,0,none⟩),.agg (evCells e).toArray] w fun e' w'=>e'=.returned (.tuple #[])∧BIs w' b (fun j=>F j∨w.heap.size≤j) (bldE ⟨(t,s) :: r,none⟩ e)∧Touch F w w':=by
 obtain ⟨w1,hw1⟩:∃ w1,w1=w.alloc (.cells (evCells e).toArray 61):=⟨_,rfl⟩
 have s1:w1.heap.size=w.heap.size+1:=by subst hw1;simp
 have hB1:Below w.heap.size w w1:=by subst hw1;exact (Below.refl _ _).alloc (Nat.le_refl _) _
 have oE:Own w1 w.heap.size 61 (evCells e).toArray:=by subst hw1;exact Own.fresh _ _ _
 have HW1:=hid hw1
 obtain ⟨F0,hF0⟩:∃ F0:Nat→Prop,F0=fun k=>F k∧k<w.heap.size:=⟨_,rfl⟩
 have hFF:∀ k,F0 k→F k∧k<w.heap.size:=fun k hk=>by rw[hF0] at hk;exact hk
 have h:=h.cut
 rw[← hF0] at h
 obtain ⟨wp,vo,hown,h⟩:=h.move (w':=w1) (T:=fun _=>False) (Touch.of_new hB1) (fun _ _ _ h=>h)
 obtain ⟨x,xs,p,ps,S,G,wb,hwp,hO,hf⟩:∃ (x:V6) (xs:List V6) (p:Addr) (ps:List (Option Addr)) (S G:Nat→Prop) (wb:Nat),wp=some ⟨wb,0,none⟩∧OpenB w1 G S wb vo t s r x xs p ps∧FootB w1.heap.size b vo S G F0 (oA x) (oB x):=by
   rcases h with ⟨h1,_⟩|⟨_,_,_,_,h1,_⟩|⟨t',s',r',x,xs,p,ps,S,G,wb,h1,h2,h3,h4⟩
   ·cases h1
   ·cases h1
   ·injection h1 with h1
    injection h1 with h5 h6
    injection h5 with h7 h8
    subst h6 h7 h8
    exact ⟨x,xs,p,ps,S,G,wb,h2,h3,h4⟩
 subst hwp
 clear h
 obtain ⟨pb,po,rfl,hSp,hcl,hfz⟩:=hO.ctx.cells
 have hpl:=hO.ctx.len
 have hrow:=hO.row
 obtain ⟨Ao,ko,rfl,hko,_,hAo⟩:=hrow.form
 obtain ⟨go,rfl,_,hgo⟩:=hAo (by simp)
 have hll:(ps++[some (⟨pb,po,none⟩:Addr)]).length=r.length+1:=by simp[hpl]
 rw[hll] at hrow hko hown hO hf
 have hptr:=hrow.rd.at rfl (i:=r.length) (a:=some ⟨pb,po,none⟩) (by rw[← hpl];simp) (j:=0) rfl
 simp[show ptrK.n=1 from rfl] at hptr
 have c0:=hown.at 0
 have c1:=hown.at 1
 simp at c0 c1
 have g1:=hown.free 1
 have gf:=hrow.free (r.length)
 obtain ⟨n1,hn1⟩:∃ n1,n1=r.length+1:=⟨_,rfl⟩
 rw[← hn1] at c1 hko hrow hown hO hf
 have i1:(n1:Int)-1=(r.length:Int):=by omega
 have i2:(0:Int)≤(r.length:Int):=by omega
 have i3:(r.length:Int)<n1:=by omega
 have i4:(n1:Int)≤420000001:=by omega
 have i5:(r.length:Int)≤ko:=by omega
 have i6:(n1:Int)≤ko:=by omega
 have hw14:IntKind.i64.wrap (r.length:Int)=r.length:=by rw[IntKind.wrap_i64];omega
 have hS:=hf.fS pb hSp
 have hgb:go≠b:=(hf.fo go rfl).2
 have hpg:pb≠go:=fun e=>hS.2.2.2 (by rw[e];rfl)
 have hpb:pb≠b:=hS.2.2.1
 have hlt:=(hFF _ hS.2.1).2
 have hgl:=(hFF _ (hf.fo go rfl).1).2
 -- what is left
 have FIN:=hid (show BIs (((((w1.drew.setCell ⟨pb,po,none⟩ (.int .i64 e.value)).setCell ⟨pb,po+2,none⟩ (.int .i64 e.to)).setCell ⟨pb,po+3,none⟩ (.string ⟨e.text.toArray⟩)).setCell ⟨go,r.length,none⟩ (.pointer none)).setCell ⟨b,1,none⟩ (.slice (some ⟨go,0,none⟩) r.length ko)) b (fun j=>F j∨w.heap.size≤j) (bldE ⟨(t,s) :: r,none⟩ e) ∧
     Touch F w (((((w1.drew.setCell ⟨pb,po,none⟩ (.int .i64 e.value)).setCell ⟨pb,po+2,none⟩ (.int .i64 e.to)).setCell ⟨pb,po+3,none⟩ (.string ⟨e.text.toArray⟩)).setCell ⟨go,r.length,none⟩ (.pointer none)).setCell ⟨b,1,none⟩ (.slice (some ⟨go,0,none⟩) r.length ko)) by
   have hSG:∀ k,S k→¬ G k:=fun k hk hg=>(hf.fG k hg).2.2.2.2 hk
   have k0:CtxIs w1.drew G wb r s ⟨pb,po,none⟩ x ps S:=CtxIs.stay (w:=w1) (w':=w1.drew) (fun _ _ _=>rfl) (Nat.le_refl _) (fun _ _ h=>h) _ _ _ _ _ _ hO.ctx (fun _ _ _=>rfl)
   have k1:=CtxIs.put (y:=⟨e.value,x.fr,x.to,x.tx,x.A,x.n,x.c,x.B,x.m,x.d⟩) (j:=0) (u:=.int .i64 e.value) k0 hSG (by decide) rfl
   have k2:=CtxIs.put (y:=⟨e.value,x.fr,e.to,x.tx,x.A,x.n,x.c,x.B,x.m,x.d⟩) (j:=2) (u:=.int .i64 e.to) k1 hSG (by decide) rfl
   have k3:=CtxIs.put (y:=endX e x) (j:=3) (u:=.string ⟨e.text.toArray⟩) k2 hSG (by decide) rfl
   have k3:CtxIs (((w1.drew.setCell ⟨pb,po,none⟩ (.int .i64 e.value)).setCell ⟨pb,po+2,none⟩ (.int .i64 e.to)).setCell ⟨pb,po+3,none⟩ (.string ⟨e.text.toArray⟩)) G wb r s ⟨pb,po,none⟩ (endX e x) ps S:=k3
   obtain ⟨w4,hw4⟩:∃ w4,w4=(((w1.drew.setCell ⟨pb,po,none⟩ (.int .i64 e.value)).setCell ⟨pb,po+2,none⟩ (.int .i64 e.to)).setCell ⟨pb,po+3,none⟩ (.string ⟨e.text.toArray⟩)):=⟨_,rfl⟩
   rw[← hw4] at k3 ⊢
   have z4:w4.heap.size=w1.heap.size:=by rw[hw4,set_size,set_size,set_size];rfl
   have h4k:∀ k,k≠pb→w4.heap[k]?=w1.heap[k]?:=fun k hk=>by
     rw[hw4,Below.heap_setCell _ _ _ _ (by exact hk),Below.heap_setCell _ _ _ _ (by exact hk),Below.heap_setCell _ _ _ _ (by exact hk)]
     rfl
   have o4:Own w4 b 47 #[.pointer (some ⟨wb,0,none⟩),.slice (some ⟨go,0,none⟩) n1 ko]:=(h4k b (Ne.symm hpb)).trans hown
   have r4:GRow ptrK w4 0 (.slice (some ⟨go,0,none⟩) n1 ko) (ps++[some ⟨pb,po,none⟩]):=hrow.stay (fun k hk=>by
     have hk:=ownBlock_is hk
     subst hk
     exact h4k _ (Ne.symm hpg))
   have r5:=GRow.put (i:=r.length) (a:=none) (u:=.pointer none) rfl r4 (by rw[hll];omega) rfl
   have r6:=r5.cut (k:=r.length) (by rw[List.length_set,hll];omega)
   have e6:((ps++[some (⟨pb,po,none⟩:Addr)]).set r.length none).take r.length=ps:=by
     rw[List.take_set_of_le (Nat.le_refl _),← hpl,List.take_append_of_le_length (Nat.le_refl _),List.take_length]
   rw[e6] at r6
   have o5:Own (w4.setCell ⟨go,r.length,none⟩ (.pointer none)) b 47 #[.pointer (some ⟨wb,0,none⟩),.slice (some ⟨go,0,none⟩) n1 ko]:=o4.past (p:=⟨go,r.length,none⟩) (Ne.symm hgb) _
   have o6:=o5.put 1 (.slice (some ⟨go,0,none⟩) r.length ko)
   have r7:GRow ptrK ((w4.setCell ⟨go,r.length,none⟩ (.pointer none)).setCell ⟨b,1,none⟩ (.slice (some ⟨go,0,none⟩) r.length ko)) 0 (.slice (some ⟨go,0,none⟩) r.length ko) ps:=r6.stay (fun k hk=>by
     have hk:=ownBlock_is hk
     subst hk
     exact Below.heap_setCell _ _ _ _ hgb)
   have t6:Touch (fun j=>j=b∨(Value.slice (some ⟨go,0,none⟩) n1 ko).ownBlock=some j) w4 ((w4.setCell ⟨go,r.length,none⟩ (.pointer none)).setCell ⟨b,1,none⟩ (.slice (some ⟨go,0,none⟩) r.length ko)) :=
     ((Touch.refl _ w4).setCell (p:=⟨go,r.length,none⟩) (.inl (.inr rfl)) _).setCell (p:=⟨b,1,none⟩) (.inl (.inl rfl)) _
   refine ⟨?_,?_⟩
   ·refine (end_one he hown.inside hO hf rfl k3 (fun k hk hne=>h4k k hne) (by omega) (by simpa using o6) r7 t6 (fun j hj=>hj)).mono (fun j hj => ?_)
    rcases hj with hj|hj
    ·exact .inl (hFF j hj).1
    ·exact .inr (by omega)
   ·have t4:Touch F w w4:=by
      rw[hw4]
      have hFp:F pb:=(hFF _ hS.2.1).1
      exact (((Touch.of_new (F:=F) hB1.drew).setCell (p:=⟨pb,po,none⟩) (.inl hFp) _).setCell (p:=⟨pb,po+2,none⟩) (.inl hFp) _).setCell (p:=⟨pb,po+3,none⟩) (.inl hFp) _
    refine t4.trans t6 (fun j _ hj => ?_)
    rcases hj with hj|hj
    ·subst hj;exact (hFF _ hf.fb).1
    ·have hj:=ownBlock_is hj
     subst hj
     exact (hFF _ (hf.fo _ rfl).1).1)
 obtain ⟨pb',po',epp,_,x0,_,x2,x3,_,_⟩:=hcl.six
 injection epp with ep1 ep2
 subst ep1 ep2
 have q0:=hfz po
 have q2:=hfz (po+2)
 have q3:=hfz (po+3)
 obtain ⟨ek,ev,ef,et,⟨nm,sn,si⟩,tx⟩:=e
 have e1:=oE.at 1
 have e3:=oE.at 3
 have e7:=oE.at 7
 simp[evCells] at e1 e3 e7
 show Calls _ _ #[.pointer (some ⟨b,0,none⟩),.agg #[.int .i64 ek,.int .i64 ev,.int .i64 ef,.int .i64 et,.bool nm,.string ⟨sn.toArray⟩,.int .i64 si,.string ⟨tx.toArray⟩]] _ _
 have hwe:w1=w.alloc (.cells #[.int .i64 ek,.int .i64 ev,.int .i64 ef,.int .i64 et,.bool nm,.string ⟨sn.toArray⟩,.int .i64 si,.string ⟨tx.toArray⟩] 61):=HW1.out
 have HWE:=hid hwe
 have far:∀ (w':World) (q:Nat) (i:Nat) (u:Value),q=pb→(w'.cell? ⟨w.heap.size,1,none⟩=some (.int .i64 ev)∧w'.cell? ⟨w.heap.size,3,none⟩=some (.int .i64 et)∧w'.cell? ⟨w.heap.size,7,none⟩=some (.string ⟨tx.toArray⟩))→((w'.setCell ⟨pb,i,none⟩ u).cell? ⟨w.heap.size,1,none⟩=some (.int .i64 ev)∧(w'.setCell ⟨pb,i,none⟩ u).cell? ⟨w.heap.size,3,none⟩=some (.int .i64 et)∧(w'.setCell ⟨pb,i,none⟩ u).cell? ⟨w.heap.size,7,none⟩=some (.string ⟨tx.toArray⟩)):=by
   intro w' q i u hq ⟨h1,h2,h3⟩
   have hc:∀ j,(w'.setCell ⟨pb,i,none⟩ u).cell? ⟨w.heap.size,j,none⟩=w'.cell? ⟨w.heap.size,j,none⟩:=fun j=>World.cell?_of_block (by exact Below.heap_setCell _ _ _ _ (show w.heap.size≠pb by omega))
   rw[hc,hc,hc]
   exact ⟨h1,h2,h3⟩
 have hS0:(w1.drew.cell? ⟨w.heap.size,1,none⟩=some (.int .i64 ev)∧w1.drew.cell? ⟨w.heap.size,3,none⟩=some (.int .i64 et)∧w1.drew.cell? ⟨w.heap.size,7,none⟩=some (.string ⟨tx.toArray⟩)):=⟨e1,e3,e7⟩
 have hS1:=far _ pb po (.int .i64 ev) rfl hS0
 have hS2:=far _ pb (po+2) (.int .i64 et) rfl hS1
 have hS3:=far _ pb (po+3) (.string ⟨tx.toArray⟩) rfl hS2
 have n1b:b≠pb:=Ne.symm hpb
 have n2b:go≠pb:=Ne.symm hpg
 have n3b:b≠go:=Ne.symm hgb
 clear hO hf hown hwe hFF hn1 hpl s1 hB1 oE hF0 hSp hcl hfz hrow hAo hll hgo hr9 hS hlt hgl hw1 he HW1 hpb hpg hgb hko far
 go_enter Tryz.func33,Tryz.ntmps33
 go_upto_region 1 with fail
 generalize hw:World.alloc w _=w2'
 have e2:w1=w2':=by rw[HWE.out];exact hw
 subst e2
 clear hw
 go_upto_region 3 with fail
 go_region_held3 (fun w'=>w'.cell? ⟨w.heap.size,1,none⟩=some (.int .i64 ev)∧w'.cell? ⟨w.heap.size,3,none⟩=some (.int .i64 et)∧w'.cell? ⟨w.heap.size,7,none⟩=some (.string ⟨tx.toArray⟩))
   (first|(exact hS0)|(exact hS1)|(exact hS2)|(exact hS3)) (fail)
 all_goals
   go_wp2
   go_end0
   exact ⟨rfl,FIN.out.1,FIN.out.2⟩
end
end Go.Proofs.YtbpilcklglhloaaGreatDoor
