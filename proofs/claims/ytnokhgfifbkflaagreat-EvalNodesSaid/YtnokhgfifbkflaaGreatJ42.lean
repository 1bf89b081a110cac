/- Lemmas. -/
import Derived.Test.YtnokhgfifbkflaaGreatProg
import Derived.Test.YtnokhgfifbkflaaGreatJ31
import Derived.Test.YtnokhgfifbkflaaGreatJ41
set_option maxRecDepth 100000
set_option maxHeartbeats 8000000
set_option linter.unusedVariables false
set_option linter.unusedSimpArgs false
namespace Go.Proofs.YtnokhgfifbkflaaGreat
open Go.Lib (hid)
section
open Go.RowKit
def ItAt (W:World) (q:Nat) (s:NdV) (y:V6) (b o:Nat) (w:World):Prop :=
 (w.cell? ⟨q,0,none⟩=some (.int .i64 s.x.kd)∧w.cell? ⟨q,1,none⟩=some (.int .i64 s.x.fr)∧w.cell? ⟨q,2,none⟩=some (.int .i64 s.x.to)∧w.cell? ⟨q,3,none⟩=some (.string ⟨s.x.tx.toArray⟩)∧w.cell? ⟨q,4,none⟩=some (.slice s.x.A s.x.n s.x.c)∧w.cell? ⟨q,5,none⟩=some (.slice s.x.B s.x.m s.x.d)∧w.cell? ⟨q,6,none⟩=some (.slice s.S s.n s.c)) ∧
 (w.cell? ⟨b,o,none⟩=some (.int .i64 y.kd)∧w.cell? ⟨b,o+1,none⟩=some (.int .i64 y.fr)∧w.cell? ⟨b,o+2,none⟩=some (.int .i64 y.to)∧w.cell? ⟨b,o+3,none⟩=some (.string ⟨y.tx.toArray⟩)∧w.cell? ⟨b,o+4,none⟩=some (.slice y.A y.n y.c)∧w.cell? ⟨b,o+5,none⟩=some (.slice y.B y.m y.d)) ∧
 Below W.heap.size W w∧q<w.heap.size
theorem ItAt.on {W w w':World} {q b o:Nat} {s:NdV} {y:V6} (hW:b<W.heap.size) (h:ItAt W q s y b o w) (hb:Below w.heap.size w w'):ItAt W q s y b o w':=by
 obtain ⟨⟨a0,a1,a2,a3,a4,a5,a6⟩,⟨e0,e1,e2,e3,e4,e5⟩,hB,hq⟩:=h
 have f:∀ j,w'.cell? ⟨q,j,none⟩=w.cell? ⟨q,j,none⟩:=fun j=>hb.cell (p:=⟨q,j,none⟩) hq
 have g:∀ j,w'.cell? ⟨b,j,none⟩=w.cell? ⟨b,j,none⟩:=fun j=>hb.cell (p:=⟨b,j,none⟩) (Nat.lt_of_lt_of_le hW hB.size)
 exact ⟨by simp only [f];exact ⟨a0,a1,a2,a3,a4,a5,a6⟩,by simp only [g];exact ⟨e0,e1,e2,e3,e4,e5⟩,hB.trans (hb.mono hB.size),Nat.lt_of_lt_of_le hq hb.size⟩
theorem ItAt.drew {W w:World}{q b o:Nat}{s:NdV}{y:V6}(hW:b<W.heap.size)(h:ItAt W q s y b o w):ItAt W q s y b o w.drew:=h.on hW ⟨rfl,rfl,rfl,Nat.le_refl _,fun _ _=>rfl⟩
theorem ItAt.alloc {W w:World}{q b o:Nat}{s:NdV}{y:V6}(hW:b<W.heap.size)(h:ItAt W q s y b o w)(x:Obj):ItAt W q s y b o (w.alloc x):=h.on hW (below1 w x)
theorem ItAt.set {W w:World} {q b o:Nat} {s:NdV} {y:V6} (hW:b<W.heap.size) (hq1:W.heap.size≤q) (h:ItAt W q s y b o w) (j:Nat) (u:Value):ItAt W q s y b o (w.setCell ⟨q+1,j,none⟩ u):=by
 obtain ⟨⟨a0,a1,a2,a3,a4,a5,a6⟩,⟨e0,e1,e2,e3,e4,e5⟩,hB,hq⟩:=h
 have f:∀ k,(w.setCell ⟨q+1,j,none⟩ u).cell? ⟨q,k,none⟩=w.cell? ⟨q,k,none⟩:=fun k=>World.cell?_setCell_other _ _ _ _ (by simp)
 have g:∀ k,(w.setCell ⟨q+1,j,none⟩ u).cell? ⟨b,k,none⟩=w.cell? ⟨b,k,none⟩:=fun k=>World.cell?_setCell_other _ _ _ _ (by simp<;>omega)
 refine ⟨by simp only [f];exact ⟨a0,a1,a2,a3,a4,a5,a6⟩,by simp only [g];exact ⟨e0,e1,e2,e3,e4,e5⟩,hB.setCell (p:=⟨q+1,j,none⟩) (by show W.heap.size≤q+1;omega) u,?_⟩
 simpa [World.setCell] using hq
def set7 (w:World)(b:Nat)(v0 v1 v2 v3 v4 v5 v6:Value):World:=((((((w.setCell ⟨b,0,none⟩ v0).setCell ⟨b,1,none⟩ v1).setCell ⟨b,2,none⟩ v2).setCell ⟨b,3,none⟩ v3).setCell ⟨b,4,none⟩ v4).setCell ⟨b,5,none⟩ v5).setCell ⟨b,6,none⟩ v6
theorem set7_heap (w:World) (b:Nat) (v0 v1 v2 v3 v4 v5 v6:Value) (g:Nat) (hg:g≠b):(set7 w b v0 v1 v2 v3 v4 v5 v6).heap[g]?=w.heap[g]?:=by
 unfold set7
 rw[Below.heap_setCell _ _ _ _ (by exact hg),Below.heap_setCell _ _ _ _ (by exact hg),Below.heap_setCell _ _ _ _ (by exact hg),Below.heap_setCell _ _ _ _ (by exact hg),Below.heap_setCell _ _ _ _ (by exact hg),Below.heap_setCell _ _ _ _ (by exact hg),Below.heap_setCell _ _ _ _ (by exact hg)]
def ItEnd (V0 W:World)(d:Nd)(e:Ending)(w':World):Prop:=∃ s:NdV,e=.returned (.agg (ndCells s).toArray)∧NdIs V0 w' W.heap.size s d∧Below W.heap.size W w'
theorem node_size:(Tryz.prog.info? 60).map (·.size)=some 7:=by kernel_rfl
theorem ritem_at (d:Nd) (i:Nat) (y:V6) (b o:Nat) (xk:Int) (xf xt:Nat) (xx:List UInt8) (n xc:Nat) (xB:Option Addr) (m xd:Nat) (S:Option Addr) (sn sc:Nat) (V0 W:World)
   (hA:ItAt W W.heap.size ⟨⟨xk,xf,xt,xx,some ⟨b,o,none⟩,n,xc,xB,m,xd⟩,S,sn,sc⟩ y b (o+i*6) ((W.alloc (.cells #[.int .i64 xk,.int .i64 xf,.int .i64 xt,.string ⟨xx.toArray⟩,.slice (some ⟨b,o,none⟩) n xc,.slice xB m xd,.slice S sn sc] 60)).alloc (.cells #[.int .i64 0,.int .i64 0,.int .i64 0,.string ⟨#[]⟩,.slice none 0 0,.slice none 0 0,.slice none 0 0] 60)))
   (hbW:b<W.heap.size) (hr:RdG stpK W S sn d.p) (hi:i<n) (hcap:n≤xc) (hi9:i≤1000000) (hp9:d.p.length≤1000000) (hy:VIs V0 (itmT d.t i) y)
   (hS:∀ w,Below W.heap.size W w→Calls Tryz.prog 73 #[.agg #[.int .i64 xk,.int .i64 xf,.int .i64 xt,.string ⟨xx.toArray⟩,.slice (some ⟨b,o,none⟩) n xc,.slice xB m xd],.int .i64 i] w fun e w'=>e=.returned (.agg #[.bool (stpT d.t i).named,.string ⟨(stpT d.t i).name.toArray⟩,.int .i64 (stpT d.t i).index])∧Below w.heap.size w w') :
   Calls Tryz.prog 47 #[.agg #[.int .i64 xk,.int .i64 xf,.int .i64 xt,.string ⟨xx.toArray⟩,.slice (some ⟨b,o,none⟩) n xc,.slice xB m xd,.slice S sn sc],.int .i64 i] W (ItEnd V0 W (itmN d i)):=by
 have hiI:(i:Int)<n:=by omega
 have HY:=hid hy
 have HS:=hid hS
 clear hS hy
 have hsn:d.p.length=sn:=hr.1
 have HBW:=hid hbW
 have HR:=hid hr
 clear hbW hr
 have hz0:((W.alloc (.cells #[.int .i64 xk,.int .i64 xf,.int .i64 xt,.string ⟨xx.toArray⟩,.slice (some ⟨b,o,none⟩) n xc,.slice xB m xd,.slice S sn sc] 60)).alloc (.cells #[.int .i64 0,.int .i64 0,.int .i64 0,.string ⟨#[]⟩,.slice none 0 0,.slice none 0 0,.slice none 0 0] 60)).heap.size=W.heap.size+2:=by simp
 have ho0:=Own.fresh (W.alloc (.cells #[.int .i64 xk,.int .i64 xf,.int .i64 xt,.string ⟨xx.toArray⟩,.slice (some ⟨b,o,none⟩) n xc,.slice xB m xd,.slice S sn sc] 60)) 60 #[.int .i64 0,.int .i64 0,.int .i64 0,.string ⟨#[]⟩,.slice none 0 0,.slice none 0 0,.slice none 0 0]
 rw[show (W.alloc (.cells #[.int .i64 xk,.int .i64 xf,.int .i64 xt,.string ⟨xx.toArray⟩,.slice (some ⟨b,o,none⟩) n xc,.slice xB m xd,.slice S sn sc] 60)).heap.size=W.heap.size+1 by simp] at ho0
 have HIT:=hid (show itmN d i=⟨itmT d.t i,d.p++[stpT d.t i]⟩ from rfl)
 go_enter Tryz.func47,Tryz.ntmps47
 go_upto_region 1 with fail
 generalize (W.alloc (.cells #[.int .i64 xk,.int .i64 xf,.int .i64 xt,.string ⟨xx.toArray⟩,.slice (some ⟨b,o,none⟩) n xc,.slice xB m xd,.slice S sn sc] 60)).alloc (.cells #[.int .i64 0,.int .i64 0,.int .i64 0,.string ⟨#[]⟩,.slice none 0 0,.slice none 0 0,.slice none 0 0] 60)=wP at *
 have HA:=hid hA
 have B0:Below wP.heap.size wP ((wP.alloc (.cells #[] 86)).drew):=(below1 wP _).drew
 have HROW:=hid (show GRow stpK ((wP.alloc (.cells #[] 86)).drew) wP.heap.size (.slice (some ⟨wP.heap.size,0,none⟩) 0 0) [] from (GRow.made (K:=stpK) (l:=[]) wP #[] rfl (by simp[maxLen]) (Nat.le_refl _)).keepB (Below.refl (wP.alloc (.cells #[] 86)).heap.size _).drew (Nat.le_refl _))
 have HRD:=hid ((HR.out.below hA.2.2.1).below B0)
 have HB0:=hid B0
 have HWP:=hid hz0
 have HO0:=hid ho0
 clear B0 hz0 ho0
 go_region_held3 (fun w'=>(w'.cell? ⟨W.heap.size,0,none⟩=some (.int .i64 xk)∧w'.cell? ⟨W.heap.size,1,none⟩=some (.int .i64 xf)∧w'.cell? ⟨W.heap.size,2,none⟩=some (.int .i64 xt)∧w'.cell? ⟨W.heap.size,3,none⟩=some (.string ⟨xx.toArray⟩)∧w'.cell? ⟨W.heap.size,4,none⟩=some (.slice (some ⟨b,o,none⟩) n xc)∧w'.cell? ⟨W.heap.size,5,none⟩=some (.slice xB m xd)∧w'.cell? ⟨W.heap.size,6,none⟩=some (.slice S sn sc))∧(w'.cell? ⟨b,o+i*6,none⟩=some (.int .i64 y.kd)∧w'.cell? ⟨b,o+i*6+1,none⟩=some (.int .i64 y.fr)∧w'.cell? ⟨b,o+i*6+2,none⟩=some (.int .i64 y.to)∧w'.cell? ⟨b,o+i*6+3,none⟩=some (.string ⟨y.tx.toArray⟩)∧w'.cell? ⟨b,o+i*6+4,none⟩=some (.slice y.A y.n y.c)∧w'.cell? ⟨b,o+i*6+5,none⟩=some (.slice y.B y.m y.d))∧Below W.heap.size W w'∧W.heap.size<w'.heap.size)
   ((show ItAt W W.heap.size ⟨⟨xk,xf,xt,xx,some ⟨b,o,none⟩,n,xc,xB,m,xd⟩,S,sn,sc⟩ y b (o+i*6) _;with_reducible first|exact HA.out|exact ItAt.drew (W:=W) (q:=W.heap.size) (s:=⟨⟨xk,xf,xt,xx,some ⟨b,o,none⟩,n,xc,xB,m,xd⟩,S,sn,sc⟩) (y:=y) (b:=b) (o:=o+i*6) HBW.out HA.out|exact ItAt.drew (W:=W) (q:=W.heap.size) (s:=⟨⟨xk,xf,xt,xx,some ⟨b,o,none⟩,n,xc,xB,m,xd⟩,S,sn,sc⟩) (y:=y) (b:=b) (o:=o+i*6) HBW.out (ItAt.alloc (W:=W) (q:=W.heap.size) (s:=⟨⟨xk,xf,xt,xx,some ⟨b,o,none⟩,n,xc,xB,m,xd⟩,S,sn,sc⟩) (y:=y) (b:=b) (o:=o+i*6) HBW.out HA.out _)|exact ItAt.on (W:=W) (q:=W.heap.size) (s:=⟨⟨xk,xf,xt,xx,some ⟨b,o,none⟩,n,xc,xB,m,xd⟩,S,sn,sc⟩) (y:=y) (b:=b) (o:=o+i*6) HBW.out HA.out hb1|exact ItAt.on (W:=W) (q:=W.heap.size) (s:=⟨⟨xk,xf,xt,xx,some ⟨b,o,none⟩,n,xc,xB,m,xd⟩,S,sn,sc⟩) (y:=y) (b:=b) (o:=o+i*6) HBW.out HA.out hb12|exact ItAt.alloc (W:=W) (q:=W.heap.size) (s:=⟨⟨xk,xf,xt,xx,some ⟨b,o,none⟩,n,xc,xB,m,xd⟩,S,sn,sc⟩) (y:=y) (b:=b) (o:=o+i*6) HBW.out (ItAt.on (W:=W) (q:=W.heap.size) (s:=⟨⟨xk,xf,xt,xx,some ⟨b,o,none⟩,n,xc,xB,m,xd⟩,S,sn,sc⟩) (y:=y) (b:=b) (o:=o+i*6) HBW.out HA.out hb12) _|exact ItAt.on (W:=W) (q:=W.heap.size) (s:=⟨⟨xk,xf,xt,xx,some ⟨b,o,none⟩,n,xc,xB,m,xd⟩,S,sn,sc⟩) (y:=y) (b:=b) (o:=o+i*6) HBW.out HA.out hb3|exact ItAt.set (W:=W) (q:=W.heap.size) (s:=⟨⟨xk,xf,xt,xx,some ⟨b,o,none⟩,n,xc,xB,m,xd⟩,S,sn,sc⟩) (y:=y) (b:=b) (o:=o+i*6) HBW.out (Nat.le_refl _) (ItAt.set (W:=W) (q:=W.heap.size) (s:=⟨⟨xk,xf,xt,xx,some ⟨b,o,none⟩,n,xc,xB,m,xd⟩,S,sn,sc⟩) (y:=y) (b:=b) (o:=o+i*6) HBW.out (Nat.le_refl _) (ItAt.set (W:=W) (q:=W.heap.size) (s:=⟨⟨xk,xf,xt,xx,some ⟨b,o,none⟩,n,xc,xB,m,xd⟩,S,sn,sc⟩) (y:=y) (b:=b) (o:=o+i*6) HBW.out (Nat.le_refl _) (ItAt.set (W:=W) (q:=W.heap.size) (s:=⟨⟨xk,xf,xt,xx,some ⟨b,o,none⟩,n,xc,xB,m,xd⟩,S,sn,sc⟩) (y:=y) (b:=b) (o:=o+i*6) HBW.out (Nat.le_refl _) (ItAt.set (W:=W) (q:=W.heap.size) (s:=⟨⟨xk,xf,xt,xx,some ⟨b,o,none⟩,n,xc,xB,m,xd⟩,S,sn,sc⟩) (y:=y) (b:=b) (o:=o+i*6) HBW.out (Nat.le_refl _) (ItAt.set (W:=W) (q:=W.heap.size) (s:=⟨⟨xk,xf,xt,xx,some ⟨b,o,none⟩,n,xc,xB,m,xd⟩,S,sn,sc⟩) (y:=y) (b:=b) (o:=o+i*6) HBW.out (Nat.le_refl _) (ItAt.set (W:=W) (q:=W.heap.size) (s:=⟨⟨xk,xf,xt,xx,some ⟨b,o,none⟩,n,xc,xB,m,xd⟩,S,sn,sc⟩) (y:=y) (b:=b) (o:=o+i*6) HBW.out (Nat.le_refl _) (ItAt.on (W:=W) (q:=W.heap.size) (s:=⟨⟨xk,xf,xt,xx,some ⟨b,o,none⟩,n,xc,xB,m,xd⟩,S,sn,sc⟩) (y:=y) (b:=b) (o:=o+i*6) HBW.out HA.out hb3) 0 _) 1 _) 2 _) 3 _) 4 _) 5 _) 6 _))
   (first
     | (go_at_call 73;refine (HS.out _ (HA.out.2.2.1.trans (hb1.mono HA.out.2.2.1.size))).mono ?_;rintro e w2 ⟨rfl,hb2⟩;have hb12:Below wP.heap.size wP w2:=hb1.trans (hb2.mono hb1.size);have row2:=row1.keepB hb2 (Nat.le_refl _))
     | (refine step_row_append (KK:=stpK) rfl (.tmp 11) (.tmp 13) rfl wP.heap.size (.slice (some ⟨wP.heap.size,0,none⟩) 0 0) [] rfl HROW.out S sn sc d.p rfl HRD.out (by simp;omega) HB0.out.size ?_;intro v1 w1 row1 grown1 at1;have hb1:Below wP.heap.size wP w1:=below_grown HB0.out grown1 HB0.out.size (fun g hg=>(HROW.out.low hg).1))
     | (refine step_row_append (KK:=stpK) rfl (.tmp 14) (.tmp 19) rfl wP.heap.size v1 d.p rfl (row2.keepB (below1 w2 _) (Nat.le_refl _)) _ 1 1 [stpT d.t i] rfl (GRow.made (K:=stpK) (base:=0) (l:=[stpT d.t i]) w2 #[.bool (stpT d.t i).named,.string ⟨(stpT d.t i).name.toArray⟩,.int .i64 (stpT d.t i).index] rfl (by simp[maxLen]) (Nat.zero_le _)).rd (by omega) (Nat.le_trans (Nat.le_trans hb1.size hb2.size) (below1 w2 _).size) ?_;intro v2 w3 row3 grown3 at3;have hb3:Below wP.heap.size wP w3:=below_grown ((hb1.trans (hb2.mono hb1.size)).trans ((below1 w2 _).mono (Nat.le_trans hb1.size hb2.size))) grown3 (Nat.le_trans (Nat.le_trans hb1.size hb2.size) (below1 w2 _).size) (fun g hg=>(row2.low hg).1);obtain ⟨A3,c3,rfl,_⟩:=row3.form;have o3:=HO0.out.stay hb3 (by have:=HWP.out;omega);have k0:w3.cell? ⟨W.heap.size+1,0,none⟩=some (.int .i64 0):=o3.at 0;have f0:=o3.free 0;have k1:w3.cell? ⟨W.heap.size+1,1,none⟩=some (.int .i64 0):=o3.at 1;have f1:=o3.free 1;have k2:w3.cell? ⟨W.heap.size+1,2,none⟩=some (.int .i64 0):=o3.at 2;have f2:=o3.free 2;have k3:w3.cell? ⟨W.heap.size+1,3,none⟩=some (.string ⟨#[]⟩):=o3.at 3;have f3:=o3.free 3;have k4:w3.cell? ⟨W.heap.size+1,4,none⟩=some (.slice none 0 0):=o3.at 4;have f4:=o3.free 4;have k5:w3.cell? ⟨W.heap.size+1,5,none⟩=some (.slice none 0 0):=o3.at 5;have f5:=o3.free 5;have k6:w3.cell? ⟨W.heap.size+1,6,none⟩=some (.slice none 0 0):=o3.at 6;have f6:=o3.free 6;have HO3:=hid o3;clear o3))
 all_goals
   rw[show (d.p++[stpT d.t i]).length=sn+1 by rw[List.length_append,hsn];rfl] at row3
   have o4:Own _ (W.heap.size+1) 60 #[.int .i64 y.kd,.int .i64 y.fr,.int .i64 y.to,.string ⟨y.tx.toArray⟩,.slice y.A y.n y.c,.slice y.B y.m y.d,.slice A3 (sn+1) c3]:=(((((((HO3.out.put 0 (.int .i64 y.kd)).put 1 (.int .i64 y.fr)).put 2 (.int .i64 y.to)).put 3 (.string ⟨y.tx.toArray⟩)).put 4 (.slice y.A y.n y.c)).put 5 (.slice y.B y.m y.d)).put 6 (.slice A3 (sn+1) c3))
   have hbl:=((((((((HA.out.2.2.1.trans (hb3.mono HA.out.2.2.1.size)).setCell (p:=⟨W.heap.size+1,0,none⟩) (by show W.heap.size≤W.heap.size+1;omega) (.int .i64 y.kd)).setCell (p:=⟨W.heap.size+1,1,none⟩) (by show W.heap.size≤W.heap.size+1;omega) (.int .i64 y.fr)).setCell (p:=⟨W.heap.size+1,2,none⟩) (by show W.heap.size≤W.heap.size+1;omega) (.int .i64 y.to)).setCell (p:=⟨W.heap.size+1,3,none⟩) (by show W.heap.size≤W.heap.size+1;omega) (.string ⟨y.tx.toArray⟩)).setCell (p:=⟨W.heap.size+1,4,none⟩) (by show W.heap.size≤W.heap.size+1;omega) (.slice y.A y.n y.c)).setCell (p:=⟨W.heap.size+1,5,none⟩) (by show W.heap.size≤W.heap.size+1;omega) (.slice y.B y.m y.d)).setCell (p:=⟨W.heap.size+1,6,none⟩) (by show W.heap.size≤W.heap.size+1;omega) (.slice A3 (sn+1) c3))
   have hrow:=row3.stay (w':=set7 w3 (W.heap.size+1) (.int .i64 y.kd) (.int .i64 y.fr) (.int .i64 y.to) (.string ⟨y.tx.toArray⟩) (.slice y.A y.n y.c) (.slice y.B y.m y.d) (.slice A3 (sn+1) c3)) (fun g hg=>set7_heap _ _ _ _ _ _ _ _ _ g (by have:=(row3.low hg).1;have:=HWP.out;omega))
   have HO4:=hid o4
   have HBL:=hid hbl
   have HRO:=hid hrow
   clear o4 hbl hrow k0 k1 k2 k3 k4 k5 k6 f0 f1 f2 f3 f4 f5 f6 grown3 grown1 at1 at3 row1 row2 row3 hb1 hb2 hb12 hb3 hA
   go_wp2
   refine bodyPost_ret (results_cell_row rfl _ _ (W.heap.size+1) _ _ (0,0) _ rfl HO4.out Tryz.underlying60 rfl node_size) rfl ?_
   rw[HIT.out]
   exact ⟨⟨y,A3,sn+1,c3⟩,rfl,⟨HY.out,HRO.out.mono (by have:=HWP.out;omega)⟩,HBL.out⟩
end
end Go.Proofs.YtnokhgfifbkflaaGreat
