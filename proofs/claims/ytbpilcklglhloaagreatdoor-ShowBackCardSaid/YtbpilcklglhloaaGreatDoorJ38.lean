/- Lemmas. -/
import Derived.Test.YtbpilcklglhloaaGreatDoorJ37
set_option maxRecDepth 100000
set_option maxHeartbeats 8000000
set_option linter.unusedVariables false
namespace Go.Proofs.YtbpilcklglhloaaGreatDoor
open Go.Lib (hid)
section
open Go.RowKit
def szO:List (Tree×Stp)→Nat
 | []=>0
 | q :: r=>sizeT q.1+szO r
def szR:Option Tree→Nat
 | some t=>sizeT t
 | none=>0
def szB (b:Bld):Nat:=szO b.op+szR b.root
theorem szO_len:∀ r:List (Tree×Stp),r.length≤szO r
 | []=>Nat.le_refl _
 | q :: r=>by
   have:=szO_len r
   have:=sizeT_pos q.1
   unfold szO
   simp
   omega
theorem sizeT_mk (k:Int)(f o:Nat)(x:List UInt8)(i:List Tree)(n:List (List UInt8)):sizeT (.mk k f o x i n)=1+n.length+sizeL i:=by unfold sizeT;rfl
theorem sizeT_parts (t:Tree):t.items.length≤sizeT t∧t.names.length≤sizeT t:=by
 obtain ⟨k,f,o,x,i,n⟩:=t
 have:=sizeL_len i
 rw[sizeT_mk]
 exact ⟨by show i.length≤_;omega,by show n.length≤_;omega⟩
theorem sizeT_add (t:Tree) (s:Stp) (u:Tree):sizeT (addT t s u)≤sizeT t+sizeT u+1:=by
 obtain ⟨k,f,o,x,i,n⟩:=u
 show sizeT (.mk k f o x (i++[t]) (if s.named then n++[s.name] else n))≤_
 rw[sizeT_mk,sizeT_mk,sizeL_app]
 have:sizeL [t]=sizeT t:=by simp[sizeL]
 rw[this]
 split
 ·simp;omega
 ·omega
theorem bldE_size (b:Bld) (e:Evt):szB (bldE b e)≤szB b+1:=by
 obtain ⟨op,root⟩:=b
 unfold bldE
 by_cases h:e.kind=1
 ·rw[if_pos h]
  show sizeT (.mk e.value e.fr 0 [] [] [])+szO op+szR root≤szO op+szR root+1
  have:sizeT (.mk e.value e.fr 0 [] [] [])=1:=by simp[sizeT,sizeL]
  omega
 ·rw [if_neg h]
  match op with
  | []=>exact Nat.le_add_right _ _
  | [(.mk k f o x i n,s)] =>
    show 0+sizeT (.mk e.value f e.to e.text i n)≤(sizeT (.mk k f o x i n)+0)+szR root+1
    rw[sizeT_mk,sizeT_mk]
    omega
  | (.mk k f o x i n,s) :: (p,ps) :: r =>
    show sizeT (addT (.mk e.value f e.to e.text i n) s p)+szO r+szR root≤(sizeT (.mk k f o x i n)+(sizeT p+szO r))+szR root+1
    have h1:=sizeT_add (.mk e.value f e.to e.text i n) s p
    rw[sizeT_mk] at h1 ⊢
    omega
theorem nowT_size:∀ (r:List (Tree×Stp)) (t:Tree) (s:Stp),sizeT (nowT t s r)≤sizeT t+szO r+r.length
 | [],t,s=>by show sizeT t≤_;omega
 | (u,s') :: r,t,s=>by
   have h1:=nowT_size r (addT t s u) s'
   have h2:=sizeT_add t s u
   show sizeT (nowT (addT t s u) s' r)≤sizeT t+(sizeT u+szO r)+(r.length+1)
   omega
theorem Take_bld {w:World} {b:Nat} {F:Nat→Prop} {bl:Bld} (h:BIs w b F bl) (e:Evt) (hk:e.kind=1∨e.kind=2) (h1:e.kind=1→bl.root=none) (hz:szB bl≤206000000) :
   Calls Tryz.prog 18 #[.pointer (some ⟨b,0,none⟩),.agg (evCells e).toArray] w fun e' w'=>e'=.returned (.tuple #[])∧BIs w' b (fun j=>F j∨w.heap.size≤j) (bldE bl e)∧Touch F w w':=by
 obtain ⟨w1,hw1⟩:∃ w1,w1=w.alloc (.cells (evCells e).toArray 61):=⟨_,rfl⟩
 have s1:w1.heap.size=w.heap.size+1:=by subst hw1;simp
 have hB1:Below w.heap.size w w1:=by subst hw1;exact (Below.refl _ _).alloc (Nat.le_refl _) _
 have oE:Own w1 w.heap.size 61 (evCells e).toArray:=by subst hw1;exact Own.fresh _ _ _
 have hb:=h.move (w':=w1) (T:=fun _=>False) (Touch.of_new hB1) (fun _ _ _ h=>h)
 have t1:Touch F w w1:=Touch.of_new hB1
 -- what a callee leaves
 have fin:∀ (bl':Bld) (w':World),BIs w' b (fun j=>F j∨w1.heap.size≤j) bl'∧Touch F w1 w'→BIs w' b (fun j=>F j∨w.heap.size≤j) bl'∧Touch F w w':=fun bl' w' h =>
   ⟨h.1.mono (fun j hj=>hj.elim .inl (fun h=>.inr (by omega))),t1.trans h.2 (fun _ _ h=>h)⟩
 have FIN:=hid fin
 have HW:=hid hw1
 obtain ⟨ek,ev,ef,et,⟨nm,sn,si⟩,tx⟩:=e
 have e0:=oE.at 0
 have e1:=oE.at 1
 have e2:=oE.at 2
 have e3:=oE.at 3
 have e4:=oE.at 4
 have e5:=oE.at 5
 have e6:=oE.at 6
 have e7:=oE.at 7
 simp[evCells] at e0 e1 e2 e3 e4 e5 e6 e7
 have hk:ek=1∨ek=2:=hk
 have h1:ek=1→bl.root=none:=h1
 obtain ⟨op,root⟩:=bl
 have HB:=hid hb
 show Calls _ _ #[.pointer (some ⟨b,0,none⟩),.agg #[.int .i64 ek,.int .i64 ev,.int .i64 ef,.int .i64 et,.bool nm,.string ⟨sn.toArray⟩,.int .i64 si,.string ⟨tx.toArray⟩]] _ _
 have hwe:w1=w.alloc (.cells #[.int .i64 ek,.int .i64 ev,.int .i64 ef,.int .i64 et,.bool nm,.string ⟨sn.toArray⟩,.int .i64 si,.string ⟨tx.toArray⟩] 61):=HW.out
 have HWE:=hid hwe
 have HZ:=hid hz
 have H1:=hid h1
 clear fin hw1 hB1 oE t1 h hwe hz h1 s1 HW
 have WORDS:∀ w',BIs w' b (fun j=>F j∨w1.heap.size≤j) (bldE ⟨op,root⟩ ⟨ek,ev,ef,et,⟨nm,sn,si⟩,tx⟩)∧Touch F w1 w'→BIs w' b (fun j=>F j∨w.heap.size≤j) (bldE ⟨op,root⟩ ⟨ek,ev,ef,et,⟨nm,sn,si⟩,tx⟩)∧Touch F w w':=fun w' h=>FIN.out _ w' h
 have HWD:=hid WORDS
 clear WORDS FIN
 have szo:=szO_len op
 have hz:=HZ.out
 unfold szB at hz
 simp only at hz
 rcases hk with rfl|rfl
 ·-- a value begins
  have hr:root=none:=H1.out rfl
  subst hr
  have HC:=hid (show Calls Tryz.prog 32 #[.pointer (some ⟨b,0,none⟩),.agg #[.int .i64 1,.int .i64 ev,.int .i64 ef,.int .i64 et,.bool nm,.string ⟨sn.toArray⟩,.int .i64 si,.string ⟨tx.toArray⟩]] w1 fun e' w'=>e'=.returned (.tuple #[])∧BIs w' b (fun j=>F j∨w1.heap.size≤j) (bldE ⟨op,none⟩ ⟨1,ev,ef,et,⟨nm,sn,si⟩,tx⟩)∧Touch F w1 w' by
    cases op with
    | nil=>exact begin_walk1 HB.out ⟨1,ev,ef,et,⟨nm,sn,si⟩,tx⟩
    | cons q r =>
      obtain ⟨t,s⟩:=q
      have hq:szO ((t,s) :: r)=sizeT t+szO r:=rfl
      have hp:=sizeT_parts t
      have hl:=szO_len r
      exact begin_walk2 HB.out ⟨1,ev,ef,et,⟨nm,sn,si⟩,tx⟩ (by omega) (by omega) (by omega))
  clear HB hz szo
  go_enter Tryz.func18,Tryz.ntmps18
  go_upto_region 1 with fail
  generalize hw:World.alloc w _=w2'
  have ew:w1=w2':=by rw[HWE.out];exact hw
  subst ew
  clear hw
  go_wp2_with (go_at_call 32;refine HC.out.mono ?_;rintro e' w5 ⟨rfl,h5⟩;have H5:=hid h5;clear h5)
  go_end0
  exact ⟨rfl,HWD.out _ H5.out⟩
 ·cases op with
  | nil =>
    have hb:=HB.out
    obtain ⟨wp,vo,hown,hh⟩:=hb
    have hrow:GRow ptrK w1 0 vo []:=by
      rcases hh with ⟨_,_,h3,_⟩|⟨_,_,_,_,_,_,_,_,h5,_⟩|⟨_,_,_,_,_,_,_,_,_,_,h1,_⟩
      ·exact h3
      ·exact h5
      ·cases h1
    obtain ⟨Ao,ko,rfl,_⟩:=hrow.form
    have c1:=hown.at 1
    simp at c1
    clear hown hh hrow hz szo
    go_enter Tryz.func18,Tryz.ntmps18
    go_upto_region 1 with fail
    generalize hw:World.alloc w _=w2'
    have ew:w1=w2':=by rw[HWE.out];exact hw
    subst ew
    clear hw
    go_wp2
    go_end0
    exact ⟨rfl,HWD.out _ ⟨HB.out.mono (fun j h=>.inl h),Touch.refl _ _⟩⟩
  | cons q r =>
    obtain ⟨t,s⟩:=q
    have hq:szO ((t,s) :: r)=sizeT t+szO r:=rfl
    have hl:=szO_len r
    have hb:=HB.out
    have hroot:root=none:=by
      obtain ⟨wp,vo,hown,hh⟩:=hb
      rcases hh with ⟨h1,_⟩|⟨_,_,_,_,h1,_⟩|⟨_,_,_,_,_,_,_,_,_,_,h1,_⟩
      ·cases h1
      ·cases h1
      ·injection h1
    subst hroot
    have HC:=hid (show Calls Tryz.prog 33 #[.pointer (some ⟨b,0,none⟩),.agg #[.int .i64 2,.int .i64 ev,.int .i64 ef,.int .i64 et,.bool nm,.string ⟨sn.toArray⟩,.int .i64 si,.string ⟨tx.toArray⟩]] w1 fun e' w'=>e'=.returned (.tuple #[])∧BIs w' b (fun j=>F j∨w1.heap.size≤j) (bldE ⟨(t,s) :: r,none⟩ ⟨2,ev,ef,et,⟨nm,sn,si⟩,tx⟩)∧Touch F w1 w' from
      end_walk HB.out ⟨2,ev,ef,et,⟨nm,sn,si⟩,tx⟩ (by show (2:Int)≠1;decide) (by omega))
    obtain ⟨wp,vo,hown,hh⟩:=hb
    obtain ⟨n1,Ao,ko,hvo,hn1,hn9⟩:∃ (n1:Nat) (Ao:Option Addr) (ko:Nat),vo=.slice Ao n1 ko∧0<n1∧n1≤420000001:=by
      rcases hh with ⟨h1,_⟩|⟨_,_,_,_,h1,_⟩|⟨t',s',r',x,xs,p,ps,S,G,wb,h1,h2,h3,h4⟩
      ·cases h1
      ·cases h1
      ·injection h1 with h1
       injection h1 with _ h6
       subst h6
       have hpl:=h3.ctx.len
       obtain ⟨Ao,ko,hvo,_⟩:=h3.row.form
       exact ⟨_,Ao,ko,hvo,by simp,by simp;omega⟩
    subst hvo
    have c1:=hown.at 1
    simp at c1
    have p1:(0:Int)<(n1:Int):=by omega
    have p2:(n1:Int)≤420000001:=by omega
    clear hown hh HB hz szo hq hl hn1 hn9
    go_enter Tryz.func18,Tryz.ntmps18
    go_upto_region 1 with fail
    generalize hw:World.alloc w _=w2'
    have ew:w1=w2':=by rw[HWE.out];exact hw
    subst ew
    clear hw
    go_wp2_with (go_at_call 33;refine HC.out.mono ?_;rintro e' w5 ⟨rfl,h5⟩;have H5:=hid h5;clear h5)
    go_end0
    exact ⟨rfl,HWD.out _ H5.out⟩
end
section
open Go.RowKit
theorem results_cell_tmp {P:Program} {fn:Func} {t p:Tmp} {ty:TypeId} (h:fn.results = #[.cell p ty,.tmp t]) (tmps:Array Value) (w:World) (g:Nat) (T:TypeId) (cs:Array Value) (fr:Nat×Nat) (d:TypeDesc)
   (hp:tmps.getD p undef=.pointer (some ⟨g,0,none⟩)) (hg:w.heap[g]?=some (.cells cs T fr))
   (hu:P.underlying ty=some d) (hd:(match d with | .struct _ | .array _ _=>true|_=>false)=true) (hi:(P.info? ty).map (·.size)=some cs.size) :
   (results fn tmps).run P w=.ok (.tuple #[.agg cs,tmps.getD t undef]) w:=by
 have hp':tmps[p]?.getD undef=.pointer (some ⟨g,0,none⟩):=by simpa using hp
 simp[results,h,hp',asAddr,run_loadVar_row w g T ty cs fr d hg hu hd hi,Result.andThen]
def NowEnd (w:World)(bl:Bld)(e:Ending)(w':World):Prop:=∃ (y:V6) (o:Bool),e=.returned (.tuple #[.agg (v6Cells y).toArray,.bool o])∧(∀ t,bl=⟨[],some t⟩ → ∀ w'',w'.heap.size≤w''.heap.size→(∀ k,w.heap.size≤k→k<w'.heap.size→w''.heap[k]?=w'.heap[k]?)→VIs w'' t y)∧Below w.heap.size w w'
theorem six_facts {w:World} {b:Nat} {T:TypeId} {x:V6} (h:Own w b T (v6Cells x).toArray):w.cell? ⟨b,0,none⟩=some (.int .i64 x.kd)∧w.cell? ⟨b,1,none⟩=some (.int .i64 x.fr)∧w.cell? ⟨b,2,none⟩=some (.int .i64 x.to)∧w.cell? ⟨b,3,none⟩=some (.string ⟨x.tx.toArray⟩)∧w.cell? ⟨b,4,none⟩=some (.slice x.A x.n x.c)∧w.cell? ⟨b,5,none⟩=some (.slice x.B x.m x.d) :=
 ⟨h.at 0,h.at 1,h.at 2,h.at 3,h.at 4,h.at 5⟩
theorem now_none {w:World} {b:Nat} {vo:Value} (h:Own w b 47 #[.pointer none,vo]) (bl:Bld) (hb:∀ t,bl≠⟨[],some t⟩) :
   Calls Tryz.prog 24 #[.pointer (some ⟨b,0,none⟩)] w (NowEnd w bl):=by
 obtain ⟨w1,hw1⟩:∃ w1,w1=w.alloc (.cells #[.int .i64 0,.int .i64 0,.int .i64 0,.string ⟨#[]⟩,.slice none 0 0,.slice none 0 0] 27):=⟨_,rfl⟩
 have hB1:Below w.heap.size w w1:=by subst hw1;exact (Below.refl _ _).alloc (Nat.le_refl _) _
 have o1:Own w1 w.heap.size 27 zeroV.toArray:=by subst hw1;exact Own.fresh _ _ _
 have hb1:=h.stay hB1 h.inside
 have c0:=hb1.at 0
 simp at c0
 have y0:=o1.at 0
 have y1:=o1.at 1
 have y2:=o1.at 2
 have y3:=o1.at 3
 have y4:=o1.at 4
 have y5:=o1.at 5
 simp[zeroV] at y0 y1 y2 y3 y4 y5
 have f0:=o1.free 0
 have f1:=o1.free 1
 have f2:=o1.free 2
 have f3:=o1.free 3
 have f4:=o1.free 4
 have f5:=o1.free 5
 have hO:=put6_own o1 zeroX
 have hT:=put6_touch w1 w.heap.size zeroX
 unfold put6 at hO hT
 have HO:=hid hO
 have HT:=hid hT
 have HW:=hid hw1
 have HB1:=hid hB1
 have HB:=hid hb
 clear hO hT hw1 hB1 o1 hb1 h hb
 go_enter Tryz.func24,Tryz.ntmps24
 go_upto_region 1 with fail
 generalize hw:World.alloc w _=w2'
 have ew:w1=w2':=by rw[HW.out];exact hw
 subst ew
 clear hw
 go_wp2
 refine bodyPost_ret (results_cell_tmp rfl _ _ w.heap.size _ _ (0,0) _ rfl HO.out Tryz.underlying27 rfl val_size) rfl ?_
 exact ⟨zeroX,false,rfl,fun t ht=>absurd ht (HB.out t),HB1.out.trans (HT.out.below (fun j _ hj=>by have:j=w.heap.size:=hj;omega) HB1.out.size)⟩
theorem now_some {w:World} {b wb:Nat} {vo:Value} {t:Tree} {x:V6} (h:Own w b 47 #[.pointer (some ⟨wb,0,none⟩),vo]) (hx:Own w wb 27 (v6Cells x).toArray) (hv:VIs w t x) (hz:sizeT t≤420000000) (bl:Bld) (hb:∀ u,bl=⟨[],some u⟩→u=t) :
   Calls Tryz.prog 24 #[.pointer (some ⟨b,0,none⟩)] w (NowEnd w bl):=by
 obtain ⟨w1,hw1⟩:∃ w1,w1=w.alloc (.cells #[.int .i64 0,.int .i64 0,.int .i64 0,.string ⟨#[]⟩,.slice none 0 0,.slice none 0 0] 27):=⟨_,rfl⟩
 have hB1:Below w.heap.size w w1:=by subst hw1;exact (Below.refl _ _).alloc (Nat.le_refl _) _
 have o1:Own w1 w.heap.size 27 zeroV.toArray:=by subst hw1;exact Own.fresh _ _ _
 have hb1:=h.stay hB1 h.inside
 have c0:=hb1.at 0
 simp at c0
 obtain ⟨x0,x1,x2,x3,x4,x5⟩:=six_facts (hx.stay hB1 hx.inside)
 have HC:=hid (show Calls Tryz.prog 38 #[.agg #[.int .i64 x.kd,.int .i64 x.fr,.int .i64 x.to,.string ⟨x.tx.toArray⟩,.slice x.A x.n x.c,.slice x.B x.m x.d]] w1 fun e w' => ∃ (k:Int) (f o:Nat) (tx:List UInt8) (A:Option Addr) (n c:Nat) (B:Option Addr) (m d:Nat),e=.returned (.agg #[.int .i64 k,.int .i64 f,.int .i64 o,.string ⟨tx.toArray⟩,.slice A n c,.slice B m d])∧(∀ w'':World,w'.heap.size≤w''.heap.size→(∀ k,w1.heap.size≤k→k<w'.heap.size→w''.heap[k]?=w'.heap[k]?)→VIs w'' t ⟨k,f,o,tx,A,n,c,B,m,d⟩)∧Below w1.heap.size w1 w' from (clone_any t x w1 (hv.stay hB1) hz).mono (by
   rintro e w' ⟨⟨k,f,o,tx,A,n,c,B,m,d⟩,rfl,h1,h2⟩
   exact ⟨k,f,o,tx,A,n,c,B,m,d,rfl,h1,h2⟩))
 have HW:=hid hw1
 have HB1:=hid hB1
 have HB:=hid hb
 have HO1:=hid o1
 clear hw1 hB1 o1 hb1 h hb hx hv
 go_enter Tryz.func24,Tryz.ntmps24
 go_upto_region 1 with fail
 generalize hw:World.alloc w _=w2'
 have ew:w1=w2':=by rw[HW.out];exact hw
 subst ew
 clear hw
 go_wp2_with (go_at_call 38;refine HC.out.mono ?_;rintro e w5 ⟨ykd,yfr,yto,ytx,yA,yn,yc,yB,ym,yd,rfl,hv5,hb5⟩
              have o5:=HO1.out.stay hb5 HO1.out.inside
              have y0:=o5.at 0
              have y1:=o5.at 1
              have y2:=o5.at 2
              have y3:=o5.at 3
              have y4:=o5.at 4
              have y5:=o5.at 5
              simp[zeroV] at y0 y1 y2 y3 y4 y5
              have f0:=o5.free 0
              have f1:=o5.free 1
              have f2:=o5.free 2
              have f3:=o5.free 3
              have f4:=o5.free 4
              have f5:=o5.free 5
              have hO:=put6_own o5 ⟨ykd,yfr,yto,ytx,yA,yn,yc,yB,ym,yd⟩
              have hT:=put6_touch w5 w.heap.size ⟨ykd,yfr,yto,ytx,yA,yn,yc,yB,ym,yd⟩
              unfold put6 at hO hT
              have HO:=hid hO
              have HT:=hid hT
              have HV5:=hid hv5
              have HB5:=hid hb5
              clear hO hT hv5 hb5 o5)
 refine bodyPost_ret (results_cell_tmp rfl _ _ w.heap.size _ _ (0,0) _ rfl HO.out Tryz.underlying27 rfl val_size) rfl ?_
 refine ⟨⟨ykd,yfr,yto,ytx,yA,yn,yc,yB,ym,yd⟩,true,rfl,fun u hu w9 hs9 hk9 => ?_,(HB1.out.trans (HB5.out.mono HB1.out.size)).trans (HT.out.below (fun j _ hj=>by have:j=w.heap.size:=hj;omega) (Nat.le_trans HB1.out.size HB5.out.size))⟩
 have:=HB.out u hu
 subst this
 have hs1:w1.heap.size=w.heap.size+1:=by rw[HW.out];simp
 exact HV5.out _ (Nat.le_trans HT.out.size hs9) (fun k hk hl=>(hk9 k (by omega) (Nat.lt_of_lt_of_le hl HT.out.size)).trans (HT.out.block k hl (fun e=>by have:k=w.heap.size:=e;omega)))
theorem Now_bld {w:World} {b:Nat} {F:Nat→Prop} {bl:Bld} (h:BIs w b F bl) (hz:szB bl≤206000000):Calls Tryz.prog 24 #[.pointer (some ⟨b,0,none⟩)] w (NowEnd w bl):=by
 obtain ⟨wp,vo,hown,hh⟩:=h
 rcases hh with ⟨h1,h2,h3,h4⟩|⟨t,x,wb,G,h1,h2,h3,h4,h5,h6⟩|⟨t,s,r,x,xs,p,ps,S,G,wb,h1,h2,h3,h4⟩
 ·subst h1 h2
  exact now_none hown _ (fun t ht=>by cases ht)
 ·subst h1 h2
  have hz:szO []+sizeT t≤206000000:=hz
  exact now_some hown h3 (VIsG.vis _ _ h4) (by omega) _ (fun u hu=>by injection hu with _ hu;injection hu with hu;exact hu.symm)
 ·subst h1 h2
  have hz:(sizeT t+szO r)+0≤206000000:=hz
  obtain ⟨X,hX,hv⟩:=CtxIs.now r s p x ps S t h3.ctx h3.top.vis
  have h5:=nowT_size r t s
  have h6:=szO_len r
  exact now_some hown hX hv (by omega) _ (fun u hu=>by cases hu)
end
end Go.Proofs.YtbpilcklglhloaaGreatDoor
