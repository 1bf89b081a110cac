/- Lemmas. -/
import Derived.Test.YtbpilcklglhloaaGreatDoorJ16
import Derived.Laws.CopyRow
import Derived.Deep.RegionWith
set_option maxRecDepth 100000
set_option maxHeartbeats 8000000
set_option linter.unusedVariables false
namespace Go.Proofs.YtbpilcklglhloaaGreatDoor
open Go.Lib (hid)
section
open Go.RowKit
structure Lvl where
 fr:Nat
 many:Nat
 name:List UInt8
def lvCells (a:Lvl):List Value:=[.int .i64 a.fr,.int .i64 a.many,.string ⟨a.name.toArray⟩]
def lvK:RowK Lvl where
 T:=135
 S:=102
 n:=3
 bytes:=32
 zero:=.agg #[.int .i64 0,.int .i64 0,.string ⟨#[]⟩]
 enc:=lvCells
 pos:=by decide
 len:=fun _=>rfl
 one:=fun a u h=>by
   simp[lvCells] at h
   rcases h with rfl|rfl|rfl<;>rfl
 under:=Tryz.underlying102
 info:=by kernel_rfl
 zlen:=rfl
 small:=by decide
section
variable {α:Type} {K:RowK α} {w w':World} {base:Nat} {l:List α}
theorem all_set:∀ (l:List α) (i j:Nat) (a:α) (u:Value) (b:α),l[i]?=some b→j<K.n→K.enc a=(K.enc b).set j u→K.all (l.set i a)=(K.all l).set (i*K.n+j) u
 | [],i,j,a,u,b,h,_,_=>by cases h
 | x :: t,0,j,a,u,b,h,hj,he=>by
   obtain rfl:x=b:=by simpa using h
   show K.enc a++K.all t=(K.enc x++K.all t).set (0*K.n+j) u
   rw[Nat.zero_mul,Nat.zero_add,List.set_append_left _ _ (by rw[K.len];exact hj),he]
 | x :: t,i+1,j,a,u,b,h,hj,he=>by
   show K.enc x++K.all (t.set i a)=(K.enc x++K.all t).set ((i+1)*K.n+j) u
   rw[List.set_append_right _ _ (by rw[K.len,Nat.add_mul];omega),K.len,all_set t i j a u b (by simpa using h) hj he]
   congr 2
   rw[Nat.add_mul]
   omega
theorem GRow.putAt {g m c i j:Nat} {a b:α} {u:Value} (h:GRow K w base (.slice (some ⟨g,0,none⟩) m c) l) (hi:l[i]?=some b) (hj:j<K.n) (hu:K.enc a=(K.enc b).set j u) :
   GRow K (w.setCell ⟨g,i*K.n+j,none⟩ u) base (.slice (some ⟨g,0,none⟩) m c) (l.set i a):=by
 unfold GRow at h ⊢
 rw[List.length_set,all_set l i j a u b hi hj hu]
 refine ⟨by rw[List.length_set];exact h.1,?_⟩
 rcases h.2 with ⟨hv,h0⟩|⟨g',c',cur,hv,hb,hg,g1,g2,g3,g4⟩
 ·cases hv
 ·injection hv with hA hm hc
  injection hA with hA
  injection hA with hA
  subst hA
  refine .inr ⟨g,c',cur.setIfInBounds (i*K.n+j) u,by rw[hm,hc],hb,?_,g1,g2,by simpa using g3,?_⟩
  ·simp[World.setCell,Array.getElem?_modify,hg]
  ·rw[Array.toList_setIfInBounds,List.take_set,g4]
end
theorem lv_put3 {w:World} {g m c k:Nat} {l:List Lvl} {x:Lvl} (h:GRow lvK w 0 (.slice (some ⟨g,0,none⟩) m c) l) (hk:l[k]?=some x) (y:Lvl) :
   GRow lvK (((w.setCell ⟨g,k*3,none⟩ (.int .i64 y.fr)).setCell ⟨g,k*3+1,none⟩ (.int .i64 y.many)).setCell ⟨g,k*3+2,none⟩ (.string ⟨y.name.toArray⟩)) 0 (.slice (some ⟨g,0,none⟩) m c) (l.set k y):=by
 have hlt:k<l.length:=(List.getElem?_eq_some_iff.1 hk).1
 have h1:=h.putAt (i:=k) (j:=0) (a:=⟨y.fr,x.many,x.name⟩) (u:=.int .i64 y.fr) hk (by decide) rfl
 have h2:=h1.putAt (i:=k) (j:=1) (a:=⟨y.fr,y.many,x.name⟩) (b:=⟨y.fr,x.many,x.name⟩) (u:=.int .i64 y.many) (by simp[hlt]) (by decide) rfl
 have h3:=h2.putAt (i:=k) (j:=2) (a:=y) (b:=⟨y.fr,y.many,x.name⟩) (u:=.string ⟨y.name.toArray⟩) (by simp[hlt]) (by decide) rfl
 simpa [show lvK.n=3 from rfl] using h3
structure NRaw (w:World) (b:Nat) (m y wi:Int) (l:List Bool) (lv:List Lvl) (v:Value) (G:Nat→Prop):Prop where
 stk:KB.StP ⟨.int .i64 m,.int .i64 y,.int .i64 wi,v⟩ w b G l
 row:GRow lvK w 0 v lv
 off:∀ g,v.ownBlock=some g→¬ G g
def NR (w:World) (b:Nat) (F:Nat→Prop) (m y wi:Int) (l:List Bool) (lv:List Lvl):Prop :=
 ∃ v G,NRaw w b m y wi l lv v G∧(∀ k,G k→F k) ∧ ∀ g,v.ownBlock=some g→F g
section
variable {w w':World} {b:Nat} {F G:Nat→Prop} {m y wi:Int} {l:List Bool} {lv:List Lvl} {v:Value} {x0 x1 x2 x5:Value}
theorem StP.self {Rs:KB.RestB} (h:KB.StP Rs w b G l):G b:=by
 obtain ⟨ws,v,h⟩:=h
 exact h.self
theorem StP.in {Rs:KB.RestB} (h:KB.StP Rs w b G l) {k:Nat} (hk:G k):k<w.heap.size:=by
 obtain ⟨ws,v,h⟩:=h
 exact h.inside hk
theorem StP.move {Rs:KB.RestB} {T:Nat→Prop} (h:KB.StP Rs w b G l) (ht:Touch T w w') (hd:∀ k,G k→¬ T k):KB.StP Rs w' b G l:=by
 obtain ⟨ws,v,h⟩:=h
 exact ⟨ws,v,h.move ht hd⟩
theorem StP.put0 (h:KB.StP ⟨x0,x1,x2,x5⟩ w b G l) (u:Value):KB.StP ⟨u,x1,x2,x5⟩ (w.setCell ⟨b,0,none⟩ u) b G l:=by
 obtain ⟨ws,v,h⟩:=h
 exact ⟨ws,v,⟨by simpa using h.own.put 0 u,h.row.stay (fun g hg=>Below.heap_setCell _ _ _ _ (h.blocks hg).2.1),h.foot,h.apart,h.many,h.bit,h.small⟩⟩
theorem StP.put1 (h:KB.StP ⟨x0,x1,x2,x5⟩ w b G l) (u:Value):KB.StP ⟨x0,u,x2,x5⟩ (w.setCell ⟨b,1,none⟩ u) b G l:=by
 obtain ⟨ws,v,h⟩:=h
 exact ⟨ws,v,⟨by simpa using h.own.put 1 u,h.row.stay (fun g hg=>Below.heap_setCell _ _ _ _ (h.blocks hg).2.1),h.foot,h.apart,h.many,h.bit,h.small⟩⟩
theorem StP.put2 (h:KB.StP ⟨x0,x1,x2,x5⟩ w b G l) (u:Value):KB.StP ⟨x0,x1,u,x5⟩ (w.setCell ⟨b,2,none⟩ u) b G l:=by
 obtain ⟨ws,v,h⟩:=h
 exact ⟨ws,v,⟨by simpa using h.own.put 2 u,h.row.stay (fun g hg=>Below.heap_setCell _ _ _ _ (h.blocks hg).2.1),h.foot,h.apart,h.many,h.bit,h.small⟩⟩
theorem StP.put5 (h:KB.StP ⟨x0,x1,x2,x5⟩ w b G l) (u:Value):KB.StP ⟨x0,x1,x2,u⟩ (w.setCell ⟨b,5,none⟩ u) b G l:=by
 obtain ⟨ws,v,h⟩:=h
 exact ⟨ws,v,⟨by simpa using h.own.put 5 u,h.row.stay (fun g hg=>Below.heap_setCell _ _ _ _ (h.blocks hg).2.1),h.foot,h.apart,h.many,h.bit,h.small⟩⟩
theorem StP.cells (h:KB.StP ⟨x0,x1,x2,x5⟩ w b G l):w.cell? ⟨b,0,none⟩=some x0∧w.cell? ⟨b,1,none⟩=some x1∧w.cell? ⟨b,2,none⟩=some x2∧w.cell? ⟨b,5,none⟩=some x5:=by
 obtain ⟨ws,v,h⟩:=h
 have h0:=h.own.at 0
 have h1:=h.own.at 1
 have h2:=h.own.at 2
 have h5:=h.own.at 5
 simp at h0 h1 h2 h5
 exact ⟨h0,h1,h2,h5⟩
theorem StP.free {Rs:KB.RestB} (h:KB.StP Rs w b G l) (i:Nat):w.frozen? ⟨b,i,none⟩=false:=by
 obtain ⟨ws,v,h⟩:=h
 exact h.own.free i
theorem NRaw.move {T:Nat→Prop} (h:NRaw w b m y wi l lv v G) (ht:Touch T w w') (hd:∀ k,G k→¬ T k) (hv:∀ g,v.ownBlock=some g→¬ T g):NRaw w' b m y wi l lv v G :=
 ⟨StP.move h.stk ht hd,h.row.stay (fun g hg=>ht.block g (h.row.low hg).2 (hv g hg)),h.off⟩
theorem NRaw.drewN (h:NRaw w b m y wi l lv v G) (q:Nat):NRaw (w.drewN q) b m y wi l lv v G :=
 h.move (T:=fun _=>False) ((Touch.refl _ w).drewN q) (fun _ _ h=>h) (fun _ _ h=>h)
theorem NRaw.ne (h:NRaw w b m y wi l lv v G):∀ g,v.ownBlock=some g→g≠b:=fun g hg e=>h.off g hg (e▸StP.self h.stk)
theorem NRaw.rowput (h:NRaw w b m y wi l lv v G) (i:Nat) (u:Value):GRow lvK (w.setCell ⟨b,i,none⟩ u) 0 v lv :=
 h.row.stay (fun g hg=>Below.heap_setCell _ _ _ _ (h.ne g hg))
theorem NRaw.may (h:NRaw w b m y wi l lv v G)(y':Int):NRaw (w.setCell ⟨b,1,none⟩ (.int .i64 y')) b m y' wi l lv v G:=⟨StP.put1 h.stk _,h.rowput 1 _,h.off⟩
theorem NRaw.in (h:NRaw w b m y wi l lv v G)(wi':Int):NRaw (w.setCell ⟨b,2,none⟩ (.int .i64 wi')) b m y wi' l lv v G:=⟨StP.put2 h.stk _,h.rowput 2 _,h.off⟩
theorem NRaw.inside (h:NRaw w b m y wi l lv v G):b<w.heap.size:=StP.in h.stk (StP.self h.stk)
theorem NR.mono (h:NR w b F m y wi l lv) {H:Nat→Prop} (hs:∀ k,k<w.heap.size→F k→H k):NR w b H m y wi l lv:=by
 obtain ⟨v,G,h,h1,h2⟩:=h
 exact ⟨v,G,h,fun k hk=>hs k (StP.in h.stk hk) (h1 k hk),fun g hg=>hs g (h.row.low hg).2 (h2 g hg)⟩
theorem NR.cut (h:NR w b F m y wi l lv):NR w b (fun k=>F k∧k<w.heap.size) m y wi l lv:=h.mono (fun k hk hF=>⟨hF,hk⟩)
theorem NR.has (h:NR w b F m y wi l lv):F b∧b<w.heap.size:=by
 obtain ⟨v,G,h,h1,h2⟩:=h
 exact ⟨h1 b (StP.self h.stk),h.inside⟩
theorem NR.move {T:Nat→Prop} (h:NR w b F m y wi l lv) (ht:Touch T w w') (hd:∀ k,k<w.heap.size→F k→¬ T k):NR w' b F m y wi l lv:=by
 obtain ⟨v,G,h,h1,h2⟩:=h
 exact ⟨v,G,h.move ht (fun k hk=>hd k (StP.in h.stk hk) (h1 k hk)) (fun g hg=>hd g (h.row.low hg).2 (h2 g hg)),h1,h2⟩
theorem NR.below (h:NR w b F m y wi l lv) (hb:Below w.heap.size w w'):NR w' b F m y wi l lv :=
 h.move (Touch.of_new (F:=fun _=>False) hb) (fun _ _ _ h=>h)
theorem NR.drewN (h:NR w b F m y wi l lv)(q:Nat):NR (w.drewN q) b F m y wi l lv:=h.move (T:=fun _=>False) ((Touch.refl _ w).drewN q) (fun _ _ _ h=>h)
theorem NR.may (h:NR w b F m y wi l lv) (y':Int):NR (w.setCell ⟨b,1,none⟩ (.int .i64 y')) b F m y' wi l lv:=by
 obtain ⟨v,G,h,h1,h2⟩:=h
 exact ⟨v,G,h.may y',h1,h2⟩
theorem NR.in (h:NR w b F m y wi l lv) (wi':Int):NR (w.setCell ⟨b,2,none⟩ (.int .i64 wi')) b F m y wi' l lv:=by
 obtain ⟨v,G,h,h1,h2⟩:=h
 exact ⟨v,G,h.in wi',h1,h2⟩
theorem NR.c0 (h:NR w b F m y wi l lv):w.cell? ⟨b,0,none⟩=some (.int .i64 m):=by
 obtain ⟨v,G,h,_⟩:=h
 exact (StP.cells h.stk).1
theorem NR.c1 (h:NR w b F m y wi l lv):w.cell? ⟨b,1,none⟩=some (.int .i64 y):=by
 obtain ⟨v,G,h,_⟩:=h
 exact (StP.cells h.stk).2.1
theorem NR.c2 (h:NR w b F m y wi l lv):w.cell? ⟨b,2,none⟩=some (.int .i64 wi):=by
 obtain ⟨v,G,h,_⟩:=h
 exact (StP.cells h.stk).2.2.1
theorem NR.free (h:NR w b F m y wi l lv) (i:Nat):w.frozen? ⟨b,i,none⟩=false:=by
 obtain ⟨v,G,h,_⟩:=h
 exact StP.free h.stk i
end
theorem done_any (b:Nat) (y:Int) (w:World) (c1:w.cell? ⟨b,1,none⟩=some (.int .i64 y)) :
   Calls Tryz.prog 19 #[.pointer (some ⟨b,0,none⟩)] w fun e w'=>e=.returned (.bool (y==7))∧w=w':=by
 go_enter Tryz.func19,Tryz.ntmps19
 go_wp2
 go_ret
 exact ⟨rfl,rfl⟩
theorem nameMay_any (b:Nat) (y:Int) (w:World) (c1:w.cell? ⟨b,1,none⟩=some (.int .i64 y)) :
   Calls Tryz.prog 75 #[.pointer (some ⟨b,0,none⟩)] w fun e w'=>e=.returned (.bool (y==3||y==4))∧w=w':=by
 cases h3:(y==3)<;>cases h4:(y==4)
 all_goals
   go_enter Tryz.func75,Tryz.ntmps75
   go_wp2
   go_ret
   exact ⟨rfl,rfl⟩
theorem valueMay_any (b:Nat) (y:Int) (w:World) (c1:w.cell? ⟨b,1,none⟩=some (.int .i64 y)) :
   Calls Tryz.prog 80 #[.pointer (some ⟨b,0,none⟩)] w fun e w'=>e=.returned (.bool (y==0||y==1||y==2))∧w=w':=by
 cases h0:(y==0)<;>cases h1:(y==1)<;>cases h2:(y==2)
 all_goals
   go_enter Tryz.func80,Tryz.ntmps80
   go_wp2
   go_ret
   exact ⟨rfl,rfl⟩
theorem endMay_any (b:Nat) (y:Int) (w:World) (c1:w.cell? ⟨b,1,none⟩=some (.int .i64 y)) :
   Calls Tryz.prog 85 #[.pointer (some ⟨b,0,none⟩)] w fun e w'=>e=.returned (.bool (y==2||y==4||y==6))∧w=w':=by
 cases h0:(y==2)<;>cases h1:(y==4)<;>cases h2:(y==6)
 all_goals
   go_enter Tryz.func85,Tryz.ntmps85
   go_wp2
   go_ret
   exact ⟨rfl,rfl⟩
theorem refuse_any (b:Nat) (y:Int) (w:World) (c1:w.cell? ⟨b,1,none⟩=some (.int .i64 y)) :
   Calls Tryz.prog 58 #[.pointer (some ⟨b,0,none⟩)] w fun e w'=>e=.returned (.tuple #[.slice none 0 0,.int .i64 (if y==7 then 9 else 8)])∧w=w':=by
 have HD:=hid (done_any b y w c1)
 cases h0:(y==7)
 all_goals
   rw[h0] at HD
   go_enter Tryz.func58,Tryz.ntmps58
   go_wp2_with (go_at_call 19;refine HD.out.mono ?_;rintro e w' ⟨rfl,rfl⟩)
   go_ret2
   exact ⟨rfl,rfl⟩
theorem kindOf_any (o:Bool) (w:World):Calls Tryz.prog 82 #[.bool o] w fun e w'=>e=.returned (.int .i64 (if o then 5 else 4))∧w=w':=by
 cases o
 all_goals
   go_enter Tryz.func82,Tryz.ntmps82
   go_wp2
   go_ret
   exact ⟨rfl,rfl⟩
theorem begunKind_any (k:Int) (w:World):Calls Tryz.prog 79 #[.int .i64 k] w fun e w'=>e=.returned (.tuple #[.int .i64 (if k==8 then 3 else if k==9 then 2 else 0),.bool (k==8||k==9||k==10)])∧w=w':=by
 cases h8:(k==8)<;>cases h9:(k==9)<;>cases h10:(k==10)
 all_goals
   go_enter Tryz.func79,Tryz.ntmps79
   go_wp2
   go_ret2
   exact ⟨rfl,rfl⟩
end
section
open Go.RowKit
def stL (l:List Bool) (lv:List Lvl):Stp:=match l.getLast?,lv.getLast? with
 | some true,some x=>⟨true,x.name,0⟩
 | some false,some x=>⟨false,[],x.many⟩
 | _,_=>⟨false,[],0⟩
def stpCells (s:Stp):List Value:=[.bool s.named,.string ⟨s.name.toArray⟩,.int .i64 s.index]
theorem bel1 (w:World)(o:Obj):Below w.heap.size w (w.alloc o):=(Below.refl _ _).alloc (Nat.le_refl _) o
theorem bel_drew {B:Nat}{w w':World}(h:Below B w w')(q:Nat):Below B w (w'.drewN q):=⟨h.os,h.tape,h.output,h.size,h.block⟩
section
variable {w w':World} {b:Nat} {F G:Nat→Prop} {m y wi:Int} {l:List Bool} {lv:List Lvl} {v:Value}
theorem NRaw.last (h:NRaw w b m y wi l lv v G) {k:Nat} {x:Lvl} (hk:lv.length=k+1) (hx:lv[k]?=some x) :
   ∃ g c:Nat,v=.slice (some ⟨g,0,none⟩) (k+1) c∧k+1≤c∧g<w.heap.size∧g≠b∧¬ G g∧w.cell? ⟨g,k*3,none⟩=some (.int .i64 x.fr)∧w.cell? ⟨g,k*3+1,none⟩=some (.int .i64 x.many)∧w.cell? ⟨g,k*3+2,none⟩=some (.string ⟨x.name.toArray⟩) ∧ ∀ i,w.frozen? ⟨g,i,none⟩=false:=by
 obtain ⟨A,c,hv,hc,_,hg⟩:=h.row.form
 obtain ⟨g,rfl,_,hlt⟩:=hg (by omega)
 have hr:=h.row
 rw[hv] at hr
 rw[hk] at hv hc
 have ho:v.ownBlock=some g:=by rw[hv];rfl
 have h0:=(hr.rd).at rfl hx (j:=0) rfl
 have h1:=(hr.rd).at rfl hx (j:=1) rfl
 have h2:=(hr.rd).at rfl hx (j:=2) rfl
 simp[show lvK.n=3 from rfl] at h0 h1 h2
 exact ⟨g,c,hv,hc,hlt,h.ne g ho,h.off g ho,h0,h1,h2,fun i=>hr.free i⟩
theorem depth_any (h:NR w b F m y wi l lv):Calls Tryz.prog 81 #[.pointer (some ⟨b,0,none⟩)] w fun e w'=>e=.returned (.int .i64 l.length)∧w=w':=by
 obtain ⟨v,G,h,_⟩:=h
 have HL:=hid (KB.len_any b G l w h.stk)
 clear h
 go_enter Tryz.func81,Tryz.ntmps81
 go_wp2_with (go_at_call 103;refine HL.out.mono ?_;rintro e w' ⟨rfl,rfl⟩)
 go_ret
 exact ⟨rfl,rfl⟩
theorem top_lv {g k c:Nat} (h:NRaw w b m y wi l lv (.slice (some ⟨g,0,none⟩) (k+1) c) G) (hk:lv.length=k+1) (h5:k≤5000) :
   Calls Tryz.prog 76 #[.pointer (some ⟨b,0,none⟩)] w fun e w'=>e=.returned (.pointer (some ⟨g,k*3,none⟩)) ∧ ∃ q,w'=w.drewN q:=by
 have c5:=(StP.cells h.stk).2.2.2
 clear h
 obtain ⟨n,hn⟩:∃ n,n=k+1:=⟨_,rfl⟩
 rw[← hn] at c5
 have e1:(n:Int)-1=k:=by omega
 have e2:(0:Int)≤k:=by omega
 have e3:(k:Int)<n:=by omega
 have e4:(n:Int)≤5001:=by omega
 have HN:=hid hn
 clear hn hk
 go_enter Tryz.func76,Tryz.ntmps76
 go_wp2
 go_quiet (fail)
 go_wp2
 go_ret
 exact ⟨by simp,_,rfl⟩
theorem step_size:(Tryz.prog.info? 59).map (·.size)=some 3:=by kernel_rfl
theorem step_none (h:NR w b F m y wi [] lv) :
   Calls Tryz.prog 102 #[.pointer (some ⟨b,0,none⟩)] w fun e w'=>e=.returned (.agg (stpCells ⟨false,[],0⟩).toArray)∧Below w.heap.size w w':=by
 have HD:=hid (fun w' (hb:Below w.heap.size w w')=>depth_any (h.below hb))
 clear h
 go_enter Tryz.func102,Tryz.ntmps102
 go_wp2_with (go_at_call 81;refine (HD.out _ (bel1 w _)).mono ?_;rintro e w' ⟨rfl,rfl⟩)
 refine bodyPost_ret (results_cell_row rfl _ _ w.heap.size _ _ (0,0) _ rfl (Own.fresh w _ _) Tryz.underlying59 rfl step_size) rfl ?_
 exact ⟨rfl,bel1 w _⟩
theorem step_some (o:Bool) (h:NR w b F m y wi l lv) (k:Nat) (x:Lvl) (h5:k≤4999) (hl:l.length=k+1) (ho:l.getLast?=some o) (hk:lv.length=k+1) (hx:lv[k]?=some x) :
   Calls Tryz.prog 102 #[.pointer (some ⟨b,0,none⟩)] w fun e w'=>e=.returned (.agg (stpCells (if o then ⟨true,x.name,0⟩ else ⟨false,[],x.many⟩)).toArray)∧Below w.heap.size w w':=by
 have HD:=hid (fun w' (hb:Below w.heap.size w w')=>depth_any (h.below hb))
 obtain ⟨v,G,h,_⟩:=h
 have HM:=hid (fun w' (hb:Below w.heap.size w w')=>h.move (Touch.of_new (F:=fun _=>False) hb) (fun _ _ h=>h) (fun _ _ h=>h))
 have HT:=hid (fun w' (hb:Below w.heap.size w w')=>KB.top_any b G l w' (HM.out w' hb).stk (show l.length≤5000 by omega))
 obtain ⟨g,c,rfl,hc,hg,hgb,hG,_⟩:=h.last hk hx
 have HP:=hid (fun w' (hb:Below w.heap.size w w')=>top_lv (HM.out w' hb) hk (show k≤5000 by omega))
 have HL:=hid (fun w' (hb:Below w.heap.size w w')=>(HM.out w' hb).last hk hx)
 have hz:((l.length:Int)==0)=false:=by rw[beq_eq_false_iff_ne];omega
 simp only [ho,Option.getD_some,decide_eq_true (show 0<l.length by omega)] at HT
 have hgb':g≠w.heap.size:=by omega
 clear h hl ho hk hx
 cases o
 all_goals
   go_enter Tryz.func102,Tryz.ntmps102
   go_wp2_with (first
     | (go_at_call 81;refine (HD.out _ (bel1 w _)).mono ?_;rintro e w' ⟨rfl,rfl⟩)
     | (go_at_call 84;refine (HT.out _ (bel1 w _)).mono ?_;rintro e w' ⟨rfl,q1,rfl⟩)
     | (go_at_call 76;refine (HP.out _ (bel_drew (bel1 w _) _)).mono ?_;rintro e w' ⟨rfl,q2,rfl⟩
        have hB:=bel_drew (bel_drew (bel1 w (.cells #[.bool false,.string ⟨#[]⟩,.int .i64 0] 59)) q1) q2
        have hO:Own (((w.alloc (.cells #[.bool false,.string ⟨#[]⟩,.int .i64 0] 59)).drewN q1).drewN q2) w.heap.size 59 _:=Own.fresh w 59 #[.bool false,.string ⟨#[]⟩,.int .i64 0]
        generalize ((w.alloc (.cells #[.bool false,.string ⟨#[]⟩,.int .i64 0] 59)).drewN q1).drewN q2=w2 at *
        obtain ⟨g2,c2,e2,_,_,_,_,d0,d1,d2,_⟩:=HL.out _ hB
        injection e2 with e2 _ _
        injection e2 with e2
        injection e2 with e2
        subst e2
        have n0:=hO.at 0
        have n1:=hO.at 1
        have n2:=hO.at 2
        have f0:=hO.free 0
        have f1:=hO.free 1
        have f2:=hO.free 2
        simp at n0 n1 n2
        have HO:=hid hO
        have HB:=hid hB
        clear hO hB))
   refine bodyPost_ret (results_cell_row rfl _ _ w.heap.size _ _ (0,0) _ rfl (((HO.out.put 0 _).put 1 _).put 2 _) Tryz.underlying59 rfl step_size) rfl ?_
   exact ⟨rfl,((HB.out.setCell (p:=⟨w.heap.size,0,none⟩) (Nat.le_refl _) _).setCell (p:=⟨w.heap.size,1,none⟩) (Nat.le_refl _) _).setCell (p:=⟨w.heap.size,2,none⟩) (Nat.le_refl _) _⟩
def evAt (e:Evt)(s:Stp):Evt:={ e with step:=s }
theorem events_with (e:Evt) (s:Stp) (HS:∀ w',Below w.heap.size w w'→Calls Tryz.prog 102 #[.pointer (some ⟨b,0,none⟩)] w' fun e w2=>e=.returned (.agg (stpCells s).toArray)∧Below w'.heap.size w' w2) :
   Calls Tryz.prog 77 #[.pointer (some ⟨b,0,none⟩),.agg (evCells e).toArray] w fun e' w' => ∃ v,e'=.returned v∧GRow evK w' w.heap.size v [evAt e s]∧Below w.heap.size w w':=by
 obtain ⟨k,va,fr,to,⟨nm,na,ix⟩,tx⟩:=e
 obtain ⟨sn,sa,si⟩:=s
 have KS:=hid (show ∀ w',Below w.heap.size w w'→Calls Tryz.prog 102 #[.pointer (some ⟨b,0,none⟩)] w' fun e w2=>e=.returned (.agg #[.bool sn,.string ⟨sa.toArray⟩,.int .i64 si])∧Below w'.heap.size w' w2 from HS)
 clear HS
 show Calls _ _ #[.pointer (some ⟨b,0,none⟩),.agg #[.int .i64 k,.int .i64 va,.int .i64 fr,.int .i64 to,.bool nm,.string ⟨na.toArray⟩,.int .i64 ix,.string ⟨tx.toArray⟩]] _ _
 go_enter Tryz.func77,Tryz.ntmps77
 go_wp2_with (
    go_at_call 102;refine (KS.out _ (bel1 w _)).mono ?_;rintro e w1 ⟨rfl,hb1⟩
    go_must (
       have hO:=(Own.fresh w 61 #[.int .i64 k,.int .i64 va,.int .i64 fr,.int .i64 to,.bool nm,.string ⟨na.toArray⟩,.int .i64 ix,.string ⟨tx.toArray⟩]).stay hb1 (by simp)
       have hB:Below w.heap.size w w1:=(bel1 w _).trans (hb1.mono (by simp))
       clear hb1
       have n0:=hO.at 0
       have n1:=hO.at 1
       have n2:=hO.at 2
       have n3:=hO.at 3
       have n4:=hO.at 4
       have n5:=hO.at 5
       have n6:=hO.at 6
       have n7:=hO.at 7
       have f0:=hO.free 0
       have f1:=hO.free 1
       have f2:=hO.free 2
       have f3:=hO.free 3
       have f4:=hO.free 4
       have f5:=hO.free 5
       have f6:=hO.free 6
       have f7:=hO.free 7
       simp at n0 n1 n2 n3 n4 n5 n6 n7
       have HO:=hid hO
       have HB:=hid hB
       clear hO hB))
 generalize hw3:((w1.setCell ⟨w.heap.size,4,none⟩ (.bool sn)).setCell ⟨w.heap.size,5,none⟩ (.string ⟨sa.toArray⟩)).setCell ⟨w.heap.size,6,none⟩ (.int .i64 si)=w3
 have hz:w3.heap.size=w1.heap.size:=by rw[← hw3];simp[World.setCell]
 have HB3:Below w.heap.size w w3:=by
   rw[← hw3]
   exact ((HB.out.setCell (p:=⟨w.heap.size,4,none⟩) (Nat.le_refl _) _).setCell (p:=⟨w.heap.size,5,none⟩) (Nat.le_refl _) _).setCell (p:=⟨w.heap.size,6,none⟩) (Nat.le_refl _) _
 have hm:=GRow.made (K:=evK) (base:=w.heap.size) (l:=[⟨k,va,fr,to,⟨sn,sa,si⟩,tx⟩]) w3 #[.int .i64 k,.int .i64 va,.int .i64 fr,.int .i64 to,.bool sn,.string ⟨sa.toArray⟩,.int .i64 si,.string ⟨tx.toArray⟩] rfl (by simp[maxLen]) HB3.size
 rw[hz] at hm
 go_ret
 exact ⟨_,rfl,hm,HB3.alloc HB3.size _⟩
end
end
section
open Go.RowKit
section
variable {w w':World} {b:Nat} {F G:Nat→Prop} {m y wi:Int} {l:List Bool} {lv:List Lvl} {v:Value}
theorem NRaw.lvput {g n c k:Nat} {x:Lvl} (h:NRaw w b m y wi l lv (.slice (some ⟨g,0,none⟩) n c) G) (hx:lv[k]?=some x) (z:Lvl) :
   NRaw (((w.setCell ⟨g,k*3,none⟩ (.int .i64 z.fr)).setCell ⟨g,k*3+1,none⟩ (.int .i64 z.many)).setCell ⟨g,k*3+2,none⟩ (.string ⟨z.name.toArray⟩)) b m y wi l (lv.set k z) (.slice (some ⟨g,0,none⟩) n c) G:=by
 have hg:=h.off g rfl
 have ht:Touch (fun j=>j=g) w (((w.setCell ⟨g,k*3,none⟩ (.int .i64 z.fr)).setCell ⟨g,k*3+1,none⟩ (.int .i64 z.many)).setCell ⟨g,k*3+2,none⟩ (.string ⟨z.name.toArray⟩)) :=
   (((Touch.refl (fun j=>j=g) w).setCell (p:=⟨g,k*3,none⟩) (.inl rfl) _).setCell (p:=⟨g,k*3+1,none⟩) (.inl rfl) _).setCell (p:=⟨g,k*3+2,none⟩) (.inl rfl) _
 exact ⟨StP.move h.stk ht (fun j hj e=>hg (e▸hj)),lv_put3 h.row hx z,h.off⟩
structure Aft (F:Nat→Prop) (W w':World) (b:Nat) (m y wi:Int) (l:List Bool) (lv:List Lvl):Prop where
 t:Touch F W w'
 st:NR w' b (fun k=>F k∨W.heap.size≤k) m y wi l lv
theorem Aft.join {w0 w1 w2 : World} {m' y' wi':Int} {l':List Bool} {lv':List Lvl} (h:Touch F w0 w1) (g:Aft (fun k=>F k∨w0.heap.size≤k) w1 w2 b m y wi l lv):Aft F w0 w2 b m y wi l lv :=
 ⟨h.trans g.t (fun k hk e => by rcases e with e|e;· exact e
                                ·omega),
  g.st.mono (fun k _ e=>by
   rcases e with e|e
   ·exact e
   ·exact .inr (Nat.le_trans h.size e))⟩
theorem endValue_none (h:NR w b F m y wi [] lv) :
   Calls Tryz.prog 78 #[.pointer (some ⟨b,0,none⟩)] w fun e w'=>e=.returned (.tuple #[])∧w'=w.setCell ⟨b,1,none⟩ (.int .i64 7):=by
 have HD:=hid (depth_any h)
 have c1:=h.c1
 have f1:=h.free 1
 clear h
 go_enter Tryz.func78,Tryz.ntmps78
 go_wp2_with (go_at_call 81;refine HD.out.mono ?_;rintro e w' ⟨rfl,rfl⟩)
 refine bodyPost_ret (results_none rfl _ _ _) rfl ?_
 exact ⟨rfl,rfl⟩
theorem endValue_some (h:NR w b F m y wi l lv) (k:Nat) (x:Lvl) (h5:k≤4999) (hl:l.length=k+1) (hk:lv.length=k+1) (hx:lv[k]?=some x) (hm:x.many≤2000000000) :
   Calls Tryz.prog 78 #[.pointer (some ⟨b,0,none⟩)] w fun e w'=>e=.returned (.tuple #[])∧Aft F w w' b m 6 wi l (lv.set k ⟨x.fr,x.many+1,[]⟩):=by
 have HD:=hid (depth_any h)
 obtain ⟨v,G,h,hF1,hF2⟩:=h
 obtain ⟨g,c,rfl,hc,hg,hgb,hG,d0,d1,d2,d9⟩:=h.last hk hx
 have HP:=hid (top_lv h hk (show k≤5000 by omega))
 have c1:=(StP.cells h.stk).2.1
 have f1:=StP.free h.stk 1
 have e0:=d9 (k*3)
 have e1:=d9 (k*3+1)
 have e2:=d9 (k*3+2)
 have hz:((l.length:Int)==0)=false:=by rw[beq_eq_false_iff_ne];omega
 have hmI:(x.many:Int)≤2000000000:=by omega
 have hq:IntKind.i64.wrap ((x.many:Int)+1)=((x.many+1:Nat):Int):=by
   rw[IntKind.wrap_i64]
   omega
 have HH:=hid h
 have hF:=hF2 g rfl
 have hFb:=hF1 b (StP.self h.stk)
 have HX:=hid hx
 have hgb':b≠g:=Ne.symm hgb
 have HF1:=hid hF1
 have HF2:=hid hF2
 clear h d9 hl hk hx hF1 hF2
 go_enter Tryz.func78,Tryz.ntmps78
 go_wp2_with (first
   | (go_at_call 81;refine HD.out.mono ?_;rintro e w' ⟨rfl,rfl⟩)
   | (go_at_call 76;refine HP.out.mono ?_;rintro e w' ⟨rfl,q,rfl⟩))
 have HT:=hid (show Touch F w (w.drewN q) from (Touch.refl F w).drewN q)
 have HH2:=hid (HH.out.drewN q)
 have k0:(w.drewN q).cell? ⟨g,k*3,none⟩=some (.int .i64 x.fr):=d0
 have k1:(w.drewN q).cell? ⟨g,k*3+1,none⟩=some (.int .i64 x.many):=d1
 have k2:(w.drewN q).cell? ⟨g,k*3+2,none⟩=some (.string ⟨x.name.toArray⟩):=d2
 have j0:(w.drewN q).frozen? ⟨g,k*3,none⟩=false:=e0
 have j1:(w.drewN q).frozen? ⟨g,k*3+1,none⟩=false:=e1
 have j2:(w.drewN q).frozen? ⟨g,k*3+2,none⟩=false:=e2
 have i1:(w.drewN q).cell? ⟨b,1,none⟩=some (.int .i64 y):=c1
 have i2:(w.drewN q).frozen? ⟨b,1,none⟩=false:=f1
 clear d0 d1 d2 e0 e1 e2 c1 f1 HH HP HD
 generalize w.drewN q=w2 at *
 go_still_tail 12,(by kernel_rfl)
 change wpList _ _ _ _ _ w2.drew
 have HT2:=hid (show Touch F w w2.drew from HT.out.drewN 1)
 have HH3:=hid (show NRaw w2.drew b m y wi l lv _ G from HH2.out.drewN 1)
 have d0:w2.drew.cell? ⟨g,k*3,none⟩=some (.int .i64 x.fr):=k0
 have d1:w2.drew.cell? ⟨g,k*3+1,none⟩=some (.int .i64 x.many):=k1
 have d2:w2.drew.cell? ⟨g,k*3+2,none⟩=some (.string ⟨x.name.toArray⟩):=k2
 have e0:w2.drew.frozen? ⟨g,k*3,none⟩=false:=j0
 have e1:w2.drew.frozen? ⟨g,k*3+1,none⟩=false:=j1
 have e2:w2.drew.frozen? ⟨g,k*3+2,none⟩=false:=j2
 have c1:w2.drew.cell? ⟨b,1,none⟩=some (.int .i64 y):=i1
 have f1:w2.drew.frozen? ⟨b,1,none⟩=false:=i2
 clear k0 k1 k2 j0 j1 j2 i1 i2 HT HH2
 generalize w2.drew=w3 at *
 clear hq
 go_wp2
 go_end0
 have h4:=HH3.out.lvput HX.out ⟨x.fr,x.many+1,[]⟩
 have h5:=h4.may 6
 have hT:=(((HT2.out.setCell (p:=⟨g,k*3,none⟩) (.inl hF) (.int .i64 x.fr)).setCell (p:=⟨g,k*3+1,none⟩) (.inl hF) (.int .i64 ((x.many+1:Nat):Int))).setCell (p:=⟨g,k*3+2,none⟩) (.inl hF) (.string ⟨([]:List UInt8).toArray⟩)).setCell (p:=⟨b,1,none⟩) (.inl hFb) (.int .i64 6)
 exact ⟨rfl,hT,⟨_,G,h5,fun j hj=>.inl (HF1.out j hj),fun j hj=>.inl (HF2.out j hj)⟩⟩
theorem NRaw.bits {w1:World} {l1:List Bool} {G1:Nat→Prop} (h:NRaw w b m y wi l lv v G) (hs:KB.StP ⟨.int .i64 m,.int .i64 y,.int .i64 wi,v⟩ w1 b G1 l1) (ht:Touch G w w1) (hd:∀ k,k<w.heap.size→G1 k→G k):NRaw w1 b m y wi l1 lv v G1 :=
 ⟨hs,h.row.stay (fun g hg=>ht.block g (h.row.low hg).2 (h.off g hg)),fun g hg hG=>h.off g hg (hd g (h.row.low hg).2 hG)⟩
theorem NRaw.cut5 {g n c k:Nat} (h:NRaw w b m y wi l lv (.slice (some ⟨g,0,none⟩) n c) G) (hk:k≤lv.length) :
   NRaw (w.setCell ⟨b,5,none⟩ (.slice (some ⟨g,0,none⟩) k c)) b m y wi l (lv.take k) (.slice (some ⟨g,0,none⟩) k c) G :=
 ⟨StP.put5 h.stk _,(h.row.cut hk).stay (fun j hj=>Below.heap_setCell _ _ _ _ (h.ne j hj)),fun j hj=>h.off j hj⟩
theorem leave_nest (h:NR w b F m y wi l lv) (k:Nat) (x:Lvl) (h5:k≤4999) (hl:l.length=k+1) (hk:lv.length=k+1) (hx:lv[k]?=some x) :
   Calls Tryz.prog 86 #[.pointer (some ⟨b,0,none⟩)] w fun e w'=>e=.returned (.int .i64 x.fr)∧Aft F w w' b m y wi l.dropLast (lv.take k):=by
 obtain ⟨v,G,h,hF1,hF2⟩:=h
 have HPop:=hid (KB.pop_any b G l w h.stk (by omega))
 obtain ⟨g,c,rfl,hc,hg,hgb,hG,_⟩:=h.last hk hx
 have HH:=hid h
 have HF1:=hid hF1
 have HF2:=hid hF2
 have HK:=hid hk
 have HX:=hid hx
 have hgb':b≠g:=Ne.symm hgb
 obtain ⟨n,hn⟩:∃ n,n=k+1:=⟨_,rfl⟩
 have HN:=hid hn
 have s1:(n:Int)-1=k:=by omega
 have s2:(0:Int)≤k:=by omega
 have s3:(k:Int)≤n:=by omega
 have s4:(n:Int)≤5000:=by omega
 have s5:(n:Int)≤c:=by omega
 have s6:(k:Int)≤c:=by omega
 clear h hF1 hF2 hl hk hx hn
 go_enter Tryz.func86,Tryz.ntmps86
 go_wp2_with (first
   | (go_at_call 106;refine HPop.out.mono ?_;rintro e w1 ⟨rfl,G1,hs1,ht1,hd1⟩
      have H1:=hid (HH.out.bits hs1 ht1 hd1)
      have HT1:=hid (ht1.mono (fun j _ hj=>HF1.out j hj))
      have HD1:=hid (show ∀ j,G1 j→F j∨w.heap.size≤j from fun j hj=>by
       by_cases hjw:j<w.heap.size
       ·exact .inl (HF1.out j (hd1 j hjw hj))
       ·exact .inr (by omega))
      clear hs1 ht1 hd1)
   | (go_at_call 76;refine (top_lv H1.out HK.out (by omega)).mono ?_;rintro e w2 ⟨rfl,q,rfl⟩
      have H2:=hid (H1.out.drewN q)
      have HT2:=hid (HT1.out.drewN q)
      generalize w1.drewN q=w2 at *
      obtain ⟨g2,c2,e2,_,_,_,_,d0,d1,d2,d9⟩:=H2.out.last HK.out HX.out
      injection e2 with e2 _ ec
      injection e2 with e2
      injection e2 with e2 _ _
      subst e2 ec
      have e0:=d9 (k*3)
      have e1:=d9 (k*3+1)
      have e2:=d9 (k*3+2)
      clear d9))
 have H3:NRaw (((w2.setCell ⟨g,k*3,none⟩ (.int .i64 0)).setCell ⟨g,k*3+1,none⟩ (.int .i64 0)).setCell ⟨g,k*3+2,none⟩ (.string ⟨#[]⟩)) b m y wi l.dropLast (lv.set k ⟨0,0,[]⟩) (.slice (some ⟨g,0,none⟩) (k+1) c) G1:=H2.out.lvput HX.out ⟨0,0,[]⟩
 have hFg:=HF2.out g rfl
 have HT3:Touch F w (((w2.setCell ⟨g,k*3,none⟩ (.int .i64 0)).setCell ⟨g,k*3+1,none⟩ (.int .i64 0)).setCell ⟨g,k*3+2,none⟩ (.string ⟨#[]⟩)) :=
   ((HT2.out.setCell (p:=⟨g,k*3,none⟩) (.inl hFg) _).setCell (p:=⟨g,k*3+1,none⟩) (.inl hFg) _).setCell (p:=⟨g,k*3+2,none⟩) (.inl hFg) _
 have HE:=hid (show (lv.set k ⟨0,0,[]⟩).take k=lv.take k from List.take_set_of_le (Nat.le_refl k))
 have HLE:=hid (show k≤(lv.set k ⟨0,0,[]⟩).length by rw[List.length_set,HK.out];omega)
 clear d0 d1 d2 e0 e1 e2 H2 HT2 H1 HT1
 generalize lv.set k ⟨0,0,[]⟩=lv1 at *
 generalize ((w2.setCell ⟨g,k*3,none⟩ (.int .i64 0)).setCell ⟨g,k*3+1,none⟩ (.int .i64 0)).setCell ⟨g,k*3+2,none⟩ (.string ⟨#[]⟩)=w3 at *
 rw[← HN.out] at H3
 have k5:=(StP.cells H3.stk).2.2.2
 have j5:=StP.free H3.stk 5
 have HR3:=hid H3
 have HU3:=hid HT3
 clear H3 HT3
 have hq:IntKind.i64.wrap (k:Int)=k:=by
   rw[IntKind.wrap_i64]
   omega
 go_still_tail 14,(by kernel_rfl)
 change wpList _ _ _ _ _ w3.drew
 have i5:w3.drew.cell? ⟨b,5,none⟩=some (.slice (some ⟨g,0,none⟩) n c):=k5
 have z5:w3.drew.frozen? ⟨b,5,none⟩=false:=j5
 have HR4:=hid (show NRaw w3.drew b m y wi l.dropLast lv1 (.slice (some ⟨g,0,none⟩) n c) G1 from HR3.out.drewN 1)
 have HU4:=hid (show Touch F w w3.drew from HU3.out.drewN 1)
 clear k5 j5 HR3 HU3
 generalize w3.drew=w4 at *
 go_wp2
 go_ret
 have hc:=HR4.out.cut5 HLE.out
 rw[HE.out] at hc
 refine ⟨rfl,HU4.out.setCell (p:=⟨b,5,none⟩) (.inl (HF1.out b (StP.self HH.out.stk))) _,⟨_,G1,hc,HD1.out,fun j hj=>.inl (HF2.out j hj)⟩⟩
end
end
end Go.Proofs.YtbpilcklglhloaaGreatDoor
