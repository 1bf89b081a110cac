/- Lemmas. -/
import Derived.Test.YtmgdjlkndbejkaaDoorJ34
import Derived.ProofKit
import Derived.ShutString
import Derived.ChangeOld
import Derived.Deep.Slices
import Derived.Test.YtmgdjlkndbejkaaDoorJ31
set_option maxRecDepth 100000
set_option maxHeartbeats 8000000
set_option linter.unusedVariables false
set_option linter.unusedSimpArgs false
namespace Go.Proofs.YtmgdjlkndbejkaaDoor
open Go.Lib (hid)
section
open Go.ChangeShapes Go.WideShapes Go.ChangeAt Go.RowKit Go.Deep
theorem qf_list8 {α:Type} {l:List α} (h:l.length=8):∃ c0 c1 c2 c3 c4 c5 c6 c7,l=[c0,c1,c2,c3,c4,c5,c6,c7]:=by
 match l,h with
 | [c0,c1,c2,c3,c4,c5,c6,c7],_=>exact ⟨c0,c1,c2,c3,c4,c5,c6,c7,rfl⟩
theorem qf_list2 {α:Type} {l:List α} (h:l.length=2):∃ c0 c1,l=[c0,c1]:=by
 match l,h with
 | [c0,c1],_=>exact ⟨c0,c1,rfl⟩
theorem qf_sel_cells:Tryd.prog.cellsOf 30=8:=by kernel_rfl
theorem qf_seg_cells:Tryd.prog.cellsOf 28=2:=by kernel_rfl
theorem qf_sels_cells:Tryd.prog.cellsOf 26=1:=by kernel_rfl
theorem qf_int_cells:Tryd.prog.cellsOf 3=1:=by kernel_rfl
theorem qf_str_cells:Tryd.prog.cellsOf 9=1:=by kernel_rfl
theorem qf_bool_cells:Tryd.prog.cellsOf 4=1:=by kernel_rfl
theorem bulkAll_append {H:Type}:∀ (l r:List (DataW H)),Rows.uptoBulkAll (l++r)=Rows.uptoBulkAll l+Rows.uptoBulkAll r
 | [],r=>by rw[List.nil_append,Rows.uptoBulkAll];omega
 | x :: l,r=>by rw[List.cons_append,Rows.uptoBulkAll,Rows.uptoBulkAll,bulkAll_append l r];omega
theorem bulkAll_range {H:Type} {α:Type} (g:α→Nat) (D:Nat→DataW H) (f:Nat→α):∀ (n:Nat),(∀ i,i<n→g (f i)≤Rows.uptoBulk (D i))→(((List.range n).map f).map g).sum≤Rows.uptoBulkAll ((List.range n).map D)
 | 0,_=>Nat.zero_le _
 | n+1,h=>by
   have ih:=bulkAll_range g D f n (fun i hi=>h i (by omega))
   have hn:=h n (by omega)
   rw[List.range_succ,List.map_append,List.map_append,List.sum_append,List.map_append,bulkAll_append]
   simp only [List.map_cons,List.map_nil,List.sum_cons,List.sum_nil,Nat.add_zero,Rows.uptoBulkAll]
   omega
theorem addq_succ (ad:Addr)(m:Nat):ad.add (m+1)=⟨ad.block,ad.off+(m+1),none⟩:=by unfold Addr.add;simp
theorem addq_zero (ad:Addr):ad.add 0=ad:=by unfold Addr.add;simp
theorem open_sel15 {H:Type} {enc:TypeId×Value→H} {W:World} {base:Nat} {sp:Nat→Bool} {held:Bool} {n:Nat} {cs:List Value} {x:DataW H×List MemPlace} (hlen:cs.length=8) (hf:DataW.trod enc Tryd.prog W base sp held n 30 cs=some x) :
   ∃ s:Sel,cs=[.int .i64 s.kind,.string s.name,.int .i64 s.index,.int .i64 s.start,.int .i64 s.en,.bool s.hs,.bool s.he,.int .i64 s.stride]∧s.name.size+1≤Rows.uptoBulk x.1:=by
 obtain ⟨c0,c1,c2,c3,c4,c5,c6,c7,rfl⟩:=qf_list8 hlen
 obtain ⟨xs,m,_,hxx,_,hl,hf⟩:=DataW.trod_struct Tryd.underlying30 hf
 obtain ⟨y0,y1,y2,y3,y4,y5,y6,y7,rfl⟩:=qf_list8 hl
 have f0:=hf 0 _ rfl
 have f1:=hf 1 _ rfl
 have f2:=hf 2 _ rfl
 have f3:=hf 3 _ rfl
 have f4:=hf 4 _ rfl
 have f5:=hf 5 _ rfl
 have f6:=hf 6 _ rfl
 have f7:=hf 7 _ rfl
 simp[Value.cells,qf_int_cells,qf_str_cells,qf_bool_cells] at f0 f1 f2 f3 f4 f5 f6 f7
 obtain ⟨a0,e0,_⟩:=DataW.trod_int Tryd.underlying3 f0
 obtain ⟨a1,e1,z1,hz⟩:=DataW.trod_string Tryd.underlying9 f1
 obtain ⟨a2,e2,_⟩:=DataW.trod_int Tryd.underlying3 f2
 obtain ⟨a3,e3,_⟩:=DataW.trod_int Tryd.underlying3 f3
 obtain ⟨a4,e4,_⟩:=DataW.trod_int Tryd.underlying3 f4
 obtain ⟨a5,e5,_⟩:=DataW.trod_bool Tryd.underlying4 f5
 obtain ⟨a6,e6,_⟩:=DataW.trod_bool Tryd.underlying4 f6
 obtain ⟨a7,e7,_⟩:=DataW.trod_int Tryd.underlying3 f7
 simp at e0 e1 e2 e3 e4 e5 e6 e7
 subst e0 e1 e2 e3 e4 e5 e6 e7
 refine ⟨⟨a0,a1,a2,a3,a4,a5,a6,a7⟩,rfl,?_⟩
 rw[hxx]
 show a1.size+1≤Rows.uptoBulk (.agg [y0.1,y1.1,y2.1,y3.1,y4.1,y5.1,y6.1,y7.1])
 rw[z1]
 simp only [Rows.uptoBulk,Rows.uptoBulkAll]
 have:a1.data.toList.length=a1.size:=rfl
 omega
theorem open_sels15 {H:Type} {enc:TypeId×Value→H} {W:World} {base:Nat} {sp:Nat→Bool} {held:Bool} {A:Option Addr} {len cap n:Nat} {x:DataW H×List MemPlace}
   (hf:DataW.trod enc Tryd.prog W base sp held n 26 [.slice A len cap]=some x):∃ l,SRd W A len l∧l.length+wS l+1≤Rows.uptoBulk x.1:=by
 rcases open_slice Tryd.underlying26 hf with ⟨hcs,e⟩|⟨a,len',cap',m,n',D,Pl,hcs,hb,hl,hm,hmm,hx,hall⟩
 ·simp at hcs
  obtain ⟨rfl,rfl,rfl⟩:=hcs
  refine ⟨[],⟨rfl,fun h=>absurd h (by omega)⟩,?_⟩
  rw[e]
  simp[Rows.uptoBulk,wS]
 ·simp at hcs
  obtain ⟨rfl,rfl,rfl⟩:=hcs
  have hlm:len≤m:=by rw[hmm];split<;>omega
  have hst:∀ i,i<len → ∃ y:Sel,(W.cell? (a.add (i*8))=some (.int .i64 y.kind)∧W.cell? ⟨(a.add (i*8)).block,(a.add (i*8)).off+1,none⟩=some (.string y.name) ∧
      W.cell? ⟨(a.add (i*8)).block,(a.add (i*8)).off+2,none⟩=some (.int .i64 y.index)∧W.cell? ⟨(a.add (i*8)).block,(a.add (i*8)).off+3,none⟩=some (.int .i64 y.start)∧W.cell? ⟨(a.add (i*8)).block,(a.add (i*8)).off+4,none⟩=some (.int .i64 y.en) ∧
      W.cell? ⟨(a.add (i*8)).block,(a.add (i*8)).off+5,none⟩=some (.bool y.hs)∧W.cell? ⟨(a.add (i*8)).block,(a.add (i*8)).off+6,none⟩=some (.bool y.he)∧W.cell? ⟨(a.add (i*8)).block,(a.add (i*8)).off+7,none⟩=some (.int .i64 y.stride))∧y.name.size+1≤Rows.uptoBulk (D i):=by
    intro i hi
    obtain ⟨cs',hc,ht⟩:=hall i (by omega)
    rw[qf_sel_cells] at hc
    obtain ⟨_,hlen,hat⟩:=World.cells?_some hc
    obtain ⟨s,rfl,hz⟩:=open_sel15 hlen ht
    have h0:=hat 0 (by omega)
    have h1:=hat 1 (by omega)
    have h2:=hat 2 (by omega)
    have h3:=hat 3 (by omega)
    have h4:=hat 4 (by omega)
    have h5:=hat 5 (by omega)
    have h6:=hat 6 (by omega)
    have h7:=hat 7 (by omega)
    rw[addq_zero] at h0
    rw[addq_succ] at h1 h2 h3 h4 h5 h6 h7
    exact ⟨s,⟨h0,h1,h2,h3,h4,h5,h6,h7⟩,hz⟩
  obtain ⟨f,hfn⟩:=@choose_lt _ ⟨(⟨0,.empty,0,0,0,false,false,0⟩:Sel)⟩ _ _ hst
  refine ⟨(List.range len).map f,⟨by simp,fun h0=>⟨a,rfl,?_,fun i s hs => ?_⟩⟩,?_⟩
  ·have h1:=(hfn 0 h0).1.1
   rw[Nat.zero_mul,addq_zero] at h1
   exact cell_inside h1
  ·have hi:i<len:=by
     have:=(List.getElem?_eq_some_iff.1 hs).1
     simpa using this
   have e:s=f i:=by
     rw[List.getElem?_map,List.getElem?_range hi] at hs
     exact (Option.some.inj hs).symm
   rw[e]
   exact (hfn i hi).1
  ·have e:x.1=.slice ((List.range len).map D) ((List.range (m-len)).map fun j=>D (len+j)):=congrArg Prod.fst hx
   have hsum:=bulkAll_range (fun y:Sel=>y.name.size+1) D f len (fun i hi=>(hfn i hi).2)
   have hs2:∀ l:List Sel,(l.map fun y=>y.name.size+1).sum=l.length+wS l:=by
     intro l
     induction l with
     | nil=>rfl
     | cons y t ih=>rw[List.map_cons,List.sum_cons,ih,wS_cons,List.length_cons];omega
   rw[hs2] at hsum
   rw[e,Rows.uptoBulk]
   omega
theorem open_seg15 {H:Type} {enc:TypeId×Value→H} {W:World} {base:Nat} {sp:Nat→Bool} {held:Bool} {n:Nat} {cs:List Value} {x:DataW H×List MemPlace} (hlen:cs.length=2) (hf:DataW.trod enc Tryd.prog W base sp held n 28 cs=some x) :
   ∃ (y:Sgm) (B:Option Addr) (m c:Nat),cs=[.bool y.deep,.slice B m c]∧SRd W B m y.sels∧y.sels.length+1+wS y.sels≤Rows.uptoBulk x.1:=by
 obtain ⟨c0,c1,rfl⟩:=qf_list2 hlen
 obtain ⟨xs,m,_,hxx,_,hl,hf⟩:=DataW.trod_struct Tryd.underlying28 hf
 obtain ⟨y0,y1,rfl⟩:=qf_list2 hl
 have f0:=hf 0 _ rfl
 have f1:=hf 1 _ rfl
 simp[Value.cells,qf_sels_cells,qf_bool_cells] at f0 f1
 obtain ⟨a0,e0,_⟩:=DataW.trod_bool Tryd.underlying4 f0
 simp at e0
 subst e0
 obtain ⟨B,k,c,rfl⟩:∃ B k c,c1=.slice B k c:=by
   rcases open_slice Tryd.underlying26 f1 with ⟨hcs,_⟩|⟨a,len',cap',_,_,_,_,hcs,_⟩
   ·simp at hcs;exact ⟨_,_,_,hcs⟩
   ·simp at hcs;exact ⟨_,_,_,hcs⟩
 obtain ⟨l,hl1,hl2⟩:=open_sels15 f1
 refine ⟨⟨a0,l⟩,B,k,c,rfl,hl1,?_⟩
 rw[hxx]
 show l.length+1+wS l≤Rows.uptoBulk (.agg [y0.1,y1.1])
 simp only [Rows.uptoBulk,Rows.uptoBulkAll]
 omega
theorem open_query {H:Type} {enc:TypeId×Value→H} {W:World} {base:Nat} {sp:Nat→Bool} {held:Bool} {A:Option Addr} {len cap:Nat} {d:DataW H} {ps:List MemPlace}
   (hd:DataW.Trod enc Tryd.prog W base sp held 23 (.slice A len cap) d ps):∃ xs,QRd W A len xs∧wq xs≤Rows.uptoBulk d:=by
 obtain ⟨fuel,hf⟩:=hd
 rcases open_slice Tryd.underlying23 hf with ⟨hcs,_⟩|⟨a,len',cap',m,n,D,Pl,hcs,hb,hl,hm,hmm,hx,hall⟩
 ·simp[Value.cells] at hcs
  obtain ⟨rfl,rfl,rfl⟩:=hcs
  exact ⟨[],⟨rfl,fun h=>absurd h (by omega)⟩,Nat.zero_le _⟩
 ·simp [Value.cells] at hcs
  obtain ⟨rfl,rfl,rfl⟩:=hcs
  have hlm:len≤m:=by rw[hmm];split<;>omega
  have hst:∀ i,i<len → ∃ y:Sgm,(∃ B k c,W.cell? (a.add (i*2))=some (.bool y.deep)∧W.cell? ⟨(a.add (i*2)).block,(a.add (i*2)).off+1,none⟩=some (.slice B k c)∧SRd W B k y.sels)∧y.sels.length+1+wS y.sels≤Rows.uptoBulk (D i):=by
    intro i hi
    obtain ⟨cs',hc,ht⟩:=hall i (by omega)
    rw[qf_seg_cells] at hc
    obtain ⟨_,hlen,hat⟩:=World.cells?_some hc
    obtain ⟨y,B,k,c,rfl,hs,hz⟩:=open_seg15 hlen ht
    have h0:=hat 0 (by omega)
    have h1:=hat 1 (by omega)
    rw[addq_zero] at h0
    rw[addq_succ] at h1
    exact ⟨y,⟨B,k,c,h0,h1,hs⟩,hz⟩
  obtain ⟨f,hfn⟩:=@choose_lt _ ⟨(⟨false,[]⟩:Sgm)⟩ _ _ hst
  refine ⟨(List.range len).map f,⟨by simp,fun h0=>⟨a,rfl,?_,fun i s hs => ?_⟩⟩,?_⟩
  ·obtain ⟨B,k,c,h1,_⟩:=(hfn 0 h0).1
   rw[Nat.zero_mul,addq_zero] at h1
   exact cell_inside h1
  ·have hi:i<len:=by
     have:=(List.getElem?_eq_some_iff.1 hs).1
     simpa using this
   have e:s=f i:=by
     rw[List.getElem?_map,List.getElem?_range hi] at hs
     exact (Option.some.inj hs).symm
   rw[e]
   exact (hfn i hi).1
  ·have e:d=.slice ((List.range len).map D) ((List.range (m-len)).map fun j=>D (len+j)):=congrArg Prod.fst hx
   have hsum:=bulkAll_range (fun y:Sgm=>y.sels.length+1+wS y.sels) D f len (fun i hi=>(hfn i hi).2)
   rw[e,Rows.uptoBulk]
   unfold wq
   omega
end
section
open Go.RowKit
def ofSel (s:Pst):Sel:=if s.named then sqN s.name else sqI s.index
def ofSgm (s:Pst):Sgm:=⟨false,[ofSel s]⟩
def ofQ (l:List Pst):List Sgm:=if l.all rightB then l.map ofSgm else []
theorem ofSel_good {s:Pst} (h:rightB s=true):goodB (ofSel s)=true:=by
 unfold ofSel
 cases hn:s.named
 ·obtain ⟨_,h1,h2⟩:=right_index h hn
  rw[if_neg (by decide)]
  exact good_index ⟨by omega,by omega⟩
 ·rw[if_pos rfl]
  exact good_name (right_name h hn).2
theorem ofSel_text {s:Pst} (h:rightB s=true):selT (ofSel s)=if s.named then nameT s.name else digN s.index.toNat:=by
 have hg:=ofSel_good h
 unfold selT
 rw[hg,if_neg (by decide)]
 unfold ofSel
 cases hn:s.named
 ·obtain ⟨_,h1,h2⟩:=right_index h hn
  simp only [Bool.false_eq_true,if_false]
  show (if (2:Int)=0 then _ else if (2:Int)=1 then _ else if (2:Int)=2 then numT s.index else _)=_
  rw[if_neg (by decide),if_neg (by decide),if_pos rfl]
  unfold numT
  rw[if_neg (by omega)]
 ·simp only [if_true]
  show (if (0:Int)=0 then nameT (⟨s.name.toArray⟩:ByteArray).data.toList else _)=_
  rw[if_pos rfl]
theorem ofSgm_text {s:Pst} (h:rightB s=true):sgmT (ofSgm s)=stepT s:=by
 unfold sgmT ofSgm stepT
 show (if false=true then _ else _)++91 :: (selT (ofSel s)++[93])=_
 rw[ofSel_text h,if_neg (by decide)]
 rfl
theorem ofQ_flat:∀ l:List Pst,l.all rightB=true→(l.map ofSgm).flatMap sgmT=l.flatMap stepT
 | [],_=>rfl
 | s :: t,h=>by
   simp only [List.all_cons,Bool.and_eq_true] at h
   rw[List.map_cons,List.flatMap_cons,List.flatMap_cons,ofSgm_text h.1,ofQ_flat t h.2]
theorem ofQ_right:∀ l:List Pst,l.all rightB=true→rightQ (l.map ofSgm)=true
 | [],_=>rfl
 | s :: t,h=>by
   simp only [List.all_cons,Bool.and_eq_true] at h
   have ih:=ofQ_right t h.2
   unfold rightQ at ih ⊢
   rw[List.map_cons,List.all_cons,ih]
   show (!([ofSel s]:List Sel).isEmpty && [ofSel s].all goodB&&true)=true
   rw[List.all_cons,ofSel_good h.1]
   rfl
theorem ofQ_put {l:List Pst} (h:l.all rightB=true):putQ (ofQ l)=putP l:=by
 unfold putQ putP ofQ
 rw[if_pos h,if_pos h,ofQ_right l h,if_pos rfl,ofQ_flat l h]
theorem ofQ_none {l:List Pst} (h:¬ l.all rightB=true):ofQ l=[]∧putP l=[]:=by
 unfold putP ofQ
 exact ⟨if_neg h,if_neg h⟩
theorem putP_some {l:List Pst}(h:l.all rightB=true):putP l=36 :: l.flatMap stepT:=if_pos h
theorem ofQ_small (l:List Pst) (hw:wtP l≤1000):SmQ (ofQ l):=by
 unfold ofQ
 split
 ·refine ⟨by rw[List.length_map];exact Nat.le_trans (wt_length l) hw,fun x hx => ?_⟩
  obtain ⟨s,hs,rfl⟩:=List.mem_map.1 hx
  refine ⟨by show 1≤1000;decide,fun y hy => ?_⟩
  have hy:y=ofSel s:=by simpa [ofSgm] using hy
  obtain ⟨i,hi,hie⟩:=List.mem_iff_getElem.1 hs
  have hn:=wt_in (l:=l) (i:=i) (s:=s) (by rw[List.getElem?_eq_getElem hi,hie])
  rw[hy]
  unfold ofSel
  split
  ·show s.name.length≤1000;omega
  ·show (0:Nat)≤1000;decide
 ·exact ⟨Nat.zero_le _,fun x hx=>by cases hx⟩
theorem ofQ_on {l:List Pst} {k:Nat} (h:k<l.length):(l.take (k+1)).map ofSgm=(l.take k).map ofSgm++[ofSgm l[k]]:=by
 rw[List.take_succ_eq_append_getElem h,List.map_append];rfl
theorem ofQ_all (l:List Pst)(h:l.all rightB=true):ofQ l=l.map ofSgm:=if_pos h
end
section
open Go.RowKit
def selO (y:Sel):Obj:=.cells #[.int .i64 y.kind,.string y.name,.int .i64 y.index,.int .i64 y.start,.int .i64 y.en,.bool y.hs,.bool y.he,.int .i64 y.stride] 30
def segO (b:Nat):Obj:=.cells #[.bool false,.slice (some ⟨b,0,none⟩) 1 1] 28
theorem of_new (w:World) (y:Sel) (base:Nat) (hb:base≤w.heap.size) :
   RdG sgmK (((w.alloc (selO y)).alloc (selO y)).alloc (segO (w.heap.size+1))) (some ⟨w.heap.size+2,0,none⟩) 1 [⟨false,some ⟨w.heap.size+1,0,none⟩,1,1⟩] ∧
   GRow selK (((w.alloc (selO y)).alloc (selO y)).alloc (segO (w.heap.size+1))) base (.slice (some ⟨w.heap.size+1,0,none⟩) 1 1) [y] ∧
   Below w.heap.size w (((w.alloc (selO y)).alloc (selO y)).alloc (segO (w.heap.size+1))):=by
 have z1:(w.alloc (selO y)).heap.size=w.heap.size+1:=by simp
 have z2:((w.alloc (selO y)).alloc (selO y)).heap.size=w.heap.size+2:=by simp
 have h1:=new_seg ((w.alloc (selO y)).alloc (selO y)) false (some ⟨w.heap.size+1,0,none⟩) 1 1
 rw[z2] at h1
 have h2:=GRow.made (K:=selK) (base:=base) (l:=[y]) (w.alloc (selO y)) _ rfl (show 1≤maxLen by decide) (by omega)
 rw[z1] at h2
 have b3:=below1 ((w.alloc (selO y)).alloc (selO y)) (segO (w.heap.size+1))
 refine ⟨h1,h2.keep b3 (Nat.le_refl _),?_⟩
 have b1:=below1 w (selO y)
 have b2:=below1 (w.alloc (selO y)) (selO y)
 exact (b1.trans (b2.mono (by omega))).trans (b3.mono (by omega))
def OfEnd (l:List Pst)(W:World)(e:Ending)(w':World):Prop:=∃ v,e=.returned v∧QIs w' W.heap.size v (ofQ l)∧Below W.heap.size W w'
theorem OfEnd.no {l:List Pst} {W w':World} (h:ofQ l=[]) (hb:Below W.heap.size W w'):OfEnd l W (.returned (.slice none 0 0)) w' :=
 ⟨_,rfl,by rw[h];exact ⟨[],GRow.nil _ _,rfl,fun i s x hs=>by simp at hs⟩,hb⟩
def RelOf (W:World) (l:List Pst) (vo i:Value) (wr:World):Prop :=
 ∃ (k:Nat) (V:Value),V=vo∧k≤l.length∧i=.int .i64 k∧(l.take k).all rightB=true∧QIs wr W.heap.size vo ((l.take k).map ofSgm)∧Below W.heap.size W wr
theorem rofq_any (l:List Pst) (A:Option Addr) (n c:Nat) (W:World) (hx:RdP W A n l) (hw:wtP l≤1000) :
   Calls Tryd.prog 18 #[.slice A n c] W (OfEnd l W):=by
 have hl:l.length=n:=hx.1
 have HX:=hid hx
 clear hx
 go_enter Tryd.func18,Tryd.ntmps18
 go_wp2
 go_loopw [3,10] (fun vo i wr=>RelOf W l vo i wr) (fun _ i _=>l.length-(intOf i).toNat)
 case atStart =>
   refine ⟨0,_,rfl,Nat.zero_le _,rfl,rfl,⟨[],GRow.made (K:=sgmK) _ #[] rfl (by simp[maxLen]) (Nat.le_refl _),rfl,fun i s x hs=>by simp at hs⟩,below1 _ _⟩
 case round =>
   obtain ⟨k,V,rfl,hk,rfl,hr,hq,hb⟩:=hrel
   have hk9:(k:Int)≤1000:=by have:=wt_length l;omega
   by_cases hlt:k<l.length
   rotate_left
   ·have hltI:¬ (k:Int)<n:=by omega
    have HQ:=hid (show QIs wr W.heap.size V (ofQ l) by
      rw[List.take_of_length_le (by omega)] at hr hq
      rw[ofQ_all l hr]
      exact hq)
    have HB:=hid hb
    clear hq hb hr
    go_wp2
    go_ret
    exact ⟨_,rfl,HQ.out,HB.out⟩
   have hltI:(k:Int)<n:=by omega
   have hX2:=HX.out.stay hb
   obtain ⟨a,rfl,ha,hc⟩:=hX2.2 (by omega)
   obtain ⟨s0,s1,s2⟩:=hc k l[k] (List.getElem?_eq_getElem hlt)
   have HTA:=hid (take_all hlt)
   have HTM:=hid (ofQ_on hlt)
   have HNO:=hid (fun (h:¬ rightB l[k]=true)=>(ofQ_none (l:=l) (fun ha=>h (List.all_eq_true.1 ha _ (List.getElem_mem hlt)))).1)
   have hwn:=wt_in (List.getElem?_eq_getElem hlt)
   generalize hsk:l[k]=sk at *
   have HR:=hid (fun w=>rright13_any sk w (by unfold maxLen;omega))
   unfold stpV at HR
   have o1:=Own.fresh wr 37 #[.bool sk.named,.string ⟨sk.name.toArray⟩,.int .i64 sk.index]
   have HO1:=hid o1
   have HBA:=hid (hb.trans ((below1 wr (.cells #[.bool sk.named,.string ⟨sk.name.toArray⟩,.int .i64 sk.index] 37)).mono hb.size))
   have HBR:=hid (below1 wr (.cells #[.bool sk.named,.string ⟨sk.name.toArray⟩,.int .i64 sk.index] 37))
   have HWZ:=hid hb.size
   clear hsk hc hX2 o1 hb
   by_cases hrs:rightB sk=true
   rotate_left
   ·have HN:=hid (HNO.out hrs)
    rw[Bool.eq_false_iff.2 hrs] at HR
    clear hrs HTA HTM HNO hq hwn
    generalize (⟨sk.name.toArray⟩:ByteArray)=nm at *
    generalize sk.index=ix at *
    generalize sk.named=nd at *
    go_wp2_with (
      (go_at_call 37
       go_must (
         refine (HR.out _).mono ?_
         rintro e w4 ⟨rfl,hb4⟩
         have HB4:=hid (HBA.out.trans (hb4.mono HBA.out.size))
         clear hb4)))
    go_ret
    exact OfEnd.no HN.out HB4.out
   rw[hrs] at HR HTA
   obtain ⟨ss,q1,q2,q3⟩:=hq
   have hak:ss.length≤1000:=by rw[q2,List.length_map,List.length_take];omega
   have HLOW:=hid (fun g' hg'=>(q1.low (g:=g') hg').1)
   have Q1:=hid q1
   have Q3:=hid q3
   have Q2:=hid q2
   clear q1 q2 q3 HNO
   cases hnm:sk.named
   ·obtain ⟨hq0,h1,h2⟩:=right_index hrs hnm
    have HTM2:=hid (show (l.take (k+1)).map ofSgm=(l.take k).map ofSgm++[⟨false,[⟨2,⟨#[]⟩,sk.index,0,0,false,false,0⟩]⟩] by
      rw[HTM.out]
      unfold ofSgm ofSel
      rw[hnm,if_neg (by decide)]
      rfl)
    clear hq0 h1 h2 hrs HTM hwn
    rw[hnm] at HO1 HR HBA HBR s0
    clear hnm
    generalize (⟨sk.name.toArray⟩:ByteArray)=nm at *
    generalize sk.index=ix at *
    go_wp2_with (first
      | (go_at_call 37
         go_must (
           refine (HR.out _).mono ?_
           rintro e w4 ⟨rfl,hb4⟩
           have o4:=HO1.out.stay hb4 HO1.out.inside
           have d2:w4.cell? ⟨wr.heap.size,2,none⟩=some (.int .i64 ix):=o4.at 2
           have d0:(w4.alloc (.cells #[.int .i64 2,.string ⟨#[]⟩,.int .i64 ix,.int .i64 0,.int .i64 0,.bool false,.bool false,.int .i64 0] 30)).cell? ⟨wr.heap.size,0,none⟩=some (.bool false):=(o4.over _).at 0
           have oq:=Own.fresh w4 30 #[.int .i64 2,.string ⟨#[]⟩,.int .i64 ix,.int .i64 0,.int .i64 0,.bool false,.bool false,.int .i64 0]
           have f0:=oq.at 0
           have f1:=oq.at 1
           have f2:=oq.at 2
           have f3:=oq.at 3
           have f4:=oq.at 4
           have f5:=oq.at 5
           have f6:=oq.at 6
           have f7:=oq.at 7
           simp at f0 f1 f2 f3 f4 f5 f6 f7
           have HB4:=hid (HBA.out.trans (hb4.mono HBA.out.size))
           have hnew:=of_new w4 ⟨2,⟨#[]⟩,ix,0,0,false,false,0⟩ W.heap.size HB4.out.size
           unfold selO segO at hnew
           have HNEW:=hid hnew
           have HRW:=hid ((HBR.out.trans (hb4.mono HBR.out.size)).trans (hnew.2.2.mono (Nat.le_trans HBR.out.size hb4.size)))
           clear hb4 o4 oq hnew))
      | (at_builtin
         go_must (
           refine row_append (K:=sgmK) _ rfl (.tmp 25) (.tmp 29) rfl W.heap.size _ ss rfl (Q1.out.keep HRW.out (Nat.le_refl _)) _ 1 1 [⟨false,some ⟨w4.heap.size+1,0,none⟩,1,1⟩] rfl HNEW.out.1 (by omega) (Nat.le_trans HWZ.out HRW.out.size) ?_
           intro v5 w5 row5 grown5 at5
           have HB5:=hid (below_grown (HB4.out.trans (HNEW.out.2.2.mono HB4.out.size)) grown5 (Nat.le_trans HWZ.out HRW.out.size) HLOW.out)
           have R5:=hid (QIs.snoc (x:=⟨false,[⟨2,⟨#[]⟩,ix,0,0,false,false,0⟩]⟩) (Q1.out.keep HRW.out (Nat.le_refl _)) Q2.out (fun i s y hs hy=>⟨(Q3.out i s y hs hy).1,(Q3.out i s y hs hy).2.keep HRW.out (Nat.le_refl _)⟩) HNEW.out.2.1 row5 grown5 (Nat.le_trans HWZ.out HRW.out.size))
           clear grown5 at5 row5)))
    go_roundw
    case rel=>exact ⟨k+1,_,rfl,hlt,by go_num,by rw[HTA.out,hr];rfl,by rw[HTM2.out];exact R5.out,HB5.out⟩
    case measure=>simp[intOf];omega
   ·obtain ⟨hq0,h1⟩:=right_name hrs hnm
    have hix:sk.index=0:=by rw[hq0]
    have HTM2:=hid (show (l.take (k+1)).map ofSgm=(l.take k).map ofSgm++[⟨false,[⟨0,⟨sk.name.toArray⟩,0,0,0,false,false,0⟩]⟩] by
      rw[HTM.out]
      unfold ofSgm ofSel
      rw[hnm,if_pos rfl]
      rfl)
    clear hq0 h1 hrs HTM hwn
    rw[hnm,hix] at HO1 HR HBA HBR
    rw[hnm] at s0
    rw[hix] at s2
    clear hnm hix
    generalize (⟨sk.name.toArray⟩:ByteArray)=nm at *
    go_wp2_with (first
      | (go_at_call 37
         go_must (
           refine (HR.out _).mono ?_
           rintro e w4 ⟨rfl,hb4⟩
           have o4:=HO1.out.stay hb4 HO1.out.inside
           have d2:w4.cell? ⟨wr.heap.size,2,none⟩=some (.int .i64 0):=o4.at 2
           have d0:(w4.alloc (.cells #[.int .i64 2,.string ⟨#[]⟩,.int .i64 0,.int .i64 0,.int .i64 0,.bool false,.bool false,.int .i64 0] 30)).cell? ⟨wr.heap.size,0,none⟩=some (.bool true):=(o4.over _).at 0
           have d1:(w4.alloc (.cells #[.int .i64 2,.string ⟨#[]⟩,.int .i64 0,.int .i64 0,.int .i64 0,.bool false,.bool false,.int .i64 0] 30)).cell? ⟨wr.heap.size,1,none⟩=some (.string nm):=(o4.over _).at 1
           have oq:=Own.fresh w4 30 #[.int .i64 0,.string nm,.int .i64 0,.int .i64 0,.int .i64 0,.bool false,.bool false,.int .i64 0]
           have f0:=oq.at 0
           have f1:=oq.at 1
           have f2:=oq.at 2
           have f3:=oq.at 3
           have f4:=oq.at 4
           have f5:=oq.at 5
           have f6:=oq.at 6
           have f7:=oq.at 7
           simp at f0 f1 f2 f3 f4 f5 f6 f7
           have HB4:=hid (HBA.out.trans (hb4.mono HBA.out.size))
           have hnew:=of_new w4 ⟨0,nm,0,0,0,false,false,0⟩ W.heap.size HB4.out.size
           unfold selO segO at hnew
           have HNEW:=hid hnew
           have HRW:=hid ((HBR.out.trans (hb4.mono HBR.out.size)).trans (hnew.2.2.mono (Nat.le_trans HBR.out.size hb4.size)))
           clear hb4 o4 oq hnew))
      | (at_builtin
         go_must (
           refine row_append (K:=sgmK) _ rfl (.tmp 25) (.tmp 29) rfl W.heap.size _ ss rfl (Q1.out.keep HRW.out (Nat.le_refl _)) _ 1 1 [⟨false,some ⟨w4.heap.size+1,0,none⟩,1,1⟩] rfl HNEW.out.1 (by omega) (Nat.le_trans HWZ.out HRW.out.size) ?_
           intro v5 w5 row5 grown5 at5
           have HB5:=hid (below_grown (HB4.out.trans (HNEW.out.2.2.mono HB4.out.size)) grown5 (Nat.le_trans HWZ.out HRW.out.size) HLOW.out)
           have R5:=hid (QIs.snoc (x:=⟨false,[⟨0,nm,0,0,0,false,false,0⟩]⟩) (Q1.out.keep HRW.out (Nat.le_refl _)) Q2.out (fun i s y hs hy=>⟨(Q3.out i s y hs hy).1,(Q3.out i s y hs hy).2.keep HRW.out (Nat.le_refl _)⟩) HNEW.out.2.1 row5 grown5 (Nat.le_trans HWZ.out HRW.out.size))
           clear grown5 at5 row5)))
    go_roundw
    case rel=>exact ⟨k+1,_,rfl,hlt,by go_num,by rw[HTA.out,hr];rfl,by rw[HTM2.out];exact R5.out,HB5.out⟩
    case measure=>simp[intOf];omega
end
section
open Go.RowKit
theorem wt_cons (s:Pst)(l:List Pst):wtP (s :: l)=s.name.length+1+wtP l:=by unfold wtP;simp
theorem wt_app (a b:List Pst):wtP (a++b)=wtP a+wtP b:=by unfold wtP;rw[List.map_append,List.sum_append]
theorem wt_on {l:List Pst} {k:Nat} (h:k<l.length):wtP (l.take (k+1))=wtP (l.take k)+(l[k].name.length+1):=by
 rw[List.take_succ_eq_append_getElem h,wt_app,wt_cons]
 rfl
structure OfC (G:World→Prop):Prop where
 stay:∀ w w',G w→Below w.heap.size w w'→G w'
 text:∀ (xs:List Sgm) (A:Option Addr) (n c:Nat) (w:World),G w→QRd w A n xs→SmQ xs→Calls Tryd.prog 11 #[.slice A n c] w fun e w'=>e=.returned (.string ⟨(putQ xs).toArray⟩)∧Below w.heap.size w w'
 of:∀ (l:List Pst) (A:Option Addr) (n c:Nat) (w:World),G w→RdP w A n l→wtP l≤1000→Calls Tryd.prog 16 #[.slice A n c] w fun e w' => ∃ A' n' c',e=.returned (.slice A' n' c')∧QRd w' A' n' (ofQ l)∧Below w.heap.size w w'
 put:∀ (l:List Pst) (A:Option Addr) (n c:Nat) (w:World),G w→RdP w A n l→wtP l≤1000→Calls Tryd.prog 19 #[.slice A n c] w fun e w'=>e=.returned (.string ⟨(putP l).toArray⟩)∧Below w.heap.size w w'
theorem OfC.go {G:World→Prop}(C:OfC G){W w:World}(h:G W)(hb:Below W.heap.size W w):G w:=C.stay W w h hb
theorem rof_rd (l:List Pst) (A:Option Addr) (n c:Nat) (W:World) (hx:RdP W A n l) (hw:wtP l≤1000) :
   Calls Tryd.prog 18 #[.slice A n c] W fun e w' => ∃ A' n' c',e=.returned (.slice A' n' c')∧QRd w' A' n' (ofQ l)∧Below W.heap.size W w':=by
 refine (rofq_any l A n c W hx hw).mono ?_
 rintro e w' ⟨v,rfl,hq,hb⟩
 obtain ⟨A',c',rfl,hr⟩:=qrd_of hq
 exact ⟨A',_,c',rfl,hr,hb⟩
def RelWs (W:World) (l:List Pst) (n i:Value) (wr:World):Prop :=
 ∃ k:Nat,k≤l.length∧i=.int .i64 k∧n=.int .i64 (wtP (l.take k))∧wtP (l.take k)≤500∧Below W.heap.size W wr
theorem writeSteps_core {G:World→Prop} (C:OfC G) (l:List Pst) (A:Option Addr) (n c:Nat) (W:World) (hG:G W) (hx:RdP W A n l) (hn:∀ s∈l,s.name.length≤140737488351232) :
   Calls Tryd.prog 4 #[.slice A n c] W fun e w'=>e=.returned (.bool true)∧Below W.heap.size W w':=by
 have KV:=hid (writeAlive_of C.stay C.text W hG)
 have hl:l.length=n:=hx.1
 have HX:=hid hx
 clear hx
 go_enter Tryd.func4,Tryd.ntmps4
 go_wp2_with (go_at_call 5;refine KV.out.mono ?_;rintro e w1 ⟨rfl,hb1⟩;have HB1:=hid hb1;clear hb1)
 go_loopw [3,12] (fun s i wr=>RelWs W l s i wr) (fun _ i _=>l.length-(intOf i).toNat)
 case atStart=>exact ⟨0,Nat.zero_le _,rfl,rfl,Nat.zero_le _,HB1.out⟩
 case round =>
   obtain ⟨k,hk,rfl,rfl,hg,hb⟩:=hrel
   have hk9:(k:Int)≤1000:=by
     have:=wt_length (l.take k)
     rw[List.length_take] at this
     omega
   by_cases hlt:k<l.length
   ·have hltI:(k:Int)<n:=by omega
    have hX2:=HX.out.stay hb
    obtain ⟨a,rfl,ha,hc⟩:=hX2.2 (by omega)
    obtain ⟨s0,s1,s2⟩:=hc k l[k] (List.getElem?_eq_getElem hlt)
    have hw:=wt_on hlt
    have hm:=hn _ (List.getElem_mem hlt)
    have hsz:(⟨l[k].name.toArray⟩:ByteArray).size=l[k].name.length:=rfl
    have o1:=Own.fresh wr 37 #[.bool l[k].named,.string ⟨l[k].name.toArray⟩,.int .i64 l[k].index]
    have e1:=o1.at 1
    simp at e1
    have HBA:=hid (hb.alloc hb.size (.cells #[.bool l[k].named,.string ⟨l[k].name.toArray⟩,.int .i64 l[k].index] 37))
    have HW:=hid hw
    clear hc hX2 o1 hw hn KV
    generalize l[k]=sk at *
    generalize wtP (l.take k)=u at *
    generalize hz:(⟨sk.name.toArray⟩:ByteArray)=nm at *
    rw[← hsz] at HW hm
    have hgI:(u:Int)≤500:=by omega
    have hmI:(nm.size:Int)≤140737488351232:=by omega
    by_cases hbig:u+(nm.size+1)>500
    ·have q1:(u:Int)+(nm.size+1)>500:=by omega
     clear HW
     go_wp2
     go_ret
     exact ⟨rfl,HBA.out⟩
    ·have q1:¬ (u:Int)+(nm.size+1)>500:=by omega
     go_wp2
     go_roundw
     case rel=>exact ⟨k+1,hlt,by go_num,(by rw[HW.out];go_num),(by rw[HW.out];omega),HBA.out⟩
     case measure=>simp[intOf];omega
   have hltI:¬ (k:Int)<n:=by omega
   rw[List.take_of_length_le (by omega)] at hg
   have hg9:wtP l≤1000:=by omega
   have HB2:=hid hb
   have HSM:=hid (ofQ_small l hg9)
   have KO:=hid (fun w (hb:Below W.heap.size W w)=>C.of l A n c w (C.go hG hb) (HX.out.stay hb) hg9)
   have KO2:=hid (fun w (hb:Below W.heap.size W w)=>rof_rd l A n c w (HX.out.stay hb) hg9)
   have KP:=hid (fun w (hb:Below W.heap.size W w)=>C.put l A n c w (C.go hG hb) (HX.out.stay hb) hg9)
   have KP2:=hid (fun w (hb:Below W.heap.size W w)=>put13_any l A n c w (HX.out.stay hb) hg9)
   have KT:=hid (fun w A1 n1 c1 (hb:Below W.heap.size W w) (h1:QRd w A1 n1 (ofQ l))=>C.text (ofQ l) A1 n1 c1 w (C.go hG hb) h1 HSM.out)
   have KS:=hid (fun w A1 n1 c1 A2 n2 c2 (h1:QRd w A1 n1 (ofQ l)) (h2:QRd w A2 n2 (ofQ l))=>sameQ_any (ofQ l) (ofQ l) A1 A2 n1 n2 c1 c2 w h1 h2 (by have:=h1.1;have:=HSM.out.1;omega) (by have:=h2.1;have:=HSM.out.1;omega) (fun x hx=>Nat.le_trans (HSM.out.2 x hx).1 (by omega)) (fun x hx=>Nat.le_trans (HSM.out.2 x hx).1 (by omega)))
   unfold SqEnd at KS
   clear hb hg hn KV
   by_cases hall:l.all rightB=true
   ·rw [ofQ_put hall] at KT
    have hE:(⟨(putP l).toArray⟩:ByteArray).toList.isEmpty=false:=by
      rw[putP_some hall]
      simp
    have htt:((⟨(putP l).toArray⟩:ByteArray).toList==(⟨(putP l).toArray⟩:ByteArray).toList)=true:=by simp
    generalize (⟨(putP l).toArray⟩:ByteArray)=T1 at *
    go_wp2_with (first
      | (go_at_call 16
         go_must (
           refine (KO.out _ HB2.out).mono ?_
           rintro e w3 ⟨A3,n3,c3,rfl,hr3,hb3⟩
           have HB3:=hid (HB2.out.trans (hb3.mono HB2.out.size))
           have HR3:=hid hr3
           clear hr3 hb3))
      | (go_at_call 17
         go_must (
           refine (KP2.out _ HB3.out).mono ?_
           rintro e w4 ⟨rfl,hb4⟩
           have HB4:=hid (HB3.out.trans (hb4.mono HB3.out.size))
           have HR4:=hid (HR3.out.stay hb4)
           clear hb4))
      | (go_at_call 18
         go_must (
           refine (KO2.out _ HB4.out).mono ?_
           rintro e w5 ⟨A5,n5,c5,rfl,hr5,hb5⟩
           have HB5:=hid (HB4.out.trans (hb5.mono HB4.out.size))
           have HR5:=hid (HR4.out.stay hb5)
           have HQ5:=hid hr5
           clear hr5 hb5))
      | (go_at_call 14
         go_must (
           refine (KS.out _ _ _ _ _ _ _ HR5.out HQ5.out).mono ?_
           rintro e w6 ⟨b6,rfl,hs6,hb6⟩
           obtain rfl:b6=true:=hs6.2 (by first|rfl|trivial)
           have HB6:=hid (HB5.out.trans (hb6.mono HB5.out.size))
           have HR6:=hid (HR5.out.stay hb6)
           clear hs6 hb6))
      | (go_at_call 11
         go_must (
           refine (KT.out _ _ _ _ HB6.out HR6.out).mono ?_
           rintro e w7 ⟨rfl,hb7⟩
           have HB7:=hid (HB6.out.trans (hb7.mono HB6.out.size))
           clear hb7))
      | (go_at_call 19
         go_must (
           refine (KP.out _ HB7.out).mono ?_
           rintro e w8 ⟨rfl,hb8⟩
           have HB8:=hid (HB7.out.trans (hb8.mono HB7.out.size))
           clear hb8)))
    go_ret
    exact ⟨rfl,HB8.out⟩
   ·obtain ⟨hq0,hp0⟩:=ofQ_none hall
    have hE:(⟨(putP l).toArray⟩:ByteArray).toList.isEmpty=true:=by rw[hp0];simp
    have HZ:=hid (fun (w:World) A1 n1 (h1:QRd w A1 n1 (ofQ l))=>show n1=0 by have:=h1.1;rw[hq0] at this;exact this.symm)
    clear hq0 hp0
    generalize (⟨(putP l).toArray⟩:ByteArray)=T1 at *
    go_wp2_with (first
      | (go_at_call 16
         go_must (
           refine (KO.out _ HB2.out).mono ?_
           rintro e w3 ⟨A3,n3,c3,rfl,hr3,hb3⟩
           obtain rfl:=HZ.out _ _ _ hr3
           have HB3:=hid (HB2.out.trans (hb3.mono HB2.out.size))
           have HR3:=hid hr3
           clear hr3 hb3))
      | (go_at_call 17
         go_must (
           refine (KP2.out _ HB3.out).mono ?_
           rintro e w4 ⟨rfl,hb4⟩
           have HB4:=hid (HB3.out.trans (hb4.mono HB3.out.size))
           have HR4:=hid (HR3.out.stay hb4)
           clear hb4))
      | (go_at_call 18
         go_must (
           refine (KO2.out _ HB4.out).mono ?_
           rintro e w5 ⟨A5,n5,c5,rfl,hr5,hb5⟩
           have HB5:=hid (HB4.out.trans (hb5.mono HB4.out.size))
           have HR5:=hid (HR4.out.stay hb5)
           have HQ5:=hid hr5
           clear hr5 hb5))
      | (go_at_call 14
         go_must (
           refine (KS.out _ _ _ _ _ _ _ HR5.out HQ5.out).mono ?_
           rintro e w6 ⟨b6,rfl,hs6,hb6⟩
           obtain rfl:b6=true:=hs6.2 (by first|rfl|trivial)
           have HB6:=hid (HB5.out.trans (hb6.mono HB5.out.size))
           clear hs6 hb6)))
    go_ret
    exact ⟨rfl,HB6.out⟩
end
section
open Go.RowKit
theorem sel_size15:(Tryd.prog.info? 30).map (·.size)=some 8:=by kernel_rfl
theorem wsel_index (nm:ByteArray) (ix:Int) (w:World) :
   Calls Tryd.prog 36 #[.agg #[.bool false,.string nm,.int .i64 ix]] w fun e w'=>e=.returned (.agg #[.int .i64 2,.string ⟨#[]⟩,.int .i64 ix,.int .i64 0,.int .i64 0,.bool false,.bool false,.int .i64 0])∧Below w.heap.size w w':=by
 have ho:=Own.fresh (w.alloc (.cells #[.bool false,.string nm,.int .i64 ix] 37)) 30 #[.int .i64 2,.string ⟨#[]⟩,.int .i64 ix,.int .i64 0,.int .i64 0,.bool false,.bool false,.int .i64 0]
 rw[show (w.alloc (.cells #[.bool false,.string nm,.int .i64 ix] 37)).heap.size=w.heap.size+1 by simp] at ho
 have HO:=hid ho
 clear ho
 go_enter Tryd.func36,Tryd.ntmps36
 go_wp2
 refine bodyPost_ret (results_cell_row rfl _ _ (w.heap.size+1) _ _ (0,0) _ rfl HO.out Tryd.underlying30 rfl sel_size15) rfl ?_
 exact ⟨rfl,(below1 w _).alloc (by simp) _⟩
theorem wsel_name (nm:ByteArray) (ix:Int) (w:World) :
   Calls Tryd.prog 36 #[.agg #[.bool true,.string nm,.int .i64 ix]] w fun e w'=>e=.returned (.agg #[.int .i64 0,.string nm,.int .i64 0,.int .i64 0,.int .i64 0,.bool false,.bool false,.int .i64 0])∧Below w.heap.size w w':=by
 have ho:=Own.fresh (w.alloc (.cells #[.bool true,.string nm,.int .i64 ix] 37)) 30 #[.int .i64 0,.string nm,.int .i64 0,.int .i64 0,.int .i64 0,.bool false,.bool false,.int .i64 0]
 rw[show (w.alloc (.cells #[.bool true,.string nm,.int .i64 ix] 37)).heap.size=w.heap.size+1 by simp] at ho
 have HO:=hid ho
 clear ho
 go_enter Tryd.func36,Tryd.ntmps36
 go_wp2
 refine bodyPost_ret (results_cell_row rfl _ _ (w.heap.size+1) _ _ (0,0) _ rfl HO.out Tryd.underlying30 rfl sel_size15) rfl ?_
 exact ⟨rfl,(below1 w _).alloc (by simp) _⟩
theorem of_new2 (w:World) (y:Sel) (base:Nat) (hb:base≤w.heap.size) :
   RdG sgmK ((w.alloc (selO y)).alloc (segO w.heap.size)) (some ⟨w.heap.size+1,0,none⟩) 1 [⟨false,some ⟨w.heap.size,0,none⟩,1,1⟩] ∧
   GRow selK ((w.alloc (selO y)).alloc (segO w.heap.size)) base (.slice (some ⟨w.heap.size,0,none⟩) 1 1) [y] ∧
   Below w.heap.size w ((w.alloc (selO y)).alloc (segO w.heap.size)):=by
 have z1:(w.alloc (selO y)).heap.size=w.heap.size+1:=by simp
 have h1:=new_seg (w.alloc (selO y)) false (some ⟨w.heap.size,0,none⟩) 1 1
 rw[z1] at h1
 have h2:=GRow.made (K:=selK) (base:=base) (l:=[y]) w _ rfl (show 1≤maxLen by decide) hb
 have b3:=below1 (w.alloc (selO y)) (segO w.heap.size)
 refine ⟨h1,h2.keep b3 (Nat.le_refl _),?_⟩
 exact (below1 w (selO y)).trans (b3.mono (by omega))
theorem make_zero (w:World) (n:Nat) (hn:n≤1000000) :
   (Instr.makeSlice 23 (.int .i64 0) (.int .i64 (n:Int))).run Tryd.prog w=.ok (.slice (some ⟨w.heap.size,0,none⟩) 0 n) (w.alloc (.cells (madeCells sgmK.zero.cells (n*2)) 28)):=by
 have hinfo:=sgmK.info
 cases hq:Tryd.prog.info? sgmK.T with
 | none=>rw[hq] at hinfo;cases hinfo
 | some i =>
   rw[hq] at hinfo
   simp only [Option.map_some,Option.some.injEq,Prod.mk.injEq] at hinfo
   obtain ⟨h1,h2,h3⟩:=hinfo
   have hb:(i.bytes:Int)*(n:Int)≤281474976710656:=by
     have h4:i.bytes*n≤32*1000000:=Nat.mul_le_mul (by rw[h3];decide) hn
     have h5:(i.bytes:Int)*(n:Int)=((i.bytes*n:Nat):Int):=by simp
     rw[h5]
     omega
   have:=run_make (P:=Tryd.prog) w sgmK.S sgmK.T i sgmK.zero sgmK.under hq h1 .i64 .i64 0 n (by omega) (by omega) hb (by omega)
   rw[h2,Int.toNat_natCast] at this
   exact this
theorem row_zero (W:World) (n:Nat) (hn:n≤1000000):GRow sgmK (W.alloc (.cells (madeCells sgmK.zero.cells (n*2)) 28)) W.heap.size (.slice (some ⟨W.heap.size,0,none⟩) 0 n) [] :=
 ⟨by simp[RowK.all],.inr ⟨W.heap.size,n,_,rfl,Nat.le_refl _,Own.fresh W 28 (madeCells sgmK.zero.cells (n*2)),by simp,by unfold maxLen;omega,by rw[size_madeCells];rfl,by simp[RowK.all]⟩⟩
theorem wof15_any (l:List Pst) (A:Option Addr) (n c:Nat) (W:World) (hx:RdP W A n l) (hw:wtP l≤1000) :
   Calls Tryd.prog 16 #[.slice A n c] W (OfEnd l W):=by
 have hl:l.length=n:=hx.1
 have HX:=hid hx
 have hl9:=wt_length l
 have hmk:=make_zero W n (by omega)
 have HST:=hid (show RelOf W l (.slice (some ⟨W.heap.size,0,none⟩) 0 n) (.int .i64 0) (W.alloc (.cells (madeCells sgmK.zero.cells (n*2)) 28)) from
   ⟨0,_,rfl,Nat.zero_le _,rfl,rfl,⟨[],row_zero W n (by omega),rfl,fun i s x hs=>by simp at hs⟩,below1 _ _⟩)
 have hn9:(n:Int)≤1000:=by omega
 generalize madeCells sgmK.zero.cells (n*2)=MC at *
 clear hx
 go_enter Tryd.func16,Tryd.ntmps16
 go_wp2
 go_loopw [3,11] (fun vo i wr=>RelOf W l vo i wr) (fun _ i _=>l.length-(intOf i).toNat)
 case atStart=>exact HST.out
 case round =>
   obtain ⟨k,V,rfl,hk,rfl,hr,hq,hb⟩:=hrel
   have hk9:(k:Int)≤1000:=by omega
   by_cases hlt:k<l.length
   rotate_left
   ·have hltI:¬ (k:Int)<n:=by omega
    have HQ:=hid (show QIs wr W.heap.size V (ofQ l) by
      rw[List.take_of_length_le (by omega)] at hr hq
      rw[ofQ_all l hr]
      exact hq)
    have HB:=hid hb
    clear hq hb hr
    go_wp2
    go_ret
    exact ⟨_,rfl,HQ.out,HB.out⟩
   have hltI:(k:Int)<n:=by omega
   have hX2:=HX.out.stay hb
   obtain ⟨a,rfl,ha,hc⟩:=hX2.2 (by omega)
   obtain ⟨s0,s1,s2⟩:=hc k l[k] (List.getElem?_eq_getElem hlt)
   have HTA:=hid (take_all hlt)
   have HTM:=hid (ofQ_on hlt)
   have HNO:=hid (fun (h:¬ rightB l[k]=true)=>(ofQ_none (l:=l) (fun ha=>h (List.all_eq_true.1 ha _ (List.getElem_mem hlt)))).1)
   have hwn:=wt_in (List.getElem?_eq_getElem hlt)
   generalize hsk:l[k]=sk at *
   have HR:=hid (fun w=>right13p_any sk w (by unfold maxLen;omega))
   unfold stpV at HR
   have o1:=Own.fresh wr 37 #[.bool sk.named,.string ⟨sk.name.toArray⟩,.int .i64 sk.index]
   have HO1:=hid o1
   have HBA:=hid (hb.trans ((below1 wr (.cells #[.bool sk.named,.string ⟨sk.name.toArray⟩,.int .i64 sk.index] 37)).mono hb.size))
   have HBR:=hid (below1 wr (.cells #[.bool sk.named,.string ⟨sk.name.toArray⟩,.int .i64 sk.index] 37))
   have HWZ:=hid hb.size
   clear hsk hc hX2 o1 hb
   by_cases hrs:rightB sk=true
   rotate_left
   ·have HN:=hid (HNO.out hrs)
    rw[Bool.eq_false_iff.2 hrs] at HR
    clear hrs HTA HTM HNO hq hwn
    generalize (⟨sk.name.toArray⟩:ByteArray)=nm at *
    generalize sk.index=ix at *
    generalize sk.named=nd at *
    go_wp2_with (
      (go_at_call 35
       go_must (
         refine (HR.out _).mono ?_
         rintro e w4 ⟨rfl,hb4⟩
         have HB4:=hid (HBA.out.trans (hb4.mono HBA.out.size))
         clear hb4)))
    go_ret
    exact OfEnd.no HN.out HB4.out
   rw[hrs] at HR HTA
   obtain ⟨ss,q1,q2,q3⟩:=hq
   have hak:ss.length≤1000:=by rw[q2,List.length_map,List.length_take];omega
   have HLOW:=hid (fun g' hg'=>(q1.low (g:=g') hg').1)
   have Q1:=hid q1
   have Q3:=hid q3
   have Q2:=hid q2
   clear q1 q2 q3 HNO
   cases hnm:sk.named
   ·obtain ⟨hq0,h1,h2⟩:=right_index hrs hnm
    have HTM2:=hid (show (l.take (k+1)).map ofSgm=(l.take k).map ofSgm++[⟨false,[⟨2,⟨#[]⟩,sk.index,0,0,false,false,0⟩]⟩] by
      rw[HTM.out]
      unfold ofSgm ofSel
      rw[hnm,if_neg (by decide)]
      rfl)
    clear hq0 h1 h2 hrs HTM hwn
    rw[hnm] at HO1 HR HBA HBR s0
    clear hnm
    generalize (⟨sk.name.toArray⟩:ByteArray)=nm at *
    generalize sk.index=ix at *
    go_wp2_with (first
      | (go_at_call 35
         go_must (
           refine (HR.out _).mono ?_
           rintro e w4 ⟨rfl,hb4⟩
           have o4:=HO1.out.stay hb4 HO1.out.inside
           have d0:w4.cell? ⟨wr.heap.size,0,none⟩=some (.bool false):=o4.at 0
           have d1:w4.cell? ⟨wr.heap.size,1,none⟩=some (.string nm):=o4.at 1
           have d2:w4.cell? ⟨wr.heap.size,2,none⟩=some (.int .i64 ix):=o4.at 2
           have HB4:=hid (HBA.out.trans (hb4.mono HBA.out.size))
           have HR4:=hid (HBR.out.trans (hb4.mono HBR.out.size))
           clear hb4 o4))
      | (go_at_call 36
         go_must (
           refine (wsel_index nm ix _).mono ?_
           rintro e w6 ⟨rfl,hb6⟩
           have HB6:=hid (HB4.out.trans (hb6.mono HB4.out.size))
           have HR6:=HR4.out.trans (hb6.mono HR4.out.size)
           have hnew:=of_new2 w6 ⟨2,⟨#[]⟩,ix,0,0,false,false,0⟩ W.heap.size HB6.out.size
           unfold selO segO at hnew
           have HNEW:=hid hnew
           have HRW:=hid (HR6.trans (hnew.2.2.mono HR6.size))
           clear hb6 hnew HR6))
      | (at_builtin
         go_must (
           refine row_append (K:=sgmK) _ rfl (.tmp 18) (.tmp 23) rfl W.heap.size _ ss rfl (Q1.out.keep HRW.out (Nat.le_refl _)) _ 1 1 [⟨false,some ⟨w6.heap.size,0,none⟩,1,1⟩] rfl HNEW.out.1 (by omega) (Nat.le_trans HWZ.out HRW.out.size) ?_
           intro v5 w5 row5 grown5 at5
           have HB5:=hid (below_grown (HB6.out.trans (HNEW.out.2.2.mono HB6.out.size)) grown5 (Nat.le_trans HWZ.out HRW.out.size) HLOW.out)
           have R5:=hid (QIs.snoc (x:=⟨false,[⟨2,⟨#[]⟩,ix,0,0,false,false,0⟩]⟩) (Q1.out.keep HRW.out (Nat.le_refl _)) Q2.out (fun i s y hs hy=>⟨(Q3.out i s y hs hy).1,(Q3.out i s y hs hy).2.keep HRW.out (Nat.le_refl _)⟩) HNEW.out.2.1 row5 grown5 (Nat.le_trans HWZ.out HRW.out.size))
           clear grown5 at5 row5)))
    go_roundw
    case rel=>exact ⟨k+1,_,rfl,hlt,by go_num,by rw[HTA.out,hr];rfl,by rw[HTM2.out];exact R5.out,HB5.out⟩
    case measure=>simp[intOf];omega
   ·obtain ⟨hq0,h1⟩:=right_name hrs hnm
    have hix:sk.index=0:=by rw[hq0]
    have HTM2:=hid (show (l.take (k+1)).map ofSgm=(l.take k).map ofSgm++[⟨false,[⟨0,⟨sk.name.toArray⟩,0,0,0,false,false,0⟩]⟩] by
      rw[HTM.out]
      unfold ofSgm ofSel
      rw[hnm,if_pos rfl]
      rfl)
    clear hq0 h1 hrs HTM hwn
    rw[hnm,hix] at HO1 HR HBA HBR
    rw[hnm] at s0
    rw[hix] at s2
    clear hnm hix
    generalize (⟨sk.name.toArray⟩:ByteArray)=nm at *
    go_wp2_with (first
      | (go_at_call 35
         go_must (
           refine (HR.out _).mono ?_
           rintro e w4 ⟨rfl,hb4⟩
           have o4:=HO1.out.stay hb4 HO1.out.inside
           have d0:w4.cell? ⟨wr.heap.size,0,none⟩=some (.bool true):=o4.at 0
           have d1:w4.cell? ⟨wr.heap.size,1,none⟩=some (.string nm):=o4.at 1
           have d2:w4.cell? ⟨wr.heap.size,2,none⟩=some (.int .i64 0):=o4.at 2
           have HB4:=hid (HBA.out.trans (hb4.mono HBA.out.size))
           have HR4:=hid (HBR.out.trans (hb4.mono HBR.out.size))
           clear hb4 o4))
      | (go_at_call 36
         go_must (
           refine (wsel_name nm 0 _).mono ?_
           rintro e w6 ⟨rfl,hb6⟩
           have HB6:=hid (HB4.out.trans (hb6.mono HB4.out.size))
           have HR6:=HR4.out.trans (hb6.mono HR4.out.size)
           have hnew:=of_new2 w6 ⟨0,nm,0,0,0,false,false,0⟩ W.heap.size HB6.out.size
           unfold selO segO at hnew
           have HNEW:=hid hnew
           have HRW:=hid (HR6.trans (hnew.2.2.mono HR6.size))
           clear hb6 hnew HR6))
      | (at_builtin
         go_must (
           refine row_append (K:=sgmK) _ rfl (.tmp 18) (.tmp 23) rfl W.heap.size _ ss rfl (Q1.out.keep HRW.out (Nat.le_refl _)) _ 1 1 [⟨false,some ⟨w6.heap.size,0,none⟩,1,1⟩] rfl HNEW.out.1 (by omega) (Nat.le_trans HWZ.out HRW.out.size) ?_
           intro v5 w5 row5 grown5 at5
           have HB5:=hid (below_grown (HB6.out.trans (HNEW.out.2.2.mono HB6.out.size)) grown5 (Nat.le_trans HWZ.out HRW.out.size) HLOW.out)
           have R5:=hid (QIs.snoc (x:=⟨false,[⟨0,nm,0,0,0,false,false,0⟩]⟩) (Q1.out.keep HRW.out (Nat.le_refl _)) Q2.out (fun i s y hs hy=>⟨(Q3.out i s y hs hy).1,(Q3.out i s y hs hy).2.keep HRW.out (Nat.le_refl _)⟩) HNEW.out.2.1 row5 grown5 (Nat.le_trans HWZ.out HRW.out.size))
           clear grown5 at5 row5)))
    go_roundw
    case rel=>exact ⟨k+1,_,rfl,hlt,by go_num,by rw[HTA.out,hr];rfl,by rw[HTM2.out];exact R5.out,HB5.out⟩
    case measure=>simp[intOf];omega
end
section
open Go.RowKit Go.ChangeShapes
theorem ofC_prog:OfC Pow13 where
 stay:=fun w w' h hb=>h.stay hb
 text:=fun xs A n c w h hx hs=>wtext15_any xs A n c w h hx hs
 of := fun l A n c w _ hx hw=>by
   refine (wof15_any l A n c w hx hw).mono ?_
   rintro e w' ⟨v,rfl,hq,hb⟩
   obtain ⟨A',c',rfl,hr⟩:=qrd_of hq
   exact ⟨A',_,c',rfl,hr,hb⟩
 put:=fun l A n c w h hx hw=>put13p_any l A n c w h hx (by omega)
theorem tab_of_steps {W:World}(h:laidMetH Tryd.prog Rows.writeStepsRow.laid W):Pow13 W:=pow_of (by kernel_rfl) h (.tail _ (.tail _ (.head _)))
theorem writeSteps_walk (A:Option Addr) (n c:Nat) (l:List Pst) (W:World) (hT:Pow13 W) (hx:RdP W A n l ∧ ∀ x∈l,x.name.length≤140737488351232) :
   Calls Tryd.prog 4 #[.slice A n c] W fun e w'=>e=.returned (.bool true)∧Below W.heap.size W w' :=
 writeSteps_core ofC_prog l A n c W hT hx.1 hx.2
end
section
open Go.ChangeShapes Go.WideShapes Go.ChangeAt Go.RowKit Go.Deep
theorem addP_zero (ad:Addr):ad.add 0=ad:=by unfold Addr.add;simp
theorem addP_succ (ad:Addr)(m:Nat):ad.add (m+1)=⟨ad.block,ad.off+(m+1),none⟩:=by unfold Addr.add;simp
theorem list3 {α:Type} {l:List α} (h:l.length=3):∃ c0 c1 c2,l=[c0,c1,c2]:=by
 match l,h with
 | [c0,c1,c2],_=>exact ⟨c0,c1,c2,rfl⟩
theorem stp_cells:Tryd.prog.cellsOf 37=3:=by kernel_rfl
theorem stp_int_cells:Tryd.prog.cellsOf 3=1:=by kernel_rfl
theorem stp_str_cells:Tryd.prog.cellsOf 9=1:=by kernel_rfl
theorem stp_bool_cells:Tryd.prog.cellsOf 4=1:=by kernel_rfl
theorem weights_in {H:Type} {P:Program} {e:TypeId}:∀ {l:List (DataW H)} {d:DataW H},d∈l → ∀ n∈d.weights P e,n∈DataW.weightsAll P e l
 | [],_,h,_,_=>by cases h
 | x :: r,d,h,n,hn=>by
   rw[DataW.weightsAll,List.mem_append]
   rcases List.mem_cons.1 h with rfl|h
   ·exact .inl hn
   ·exact .inr (weights_in h n hn)
theorem open_step {H:Type} {enc:TypeId×Value→H} {W:World} {base:Nat} {sp:Nat→Bool} {held:Bool} {n:Nat} {cs:List Value} {x:DataW H×List MemPlace} (hlen:cs.length=3) (hf:DataW.trod enc Tryd.prog W base sp held n 37 cs=some x) :
   ∃ s:Pst,cs=[.bool s.named,.string ⟨s.name.toArray⟩,.int .i64 s.index]∧s.name.length≤maxLen∧s.name.length∈x.1.weights Tryd.prog 37:=by
 obtain ⟨c0,c1,c2,rfl⟩:=list3 hlen
 obtain ⟨xs,m,_,hxx,_,hl,hf⟩:=DataW.trod_struct Tryd.underlying37 hf
 obtain ⟨y0,y1,y2,rfl⟩:=list3 hl
 have f0:=hf 0 _ rfl
 have f1:=hf 1 _ rfl
 have f2:=hf 2 _ rfl
 simp[Value.cells,stp_int_cells,stp_str_cells,stp_bool_cells] at f0 f1 f2
 obtain ⟨a0,e0,_⟩:=DataW.trod_bool Tryd.underlying4 f0
 obtain ⟨a1,e1,z1,hz⟩:=DataW.trod_string Tryd.underlying9 f1
 obtain ⟨a2,e2,_⟩:=DataW.trod_int Tryd.underlying3 f2
 simp at e0 e1 e2
 subst e0 e1 e2
 refine ⟨⟨a0,a1.data.toList,a2⟩,rfl,hz,?_⟩
 rw[hxx]
 show a1.data.toList.length∈DataW.weights Tryd.prog 37 (.agg [y0.1,y1.1,y2.1])
 rw[DataW.weights,Tryd.underlying37,z1]
 exact DataW.weights_mem_each (j:=1) (t:=9) (d:=.lit (.string a1.data.toList)) rfl rfl _ (by simp[DataW.weights])
theorem open_steps {H:Type} {enc:TypeId×Value→H} {W:World} {base:Nat} {sp:Nat→Bool} {held:Bool} {A:Option Addr} {len cap:Nat} {d:DataW H} {ps:List MemPlace}
   (hd:DataW.Trod enc Tryd.prog W base sp held 35 (.slice A len cap) d ps):∃ l,RdP W A len l ∧ ∀ s∈l,s.name.length≤maxLen∧s.name.length∈d.weights Tryd.prog 35:=by
 obtain ⟨fuel,hf⟩:=hd
 rcases open_slice Tryd.underlying35 hf with ⟨hcs,_⟩|⟨a,len',cap',m,n,D,Pl,hcs,hb,hl,hm,hmm,hx,hall⟩
 ·simp[Value.cells] at hcs
  obtain ⟨rfl,rfl,rfl⟩:=hcs
  exact ⟨[],⟨rfl,fun h=>absurd h (by omega)⟩,fun s h=>by cases h⟩
 ·simp [Value.cells] at hcs
  obtain ⟨rfl,rfl,rfl⟩:=hcs
  have hlm:len≤m:=by rw[hmm];split<;>omega
  have hst:∀ i,i<len → ∃ s:Pst,(W.cell? (a.add (i*3))=some (.bool s.named)∧W.cell? ⟨(a.add (i*3)).block,(a.add (i*3)).off+1,none⟩=some (.string ⟨s.name.toArray⟩)∧W.cell? ⟨(a.add (i*3)).block,(a.add (i*3)).off+2,none⟩=some (.int .i64 s.index))∧s.name.length≤maxLen∧s.name.length∈d.weights Tryd.prog 35:=by
    intro i hi
    obtain ⟨cs',hc,ht⟩:=hall i (by omega)
    rw[stp_cells] at hc
    obtain ⟨_,hlen,hat⟩:=World.cells?_some hc
    obtain ⟨s,rfl,hz,hk⟩:=open_step hlen ht
    have hd:s.name.length∈d.weights Tryd.prog 35:=by
      have e:d=.slice ((List.range len).map D) ((List.range (m-len)).map fun j=>D (len+j)):=congrArg Prod.fst hx
      rw[e,DataW.weights,Tryd.underlying35]
      exact List.mem_cons_of_mem _ (List.mem_append_left _ (weights_in (e:=37) (d:=D i) (List.mem_map.2 ⟨i,List.mem_range.2 hi,rfl⟩) _ hk))
    have h0:=hat 0 (by omega)
    have h1:=hat 1 (by omega)
    have h2:=hat 2 (by omega)
    rw[addP_zero] at h0
    rw[addP_succ] at h1 h2
    exact ⟨s,⟨h0,h1,h2⟩,hz,hd⟩
  obtain ⟨f,hfn⟩:=@choose_lt _ ⟨(⟨false,[],0⟩:Pst)⟩ _ _ hst
  refine ⟨(List.range len).map f,⟨by simp,fun h0=>⟨a,rfl,?_,fun i s hs => ?_⟩⟩,fun s hs => ?_⟩
  ·have h1:=(hfn 0 h0).1.1
   rw[Nat.zero_mul,addP_zero] at h1
   exact cell_inside h1
  ·have hi:i<len:=by
     have:=(List.getElem?_eq_some_iff.1 hs).1
     simpa using this
   have e:s=f i:=by
     rw[List.getElem?_map,List.getElem?_range hi] at hs
     exact (Option.some.inj hs).symm
   rw[e]
   exact (hfn i hi).1
  ·obtain ⟨i,hi,rfl⟩:=List.mem_map.1 hs
   exact (hfn i (List.mem_range.1 hi)).2
theorem name_reach {H:Type} {ts:List TypeId} {ds:List (DataW H)} (h:(DataW.weightsEach Tryd.prog ts ds).all (· ≤ reachBytes)=true) {j:Nat} {t:TypeId} {d:DataW H} (ht:ts[j]?=some t) (hd:ds[j]?=some d) {n:Nat} (hn:n∈d.weights Tryd.prog t):n≤140737488351232 :=
 of_decide_eq_true (List.all_eq_true.1 h _ (DataW.weights_mem_each ht hd n hn))
end
end Go.Proofs.YtmgdjlkndbejkaaDoor
