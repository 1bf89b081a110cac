/- Lemmas. -/
import Derived.Test.YtmgdjlkndbejkaaGreatDoorJ40
import Derived.ProofKit
import Derived.ShutString
import Derived.ChangeOld
import Derived.Deep.Slices
set_option maxRecDepth 100000
set_option maxHeartbeats 8000000
set_option linter.unusedVariables false
set_option linter.unusedSimpArgs false
namespace Go.Proofs.YtmgdjlkndbejkaaGreatDoor
section
open Go.ChangeShapes Go.WideShapes Go.ChangeAt Go.RowKit Go.Deep
theorem qf_list8 {α:Type} {l:List α} (h:l.length=8):∃ c0 c1 c2 c3 c4 c5 c6 c7,l=[c0,c1,c2,c3,c4,c5,c6,c7]:=by
 match l,h with
 | [c0,c1,c2,c3,c4,c5,c6,c7],_=>exact ⟨c0,c1,c2,c3,c4,c5,c6,c7,rfl⟩
theorem qf_list2 {α:Type} {l:List α} (h:l.length=2):∃ c0 c1,l=[c0,c1]:=by
 match l,h with
 | [c0,c1],_=>exact ⟨c0,c1,rfl⟩
theorem qf_sel_cells:Tryz.prog.cellsOf 35=8:=by kernel_rfl
theorem qf_seg_cells:Tryz.prog.cellsOf 33=2:=by kernel_rfl
theorem qf_sels_cells:Tryz.prog.cellsOf 31=1:=by kernel_rfl
theorem qf_int_cells:Tryz.prog.cellsOf 3=1:=by kernel_rfl
theorem qf_str_cells:Tryz.prog.cellsOf 9=1:=by kernel_rfl
theorem qf_bool_cells:Tryz.prog.cellsOf 4=1:=by kernel_rfl
theorem bulkAll_append {H:Type}:∀ (l r:List (DataW H)),Rows.uptoBulkAll (l++r)=Rows.uptoBulkAll l+Rows.uptoBulkAll r
 | [],r=>by rw[List.nil_append,Rows.uptoBulkAll];omega
 | x :: l,r=>by rw[List.cons_append,Rows.uptoBulkAll,Rows.uptoBulkAll,bulkAll_append l r];omega
theorem bulkAll_range {H:Type} {α:Type} (g:α→Nat) (D:Nat→DataW H) (f:Nat→α):∀ (n:Nat),(∀ i,i<n→g (f i)≤Rows.uptoBulk (D i))→(((List.range n).map f).map g).sum≤Rows.uptoBulkAll ((List.range n).map D)
 | 0,_=>Nat.zero_le _
 | n+1,h=>by
   have ih:=bulkAll_range g D f n (fun i hi=>h i (by omega))
   have hn:=h n (by omega)
   rw[List.range_succ,List.map_append,List.map_append,List.sum_append,List.map_append,bulkAll_append]
   simp only [List.map_cons,List.map_nil,List.sum_cons,List.sum_nil,Nat.add_zero,Rows.uptoBulkAll]
   omega
theorem addq_succ (ad:Addr)(m:Nat):ad.add (m+1)=⟨ad.block,ad.off+(m+1),none⟩:=by unfold Addr.add;simp
theorem addq_zero (ad:Addr):ad.add 0=ad:=by unfold Addr.add;simp
theorem open_sel15 {H:Type} {enc:TypeId×Value→H} {W:World} {base:Nat} {sp:Nat→Bool} {held:Bool} {n:Nat} {cs:List Value} {x:DataW H×List MemPlace} (hlen:cs.length=8) (hf:DataW.trod enc Tryz.prog W base sp held n 35 cs=some x) :
   ∃ s:Sel,cs=[.int .i64 s.kind,.string s.name,.int .i64 s.index,.int .i64 s.start,.int .i64 s.en,.bool s.hs,.bool s.he,.int .i64 s.stride]∧s.name.size+1≤Rows.uptoBulk x.1:=by
 obtain ⟨c0,c1,c2,c3,c4,c5,c6,c7,rfl⟩:=qf_list8 hlen
 obtain ⟨xs,m,_,hxx,_,hl,hf⟩:=DataW.trod_struct Tryz.underlying35 hf
 obtain ⟨y0,y1,y2,y3,y4,y5,y6,y7,rfl⟩:=qf_list8 hl
 have f0:=hf 0 _ rfl
 have f1:=hf 1 _ rfl
 have f2:=hf 2 _ rfl
 have f3:=hf 3 _ rfl
 have f4:=hf 4 _ rfl
 have f5:=hf 5 _ rfl
 have f6:=hf 6 _ rfl
 have f7:=hf 7 _ rfl
 simp[Value.cells,qf_int_cells,qf_str_cells,qf_bool_cells] at f0 f1 f2 f3 f4 f5 f6 f7
 obtain ⟨a0,e0,_⟩:=DataW.trod_int Tryz.underlying3 f0
 obtain ⟨a1,e1,z1,hz⟩:=DataW.trod_string Tryz.underlying9 f1
 obtain ⟨a2,e2,_⟩:=DataW.trod_int Tryz.underlying3 f2
 obtain ⟨a3,e3,_⟩:=DataW.trod_int Tryz.underlying3 f3
 obtain ⟨a4,e4,_⟩:=DataW.trod_int Tryz.underlying3 f4
 obtain ⟨a5,e5,_⟩:=DataW.trod_bool Tryz.underlying4 f5
 obtain ⟨a6,e6,_⟩:=DataW.trod_bool Tryz.underlying4 f6
 obtain ⟨a7,e7,_⟩:=DataW.trod_int Tryz.underlying3 f7
 simp at e0 e1 e2 e3 e4 e5 e6 e7
 subst e0 e1 e2 e3 e4 e5 e6 e7
 refine ⟨⟨a0,a1,a2,a3,a4,a5,a6,a7⟩,rfl,?_⟩
 rw[hxx]
 show a1.size+1≤Rows.uptoBulk (.agg [y0.1,y1.1,y2.1,y3.1,y4.1,y5.1,y6.1,y7.1])
 rw[z1]
 simp only [Rows.uptoBulk,Rows.uptoBulkAll]
 have:a1.data.toList.length=a1.size:=rfl
 omega
theorem open_sels15 {H:Type} {enc:TypeId×Value→H} {W:World} {base:Nat} {sp:Nat→Bool} {held:Bool} {A:Option Addr} {len cap n:Nat} {x:DataW H×List MemPlace}
   (hf:DataW.trod enc Tryz.prog W base sp held n 31 [.slice A len cap]=some x):∃ l,SRd W A len l∧l.length+wS l+1≤Rows.uptoBulk x.1:=by
 rcases open_slice Tryz.underlying31 hf with ⟨hcs,e⟩|⟨a,len',cap',m,n',D,Pl,hcs,hb,hl,hm,hmm,hx,hall⟩
 ·simp at hcs
  obtain ⟨rfl,rfl,rfl⟩:=hcs
  refine ⟨[],⟨rfl,fun h=>absurd h (by omega)⟩,?_⟩
  rw[e]
  simp[Rows.uptoBulk,wS]
 ·simp at hcs
  obtain ⟨rfl,rfl,rfl⟩:=hcs
  have hlm:len≤m:=by rw[hmm];split<;>omega
  have hst:∀ i,i<len → ∃ y:Sel,(W.cell? (a.add (i*8))=some (.int .i64 y.kind)∧W.cell? ⟨(a.add (i*8)).block,(a.add (i*8)).off+1,none⟩=some (.string y.name) ∧
      W.cell? ⟨(a.add (i*8)).block,(a.add (i*8)).off+2,none⟩=some (.int .i64 y.index)∧W.cell? ⟨(a.add (i*8)).block,(a.add (i*8)).off+3,none⟩=some (.int .i64 y.start)∧W.cell? ⟨(a.add (i*8)).block,(a.add (i*8)).off+4,none⟩=some (.int .i64 y.en) ∧
      W.cell? ⟨(a.add (i*8)).block,(a.add (i*8)).off+5,none⟩=some (.bool y.hs)∧W.cell? ⟨(a.add (i*8)).block,(a.add (i*8)).off+6,none⟩=some (.bool y.he)∧W.cell? ⟨(a.add (i*8)).block,(a.add (i*8)).off+7,none⟩=some (.int .i64 y.stride))∧y.name.size+1≤Rows.uptoBulk (D i):=by
    intro i hi
    obtain ⟨cs',hc,ht⟩:=hall i (by omega)
    rw[qf_sel_cells] at hc
    obtain ⟨_,hlen,hat⟩:=World.cells?_some hc
    obtain ⟨s,rfl,hz⟩:=open_sel15 hlen ht
    have h0:=hat 0 (by omega)
    have h1:=hat 1 (by omega)
    have h2:=hat 2 (by omega)
    have h3:=hat 3 (by omega)
    have h4:=hat 4 (by omega)
    have h5:=hat 5 (by omega)
    have h6:=hat 6 (by omega)
    have h7:=hat 7 (by omega)
    rw[addq_zero] at h0
    rw[addq_succ] at h1 h2 h3 h4 h5 h6 h7
    exact ⟨s,⟨h0,h1,h2,h3,h4,h5,h6,h7⟩,hz⟩
  obtain ⟨f,hfn⟩:=@choose_lt _ ⟨(⟨0,.empty,0,0,0,false,false,0⟩:Sel)⟩ _ _ hst
  refine ⟨(List.range len).map f,⟨by simp,fun h0=>⟨a,rfl,?_,fun i s hs => ?_⟩⟩,?_⟩
  ·have h1:=(hfn 0 h0).1.1
   rw[Nat.zero_mul,addq_zero] at h1
   exact cell_inside h1
  ·have hi:i<len:=by
     have:=(List.getElem?_eq_some_iff.1 hs).1
     simpa using this
   have e:s=f i:=by
     rw[List.getElem?_map,List.getElem?_range hi] at hs
     exact (Option.some.inj hs).symm
   rw[e]
   exact (hfn i hi).1
  ·have e:x.1=.slice ((List.range len).map D) ((List.range (m-len)).map fun j=>D (len+j)):=congrArg Prod.fst hx
   have hsum:=bulkAll_range (fun y:Sel=>y.name.size+1) D f len (fun i hi=>(hfn i hi).2)
   have hs2:∀ l:List Sel,(l.map fun y=>y.name.size+1).sum=l.length+wS l:=by
     intro l
     induction l with
     | nil=>rfl
     | cons y t ih=>rw[List.map_cons,List.sum_cons,ih,wS_cons,List.length_cons];omega
   rw[hs2] at hsum
   rw[e,Rows.uptoBulk]
   omega
theorem open_seg15 {H:Type} {enc:TypeId×Value→H} {W:World} {base:Nat} {sp:Nat→Bool} {held:Bool} {n:Nat} {cs:List Value} {x:DataW H×List MemPlace} (hlen:cs.length=2) (hf:DataW.trod enc Tryz.prog W base sp held n 33 cs=some x) :
   ∃ (y:Sgm) (B:Option Addr) (m c:Nat),cs=[.bool y.deep,.slice B m c]∧SRd W B m y.sels∧y.sels.length+1+wS y.sels≤Rows.uptoBulk x.1:=by
 obtain ⟨c0,c1,rfl⟩:=qf_list2 hlen
 obtain ⟨xs,m,_,hxx,_,hl,hf⟩:=DataW.trod_struct Tryz.underlying33 hf
 obtain ⟨y0,y1,rfl⟩:=qf_list2 hl
 have f0:=hf 0 _ rfl
 have f1:=hf 1 _ rfl
 simp[Value.cells,qf_sels_cells,qf_bool_cells] at f0 f1
 obtain ⟨a0,e0,_⟩:=DataW.trod_bool Tryz.underlying4 f0
 simp at e0
 subst e0
 obtain ⟨B,k,c,rfl⟩:∃ B k c,c1=.slice B k c:=by
   rcases open_slice Tryz.underlying31 f1 with ⟨hcs,_⟩|⟨a,len',cap',_,_,_,_,hcs,_⟩
   ·simp at hcs;exact ⟨_,_,_,hcs⟩
   ·simp at hcs;exact ⟨_,_,_,hcs⟩
 obtain ⟨l,hl1,hl2⟩:=open_sels15 f1
 refine ⟨⟨a0,l⟩,B,k,c,rfl,hl1,?_⟩
 rw[hxx]
 show l.length+1+wS l≤Rows.uptoBulk (.agg [y0.1,y1.1])
 simp only [Rows.uptoBulk,Rows.uptoBulkAll]
 omega
theorem open_query {H:Type} {enc:TypeId×Value→H} {W:World} {base:Nat} {sp:Nat→Bool} {held:Bool} {A:Option Addr} {len cap:Nat} {d:DataW H} {ps:List MemPlace}
   (hd:DataW.Trod enc Tryz.prog W base sp held 23 (.slice A len cap) d ps):∃ xs,QRd W A len xs∧wq xs≤Rows.uptoBulk d:=by
 obtain ⟨fuel,hf⟩:=hd
 rcases open_slice Tryz.underlying23 hf with ⟨hcs,_⟩|⟨a,len',cap',m,n,D,Pl,hcs,hb,hl,hm,hmm,hx,hall⟩
 ·simp[Value.cells] at hcs
  obtain ⟨rfl,rfl,rfl⟩:=hcs
  exact ⟨[],⟨rfl,fun h=>absurd h (by omega)⟩,Nat.zero_le _⟩
 ·simp [Value.cells] at hcs
  obtain ⟨rfl,rfl,rfl⟩:=hcs
  have hlm:len≤m:=by rw[hmm];split<;>omega
  have hst:∀ i,i<len → ∃ y:Sgm,(∃ B k c,W.cell? (a.add (i*2))=some (.bool y.deep)∧W.cell? ⟨(a.add (i*2)).block,(a.add (i*2)).off+1,none⟩=some (.slice B k c)∧SRd W B k y.sels)∧y.sels.length+1+wS y.sels≤Rows.uptoBulk (D i):=by
    intro i hi
    obtain ⟨cs',hc,ht⟩:=hall i (by omega)
    rw[qf_seg_cells] at hc
    obtain ⟨_,hlen,hat⟩:=World.cells?_some hc
    obtain ⟨y,B,k,c,rfl,hs,hz⟩:=open_seg15 hlen ht
    have h0:=hat 0 (by omega)
    have h1:=hat 1 (by omega)
    rw[addq_zero] at h0
    rw[addq_succ] at h1
    exact ⟨y,⟨B,k,c,h0,h1,hs⟩,hz⟩
  obtain ⟨f,hfn⟩:=@choose_lt _ ⟨(⟨false,[]⟩:Sgm)⟩ _ _ hst
  refine ⟨(List.range len).map f,⟨by simp,fun h0=>⟨a,rfl,?_,fun i s hs => ?_⟩⟩,?_⟩
  ·obtain ⟨B,k,c,h1,_⟩:=(hfn 0 h0).1
   rw[Nat.zero_mul,addq_zero] at h1
   exact cell_inside h1
  ·have hi:i<len:=by
     have:=(List.getElem?_eq_some_iff.1 hs).1
     simpa using this
   have e:s=f i:=by
     rw[List.getElem?_map,List.getElem?_range hi] at hs
     exact (Option.some.inj hs).symm
   rw[e]
   exact (hfn i hi).1
  ·have e:d=.slice ((List.range len).map D) ((List.range (m-len)).map fun j=>D (len+j)):=congrArg Prod.fst hx
   have hsum:=bulkAll_range (fun y:Sgm=>y.sels.length+1+wS y.sels) D f len (fun i hi=>(hfn i hi).2)
   rw[e,Rows.uptoBulk]
   unfold wq
   omega
end
end Go.Proofs.YtmgdjlkndbejkaaGreatDoor
