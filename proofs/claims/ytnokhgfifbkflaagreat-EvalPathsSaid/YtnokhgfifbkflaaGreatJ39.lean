/- Lemmas. -/
import Derived.Test.YtnokhgfifbkflaaGreatProg
import Derived.Test.YtnokhgfifbkflaaGreatJ36
import Derived.Lib.SmallJoins
set_option maxRecDepth 100000
set_option maxHeartbeats 8000000
set_option linter.unusedVariables false
set_option linter.unusedSimpArgs false
namespace Go.Proofs.YtnokhgfifbkflaaGreat
section
open Go.ChangeShapes Go.WideShapes Go.ChangeAt Go.RowKit Go.Deep
theorem qg_list8 {α:Type} {l:List α} (h:l.length=8):∃ c0 c1 c2 c3 c4 c5 c6 c7,l=[c0,c1,c2,c3,c4,c5,c6,c7]:=by
 match l,h with
 | [c0,c1,c2,c3,c4,c5,c6,c7],_=>exact ⟨c0,c1,c2,c3,c4,c5,c6,c7,rfl⟩
theorem qg_list2 {α:Type} {l:List α} (h:l.length=2):∃ c0 c1,l=[c0,c1]:=by
 match l,h with
 | [c0,c1],_=>exact ⟨c0,c1,rfl⟩
theorem qg_sel_cells:Tryz.prog.cellsOf 42=8:=by kernel_rfl
theorem qg_seg_cells:Tryz.prog.cellsOf 40=2:=by kernel_rfl
theorem qg_sels_cells:Tryz.prog.cellsOf 38=1:=by kernel_rfl
theorem qg_int_cells:Tryz.prog.cellsOf 3=1:=by kernel_rfl
theorem qg_str_cells:Tryz.prog.cellsOf 9=1:=by kernel_rfl
theorem qg_bool_cells:Tryz.prog.cellsOf 4=1:=by kernel_rfl
theorem qg_sel_bytes:Tryz.prog.bytesOf 42=64:=by kernel_rfl
theorem qg_seg_bytes:Tryz.prog.bytesOf 40=32:=by kernel_rfl
theorem weights_inG {H:Type} {P:Program} {e:TypeId}:∀ {l:List (DataW H)} {d:DataW H},d∈l → ∀ n∈d.weights P e,n∈DataW.weightsAll P e l
 | [],_,h,_,_=>by cases h
 | x :: r,d,h,n,hn=>by
   rw[DataW.weightsAll,List.mem_append]
   rcases List.mem_cons.1 h with rfl|h
   ·exact .inl hn
   ·exact .inr (weights_inG h n hn)
theorem addg_succ (ad:Addr)(m:Nat):ad.add (m+1)=⟨ad.block,ad.off+(m+1),none⟩:=by unfold Addr.add;simp
theorem addg_zero (ad:Addr):ad.add 0=ad:=by unfold Addr.add;simp
theorem open_selG {H:Type} {enc:TypeId×Value→H} {W:World} {base:Nat} {sp:Nat→Bool} {held:Bool} {n:Nat} {cs:List Value} {x:DataW H×List MemPlace} (hlen:cs.length=8) (hf:DataW.trod enc Tryz.prog W base sp held n 42 cs=some x) :
   ∃ s:Sel,cs=[.int .i64 s.kind,.string s.name,.int .i64 s.index,.int .i64 s.start,.int .i64 s.en,.bool s.hs,.bool s.he,.int .i64 s.stride]∧s.name.size≤maxLen:=by
 obtain ⟨c0,c1,c2,c3,c4,c5,c6,c7,rfl⟩:=qg_list8 hlen
 obtain ⟨xs,m,_,hxx,_,hl,hf⟩:=DataW.trod_struct Tryz.underlying42 hf
 obtain ⟨y0,y1,y2,y3,y4,y5,y6,y7,rfl⟩:=qg_list8 hl
 have f0:=hf 0 _ rfl
 have f1:=hf 1 _ rfl
 have f2:=hf 2 _ rfl
 have f3:=hf 3 _ rfl
 have f4:=hf 4 _ rfl
 have f5:=hf 5 _ rfl
 have f6:=hf 6 _ rfl
 have f7:=hf 7 _ rfl
 simp[Value.cells,qg_int_cells,qg_str_cells,qg_bool_cells] at f0 f1 f2 f3 f4 f5 f6 f7
 obtain ⟨a0,e0,_⟩:=DataW.trod_int Tryz.underlying3 f0
 obtain ⟨a1,e1,z1,hz⟩:=DataW.trod_string Tryz.underlying9 f1
 obtain ⟨a2,e2,_⟩:=DataW.trod_int Tryz.underlying3 f2
 obtain ⟨a3,e3,_⟩:=DataW.trod_int Tryz.underlying3 f3
 obtain ⟨a4,e4,_⟩:=DataW.trod_int Tryz.underlying3 f4
 obtain ⟨a5,e5,_⟩:=DataW.trod_bool Tryz.underlying4 f5
 obtain ⟨a6,e6,_⟩:=DataW.trod_bool Tryz.underlying4 f6
 obtain ⟨a7,e7,_⟩:=DataW.trod_int Tryz.underlying3 f7
 simp at e0 e1 e2 e3 e4 e5 e6 e7
 subst e0 e1 e2 e3 e4 e5 e6 e7
 exact ⟨⟨a0,a1,a2,a3,a4,a5,a6,a7⟩,rfl,hz⟩
theorem open_selsG {H:Type} {enc:TypeId×Value→H} {W:World} {base:Nat} {sp:Nat→Bool} {held:Bool} {A:Option Addr} {len cap n:Nat} {x:DataW H×List MemPlace}
   (hf:DataW.trod enc Tryz.prog W base sp held n 38 [.slice A len cap]=some x):∃ l,SRd W A len l∧(l.length=0 ∨ ∃ k∈x.1.weights Tryz.prog 38,l.length≤k) ∧ ∀ y∈l,y.name.size≤maxLen:=by
 rcases open_slice Tryz.underlying38 hf with ⟨hcs,e⟩|⟨a,len',cap',m,n',D,Pl,hcs,hb,hl,hm,hmm,hx,hall⟩
 ·simp at hcs
  obtain ⟨rfl,rfl,rfl⟩:=hcs
  exact ⟨[],⟨rfl,fun h=>absurd h (by omega)⟩,.inl rfl,fun y h=>by cases h⟩
 ·simp at hcs
  obtain ⟨rfl,rfl,rfl⟩:=hcs
  have hlm:len≤m:=by rw[hmm];split<;>omega
  have hst:∀ i,i<len → ∃ y:Sel,(W.cell? (a.add (i*8))=some (.int .i64 y.kind)∧W.cell? ⟨(a.add (i*8)).block,(a.add (i*8)).off+1,none⟩=some (.string y.name) ∧
      W.cell? ⟨(a.add (i*8)).block,(a.add (i*8)).off+2,none⟩=some (.int .i64 y.index)∧W.cell? ⟨(a.add (i*8)).block,(a.add (i*8)).off+3,none⟩=some (.int .i64 y.start)∧W.cell? ⟨(a.add (i*8)).block,(a.add (i*8)).off+4,none⟩=some (.int .i64 y.en) ∧
      W.cell? ⟨(a.add (i*8)).block,(a.add (i*8)).off+5,none⟩=some (.bool y.hs)∧W.cell? ⟨(a.add (i*8)).block,(a.add (i*8)).off+6,none⟩=some (.bool y.he)∧W.cell? ⟨(a.add (i*8)).block,(a.add (i*8)).off+7,none⟩=some (.int .i64 y.stride))∧y.name.size≤maxLen:=by
    intro i hi
    obtain ⟨cs',hc,ht⟩:=hall i (by omega)
    rw[qg_sel_cells] at hc
    obtain ⟨_,hlen,hat⟩:=World.cells?_some hc
    obtain ⟨s,rfl,hz⟩:=open_selG hlen ht
    have h0:=hat 0 (by omega)
    have h1:=hat 1 (by omega)
    have h2:=hat 2 (by omega)
    have h3:=hat 3 (by omega)
    have h4:=hat 4 (by omega)
    have h5:=hat 5 (by omega)
    have h6:=hat 6 (by omega)
    have h7:=hat 7 (by omega)
    rw[addg_zero] at h0
    rw[addg_succ] at h1 h2 h3 h4 h5 h6 h7
    exact ⟨s,⟨h0,h1,h2,h3,h4,h5,h6,h7⟩,hz⟩
  obtain ⟨f,hfn⟩:=@choose_lt _ ⟨(⟨0,.empty,0,0,0,false,false,0⟩:Sel)⟩ _ _ hst
  refine ⟨(List.range len).map f,⟨by simp,fun h0=>⟨a,rfl,?_,fun i s hs => ?_⟩⟩,.inr ?_,fun y hy => ?_⟩
  ·have h1:=(hfn 0 h0).1.1
   rw[Nat.zero_mul,addg_zero] at h1
   exact cell_inside h1
  ·have hi:i<len:=by
     have:=(List.getElem?_eq_some_iff.1 hs).1
     simpa using this
   have e:s=f i:=by
     rw[List.getElem?_map,List.getElem?_range hi] at hs
     exact (Option.some.inj hs).symm
   rw[e]
   exact (hfn i hi).1
  ·have e:x.1=.slice ((List.range len).map D) ((List.range (m-len)).map fun j=>D (len+j)):=congrArg Prod.fst hx
   rw[e,DataW.weights,Tryz.underlying38]
   refine ⟨_,List.mem_cons_self,?_⟩
   rw[qg_sel_bytes]
   simp only [List.length_map,List.length_range]
   omega
  ·obtain ⟨i,hi,rfl⟩:=List.mem_map.1 hy
   exact (hfn i (List.mem_range.1 hi)).2
theorem open_segG {H:Type} {enc:TypeId×Value→H} {W:World} {base:Nat} {sp:Nat→Bool} {held:Bool} {n:Nat} {cs:List Value} {x:DataW H×List MemPlace} (hlen:cs.length=2) (hf:DataW.trod enc Tryz.prog W base sp held n 40 cs=some x) :
   ∃ (y:Sgm) (B:Option Addr) (m c:Nat),cs=[.bool y.deep,.slice B m c]∧SRd W B m y.sels∧(y.sels.length=0 ∨ ∃ k∈x.1.weights Tryz.prog 40,y.sels.length≤k) ∧ ∀ z∈y.sels,z.name.size≤maxLen:=by
 obtain ⟨c0,c1,rfl⟩:=qg_list2 hlen
 obtain ⟨xs,m,_,hxx,_,hl,hf⟩:=DataW.trod_struct Tryz.underlying40 hf
 obtain ⟨y0,y1,rfl⟩:=qg_list2 hl
 have f0:=hf 0 _ rfl
 have f1:=hf 1 _ rfl
 simp[Value.cells,qg_sels_cells,qg_bool_cells] at f0 f1
 obtain ⟨a0,e0,_⟩:=DataW.trod_bool Tryz.underlying4 f0
 simp at e0
 subst e0
 obtain ⟨B,k,c,rfl⟩:∃ B k c,c1=.slice B k c:=by
   rcases open_slice Tryz.underlying38 f1 with ⟨hcs,_⟩|⟨a,len',cap',_,_,_,_,hcs,_⟩
   ·simp at hcs;exact ⟨_,_,_,hcs⟩
   ·simp at hcs;exact ⟨_,_,_,hcs⟩
 obtain ⟨l,hl1,hl2,hl3⟩:=open_selsG f1
 refine ⟨⟨a0,l⟩,B,k,c,rfl,hl1,?_,hl3⟩
 rcases hl2 with hl2|⟨k,hk,hle⟩
 ·exact .inl hl2
 ·refine .inr ⟨k,?_,hle⟩
  rw[hxx]
  show k∈DataW.weights Tryz.prog 40 (.agg [y0.1,y1.1])
  rw[DataW.weights,Tryz.underlying40]
  exact DataW.weights_mem_each (j:=1) (t:=38) (d:=y1.1) rfl rfl _ hk
theorem open_queryG {H:Type} {enc:TypeId×Value→H} {W:World} {base:Nat} {sp:Nat→Bool} {held:Bool} {A:Option Addr} {len cap:Nat} {d:DataW H} {ps:List MemPlace}
   (hd:DataW.Trod enc Tryz.prog W base sp held 24 (.slice A len cap) d ps):∃ xs,(QRd W A len xs∧(len=0 ∨ ∃ k∈d.weights Tryz.prog 24,len≤k)) ∧ ∀ x∈xs,(x.sels.length=0 ∨ ∃ k∈d.weights Tryz.prog 24,x.sels.length≤k) ∧ ∀ z∈x.sels,z.name.size≤maxLen:=by
 obtain ⟨fuel,hf⟩:=hd
 rcases open_slice Tryz.underlying24 hf with ⟨hcs,_⟩|⟨a,len',cap',m,n,D,Pl,hcs,hb,hl,hm,hmm,hx,hall⟩
 ·simp[Value.cells] at hcs
  obtain ⟨rfl,rfl,rfl⟩:=hcs
  exact ⟨[],⟨⟨rfl,fun h=>absurd h (by omega)⟩,.inl rfl⟩,fun x h=>by cases h⟩
 ·simp [Value.cells] at hcs
  obtain ⟨rfl,rfl,rfl⟩:=hcs
  have hlm:len≤m:=by rw[hmm];split<;>omega
  have hst:∀ i,i<len → ∃ y:Sgm,(∃ B k c,W.cell? (a.add (i*2))=some (.bool y.deep)∧W.cell? ⟨(a.add (i*2)).block,(a.add (i*2)).off+1,none⟩=some (.slice B k c)∧SRd W B k y.sels)∧(y.sels.length=0 ∨ ∃ k∈d.weights Tryz.prog 24,y.sels.length≤k) ∧ ∀ z∈y.sels,z.name.size≤maxLen:=by
    intro i hi
    obtain ⟨cs',hc,ht⟩:=hall i (by omega)
    rw[qg_seg_cells] at hc
    obtain ⟨_,hlen,hat⟩:=World.cells?_some hc
    obtain ⟨y,B,k,c,rfl,hs,hz,hz2⟩:=open_segG hlen ht
    have h0:=hat 0 (by omega)
    have h1:=hat 1 (by omega)
    rw[addg_zero] at h0
    rw[addg_succ] at h1
    refine ⟨y,⟨B,k,c,h0,h1,hs⟩,?_,hz2⟩
    rcases hz with hz|⟨r,hr,hle⟩
    ·exact .inl hz
    ·refine .inr ⟨r,?_,hle⟩
     have e:d=.slice ((List.range len).map D) ((List.range (m-len)).map fun j=>D (len+j)):=congrArg Prod.fst hx
     rw[e,DataW.weights,Tryz.underlying24]
     exact List.mem_cons_of_mem _ (List.mem_append_left _ (weights_inG (e:=40) (d:=D i) (List.mem_map.2 ⟨i,List.mem_range.2 hi,rfl⟩) _ hr))
  obtain ⟨f,hfn⟩:=@choose_lt _ ⟨(⟨false,[]⟩:Sgm)⟩ _ _ hst
  refine ⟨(List.range len).map f,⟨⟨by simp,fun h0=>⟨a,rfl,?_,fun i s hs => ?_⟩⟩,.inr ?_⟩,fun x hx => ?_⟩
  ·obtain ⟨B,k,c,h1,_⟩:=(hfn 0 h0).1
   rw[Nat.zero_mul,addg_zero] at h1
   exact cell_inside h1
  ·have hi:i<len:=by
     have:=(List.getElem?_eq_some_iff.1 hs).1
     simpa using this
   have e:s=f i:=by
     rw[List.getElem?_map,List.getElem?_range hi] at hs
     exact (Option.some.inj hs).symm
   rw[e]
   exact (hfn i hi).1
  ·have e:d=.slice ((List.range len).map D) ((List.range (m-len)).map fun j=>D (len+j)):=congrArg Prod.fst hx
   rw[e,DataW.weights,Tryz.underlying24]
   refine ⟨_,List.mem_cons_self,?_⟩
   rw[qg_seg_bytes]
   simp only [List.length_map,List.length_range]
   omega
  ·obtain ⟨i,hi,rfl⟩:=List.mem_map.1 hx
   exact (hfn i (List.mem_range.1 hi)).2
def ReQ (xs:List Sgm):Prop:=∀ x∈xs,x.sels.length≤140737488355327 ∧ ∀ y∈x.sels,y.name.size≤maxLen
theorem ReQ.big {xs:List Sgm}(h:ReQ xs)(hl:xs.length≤8):BgQ xs:=⟨Nat.le_trans hl (by decide),h⟩
theorem query_reach {H:Type} {ts:List TypeId} {ds:List (DataW H)} (h:(DataW.weightsEach Tryz.prog ts ds).all (· ≤ reachBytes)=true) {j:Nat} {d:DataW H} (ht:ts[j]?=some 24) (hd:ds[j]?=some d) {len:Nat} {xs:List Sgm}
   (hl:len=0 ∨ ∃ k∈d.weights Tryz.prog 24,len≤k)
   (hx:∀ x∈xs,(x.sels.length=0 ∨ ∃ k∈d.weights Tryz.prog 24,x.sels.length≤k) ∧ ∀ z∈x.sels,z.name.size≤maxLen):ReQ xs∧len≤maxLen:=by
 refine ⟨fun x hxm => ?_,?_⟩
 rotate_left
 ·unfold maxLen
  rcases hl with hl|⟨k,hk,hle⟩
  ·omega
  ·have hr:k≤140737488351232:=of_decide_eq_true (List.all_eq_true.1 h _ (DataW.weights_mem_each ht hd k hk))
   omega
 obtain ⟨h1,h2⟩:=hx x hxm
 refine ⟨?_,h2⟩
 rcases h1 with h1|⟨k,hk,hle⟩
 ·omega
 ·have hr:k≤140737488351232:=of_decide_eq_true (List.all_eq_true.1 h _ (DataW.weights_mem_each ht hd k hk))
  omega
end
end Go.Proofs.YtnokhgfifbkflaaGreat
