/- Lemmas. -/
import Derived.Test.YtmgdjlkndbejkaaDoorJ25
set_option maxRecDepth 100000
set_option maxHeartbeats 8000000
set_option linter.unusedVariables false
set_option linter.unusedSimpArgs false
namespace Go.Proofs.YtmgdjlkndbejkaaDoor
open Go.Lib (hid)
section
open Go.RowKit
theorem make_row {α:Type} (K:RowK α) (w:World) (n:Nat) (hn:n≤1000000) :
   (Instr.makeSlice K.S (.int .i64 n) (.int .i64 n)).run Tryd.prog w=.ok (.slice (some ⟨w.heap.size,0,none⟩) n n) (w.alloc (.cells (madeCells K.zero.cells (n*K.n)) K.T)):=by
 have hinfo:=K.info
 cases hq:Tryd.prog.info? K.T with
 | none=>rw[hq] at hinfo;cases hinfo
 | some i =>
   rw[hq] at hinfo
   simp only [Option.map_some,Option.some.injEq,Prod.mk.injEq] at hinfo
   obtain ⟨h1,h2,h3⟩:=hinfo
   have hs:=K.small
   have hb:(i.bytes:Int)*(n:Int)≤281474976710656:=by
     have h4:i.bytes*n≤1000*1000000:=Nat.mul_le_mul (by omega) hn
     have h5:(i.bytes:Int)*(n:Int)=((i.bytes*n:Nat):Int):=by simp
     rw[h5]
     omega
   have:=run_make (P:=Tryd.prog) w K.S K.T i K.zero K.under hq h1 .i64 .i64 n n (by omega) (by omega) hb (by omega)
   rw[h2] at this
   simpa using this
theorem copy_whole {P:Program} (w:World) (dT ty elem t:TypeId) (g m c N:Nat) (cur:Array Value) (A:Option Addr) (cs:List Value) (hu:P.underlying dT=some (.slice elem)) (hs:(P.info? elem).map (·.size)=some N)
   (hg:w.heap[g]?=some (.cells cur t (0,0))) (hl:cs.length=m*N) (hcur:cur.size=m*N) (hsrc:0<m → ∃ a:Addr,A=some a ∧ ∀ j v,cs[j]?=some v→w.cell? (a.add j)=some v) (h1:∀ v∈cs,v.oneCell'=true) :
   (Builtin.copy_ #[dT,dT] ty #[.slice (some ⟨g,0,none⟩) m m,.slice A m c]).run P w=.ok (goInt m) (w.setRow g cs.toArray):=by
 cases hq:P.info? elem with
 | none=>simp[hq] at hs
 | some i =>
   have hi:i.size=N:=by simpa [hq] using hs
   by_cases hm:0<m
   ·obtain ⟨a,rfl,hc⟩:=hsrc hm
    have hld:=run_loadCells_list (P:=P) w a cs hc
    have hst:=run_storeCells_at P g 0 t cs 0 cur w hg (by omega) h1
    have he:(cur.toList.take (0+0)++cs++cur.toList.drop (0+0+cs.length)).toArray=cs.toArray:=by
      rw[List.drop_of_length_le (by simp;omega)]
      simp
    rw[he] at hst
    simp[Builtin.copy_,run_underlying hu,Builtin.lenOf,Builtin.firstCells,sizeOf,typeInfo,hq,hi,← hl,hld,hst]
   ·obtain rfl:m=0:=by omega
    obtain rfl:cs=[]:=List.eq_nil_of_length_eq_zero (by omega)
    have hc0:cur = #[]:=Array.eq_empty_of_size_eq_zero (by omega)
    subst hc0
    have hld:∀ (x:Addr),(loadCells x 0).run P w=.ok #[] w:=fun x=>by simpa using run_loadCells_list (P:=P) w x [] (by simp)
    rw[setRow_self w g #[] t (0,0) hg]
    cases A<;>simp[Builtin.copy_,run_underlying hu,Builtin.lenOf,Builtin.firstCells,sizeOf,typeInfo,hq,storeCells,hld]
def zsC:Nat→List Value
 | 0=>[]
 | n+1=>.bool false :: .slice none 0 0 :: zsC n
theorem zsC_len:∀ n,(zsC n).length=n*2
 | 0=>rfl
 | n+1=>by
   show (zsC n).length+1+1=_
   rw[zsC_len n]
   omega
theorem zsC_even:∀ n i,i<n→(zsC n)[i*2]?=some (.bool false)∧(zsC n)[i*2+1]?=some (.slice none 0 0)
 | n+1,0,_=>⟨rfl,rfl⟩
 | n+1,i+1,h=>by
   have:=zsC_even n i (by omega)
   rw[show (i+1)*2=i*2+2 by omega]
   exact this
theorem zsC_made (n:Nat):madeCells (Value.agg #[.bool false,.slice none 0 0]).cells (n*2)=(zsC n).toArray:=by
 apply Array.ext
 ·rw[size_madeCells]
  simp[zsC_len]
 ·intro i h1 h2
  rw[size_madeCells] at h1
  have h3:i<(zsC n).length:=by rw[zsC_len];exact h1
  have e1:(zsC n).toArray[i]=(zsC n)[i]:=by simp
  rw[e1]
  obtain ⟨a,b⟩:=zsC_even n (i/2) (by omega)
  rcases Nat.mod_two_eq_zero_or_one i with h|h
  ·rw[show i/2*2=i by omega,List.getElem?_eq_getElem h3] at a
   rw[Option.some.inj a]
   simp[madeCells,Value.cells,h]
  ·rw[show i/2*2+1=i by omega,List.getElem?_eq_getElem h3] at b
   rw[Option.some.inj b]
   simp[madeCells,Value.cells,h]
theorem zsC_put (l:List Value) (r:Nat) (d s:Value) (i:Nat) (hi:i=l.length):(((l++zsC (r+1)).toArray.setIfInBounds i d).setIfInBounds (i+1) s)=((l++[d,s])++zsC r).toArray:=by
 rw[set_tail l (zsC (r+1)) i 0 d (by omega),set_tail l _ (i+1) 1 s (by omega)]
 congr 1
 show l++d :: s :: zsC r=_
 simp
theorem add_off14 (a:Addr) (k:Nat):(a.add k).off=a.off+k:=by
 unfold Addr.add
 split
 ·simp_all
 ·rfl
theorem add_pos14 (a:Addr) (j:Nat) (h:j≠0):a.add j=⟨a.block,a.off+j,none⟩:=by
 unfold Addr.add
 rw[if_neg h]
theorem add_part (a:Addr) (j r:Nat) (h:j%8=r) (h0:r≠0):a.add j=⟨(a.add (j/8*8)).block,(a.add (j/8*8)).off+r,none⟩:=by
 rw[add_block14,add_off14,add_pos14 a j (by omega),show a.off+j/8*8+r=a.off+j by omega]
theorem srd_cells {w:World} {B:Option Addr} {m:Nat} {l:List Sel} (h:SRd w B m l) (hm:0<m):∃ a:Addr,B=some a ∧ ∀ j v,(selK.all l)[j]?=some v→w.cell? (a.add j)=some v:=by
 obtain ⟨a,e,ha,hc⟩:=h.2 hm
 refine ⟨a,e,fun j v hv => ?_⟩
 have hlt:j<(selK.all l).length:=(List.getElem?_eq_some_iff.1 hv).1
 rw[selK.all_len,show selK.n=8 from rfl] at hlt
 have hi:j/8<l.length:=by omega
 have hat:=selK.all_at l (j/8) l[j/8] (List.getElem?_eq_getElem hi) (j%8) (by show j%8<8;omega)
 rw[show selK.n=8 from rfl,show j/8*8+j%8=j by omega,hv] at hat
 obtain ⟨c0,c1,c2,c3,c4,c5,c6,c7⟩:=hc (j/8) l[j/8] (List.getElem?_eq_getElem hi)
 generalize l[j/8]=y at *
 have hr:j%8=0∨j%8=1∨j%8=2∨j%8=3∨j%8=4∨j%8=5∨j%8=6∨j%8=7:=by omega
 rcases hr with hr|hr|hr|hr|hr|hr|hr|hr
 ·rw[hr] at hat
  rw[show a.add j=a.add (j/8*8) by rw[show j/8*8=j by omega],c0]
  exact hat.symm
 ·rw[add_part a j 1 hr (by decide),c1]
  rw[hr] at hat
  exact hat.symm
 ·rw[add_part a j 2 hr (by decide),c2]
  rw[hr] at hat
  exact hat.symm
 ·rw[add_part a j 3 hr (by decide),c3]
  rw[hr] at hat
  exact hat.symm
 ·rw[add_part a j 4 hr (by decide),c4]
  rw[hr] at hat
  exact hat.symm
 ·rw[add_part a j 5 hr (by decide),c5]
  rw[hr] at hat
  exact hat.symm
 ·rw[add_part a j 6 hr (by decide),c6]
  rw[hr] at hat
  exact hat.symm
 ·rw[add_part a j 7 hr (by decide),c7]
  rw[hr] at hat
  exact hat.symm
def SgsOK (w:World) (base:Nat) (ss:List SegV) (xs:List Sgm):Prop :=
 ss.length≤xs.length ∧ ∀ (i:Nat) (s:SegV) (x:Sgm),ss[i]?=some s→xs[i]?=some x→s.deep=x.deep∧GRow selK w base (.slice s.A s.n s.c) x.sels
theorem GRow.stayT {α:Type} {K:RowK α} {w w':World} {base:Nat} {v:Value} {l:List α} (h:GRow K w base v l) (hb:∀ g,base≤g→g<w.heap.size→w'.heap[g]?=w.heap[g]?):GRow K w' base v l :=
 h.stay fun g hg=>hb g (h.low hg).1 (h.low hg).2
theorem SgsOK.stay {w w':World} {base:Nat} {ss:List SegV} {xs:List Sgm} (h:SgsOK w base ss xs) (hb:∀ g,base≤g→g<w.heap.size→w'.heap[g]?=w.heap[g]?):SgsOK w' base ss xs :=
 ⟨h.1,fun i s x hs hx=>⟨(h.2 i s x hs hx).1,(h.2 i s x hs hx).2.stayT hb⟩⟩
theorem SgsOK.more {w:World} {base:Nat} {ss:List SegV} {xs:List Sgm} {s:SegV} (h:SgsOK w base ss xs) (hlt:ss.length<xs.length) (hd:s.deep=xs[ss.length].deep) (hs:GRow selK w base (.slice s.A s.n s.c) xs[ss.length].sels):SgsOK w base (ss++[s]) xs:=by
 refine ⟨by simp;omega,fun i u x hu hx => ?_⟩
 by_cases hi:i<ss.length
 ·rw[List.getElem?_append_left hi] at hu
  exact h.2 i u x hu hx
 ·have hlt2:=(List.getElem?_eq_some_iff.1 hu).1
  rw[List.length_append] at hlt2
  obtain rfl:i=ss.length:=by simp at hlt2;omega
  rw[List.getElem?_append_right (Nat.le_refl _),Nat.sub_self] at hu
  obtain rfl:s=u:=by simpa using hu
  rw[List.getElem?_eq_getElem hlt] at hx
  obtain rfl:=Option.some.inj hx
  exact ⟨hd,hs⟩
theorem SgsOK.all {w:World} {b:Nat} {ss:List SegV} {xs:List Sgm} (h:SgsOK w (b+1) ss xs) (hl:ss.length=xs.length) (h9:xs.length≤1000000) (ho:Own w b 28 (sgmK.all ss).toArray):QRd w (some ⟨b,0,none⟩) xs.length xs:=by
 have hq:QIs w b (.slice (some ⟨b,0,none⟩) xs.length xs.length) xs:=by
   refine ⟨ss,?_,hl,fun i s x hs hx=>⟨(h.2 i s x hs hx).1,(h.2 i s x hs hx).2.mono (by omega)⟩⟩
   refine ⟨sgmK.all_len ss,.inr ⟨b,xs.length,_,by rw[hl],Nat.le_refl _,ho,by omega,by unfold maxLen;omega,by simp[sgmK.all_len,hl],?_⟩⟩
   rw[List.take_of_length_le]
   simp[sgmK.all_len]
 obtain ⟨A,c,e,hr⟩:=qrd_of hq
 injection e with e1 e2 e3
 subst e1
 exact hr
end
section
open Go.RowKit
def RelCl (W:World) (xs:List Sgm) (i:Value) (wr:World):Prop :=
 ∃ (k:Nat) (ss:List SegV),k≤xs.length∧ss.length=k∧i=.int .i64 k∧Own wr W.heap.size 28 (sgmK.all ss++zsC (xs.length-k)).toArray∧SgsOK wr (W.heap.size+1) ss xs∧Below W.heap.size W wr
def ClEnd15 (W:World)(xs:List Sgm)(e:Ending)(w':World):Prop:=∃ A' n' c',e=.returned (.slice A' n' c')∧QRd w' A' n' xs∧Below W.heap.size W w'
theorem clone_sels (w:World) (B:Option Addr) (m c:Nat) (ys:List Sel) (o:Obj) (h:SRd w B m ys) (hm:m≤1000000) :
   ∃ w2,(Builtin.copy_ #[26,26] 3 #[.slice (some ⟨w.heap.size+1,0,none⟩) m m,.slice B m c]).run Tryd.prog ((w.alloc o).alloc (.cells (madeCells selK.zero.cells (m*8)) 30))=.ok (.int .i64 m) w2 ∧
     GRow selK w2 (w.heap.size+1) (.slice (some ⟨w.heap.size+1,0,none⟩) m m) ys∧Below w.heap.size w w2∧(w.alloc o).heap[w.heap.size]?=w2.heap[w.heap.size]?:=by
 have hl:ys.length=m:=h.1
 have e1:(w.alloc o).heap.size=w.heap.size+1:=by simp
 have hO:=Own.fresh (w.alloc o) 30 (madeCells selK.zero.cells (m*8))
 rw[e1] at hO
 have hb2:Below w.heap.size w ((w.alloc o).alloc (.cells (madeCells selK.zero.cells (m*8)) 30)):=((Below.refl _ w).alloc (Nat.le_refl _) o).alloc (by simp) _
 have hcp:=copy_whole (P:=Tryd.prog) ((w.alloc o).alloc (.cells (madeCells selK.zero.cells (m*8)) 30)) 26 3 30 30 (w.heap.size+1) m c 8 _ B (selK.all ys) Tryd.underlying26 (by kernel_rfl) hO
   (by rw[selK.all_len,hl];rfl) (size_madeCells _ _) (fun hm0=>srd_cells (h.stay hb2) hm0) (selK.all_one ys)
 have hset:=setRow_heap ((w.alloc o).alloc (.cells (madeCells selK.zero.cells (m*8)) 30)) (w.heap.size+1) _ (selK.all ys).toArray 30 _ hO
 refine ⟨_,hcp,?_,?_,?_⟩
 ·refine ⟨selK.all_len ys,.inr ⟨w.heap.size+1,m,_,by rw[hl],Nat.le_refl _,hset,by omega,by unfold maxLen;omega,by simp[selK.all_len,hl],?_⟩⟩
  rw[List.take_of_length_le]
  simp[selK.all_len]
 ·refine ⟨hb2.os,hb2.tape,hb2.output,by simp[World.setRow];omega,fun k hk => ?_⟩
  rw[setRow_other _ _ k _ (by omega)]
  exact hb2.block k hk
 ·rw[setRow_other _ _ w.heap.size _ (by omega)]
  exact ((Below.refl (w.alloc o).heap.size (w.alloc o)).alloc (Nat.le_refl _) _).block _ (by simp) |>.symm
theorem wclone15_any (xs:List Sgm) (A:Option Addr) (n c:Nat) (W:World) (hx:QRd W A n xs) (hs:SmQ xs) :
   Calls Tryd.prog 15 #[.slice A n c] W (ClEnd15 W xs):=by
 have hl:xs.length=n:=hx.1
 have h9:=hs.1
 have HS:=hid hs.2
 have HX:=hid hx
 have hmk:(Instr.makeSlice 23 (.int .i64 (n:Int)) (.int .i64 (n:Int))).run Tryd.prog W=.ok (.slice (some ⟨W.heap.size,0,none⟩) n n) (W.alloc (.cells (zsC n).toArray 28)):=by
   have:=make_row sgmK W n (by omega)
   rw[show sgmK.n=2 from rfl,show sgmK.zero=.agg #[.bool false,.slice none 0 0] from rfl,zsC_made] at this
   exact this
 have hst:RelCl W xs (.int .i64 0) (W.alloc (.cells (zsC n).toArray 28)):=by
   refine ⟨0,[],Nat.zero_le _,rfl,rfl,?_,⟨Nat.zero_le _,fun i s x h=>by simp at h⟩,below1 _ _⟩
   rw[hl,Nat.sub_zero]
   exact Own.fresh W 28 (zsC n).toArray
 have HST:=hid hst
 clear hx hs hst
 go_enter Tryd.func15,Tryd.ntmps15
 go_wp2
 go_loopw [12] (fun i wr=>RelCl W xs i wr) (fun i _=>xs.length-(intOf i).toNat)
 case atStart=>exact HST.out
 case round =>
   obtain ⟨k,ss,hk,hss,rfl,ho,hg,hb⟩:=hrel
   have hk9:(k:Int)≤1000:=by omega
   by_cases hlt:k<xs.length
   rotate_left
   ·have q2:¬ (k:Int)<n:=by omega
    have HE:=hid (show QRd wr (some ⟨W.heap.size,0,none⟩) xs.length xs from hg.all (by omega) (by omega) (by rw[show xs.length-k=0 by omega] at ho;simpa [zsC] using ho))
    clear ho hg
    go_wp2
    go_ret
    have HE2:=HE.out
    rw[hl] at HE2
    exact ⟨_,_,_,rfl,HE2,hb⟩
   have q2:(k:Int)<n:=by omega
   obtain ⟨a,rfl,ha,hc⟩:=HX.out.2 (by omega)
   obtain ⟨B,m,cc,s0,s1,sr⟩:=hc k xs[k] (List.getElem?_eq_getElem hlt)
   have ha2:(a.add (k*2)).block<W.heap.size:=by rw[add_block14];exact ha
   have c0:=(hb.cell ha2).trans s0
   have c1:=(hb.cell (p:=⟨(a.add (k*2)).block,(a.add (k*2)).off+1,none⟩) ha2).trans s1
   obtain ⟨z1,z2⟩:=HS.out _ (List.getElem_mem hlt)
   have hm:xs[k].sels.length=m:=sr.1
   have hm9:(m:Int)≤1000:=by omega
   have hmk2:∀ o:Obj,(Instr.makeSlice 26 (.int .i64 (m:Int)) (.int .i64 (m:Int))).run Tryd.prog (wr.alloc o)=.ok (.slice (some ⟨wr.heap.size+1,0,none⟩) m m) ((wr.alloc o).alloc (.cells (madeCells selK.zero.cells (m*8)) 30)):=fun o=>by
     have:=make_row selK (wr.alloc o) m (by omega)
     rw[show (wr.alloc o).heap.size=wr.heap.size+1 by simp] at this
     exact this
   have hmk3:=hmk2 (.cells #[.bool xs[k].deep,.slice B m cc] 28)
   obtain ⟨w2,hcp,hgr,hb2,hsame⟩:=clone_sels wr B m cc xs[k].sels (.cells #[.bool xs[k].deep,.slice B m cc] 28) (sr.stay hb) (by omega)
   have o2:Own w2 wr.heap.size 28 #[.bool xs[k].deep,.slice B m cc]:=hsame.symm.trans (Own.fresh wr 28 #[.bool xs[k].deep,.slice B m cc])
   have d0:w2.cell? ⟨wr.heap.size,0,none⟩=some (.bool xs[k].deep):=o2.at 0
   have oC:Own w2 W.heap.size 28 (sgmK.all ss++zsC (xs.length-k)).toArray:=ho.stay hb2 ho.inside
   have hal:(sgmK.all ss).length=k*2:=by rw[sgmK.all_len,hss];rfl
   obtain ⟨r,hr⟩:∃ r,xs.length-k=r+1:=⟨xs.length-k-1,by omega⟩
   have e0:w2.cell? ⟨W.heap.size,k*2,none⟩=some (.bool false):=by
     rw[oC.at,hr]
     simp only [List.getElem?_toArray]
     rw[List.getElem?_append_right (by omega),hal,Nat.sub_self]
     rfl
   have e1:w2.cell? ⟨W.heap.size,k*2+1,none⟩=some (.slice none 0 0):=by
     rw[oC.at,hr]
     simp only [List.getElem?_toArray]
     rw[List.getElem?_append_right (by omega),hal,show k*2+1-k*2=1 by omega]
     rfl
   have f0:=oC.free (k*2)
   have f1:=oC.free (k*2+1)
   have HN:=hid (show RelCl W xs (.int .i64 ((k+1:Nat):Int)) ((w2.setCell ⟨W.heap.size,k*2,none⟩ (.bool xs[k].deep)).setCell ⟨W.heap.size,k*2+1,none⟩ (.slice (some ⟨wr.heap.size+1,0,none⟩) m m)) from by
     have hz:=hb.size
     refine ⟨k+1,ss++[⟨xs[k].deep,some ⟨wr.heap.size+1,0,none⟩,m,m⟩],hlt,by simp[hss],rfl,?_,?_,?_⟩
     ·have:=(oC.put (k*2) (.bool xs[k].deep)).put (k*2+1) (.slice (some ⟨wr.heap.size+1,0,none⟩) m m)
      rw[hr,zsC_put _ r _ _ (k*2) hal.symm] at this
      rw[show xs.length-(k+1)=r by omega,sgmK.all_append]
      exact this
     ·have hgs:=hg.stay (w':=w2) (fun g _ h2=>hb2.block g h2)
      have hmore:=hgs.more (s:=⟨xs[k].deep,some ⟨wr.heap.size+1,0,none⟩,m,m⟩) (by omega) (by subst hss;rfl) (by subst hss;exact hgr.mono (by omega))
      refine hmore.stay (fun g h1 _ => ?_)
      rw[Below.heap_setCell _ _ _ _ (by show g≠W.heap.size;omega),Below.heap_setCell _ _ _ _ (by show g≠W.heap.size;omega)]
     ·exact ((hb.trans (hb2.mono hz)).setCell (p:=⟨W.heap.size,k*2,none⟩) (Nat.le_refl _) _).setCell (p:=⟨W.heap.size,k*2+1,none⟩) (Nat.le_refl _) _)
   clear hc s0 s1 sr hmk2 hgr hb2 hsame o2 oC ho hg z1 z2 hm
   generalize xs[k]=x at *
   generalize x.deep=dp at *
   generalize madeCells selK.zero.cells (m*8)=MC at *
   go_wp2
   go_roundw
   case rel=>exact HN.out
   case measure=>simp[intOf];omega
end
section
open Go.RowKit
theorem sameQ_any (xs ys:List Sgm) (A A':Option Addr) (n n' c c':Nat) (W:World) (hx:QRd W A n xs) (hx':QRd W A' n' ys) (h9:n≤1000000) (h9':n'≤1000000) (hs9:∀ x∈xs,x.sels.length≤1000000) (ht9:∀ x∈ys,x.sels.length≤1000000) :
   Calls Tryd.prog 14 #[.slice A n c,.slice A' n' c'] W (SqEnd xs ys W):=by
 have hl:xs.length=n:=hx.1
 have hl':ys.length=n':=hx'.1
 have HX:=hid hx
 have HX':=hid hx'
 clear hx hx'
 by_cases hn:n=n'
 rotate_left
 ·have q:((n:Int) != n')=true:=bne_iff_ne.2 (by omega)
  have HF:=hid (show ¬ xs=ys from fun e=>hn (by rw[← hl,← hl',e]))
  clear hl hl' hs9 ht9
  go_enter Tryd.func14,Tryd.ntmps14
  go_wp2
  go_ret
  exact ⟨false,rfl,⟨fun h=>(by cases h),fun h=>absurd h HF.out⟩,Below.refl _ _⟩
 subst hn
 have q:((n:Int) != n)=false:=by simp
 have HS:=hid hs9
 have HT:=hid ht9
 clear hs9 ht9
 go_enter Tryd.func14,Tryd.ntmps14
 go_wp2
 go_loopw [14] (fun i wr=>RelSo W xs ys i wr) (fun i _=>xs.length-(intOf i).toNat)
 case atStart=>exact ⟨0,Nat.zero_le _,rfl,rfl,Below.refl _ _⟩
 case round =>
   obtain ⟨k,hk,rfl,ht,hb⟩:=hrel
   by_cases hlt:k<xs.length
   rotate_left
   ·have q2:¬ (k:Int)<n:=by omega
    have HE:=hid (show xs=ys by rw[← List.take_of_length_le (l:=xs) (i:=k) (by omega),ht,List.take_of_length_le (by omega)])
    clear ht
    go_wp2
    go_ret
    exact ⟨true,rfl,⟨fun _=>HE.out,fun _=>rfl⟩,hb⟩
   have q2:(k:Int)<n:=by omega
   have hlt':k<ys.length:=by omega
   have hX2:=HX.out.stay hb
   have hX2':=HX'.out.stay hb
   obtain ⟨a,rfl,ha,hc⟩:=hX2.2 (by omega)
   obtain ⟨a',rfl,ha',hc'⟩:=hX2'.2 (by omega)
   obtain ⟨B,m,cc,s0,s1,sr⟩:=hc k xs[k] (List.getElem?_eq_getElem hlt)
   obtain ⟨B',m',cc',t0,t1,tr⟩:=hc' k ys[k] (List.getElem?_eq_getElem hlt')
   have HON:=hid (fun h=>take_on hlt hlt' ht h)
   have HNO:=hid (fun h=>at_not hlt hlt' h)
   have HK:=hid (show xs[k]?=some xs[k] from List.getElem?_eq_getElem hlt)
   have HK':=hid (show ys[k]?=some ys[k] from List.getElem?_eq_getElem hlt')
   have m9:=HS.out _ (List.getElem_mem hlt)
   have m9':=HT.out _ (List.getElem_mem hlt')
   clear hX2 hX2' hc hc' ht
   generalize xs[k]=x at *
   generalize ys[k]=y at *
   have SR:=hid sr
   have TR:=hid tr
   have hm:x.sels.length=m:=sr.1
   have hm':y.sels.length=m':=tr.1
   clear sr tr
   have hk9:(k:Int)≤1000000:=by omega
   by_cases h1:x.deep=y.deep
   rotate_left
   ·have HF:=hid (HNO.out (fun e=>h1 (by rw[e])))
    clear SR TR HON HNO HK HK' m9 m9' hm hm'
    cases hxd:x.deep
    ·cases hyd:y.deep
     ·exact absurd (hxd.trans hyd.symm) h1
     ·rw [hxd] at s0
      rw[hyd] at t0
      clear h1 hxd hyd
      go_wp2_with fail
      go_region
      all_goals
        go_wp2
        go_ret
        exact ⟨false,rfl,⟨fun h=>(by cases h),fun h=>absurd h HF.out⟩,below_drewN (n:=1) hb⟩
    ·cases hyd:y.deep
     ·rw [hxd] at s0
      rw[hyd] at t0
      clear h1 hxd hyd
      go_wp2_with fail
      go_region
      all_goals
        go_wp2
        go_ret
        exact ⟨false,rfl,⟨fun h=>(by cases h),fun h=>absurd h HF.out⟩,below_drewN (n:=1) hb⟩
     ·exact absurd (hxd.trans hyd.symm) h1
   have g1:(x.deep != y.deep)=false:=by rw[h1];simp
   rw[h1] at s0
   have g1:(y.deep != y.deep)=false:=by simp
   by_cases h2:m=m'
   rotate_left
   ·have HF:=hid (HNO.out (fun e=>h2 (by rw[← hm,← hm',e])))
    have g2:((m:Int) != m')=true:=bne_iff_ne.2 (by omega)
    go_wp2_with fail
    go_region
    all_goals
      go_wp2
      go_ret
      exact ⟨false,rfl,⟨fun h=>(by cases h),fun h=>absurd h HF.out⟩,below_drewN (n:=1) hb⟩
   subst h2
   have g2:((m:Int) != m)=false:=by simp
   have mI:(m:Int)≤1000000:=by omega
   have HON2:=hid (fun h:x.sels=y.sels=>HON.out (sgm_eq h1 h))
   have HNO2:=hid (fun h:x.sels≠y.sels=>HNO.out (fun e=>h (by rw[e])))
   go_wp2_with fail
   go_region
   all_goals
     have hb2:=below_drewN (n:=1) hb
     clear SR TR hb
     go_wp2
     go_loopw [49] (fun j w=>RelSi W x.sels y.sels j w) (fun j _=>x.sels.length-(intOf j).toNat)
     case atStart=>exact ⟨0,Nat.zero_le _,rfl,rfl,hb2⟩
     case round =>
       obtain ⟨j,hj,rfl,htj,hbj⟩:=hrel
       by_cases hjl:j<x.sels.length
       rotate_left
       ·have q3:¬ (j:Int)<m:=by omega
        have HE:=hid (HON2.out (show x.sels=y.sels by rw[← List.take_of_length_le (l:=x.sels) (i:=j) (by omega),htj,List.take_of_length_le (by omega)]))
        clear htj
        go_wp2
        go_roundw
        case rel=>exact ⟨k+1,hlt,by go_num,HE.out,hbj⟩
        case measure=>simp[intOf];omega
       have q3:(j:Int)<m:=by omega
       have hjl':j<y.sels.length:=by omega
       have hXj:=HX.out.stay hbj
       have hYj:=HX'.out.stay hbj
       obtain ⟨a2,ea,ha2,hc2⟩:=hXj.2 (by omega)
       obtain rfl:=Option.some.inj ea
       obtain ⟨a3,ea',ha3,hc3⟩:=hYj.2 (by omega)
       obtain rfl:=Option.some.inj ea'
       obtain ⟨B2,m2,cc2,u0,u1,ur⟩:=hc2 k x HK.out
       obtain ⟨B3,m3,cc3,v0,v1,vr⟩:=hc3 k y HK'.out
       obtain rfl:m=m2:=by rw[← hm];exact ur.1
       obtain rfl:m=m3:=by rw[← hm'];exact vr.1
       obtain ⟨b2,rfl,hb2',d2⟩:=ur.2 (by omega)
       obtain ⟨b3,rfl,hb3',d3⟩:=vr.2 (by omega)
       obtain ⟨w0,w1,w2,w3,w4,w5,w6,w7⟩:=d2 j x.sels[j] (List.getElem?_eq_getElem hjl)
       obtain ⟨z0,z1,z2,z3,z4,z5,z6,z7⟩:=d3 j y.sels[j] (List.getElem?_eq_getElem hjl')
       have HJ:=hid (fun h=>take_on hjl hjl' htj h)
       have HJN:=hid (fun h=>HNO2.out (at_not hjl hjl' h))
       clear hXj hYj hc2 hc3 ur vr d2 d3 htj
       generalize x.sels[j]=p at *
       generalize y.sels[j]=r at *
       by_cases f0:p.kind=r.kind
       rotate_left
       ·have HF:=hid (HJN.out (fun e=>f0 (by rw[e])))
        go_wp2_with fail
        go_region
        all_goals
          go_wp2
          go_ret
          exact ⟨false,rfl,⟨fun h=>(by cases h),fun h=>absurd h HF.out⟩,below_drewN (n:=1) hbj⟩
       by_cases f1:p.name=r.name
       rotate_left
       ·have HF:=hid (HJN.out (fun e=>f1 (by rw[e])))
        have hne:¬ p.name.toList=r.name.toList:=fun e=>f1 (by rw[ByteArray.toList_eq,ByteArray.toList_eq] at e;rw[← ba_list p.name,← ba_list r.name,e])
        go_wp2_with fail
        go_region
        all_goals
          go_wp2
          go_ret
          exact ⟨false,rfl,⟨fun h=>(by cases h),fun h=>absurd h HF.out⟩,below_drewN (n:=1) hbj⟩
       by_cases f2:p.index=r.index
       rotate_left
       ·have HF:=hid (HJN.out (fun e=>f2 (by rw[e])))
        go_wp2_with fail
        go_region
        all_goals
          go_wp2
          go_ret
          exact ⟨false,rfl,⟨fun h=>(by cases h),fun h=>absurd h HF.out⟩,below_drewN (n:=1) hbj⟩
       by_cases f3:p.start=r.start
       rotate_left
       ·have HF:=hid (HJN.out (fun e=>f3 (by rw[e])))
        go_wp2_with fail
        go_region
        all_goals
          go_wp2
          go_ret
          exact ⟨false,rfl,⟨fun h=>(by cases h),fun h=>absurd h HF.out⟩,below_drewN (n:=1) hbj⟩
       by_cases f4:p.en=r.en
       rotate_left
       ·have HF:=hid (HJN.out (fun e=>f4 (by rw[e])))
        go_wp2_with fail
        go_region
        all_goals
          go_wp2
          go_ret
          exact ⟨false,rfl,⟨fun h=>(by cases h),fun h=>absurd h HF.out⟩,below_drewN (n:=1) hbj⟩
       by_cases f5:p.hs=r.hs
       rotate_left
       ·have HF:=hid (HJN.out (fun e=>f5 (by rw[e])))
        go_wp2_with fail
        go_region
        all_goals
          go_wp2
          go_ret
          exact ⟨false,rfl,⟨fun h=>(by cases h),fun h=>absurd h HF.out⟩,below_drewN (n:=1) hbj⟩
       by_cases f6:p.he=r.he
       rotate_left
       ·have HF:=hid (HJN.out (fun e=>f6 (by rw[e])))
        go_wp2_with fail
        go_region
        all_goals
          go_wp2
          go_ret
          exact ⟨false,rfl,⟨fun h=>(by cases h),fun h=>absurd h HF.out⟩,below_drewN (n:=1) hbj⟩
       by_cases f7:p.stride=r.stride
       rotate_left
       ·have HF:=hid (HJN.out (fun e=>f7 (by rw[e])))
        go_wp2_with fail
        go_region
        all_goals
          go_wp2
          go_ret
          exact ⟨false,rfl,⟨fun h=>(by cases h),fun h=>absurd h HF.out⟩,below_drewN (n:=1) hbj⟩
       have HT2:=hid (HJ.out (sel_eq f0 f1 f2 f3 f4 f5 f6 f7))
       go_wp2_with fail
       go_region
       all_goals
         go_wp2
         go_roundw
         case rel=>exact ⟨j+1,hjl,by go_num,HT2.out,below_drewN (n:=1) hbj⟩
         case measure=>simp[intOf];omega
end
section
open Go.RowKit
def QaEnd (l:List UInt8) (W:World) (e:Ending) (w':World):Prop :=
 ∃ A n c,e=.returned (.tuple #[.slice A n c,.bool (queQ l).isSome])∧QRd w' A n ((queQ l).getD [])∧n≤l.length∧Below W.heap.size W w'
theorem qa_of {l:List UInt8} {W w':World} {e:Ending} (h:QpEnd l W e w'):QaEnd l W e w':=by
 unfold QpEnd at h
 cases hq:queQ l with
 | none =>
   rw[hq] at h
   obtain ⟨rfl,hb⟩:=h
   exact ⟨none,0,0,by rw[hq];rfl,by rw[hq];exact ⟨rfl,fun h=>absurd h (by omega)⟩,Nat.zero_le _,hb⟩
 | some xs =>
   rw[hq] at h
   obtain ⟨⟨v,rfl,hr,hl⟩,hb⟩:=h
   obtain ⟨A,c,rfl,hrd⟩:=qrd_of hr
   exact ⟨A,xs.length,c,by rw[hq];rfl,by rw[hq];exact hrd,hl,hb⟩
end
section
open Go.RowKit
structure WriteC (G:World→Prop):Prop where
 stay:∀ w w',G w→Below w.heap.size w w'→G w'
 right:∀ (xs:List Sgm) (A:Option Addr) (n c:Nat) (w:World),G w→QRd w A n xs→SmQ xs→Calls Tryd.prog 9 #[.slice A n c] w fun e w'=>e=.returned (.bool (rightQ xs))∧Below w.heap.size w w'
 text:∀ (xs:List Sgm) (A:Option Addr) (n c:Nat) (w:World),G w→QRd w A n xs→SmQ xs→Calls Tryd.prog 11 #[.slice A n c] w fun e w'=>e=.returned (.string ⟨(putQ xs).toArray⟩)∧Below w.heap.size w w'
 selector:∀ (y:Sel) (w:World),G w→y.name.size≤1000→Calls Tryd.prog 7 #[.agg #[.int .i64 y.kind,.string y.name,.int .i64 y.index,.int .i64 y.start,.int .i64 y.en,.bool y.hs,.bool y.he,.int .i64 y.stride]] w fun e w'=>e=.returned (.string ⟨(selT y).toArray⟩)∧Below w.heap.size w w'
 same:∀ (xs ys:List Sgm) (A A':Option Addr) (n n' c c':Nat) (w:World),G w→QRd w A n xs→QRd w A' n' ys→SmQ xs→SmQ ys→Calls Tryd.prog 13 #[.slice A n c,.slice A' n' c'] w (SqEnd xs ys w)
 clone:∀ (xs:List Sgm) (A:Option Addr) (n c:Nat) (w:World),G w→QRd w A n xs→SmQ xs→Calls Tryd.prog 15 #[.slice A n c] w fun e w' => ∃ A' n' c',e=.returned (.slice A' n' c')∧QRd w' A' n' xs∧Below w.heap.size w w'
theorem WriteC.go {G:World→Prop}(C:WriteC G){W w:World}(h:G W)(hb:Below W.heap.size W w):G w:=C.stay W w h hb
def wS (ys:List Sel):Nat:=(ys.map fun y=>y.name.size).sum
def wq (xs:List Sgm):Nat:=(xs.map fun x=>x.sels.length+1+wS x.sels).sum
theorem wS_cons (y:Sel)(t:List Sel):wS (y :: t)=y.name.size+wS t:=by unfold wS;simp
theorem wq_cons (x:Sgm)(t:List Sgm):wq (x :: t)=x.sels.length+1+wS x.sels+wq t:=by unfold wq;simp
theorem wS_snoc {ys:List Sel} {k:Nat} (hk:k<ys.length):wS (ys.take (k+1))=wS (ys.take k)+ys[k].name.size:=by
 rw[List.take_succ_eq_append_getElem hk];unfold wS;rw[List.map_append,List.sum_append];simp only [List.map_cons,List.map_nil,List.sum_cons,List.sum_nil,Nat.add_zero]
theorem wq_snoc {xs:List Sgm} {k:Nat} (hk:k<xs.length):wq (xs.take (k+1))=wq (xs.take k)+(xs[k].sels.length+1+wS xs[k].sels):=by
 rw[List.take_succ_eq_append_getElem hk];unfold wq;rw[List.map_append,List.sum_append];simp only [List.map_cons,List.map_nil,List.sum_cons,List.sum_nil,Nat.add_zero]
theorem wS_mem:∀ {ys:List Sel} {y:Sel},y∈ys→y.name.size≤wS ys
 | a :: t,y,h=>by
   rw[wS_cons]
   rcases List.mem_cons.1 h with rfl|h
   ·omega
   ·have:=wS_mem h;omega
theorem wq_mem:∀ {xs:List Sgm} {x:Sgm},x∈xs→x.sels.length+1+wS x.sels≤wq xs
 | a :: t,x,h=>by
   rw[wq_cons]
   rcases List.mem_cons.1 h with rfl|h
   ·omega
   ·have:=wq_mem h;omega
theorem wq_len:∀ xs:List Sgm,xs.length≤wq xs
 | []=>Nat.zero_le _
 | x :: t=>by
   have:=wq_len t
   rw[wq_cons,List.length_cons]
   omega
theorem wS_take (ys:List Sel) (k:Nat):wS (ys.take k)≤wS ys:=by
 have:wS ys=wS (ys.take k)+wS (ys.drop k):=by
   conv=>lhs;rw[← List.take_append_drop k ys]
   unfold wS;rw[List.map_append,List.sum_append]
 omega
theorem wq_small {xs:List Sgm} {b:Nat} (h:wq xs≤b) (hb:b≤1000):SmQ xs:=by
 refine ⟨Nat.le_trans (wq_len xs) (by omega),fun x hx => ?_⟩
 have h1:=wq_mem hx
 refine ⟨by omega,fun y hy => ?_⟩
 have h2:=wS_mem hy
 omega
def RelGo (W:World)(xs:List Sgm)(n i:Value)(wr:World):Prop:=∃ k:Nat,k≤xs.length∧i=.int .i64 k∧n=.int .i64 (wq (xs.take k):Nat)∧wq (xs.take k)≤500∧Below W.heap.size W wr
def RelGi (W:World)(N:Nat)(ys:List Sel)(n j:Value)(wr:World):Prop:=∃ k:Nat,k≤ys.length∧j=.int .i64 k∧n=.int .i64 (N+wS (ys.take k):Nat)∧Below W.heap.size W wr
def GrEnd (xs:List Sgm)(W:World)(e:Ending)(w':World):Prop:=∃ g,e=.returned (.bool g)∧(g=false→wq xs≤500)∧Below W.heap.size W w'
theorem great15_any (xs:List Sgm) (A:Option Addr) (n c:Nat) (W:World) (hx:QRd W A n xs) (hw:wq xs≤2000000) :
   Calls Tryd.prog 6 #[.slice A n c] W (GrEnd xs W):=by
 have hl:xs.length=n:=hx.1
 have h9:=wq_len xs
 have HX:=hid hx
 clear hx
 go_enter Tryd.func6,Tryd.ntmps6
 go_wp2
 go_loopw [3,10] (fun n i wr=>RelGo W xs n i wr) (fun _ i _=>xs.length-(intOf i).toNat)
 case atStart=>exact ⟨0,Nat.zero_le _,rfl,rfl,by simp[wq],Below.refl _ _⟩
 case round =>
   obtain ⟨k,hk,rfl,rfl,ht,hb⟩:=hrel
   by_cases hlt:k<xs.length
   rotate_left
   ·have q2:¬ (k:Int)<n:=by omega
    have HE:=hid (show wq xs≤500 by rw[List.take_of_length_le (by omega)] at ht;exact ht)
    clear ht
    go_wp2
    go_ret
    exact ⟨false,rfl,fun _=>HE.out,hb⟩
   have q2:(k:Int)<n:=by omega
   have hk9:(k:Int)≤2000000:=by omega
   have hX:=HX.out.stay hb
   obtain ⟨a,rfl,ha,hc⟩:=hX.2 (by omega)
   obtain ⟨B,m,cc,s0,s1,sr⟩:=hc k xs[k] (List.getElem?_eq_getElem hlt)
   have hmem:=wq_mem (List.getElem_mem hlt)
   have HSN:=hid (wq_snoc hlt)
   clear hX hc
   generalize xs[k]=x at *
   generalize wq (xs.take k)=N0 at *
   have hm:x.sels.length=m:=sr.1
   have SR:=hid sr
   have HB:=hid hb
   have hN9:(N0:Int)≤500:=by omega
   have hN0:(0:Int)≤N0:=by omega
   have hm9:(m:Int)≤2000000:=by omega
   obtain ⟨N,hN⟩:∃ N:Nat,N=N0+(m+1):=⟨_,rfl⟩
   have HNI:=hid (show (N0:Int)+((m:Int)+1)=N by omega)
   have HNE:=hid hN
   have hN9b:(N:Int)≤3000000:=by omega
   clear sr hb hN
   obtain ⟨wo,hwo⟩:∃ wo,wo=wr:=⟨wr,rfl⟩
   subst hwo
   go_wp2
   go_loopw [3,23] (fun n j w=>RelGi wo N x.sels n j w) (fun _ j _=>x.sels.length-(intOf j).toNat)
   case atStart=>exact ⟨0,Nat.zero_le _,rfl,congrArg (Value.int .i64) (HNI.out.trans (by simp[wS])),below1 _ _⟩
   case round =>
     obtain ⟨j,hj,rfl,rfl,hbj⟩:=hrel
     have HB8:=hid (HB.out.trans (hbj.mono HB.out.size))
     have hwt:=wS_take x.sels j
     by_cases hjl:j<x.sels.length
     rotate_left
     ·have q3:¬ (j:Int)<m:=by omega
      have HG:=hid (show N+wS (x.sels.take j)=wq (xs.take (k+1)) by rw[HSN.out,List.take_of_length_le (by omega),HNE.out,hm];omega)
      have hz9:((wq (xs.take (k+1)):Nat):Int)≤6000000:=by have:=HG.out;omega
      rw[HG.out] at *
      by_cases hgr:500<wq (xs.take (k+1))
      ·have q5:((wq (xs.take (k+1)):Nat):Int)>500:=by omega
       generalize wq (xs.take (k+1))=Z at *
       go_wp2
       go_ret
       exact ⟨true,rfl,(fun h=>by cases h),HB8.out⟩
      ·have q5:¬ ((wq (xs.take (k+1)):Nat):Int)>500:=by omega
       have HZ:=hid (show wq (xs.take (k+1))≤500 by omega)
       generalize hZ:wq (xs.take (k+1))=Z at *
       have HZE:=hid hZ
       clear hZ
       go_wp2
       go_roundw
       case rel=>exact ⟨k+1,hlt,by go_num,by rw[HZE.out],by rw[HZE.out];exact HZ.out,HB8.out⟩
       case measure=>simp[intOf];omega
     have q3:(j:Int)<m:=by omega
     have hj9:(j:Int)≤2000000:=by omega
     have hSj:=SR.out.stay hbj
     obtain ⟨b2,rfl,hb2',d2⟩:=hSj.2 (by omega)
     obtain ⟨w0,w1,w2,w3,w4,w5,w6,w7⟩:=d2 j x.sels[j] (List.getElem?_eq_getElem hjl)
     have HWS:=hid (wS_snoc hjl)
     have hym:=wS_mem (List.getElem_mem hjl)
     have HBA:=hid (fun o=>hbj.alloc hbj.size o)
     clear hSj d2 hbj
     generalize x.sels[j]=y at *
     have hy9:(y.name.size:Int)≤2000000:=by omega
     generalize hM:N+wS (x.sels.take j)=M at *
     have hM9:(M:Int)≤6000000:=by omega
     have hM0:(0:Int)≤M:=by omega
     have HM:=hid hM
     clear hM
     go_wp2
     go_roundw
     case rel=>exact ⟨j+1,hjl,by go_num,by rw[HWS.out,← Nat.add_assoc,HM.out];go_num,HBA.out _⟩
     case measure=>simp[intOf];omega
end
section
open Go.RowKit
def aliveW:List Sgm:=[⟨false,[sqN [97]]⟩,⟨true,[sqA]⟩]
theorem aliveW_que:queQ [36,46,97,46,46,42]=some aliveW:=by kernel_rfl
theorem aliveW_put:putQ aliveW=[36,91,39,97,39,93,46,46,91,42,93]:=by decide +kernel
theorem writeAlive_of {G:World→Prop} (hstay:∀ w w',G w→Below w.heap.size w w'→G w')
   (htext:∀ (xs:List Sgm) (A:Option Addr) (n c:Nat) (w:World),G w→QRd w A n xs→SmQ xs→Calls Tryd.prog 11 #[.slice A n c] w fun e w'=>e=.returned (.string ⟨(putQ xs).toArray⟩)∧Below w.heap.size w w') (W:World) (hG:G W) :
   Calls Tryd.prog 5 #[] W fun e w'=>e=.returned (.bool true)∧Below W.heap.size W w':=by
 have KP:Calls Tryd.prog 20 #[.string ⟨#[36,46,97,46,46,42]⟩] W fun e w' => ∃ A n c,e=.returned (.tuple #[.slice A n c,.bool true])∧QRd w' A n aliveW∧Below W.heap.size W w':=by
   refine (rque_any ⟨#[36,46,97,46,46,42]⟩ W (by decide)).mono ?_
   rintro e w' h
   obtain ⟨A,n,c,rfl,hr,_,hb⟩:=qa_of h
   have hq:queQ (⟨#[36,46,97,46,46,42]⟩:ByteArray).data.toList=some aliveW:=aliveW_que
   rw[hq] at hr ⊢
   exact ⟨A,n,c,rfl,hr,hb⟩
 have KT:=hid (fun w A n c (hb:Below W.heap.size W w) (hr:QRd w A n aliveW)=>htext aliveW A n c w (hstay W w hG hb) hr (wq_small (b:=10) (by decide +kernel) (by decide)))
 rw[aliveW_put] at KT
 replace KP:=hid KP
 go_enter Tryd.func5,Tryd.ntmps5
 go_wp2_with (first
   | (go_at_call 20
      go_must (
        refine KP.out.mono ?_
        rintro e w1 ⟨A,n,c,rfl,hr,hb1⟩
        have HB1:=hid hb1
        have HR1:=hid hr
        clear hr hb1))
   | (go_at_call 11
      go_must (
        refine (KT.out _ _ _ _ HB1.out HR1.out).mono ?_
        rintro e w2 ⟨rfl,hb2⟩
        have HB2:=hid (HB1.out.trans (hb2.mono HB1.out.size))
        clear hb2)))
 go_ret
 exact ⟨rfl,HB2.out⟩
theorem writeAlive_walk {G:World→Prop} (C:WriteC G) (W:World) (hG:G W) :
   Calls Tryd.prog 5 #[] W fun e w'=>e=.returned (.bool true)∧Below W.heap.size W w':=writeAlive_of C.stay C.text W hG
def QelAt (W:World) (b:Nat) (k:Int) (nm:ByteArray) (ix st en:Int) (hs he:Bool) (sd:Int) (w:World):Prop :=
 w.cell? ⟨b,0,none⟩=some (.int .i64 k)∧w.cell? ⟨b,1,none⟩=some (.string nm)∧w.cell? ⟨b,2,none⟩=some (.int .i64 ix)∧w.cell? ⟨b,3,none⟩=some (.int .i64 st)∧w.cell? ⟨b,4,none⟩=some (.int .i64 en) ∧
 w.cell? ⟨b,5,none⟩=some (.bool hs)∧w.cell? ⟨b,6,none⟩=some (.bool he)∧w.cell? ⟨b,7,none⟩=some (.int .i64 sd)∧Below W.heap.size W w∧b<w.heap.size∧W.heap.size≤w.heap.size
theorem QelAt.on {W w w':World} {b:Nat} {k ix st en sd:Int} {nm:ByteArray} {hs he:Bool} (h:QelAt W b k nm ix st en hs he sd w) (hb:Below w.heap.size w w'):QelAt W b k nm ix st en hs he sd w':=by
 obtain ⟨h0,h1,h2,h3,h4,h5,h6,h7,h8,h9,h10⟩:=h
 have c:∀ j,w'.cell? ⟨b,j,none⟩=w.cell? ⟨b,j,none⟩:=fun j=>hb.cell (p:=⟨b,j,none⟩) h9
 have hz:=hb.size
 exact ⟨(c 0).trans h0,(c 1).trans h1,(c 2).trans h2,(c 3).trans h3,(c 4).trans h4,(c 5).trans h5,(c 6).trans h6,(c 7).trans h7,h8.trans (hb.mono h10),by omega,by omega⟩
theorem QelAt.drew {W w:World}{b:Nat}{k ix st en sd:Int}{nm:ByteArray}{hs he:Bool}(h:QelAt W b k nm ix st en hs he sd w):QelAt W b k nm ix st en hs he sd w.drew:=h.on ⟨rfl,rfl,rfl,Nat.le_refl _,fun _ _=>rfl⟩
theorem QelAt.below {W w:World}{b:Nat}{k ix st en sd:Int}{nm:ByteArray}{hs he:Bool}(h:QelAt W b k nm ix st en hs he sd w):Below W.heap.size W w:=h.2.2.2.2.2.2.2.2.1
theorem QelAt.start {W w:World} (s:Sel) (h:Below W.heap.size W w):QelAt W w.heap.size s.kind s.name s.index s.start s.en s.hs s.he s.stride (w.alloc (.cells #[.int .i64 s.kind,.string s.name,.int .i64 s.index,.int .i64 s.start,.int .i64 s.en,.bool s.hs,.bool s.he,.int .i64 s.stride] 30)):=by
 have o:=Own.fresh w 30 #[.int .i64 s.kind,.string s.name,.int .i64 s.index,.int .i64 s.start,.int .i64 s.en,.bool s.hs,.bool s.he,.int .i64 s.stride]
 have hz:=h.size
 have e:(w.alloc (.cells #[.int .i64 s.kind,.string s.name,.int .i64 s.index,.int .i64 s.start,.int .i64 s.en,.bool s.hs,.bool s.he,.int .i64 s.stride] 30)).heap.size=w.heap.size+1:=by simp
 exact ⟨o.at 0,o.at 1,o.at 2,o.at 3,o.at 4,o.at 5,o.at 6,o.at 7,h.alloc hz _,by omega,by omega⟩
def RelWo (W:World)(n:Nat)(i:Value)(wr:World):Prop:=∃ k:Nat,k≤n∧i=.int .i64 k∧Below W.heap.size W wr
theorem same_both {xs ys:List Sgm} {a b:Bool} (h1:a=true↔xs=ys) (h2:b=true↔xs=ys):b=a:=by
 by_cases h:xs=ys
 ·rw[h1.2 h,h2.2 h]
 ·cases a
  ·cases b
   ·rfl
   ·exact absurd (h2.1 rfl) h
  ·exact absurd (h1.1 rfl) h
theorem writeTells_core {G:World→Prop} (C:WriteC G) (xs ys:List Sgm) (A A':Option Addr) (n n' c c':Nat) (W:World) (hG:G W) (hx:QRd W A n xs) (hy:QRd W A' n' ys) (hw:wq xs≤2000000) (hw':wq ys≤2000000) :
   Calls Tryd.prog 3 #[.slice A n c,.slice A' n' c'] W fun e w'=>e=.returned (.bool true)∧Below W.heap.size W w':=by
 have KV:=hid (writeAlive_walk C W hG)
 have HX:=hid hx
 have HY:=hid hy
 have hl:xs.length=n:=hx.1
 have KG1:=hid (fun w (hb:Below W.heap.size W w)=>great15_any xs A n c w (HX.out.stay hb) hw)
 have KG2:=hid (fun w (hb:Below W.heap.size W w)=>great15_any ys A' n' c' w (HY.out.stay hb) hw')
 unfold GrEnd at KG1 KG2
 clear hx hy
 go_enter Tryd.func3,Tryd.ntmps3
 have tk:=trivial
 go_upto_region 5 with (first
   | (go_at_call 5;refine KV.out.mono ?_;rintro e w1 ⟨rfl,hb1⟩;have HB1:=hid hb1;clear hb1)
   | (go_at_call 6
      clear tk
      go_must (
        refine (KG1.out _ HB1.out).mono ?_
        rintro e w2 ⟨g1,rfl,hg1,hb2⟩
        have HB2:=hid (HB1.out.trans (hb2.mono HB1.out.size))
        have HG1:=hid hg1
        clear hb2 hg1
        cases g1))
   | (go_at_call 6
      go_must (
        refine (KG2.out _ HB2.out).mono ?_
        rintro e w3 ⟨g2,rfl,hg2,hb3⟩
        have HB3:=hid (HB2.out.trans (hb3.mono HB2.out.size))
        have HG2:=hid hg2
        clear hb3 hg2
        cases g2)))
 rotate_left
 ·go_ret
  exact ⟨rfl,HB3.out⟩
 ·go_ret
  exact ⟨rfl,HB2.out⟩
 have hq:wq xs≤500:=HG1.out (by first|rfl|trivial)
 have hq':wq ys≤500:=HG2.out (by first|rfl|trivial)
 have HSX:=hid (wq_small hq (by decide))
 have HSY:=hid (wq_small hq' (by decide))
 have hl9:=wq_len xs
 clear KV KG1 KG2 HG1 HG2 hw hw'
 have KS:=hid (fun (y:Sel) (w:World) (hb:Below W.heap.size W w) hz=>C.selector y w (C.go hG hb) hz)
 have KR1:=hid (fun w (hb:Below W.heap.size W w)=>C.right xs A n c w (C.go hG hb) (HX.out.stay hb) HSX.out)
 have KR2:=hid (fun w (hb:Below W.heap.size W w)=>right15_any xs A n c w (HX.out.stay hb) HSX.out)
 have KT1:=hid (fun w (hb:Below W.heap.size W w)=>C.text xs A n c w (C.go hG hb) (HX.out.stay hb) HSX.out)
 have KT2:=hid (fun w (hb:Below W.heap.size W w)=>text15_any xs A n c w (HX.out.stay hb) HSX.out)
 have KE1:=hid (fun w (hb:Below W.heap.size W w)=>C.same xs ys A A' n n' c c' w (C.go hG hb) (HX.out.stay hb) (HY.out.stay hb) HSX.out HSY.out)
 have KE2:=hid (fun w (hb:Below W.heap.size W w)=>sameQ_any xs ys A A' n n' c c' w (HX.out.stay hb) (HY.out.stay hb) (by omega) (by have:=HY.out.1;have:=wq_len ys;omega) (fun x hx=>Nat.le_trans (HSX.out.2 x hx).1 (by omega)) (fun x hx=>Nat.le_trans (HSY.out.2 x hx).1 (by omega)))
 have KC:=hid (fun w (hb:Below W.heap.size W w)=>C.clone xs A n c w (C.go hG hb) (HX.out.stay hb) HSX.out)
 have KE3:=hid (fun w A1 n1 c1 (hb:Below W.heap.size W w) (h1:QRd w A1 n1 xs)=>C.same xs xs A1 A n1 n c1 c w (C.go hG hb) h1 (HX.out.stay hb) HSX.out HSX.out)
 unfold SqEnd at KE1 KE2 KE3
 go_wp2
 go_loopw [19] (fun i wr=>RelWo W xs.length i wr) (fun i _=>xs.length-(intOf i).toNat)
 case atStart=>exact ⟨0,Nat.zero_le _,rfl,HB3.out⟩
 case round =>
   obtain ⟨k,hk,rfl,hb⟩:=hrel
   by_cases hlt:k<xs.length
   rotate_left
   ·have q2 : ¬ (k:Int)<n:=by omega
    have HB4:=hid hb
    have HRR:=hid (show (rightQ xs==rightQ xs)=true by simp)
    have htt:((⟨(putQ xs).toArray⟩:ByteArray).toList==(⟨(putQ xs).toArray⟩:ByteArray).toList)=true:=by simp
    clear hb
    generalize (⟨(putQ xs).toArray⟩:ByteArray)=T1 at *
    have hrr:=HRR.out
    generalize rightQ xs=R1 at *
    clear HRR
    have tk:=trivial
    go_wp2_with (first
      | (go_at_call 9;refine (KR1.out _ HB4.out).mono ?_;rintro e w5 ⟨rfl,hb5⟩;have HB5:=hid (HB4.out.trans (hb5.mono HB4.out.size));clear hb5)
      | (go_at_call 10;refine (KR2.out _ HB5.out).mono ?_;rintro e w6 ⟨rfl,hb6⟩;have HB6:=hid (HB5.out.trans (hb6.mono HB5.out.size));clear hb6)
      | (go_at_call 11;refine (KT1.out _ HB6.out).mono ?_;rintro e w7 ⟨rfl,hb7⟩;have HB7:=hid (HB6.out.trans (hb7.mono HB6.out.size));clear hb7)
      | (go_at_call 12;refine (KT2.out _ HB7.out).mono ?_;rintro e w8 ⟨rfl,hb8⟩;have HB8:=hid (HB7.out.trans (hb8.mono HB7.out.size));clear hb8)
      | (go_at_call 13
         clear tk
         go_must (
           refine (KE1.out _ HB8.out).mono ?_
           rintro e w9 ⟨b9,rfl,he9,hb9⟩
           have HB9:=hid (HB8.out.trans (hb9.mono HB8.out.size))
           have HE9:=hid he9
           clear hb9 he9))
      | (go_at_call 14
         go_must (
           refine (KE2.out _ HB9.out).mono ?_
           rintro e w10 ⟨b10,rfl,he10,hb10⟩
           obtain rfl:=same_both HE9.out he10
           have HB10:=hid (HB9.out.trans (hb10.mono HB9.out.size))
           have hbb:(b10==b10)=true:=by simp
           clear hb10 he10))
      | (go_at_call 15
         go_must (
           refine (KC.out _ HB10.out).mono ?_
           rintro e w11 ⟨A1,n1,c1,rfl,hr11,hb11⟩
           have HB11:=hid (HB10.out.trans (hb11.mono HB10.out.size))
           have HR11:=hid hr11
           clear hb11 hr11))
      | (go_at_call 13
         go_must (
           refine (KE3.out _ _ _ _ HB11.out HR11.out).mono ?_
           rintro e w12 ⟨b12,rfl,he12,hb12⟩
           obtain rfl:b12=true:=he12.2 (by first|rfl|trivial)
           have HB12:=hid (HB11.out.trans (hb12.mono HB11.out.size))
           clear hb12 he12)))
    go_ret
    exact ⟨rfl,HB12.out⟩
   have q2:(k:Int)<n:=by omega
   have hk9:(k:Int)≤1000:=by omega
   have hX:=HX.out.stay hb
   obtain ⟨a,rfl,ha,hc⟩:=hX.2 (by omega)
   obtain ⟨B,m,cc,s0,s1,sr⟩:=hc k xs[k] (List.getElem?_eq_getElem hlt)
   obtain ⟨m9,z9⟩:=HSX.out.2 _ (List.getElem_mem hlt)
   clear hX hc
   generalize xs[k]=x at *
   have hm:x.sels.length=m:=sr.1
   have SR:=hid sr
   have Z9:=hid z9
   have HB:=hid hb
   clear sr z9 hb
   obtain ⟨wo,hwo⟩:∃ wo,wo=wr:=⟨wr,rfl⟩
   subst hwo
   go_wp2
   go_loopw [26] (fun j w=>RelWo wo x.sels.length j w) (fun j _=>x.sels.length-(intOf j).toNat)
   case atStart=>exact ⟨0,Nat.zero_le _,rfl,below1 _ _⟩
   case round =>
     obtain ⟨j,hj,rfl,hbj⟩:=hrel
     by_cases hjl:j<x.sels.length
     rotate_left
     ·have q3:¬ (j:Int)<m:=by omega
      have HB8:=hid (HB.out.trans (hbj.mono HB.out.size))
      go_wp2
      go_roundw
      case rel=>exact ⟨k+1,hlt,by go_num,HB8.out⟩
      case measure=>simp[intOf];omega
     have q3:(j:Int)<m:=by omega
     have hj9:(j:Int)≤1000:=by omega
     have hSj:=SR.out.stay hbj
     obtain ⟨b2,rfl,hb2',d2⟩:=hSj.2 (by omega)
     obtain ⟨w0,w1,w2,w3,w4,w5,w6,w7⟩:=d2 j x.sels[j] (List.getElem?_eq_getElem hjl)
     have hy9:=Z9.out _ (List.getElem_mem hjl)
     clear hSj d2
     generalize x.sels[j]=y at *
     have hS:=QelAt.start y hbj
     have K1:=hid (fun w (hbw:Below wo.heap.size wo w)=>KS.out y w (HB.out.trans (hbw.mono HB.out.size)) hy9)
     have K2:=hid (fun w=>sel15_any y w hy9)
     have hne:((⟨(selT y).toArray⟩:ByteArray).toList != (⟨(selT y).toArray⟩:ByteArray).toList)=false:=by simp
     generalize (⟨(selT y).toArray⟩:ByteArray)=T1 at *
     go_upto_region 11 with fail
     clear hbj w0 w1 w2 w3 w4 w5 w6 w7
     go_region_held3 (fun w'=>w'.cell? ⟨wr.heap.size,0,none⟩=some (.int .i64 y.kind)∧w'.cell? ⟨wr.heap.size,1,none⟩=some (.string y.name)∧w'.cell? ⟨wr.heap.size,2,none⟩=some (.int .i64 y.index)∧w'.cell? ⟨wr.heap.size,3,none⟩=some (.int .i64 y.start)∧w'.cell? ⟨wr.heap.size,4,none⟩=some (.int .i64 y.en)∧w'.cell? ⟨wr.heap.size,5,none⟩=some (.bool y.hs)∧w'.cell? ⟨wr.heap.size,6,none⟩=some (.bool y.he)∧w'.cell? ⟨wr.heap.size,7,none⟩=some (.int .i64 y.stride)∧Below wo.heap.size wo w'∧wr.heap.size<w'.heap.size∧wo.heap.size≤w'.heap.size)
       (first|assumption|exact QelAt.on (by assumption) (by assumption)|exact QelAt.drew (by assumption))
       (first
         | (go_at_call 7;refine (K1.out _ (QelAt.below (b:=wr.heap.size) (k:=y.kind) (nm:=y.name) (ix:=y.index) (st:=y.start) (en:=y.en) (hs:=y.hs) (he:=y.he) (sd:=y.stride) (by assumption))).mono ?_;rintro e w' ⟨rfl,hb'⟩)
         | (go_at_call 8;refine (K2.out _).mono ?_;rintro e w' ⟨rfl,hb'⟩))
     all_goals
       have hst:QelAt wo wr.heap.size y.kind y.name y.index y.start y.en y.hs y.he y.stride w':=by assumption
       have HN:=hid hst.below
       clear hst
       go_wp2
       go_roundw
       case rel=>exact ⟨j+1,hjl,by go_num,HN.out⟩
       case measure=>simp[intOf];omega
end
end Go.Proofs.YtmgdjlkndbejkaaDoor
