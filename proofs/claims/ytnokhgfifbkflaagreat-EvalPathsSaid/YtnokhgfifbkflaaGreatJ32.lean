/- Lemmas. -/
import Derived.Test.YtnokhgfifbkflaaGreatProg
import Derived.Test.YtnokhgfifbkflaaGreatJ31
set_option maxRecDepth 100000
set_option maxHeartbeats 8000000
set_option linter.unusedVariables false
set_option linter.unusedSimpArgs false
namespace Go.Proofs.YtnokhgfifbkflaaGreat
open Go.Lib (hid)
section
open Go.RowKit
open Go.Maps (Keyed)
def tnV (f k:Nat):Value:=.agg #[.int .i64 f,.int .i64 k]
theorem tn_laid:laidOutB Tryz.prog=true:=by kernel_rfl
theorem tn_row:(129:TypeId)<Tryz.prog.types.size:=of_decide_eq_true (by kernel_rfl)
theorem tn_law:Keyed Tryz.prog 129:=Keyed.of_law (deep_law_laid tn_laid (m:=2) (by omega) tn_row (by kernel_rfl) (by rw[Tryz.underlying129]))
theorem tn_type:Tryz.prog.keyType 129=true:=by kernel_rfl
theorem tn_cells:Tryz.prog.cellsOf 129=2:=by kernel_rfl
theorem tn_int:Tryz.prog.cellsOf 3=1:=by kernel_rfl
theorem tn_zero (w:World):(zeroValue 4).run Tryz.prog w=.ok (.bool false) w:=by kernel_rfl
theorem size_succ {m n:Nat}(h:m<n):∃ k,n=k+1:=⟨n-1,by omega⟩
theorem tn_many:∃ n,Tryz.prog.types.size=n+1:=size_succ tn_row
theorem tn_wf (f:Nat)(h:f≤1000000):(Lit.int .i64 (f:Int)).wf=true:=WalkArith.wf_i64 (by omega)
theorem key_two {P : Program} {t i : TypeId} {x y : Field} (ht : P.underlying t = some (.struct #[x, y])) (hx : x.type = i) (hy : y.type = i) (ox : x.offset = 0) (oy : y.offset = 1) (nx : (x.name != "_") = true) (ny : (y.name != "_") = true)
   (hi:P.underlying i=some (.int .i64)) (ci:P.cellsOf i=1) (ct:P.cellsOf t=2) (kt:P.keyType t=true) {n:Nat} (hn:P.types.size=n+1) {f k:Int} (hf:(Lit.int .i64 f).wf=true) (hk:(Lit.int .i64 k).wf=true) :
   keyOf P t (.agg #[.int .i64 f,.int .i64 k])=some (.string (keyBytes [.int .i64 f,.int .i64 k])):=by
 unfold keyOf
 rw[ht]
 simp only [kt,Value.formed,ht,ct,hn,Program.keyLits,Value.cells]
 simp[Program.keyLits,hx,hy,ox,oy,nx,ny,hi,ci,hf,hk]
theorem tn_key (f k:Nat) (hf:f≤1000000) (hk:k≤1000000):∃ l,keyOf Tryz.prog 129 (tnV f k)=some l:=by
 obtain ⟨n,hn⟩:=tn_many
 exact ⟨_,key_two Tryz.underlying129 rfl rfl rfl rfl (by decide) (by decide) Tryz.underlying3 tn_int tn_cells tn_type hn (tn_wf f hf) (tn_wf k hk)⟩
noncomputable def tnL (f k:Nat):Lit:=(keyOf Tryz.prog 129 (tnV f k)).getD (.bool false)
theorem tn_is {f k:Nat} (hf:f≤1000000) (hk:k≤1000000):keyOf Tryz.prog 129 (tnV f k)=some (tnL f k):=by
 obtain ⟨l,h⟩:=tn_key f k hf hk
 unfold tnL
 rw[h];rfl
theorem tn_inj {f k f' k':Nat} (hf:f≤1000000) (hk:k≤1000000) (hf':f'≤1000000) (hk':k'≤1000000) (h:tnL f k=tnL f' k'):f=f'∧k=k':=by
 have h1:=tn_is hf hk
 have h2:=tn_is hf' hk'
 rw[h] at h1
 have:=tn_law.inj h1 h2
 unfold tnV at this
 simp at this
 omega
theorem bool_inv {P:Program} {e:TypeId} (he:P.underlying e=some .bool) {v:Value} {z:DataW Unit×List MemPlace} (h:plainElem P e v=some z):∃ x,v=.bool x∧z.1=.lit (.bool x):=by
 unfold plainElem at h
 rw[he] at h
 cases v<;>simp at h
 subst h
 exact ⟨_,rfl,rfl⟩
theorem look_bool {P:Program} {t m e:TypeId} {w:World} {b n:Nat} {D:DataW Unit} (h:w.ownsMap P t (plainElem P e) b n D) (K:Keyed P t) (hm:P.underlying m=some (.map t e)) (he:P.underlying e=some .bool) (hz:(zeroValue e).run P w=.ok (.bool false) w)
   {key:Value} {kl:Lit} (hk:keyOf P t key=some kl) {x:Bool} (hx:D.atKey kl (.lit (.bool false))=.lit (.bool x)):(Instr.lookup m (.map (some b)) key false).run P w=.ok (.bool x) w:=by
 obtain ⟨v,ps,hrun,hv⟩:=h.lookup K hm hz (zd:=.lit (.bool false)) (zp:=[]) (plainElem_bool he false) hk
 obtain ⟨y,rfl,hy⟩:=bool_inv he hv
 have hy:D.atKey kl (.lit (.bool false))=.lit (.bool y):=hy
 rw[hx] at hy
 injection hy with hy
 injection hy with hy
 rw[hy]
 exact hrun
theorem put_bool {P:Program} {t m e:TypeId} {w:World} {b n:Nat} {D:DataW Unit} (h:w.ownsMap P t (plainElem P e) b n D) (K:Keyed P t) (hm:P.underlying m=some (.map t e)) (he:P.underlying e=some .bool) (hn:n<maxLen)
   {key:Value} {kl:Lit} (hk:keyOf P t key=some kl):∃ w',(Instr.mapUpdate m (.map (some b)) key (.bool true)).run P w=.ok () w'∧w'.ownsMap P t (plainElem P e) b (n+1) (D.put kl (.lit (.bool true)))∧w.grownBy w' (some b) :=
 h.update K hm hn hk (plainElem_bool he true)
theorem key_of {P:Program}{t:TypeId}(K:Keyed P t){v:Value}{l:Lit}(h:keyOf P t v=some l):WideAt.IsKeyLit l:=K.key h
theorem tn_isl {f k:Nat} (hf:f≤1000000) (hk:k≤1000000):∃ l,l=tnL f k∧WideAt.IsKeyLit l:=by
 have h:=tn_is hf hk
 generalize tnL f k=l at h ⊢
 exact ⟨l,rfl,key_of tn_law h⟩
theorem at_put {D:DataW Unit}{l:Lit}(h:Maps.IsMap D)(k:WideAt.IsKeyLit l)(x z:DataW Unit):(D.put l x).atKey l z=x:=Maps.atKey_put_same h k x z
def Over (M Q:Nat) (w:World) (b:Nat) (o:Nat→Nat→Bool):Prop :=
 ∃ D:DataW Unit,w.ownsMap Tryz.prog 129 (plainElem Tryz.prog 4) b (cntO M Q o) D ∧ ∀ f k,f≤1000000→k≤1000000→D.atKey (tnL f k) (.lit (.bool false))=.lit (.bool (o f k))
theorem Over.lt {M Q:Nat} {w:World} {b:Nat} {o:Nat→Nat→Bool} (h:Over M Q w b o):b<w.heap.size:=by
 obtain ⟨D,h1,_⟩:=h
 exact h1.lt
theorem Over.stay {M Q:Nat} {w w':World} {b:Nat} {o:Nat→Nat→Bool} (h:Over M Q w b o) (hk:w'.heap[b]?=w.heap[b]?):Over M Q w' b o:=by
 obtain ⟨D,⟨es,clock,hb,r⟩,h2⟩:=h
 exact ⟨D,⟨es,clock,hk.trans hb,r⟩,h2⟩
theorem Over.not {M Q:Nat} {w:World} {b:Nat} {o:Nat→Nat→Bool} (h:Over M Q w b o) {g:Nat} {cs:Array Value} {t:TypeId} {fz:Nat×Nat} (hg:w.heap[g]?=some (.cells cs t fz)):g≠b:=by
 obtain ⟨D,⟨es,clock,hb,r⟩,h2⟩:=h
 intro e
 subst e
 rw[hg] at hb
 cases hb
theorem over_made (M Q:Nat) (w:World):Over M Q (w.alloc (.map #[] 0)) w.heap.size (fun _ _=>false):=by
 refine ⟨.map [],?_,fun f k _ _=>rfl⟩
 rw[cnt_zero]
 exact World.ownsMap_made w _ _ _
theorem over_look {M Q:Nat} {w:World} {b:Nat} {o:Nat→Nat→Bool} (h:Over M Q w b o) {f k:Nat} (hf:f≤1000000) (hk:k≤1000000) :
   (Instr.lookup 93 (.map (some b)) (.agg #[.int .i64 f,.int .i64 k]) false).run Tryz.prog w=.ok (.bool (o f k)) w:=by
 obtain ⟨D,h1,h2⟩:=h
 exact look_bool h1 tn_law Tryz.underlying93 Tryz.underlying4 (tn_zero w) (tn_is hf hk) (h2 f k hf hk)
theorem over_put {M Q:Nat} {w:World} {b:Nat} {o:Nat→Nat→Bool} (h:Over M Q w b o) {f k:Nat} (hf:f<M) (hk:k≤Q) (hM:M≤1000000) (hQ:Q≤1000) (ho:o f k=false) :
   ∃ w',(Instr.mapUpdate 93 (.map (some b)) (.agg #[.int .i64 f,.int .i64 k]) (.bool true)).run Tryz.prog w=.ok () w'∧Over M Q w' b (putO o f k)∧w.grownBy w' (some b):=by
 obtain ⟨D,h1,h2⟩:=h
 have hc:=cnt_le M Q o
 have hn:cntO M Q o<maxLen:=by
   have:=Nat.mul_le_mul hM (show Q+1≤1001 by omega)
   unfold maxLen
   omega
 have hf9:f≤1000000:=by omega
 have hk9:k≤1000000:=by omega
 obtain ⟨w',hrun,g1,g2⟩:=put_bool h1 tn_law Tryz.underlying93 Tryz.underlying4 hn (tn_is hf9 hk9)
 refine ⟨w',hrun,⟨_,g1.mono (cnt_put hf hk ho),fun f' k' hf' hk' => ?_⟩,g2⟩
 by_cases he:f'=f∧k'=k
 ·obtain ⟨rfl,rfl⟩:=he
  obtain ⟨l,hl,hik⟩:=tn_isl hf9 hk9
  rw[put_same,← hl]
  exact at_put h1.isMap hik _ _
 ·rw[Maps.atKey_put_other (fun e=>he (tn_inj hf' hk' hf9 hk9 e)),put_other he]
  exact h2 f' k' hf' hk'
end
section
open Go.RowKit
theorem RowK.all_setc {α:Type} (K:RowK α) {a':α} {j:Nat} {u:Value} (hj:j<K.n):∀ (l:List α) (i:Nat) (a:α),l[i]?=some a→K.enc a'=(K.enc a).set j u→K.all (l.set i a')=(K.all l).set (i*K.n+j) u
 | [],i,a,h,_=>by simp at h
 | b :: t,0,a,h,e=>by
   obtain rfl:b=a:=by simpa using h
   show K.enc a'++K.all t=(K.enc b++K.all t).set (0*K.n+j) u
   rw[e,Nat.zero_mul,Nat.zero_add,List.set_append_left _ _ (by rw[K.len];exact hj)]
 | b :: t,i+1,a,h,e=>by
   show K.enc b++K.all (t.set i a')=(K.enc b++K.all t).set ((i+1)*K.n+j) u
   rw[RowK.all_setc K hj t i a (by simpa using h) e,List.set_append_right _ _ (by rw[K.len,Nat.add_mul];omega),K.len,Nat.add_mul]
   congr 2
   omega
theorem GRow.setc {α:Type} {K:RowK α} {w:World} {base g m c i j:Nat} {l:List α} {a a':α} {u:Value} (h:GRow K w base (.slice (some ⟨g,0,none⟩) m c) l) (hi:l[i]?=some a) (hj:j<K.n) (hu:K.enc a'=(K.enc a).set j u) :
   GRow K (w.setCell ⟨g,i*K.n+j,none⟩ u) base (.slice (some ⟨g,0,none⟩) m c) (l.set i a'):=by
 unfold GRow at h ⊢
 rw[List.length_set,K.all_setc hj l i a hi hu]
 refine ⟨by rw[List.length_set];exact h.1,?_⟩
 rcases h.2 with ⟨hv,h0⟩|⟨g',c',cur,hv,hb,hg,g1,g2,g3,g4⟩
 ·cases hv
 ·injection hv with hA hm hc
  injection hA with hA
  injection hA with hA
  subst hA
  refine .inr ⟨g,c',cur.setIfInBounds (i*K.n+j) u,by rw[hm,hc],hb,?_,g1,g2,by simpa using g3,?_⟩
  ·simp[World.setCell,Array.getElem?_modify,hg]
  ·rw[Array.toList_setIfInBounds,List.take_set,g4]
theorem GRow.typed {α:Type} {K:RowK α} {w:World} {base:Nat} {v:Value} {l:List α} (h:GRow K w base v l) {g:Nat} (hg:v.ownBlock=some g):∃ cur,w.heap[g]?=some (Obj.cells cur K.T (0,0)):=by
 rcases h.2 with ⟨rfl,_⟩|⟨g',c',cur,rfl,_,hh,_⟩
 ·cases hg
 ·obtain rfl:g'=g:=by simpa [Value.ownBlock] using hg
  exact ⟨cur,hh⟩
def ItRd (w:World) (base:Nat) (A:Option Addr) (m c:Nat) (l:List Nat):Prop :=
 RdG plcK w A m l∧m≤c∧c≤maxLen ∧ ∀ g o,A=some ⟨g,o,none⟩→0<m→base≤g ∧ ∃ (cs:Array Value) (fz:Nat×Nat),w.heap[g]?=some (Obj.cells cs 3 fz)
theorem ItRd.stay {w w':World} {base:Nat} {A:Option Addr} {m c:Nat} {l:List Nat} (h:ItRd w base A m c l) (hs:w.heap.size≤w'.heap.size) (hk:∀ (g:Nat) (cs:Array Value) (fz:Nat×Nat),w.heap[g]?=some (Obj.cells cs 3 fz)→w'.heap[g]?=w.heap[g]?):ItRd w' base A m c l:=by
 obtain ⟨h1,h2,h3,h4⟩:=h
 refine ⟨⟨h1.1,fun hm => ?_⟩,h2,h3,fun g o e hm => ?_⟩
 ·obtain ⟨b,o,e,hb,hc⟩:=h1.2 hm
  obtain ⟨_,cs,fz,hg⟩:=h4 b o e hm
  have hk':=hk b cs fz hg
  refine ⟨b,o,e,Nat.lt_of_lt_of_le hb hs,fun j u hu => ?_⟩
  rw[← hc j u hu]
  unfold World.cell?
  rw[hk']
 ·obtain ⟨a,cs,fz,hg⟩:=h4 g o e hm
  exact ⟨a,cs,fz,(hk g cs fz hg).trans hg⟩
theorem ItRd.of_row {w:World} {base b:Nat} {A:Option Addr} {m c:Nat} {l:List Nat} (h:GRow plcK w b (.slice A m c) l) (hb:base≤b):ItRd w base A m c l:=by
 obtain ⟨A',c',e,h1,h2,_⟩:=h.form
 injection e with e1 e2 e3
 subst e1 e2 e3
 refine ⟨h.rd,h1,h2,fun g o e hm => ?_⟩
 subst e
 obtain ⟨cur,hc⟩:=h.typed (g:=g) rfl
 exact ⟨Nat.le_trans hb (h.low (g:=g) rfl).1,cur,_,hc⟩
theorem ItRd.tail {w:World} {base b o m c i:Nat} {l:List Nat} (h:ItRd w base (some ⟨b,o,none⟩) m c (i :: l)):w.cell? ⟨b,o,none⟩=some (.int .i64 i)∧0<m∧ItRd w base (some ⟨b,o+1,none⟩) (m-1) (c-1) l:=by
 obtain ⟨h1,h2,h3,h4⟩:=h
 have hm:m=l.length+1:=by have:=h1.1;simpa using this.symm
 subst hm
 have hlt:b<w.heap.size:=by obtain ⟨b',o',e,hb,_⟩:=h1.2 (by omega);injection e with e;injection e with e1;subst e1;exact hb
 have hcell:∀ j u,(plcK.all (i :: l))[j]?=some u→w.cell? ⟨b,o+j,none⟩=some u:=by
   obtain ⟨b',o',e,_,hc⟩:=h1.2 (by omega)
   injection e with e
   injection e with e1 e2
   subst e1 e2
   exact hc
 refine ⟨hcell 0 _ rfl,by omega,⟨by omega,fun hm=>⟨b,o+1,rfl,hlt,fun j u hu => ?_⟩⟩,by omega,by omega,fun g o' e hm => ?_⟩
 ·have:=hcell (j+1) u (by show (Value.int .i64 i :: plcK.all l)[j+1]?=some u;simpa using hu)
  rw[show o+1+j=o+(j+1) by omega]
  exact this
 ·injection e with e
  injection e with e1 e2
  subst e1
  exact h4 b o rfl (by omega)
theorem row_elem {α:Type} (K:RowK α):Tryz.prog.underlying K.S=some (.slice (Tryz.prog.elem K.S)) ∧ ∀ w,(sizeOf (Tryz.prog.elem K.S)).run Tryz.prog w=.ok K.n w:=by
 have he:Tryz.prog.elem K.S=K.T:=by simp[Program.elem,K.under]
 rw[he]
 refine ⟨K.under,fun w => ?_⟩
 obtain ⟨i,hi,_,hsize,_⟩:=info_parts K.info
 simp[sizeOf,typeInfo,hi,hsize]
theorem slice_upto {α:Type} (K:RowK α) (A:Option Addr) (n c h:Nat) (hh:h≤c) (w:World):(Instr.slice K.S (.slice A n c) none (some (.int .i64 (h:Int))) none).run Tryz.prog w=.ok (.slice A h c) w:=by
 obtain ⟨h1,h2⟩:=row_elem K
 rw[run_slice_h w K.S A n c h1 .i64 h (by omega) (by omega),h2]
 cases A<;>simp[Result.andThen,sliced,Addr.add]
theorem slice_full {α:Type} (K:RowK α) (A:Option Addr) (n c h:Nat) (hh:h≤c) (w:World):(Instr.slice K.S (.slice A n c) none (some (.int .i64 (h:Int))) (some (.int .i64 (h:Int)))).run Tryz.prog w=.ok (.slice A h h) w:=by
 obtain ⟨h1,h2⟩:=row_elem K
 rw[run_slice_hm w K.S A n c h1 .i64 .i64 h h (by omega) (by omega) (by omega),h2]
 cases A<;>simp[Result.andThen,sliced,Addr.add]
theorem items_tail (A:Option Addr) (m c:Nat) (hm:0<m) (hc:m≤c):∃ A',(∀ w,(Instr.slice 43 (.slice A m c) (some (.int .i64 1)) none none).run Tryz.prog w=.ok (.slice A' (m-1) (c-1)) w) ∧
   ∀ (w:World) (base i:Nat) (l:List Nat),ItRd w base A m c (i :: l)→ItRd w base A' (m-1) (c-1) l:=by
 obtain ⟨h1,h2⟩:=row_elem plcK
 refine ⟨if c=1 then A else A.map (·.add (1*1)),fun w => ?_,fun w base i l h => ?_⟩
 ·have:=run_slice_l (P:=Tryz.prog) w plcK.S A m c h1 .i64 1 (by omega) (by omega)
  rw[h2] at this
  simpa [Result.andThen,sliced,plcK] using this
 ·by_cases hc1:c=1
  ·rw[if_pos hc1]
   have hm1:m=1:=by omega
   obtain ⟨g1,g2,g3,g4⟩:=h
   have hl:l=[]:=List.eq_nil_of_length_eq_zero (by have:=g1.1;simp at this;omega)
   subst hl hm1
   exact ⟨⟨rfl,fun h=>by omega⟩,by omega,by omega,fun _ _ _ h=>by omega⟩
  ·rw[if_neg hc1]
   obtain ⟨b,o,e,_⟩:=h.1.2 hm
   subst e
   have:=h.tail.2.2
   simpa [Addr.add] using this
end
section
open Go.RowKit
theorem child_none {v:Tree} {s:Sel} (h:∀ i,i<v.items.length→hitT v i s=false):childT v s=[]:=List.eq_nil_iff_forall_not_mem.2 fun i hi=>by
 obtain ⟨h1,h2⟩:=mem_child.1 hi
 rw[h i h1] at h2
 cases h2
theorem child_all {v:Tree} {s:Sel} (h:v.kd=4∨v.kd=5) (hk:s.kind=1):childT v s=List.range v.items.length:=by
 unfold childT
 rw[if_neg (by omega)]
 refine List.filter_eq_self.2 fun i _ => ?_
 unfold hitT
 rcases h with h|h
 ·rw[if_neg (by omega)];simp[h,hk]
 ·rw[if_pos h];simp[hk]
theorem echildren_any (v:Tree) (x:V6) (s:Sel) (W:World) (hv:VIs W v x) (h5:v.kd=5→v.names.length=v.items.length) (hs:RightI s) (h9:v.items.length≤1000) :
   Calls Tryz.prog 11 #[.agg #[.int .i64 x.kd,.int .i64 x.fr,.int .i64 x.to,.string ⟨x.tx.toArray⟩,.slice x.A x.n x.c,.slice x.B x.m x.d],.agg (selV s)] W (ChEnd (childT v s) W):=by
 have hkd:x.kd=v.kd:=by obtain ⟨kd,fr,td,tx,items,names⟩:=v;unfold VIs at hv;exact hv.1
 have hn:x.n=v.items.length:=by obtain ⟨kd,fr,td,tx,items,names⟩:=v;exact hv.many.1
 have K2:=hid (fun (n:Nat) (hn:n=v.items.length) w=>eall_any n w (by omega))
 have K3:=hid (fun (n:Nat) (hn:n=v.items.length) (a4:v.kd=4) (a2:s.kind=2∨s.kind=3) w=>emeant_any v s n w a4 a2 hs hn h9)
 have hnone:∀ i,i<v.items.length→(v.kd=5→s.kind≠0∧s.kind≠1)→(v.kd=4→s.kind≠1∧s.kind≠2∧s.kind≠3)→hitT v i s=false:=fun i hi a b=>by
   unfold hitT
   by_cases h:v.kd=5
   ·rw[if_pos h,decide_eq_false (a h).1,decide_eq_false (a h).2];rfl
   ·rw [if_neg h]
    by_cases h4:v.kd=4
    ·rw[decide_eq_false (b h4).1,has_none s i _ (by omega) (by omega) (b h4).2.1 (.inl (b h4).2.2)]
     simp
    ·rw[decide_eq_false h4];rfl
 have HNO:=hid (fun a b=>child_none (s:=s) (v:=v) fun i hi=>hnone i hi a b)
 have HAL:=hid (fun a b=>child_all (v:=v) (s:=s) a b)
 obtain ⟨xk,xf,xt,xx,xA,n,xc,xB,m,xd⟩:=x
 have K1:=hid (fun (a5:v.kd=5) (a0:s.kind=0) w (hb:Below W.heap.size W w)=>show Calls Tryz.prog 28 #[.agg #[.int .i64 xk,.int .i64 xf,.int .i64 xt,.string ⟨xx.toArray⟩,.slice xA n xc,.slice xB m xd],.string s.name] w (ChEnd (childT v s) w) from enamed_any v ⟨xk,xf,xt,xx,xA,n,xc,xB,m,xd⟩ s w (hv.stay hb) a5 (h5 a5) a0 h9)
 replace hkd:xk=v.kd:=hkd
 replace hn:n=v.items.length:=hn
 have HN:=hid hn
 have hn9:(n:Int)≤1000:=by omega
 have HKD:=hid hkd
 show Calls _ _ #[.agg #[.int .i64 xk,.int .i64 xf,.int .i64 xt,.string ⟨xx.toArray⟩,.slice xA n xc,.slice xB m xd],.agg (selV s)] W _
 unfold selV at K3 ⊢
 clear hnone hv h5 hs h9 hn hkd
 generalize hx0:(⟨xx.toArray⟩:ByteArray)=xs at *
 obtain ⟨W1,hW1⟩:∃ W1,W1=W.alloc (.cells #[.int .i64 xk,.int .i64 xf,.int .i64 xt,.string xs,.slice xA n xc,.slice xB m xd] 29):=⟨_,rfl⟩
 have z1:W1.heap.size=W.heap.size+1:=by rw[hW1];simp
 have HB1:=hid (show Below W.heap.size W W1 by rw[hW1];exact below1s W _)
 have HB2:=hid (HB1.out.trans ((below1s W1 (.cells #[.int .i64 s.kind,.string s.name,.int .i64 s.index,.int .i64 s.start,.int .i64 s.en,.bool s.hs,.bool s.he,.int .i64 s.stride] 42)).mono HB1.out.size))
 have HEND:=hid (fun (l:List Nat) (w:World) (hb:Below W.heap.size W w) (e:Ending) (w':World) (h:ChEnd l w e w')=>show ChEnd l W e w' from by
   obtain ⟨u,h1,h2,h3⟩:=h
   exact ⟨u,h1,h2.mono hb.size,hb.trans (h3.mono hb.size)⟩)
 have HNIL:=hid (fun (w:World) (hb:Below W.heap.size W w) (hc:childT v s=[])=>show ChEnd (childT v s) W (.returned (.slice none 0 0)) w from ⟨_,rfl,by rw[hc];exact GRow.nil _ _,hb⟩)
 rw[hW1] at HB2
 clear z1 hW1 HB1
 by_cases hN5:xk=5∧s.kind=0
 ·obtain ⟨a5,a0⟩:=hN5
  have KK:=hid (K1.out (by have:=HKD.out;omega) a0)
  subst a5
  rw[a0] at HB2 ⊢
  clear K1 K2 K3 HNO HAL HNIL
  go_enter Tryz.func11,Tryz.ntmps11
  go_wp2
  go_quiet (fail)
  go_wp2_with (go_at_call 28;refine (KK.out _ (below_drewN HB2.out _)).mono ?_;rintro e w4 ⟨u,rfl,hr4,hb4⟩;have HE:=hid (HEND.out _ _ (below_drewN HB2.out _) _ _ ⟨u,rfl,hr4,hb4⟩);clear hr4 hb4)
  go_ret
  exact HE.out
 by_cases hN1:(xk=4∨xk=5)∧s.kind=1
 ·obtain ⟨a5,a0⟩:=hN1
  have HAL2:=hid (HAL.out (by have:=HKD.out;omega) a0)
  rw[a0] at HB2 ⊢
  clear K1 K3 HNO HAL HNIL
  rcases a5 with a5|a5
  all_goals
    subst a5
    go_enter Tryz.func11,Tryz.ntmps11
    go_wp2
    go_quiet (fail)
    go_wp2_with (go_at_call 29;refine (K2.out n HN.out _).mono ?_;rintro e w4 ⟨u,rfl,hr4,hb4⟩;have HE:=hid (HEND.out _ _ (below_drewN HB2.out _) _ _ ⟨u,rfl,hr4,hb4⟩);clear hr4 hb4)
    go_ret
    rw[HAL2.out,← HN.out]
    exact HE.out
 by_cases hN2:xk=4∧(s.kind=2∨s.kind=3)
 ·obtain ⟨a5,a0⟩:=hN2
  have KK:=hid (K3.out n HN.out (by have:=HKD.out;omega) a0)
  subst a5
  clear K1 K2 K3 HNO HAL HNIL
  rcases a0 with a0|a0
  all_goals
    rw[a0] at HB2 KK ⊢
    go_enter Tryz.func11,Tryz.ntmps11
    go_wp2
    go_quiet (fail)
    go_wp2_with (go_at_call 30;refine (KK.out _).mono ?_;rintro e w4 ⟨u,rfl,hr4,hb4⟩;have HE:=hid (HEND.out _ _ (below_drewN HB2.out _) _ _ ⟨u,rfl,hr4,hb4⟩);clear hr4 hb4)
    go_ret
    exact HE.out
 have HC:=hid (HNO.out (fun a=>⟨fun b=>hN5 ⟨by have:=HKD.out;omega,b⟩,fun b=>hN1 ⟨by have:=HKD.out;omega,b⟩⟩) (fun a=>⟨fun b=>hN1 ⟨by have:=HKD.out;omega,b⟩,fun b=>hN2 ⟨by have:=HKD.out;omega,.inl b⟩,fun b=>hN2 ⟨by have:=HKD.out;omega,.inr b⟩⟩))
 clear K1 K2 K3 HNO HAL
 by_cases a5:xk=5
 ·have r0:(s.kind==0)=false:=beq_eq_false_iff_ne.2 fun b=>hN5 ⟨a5,b⟩
  have r1:(s.kind==1)=false:=beq_eq_false_iff_ne.2 fun b=>hN1 ⟨.inr a5,b⟩
  subst a5
  clear hN5 hN1 hN2
  generalize s.kind=sk at *
  go_enter Tryz.func11,Tryz.ntmps11
  go_wp2
  go_quiet (fail)
  go_wp2
  all_goals
    go_ret
    exact HNIL.out _ (below_drewN HB2.out _) HC.out
 by_cases a4:xk=4
 ·have r1:(s.kind==1)=false:=beq_eq_false_iff_ne.2 fun b=>hN1 ⟨.inl a4,b⟩
  have r2:(s.kind==2)=false:=beq_eq_false_iff_ne.2 fun b=>hN2 ⟨a4,.inl b⟩
  have r3:(s.kind==3)=false:=beq_eq_false_iff_ne.2 fun b=>hN2 ⟨a4,.inr b⟩
  subst a4
  clear hN5 hN1 hN2
  generalize s.kind=sk at *
  go_enter Tryz.func11,Tryz.ntmps11
  go_wp2
  go_quiet (fail)
  go_wp2
  all_goals
    go_ret
    exact HNIL.out _ (below_drewN HB2.out _) HC.out
 have q5:(xk==5)=false:=beq_eq_false_iff_ne.2 a5
 have q4:(xk==4)=false:=beq_eq_false_iff_ne.2 a4
 clear hN5 hN1 hN2 a5 a4
 generalize s.kind=sk at *
 go_enter Tryz.func11,Tryz.ntmps11
 go_wp2
 go_quiet (fail)
 go_wp2
 all_goals
   go_ret
   exact HNIL.out _ (below_drewN HB2.out _) HC.out
end
section
open Go.RowKit
theorem ItRd.set {w:World} {base:Nat} {A:Option Addr} {m c:Nat} {l:List Nat} (h:ItRd w base A m c l) {g:Nat} {cur:Array Value} {T:TypeId} {fz:Nat×Nat} (hg:w.heap[g]?=some (Obj.cells cur T fz)) (hT:T≠3) (j:Nat) (u:Value):ItRd (w.setCell ⟨g,j,none⟩ u) base A m c l:=by
 refine h.stay (by simp[World.setCell]) (fun g' cs fz' hg'=>Below.heap_setCell _ _ _ _ (fun e => ?_))
 subst e
 have hg:w.heap[g']?=some (Obj.cells cur T fz):=hg
 rw[hg] at hg'
 injection hg' with hg'
 injection hg' with _ h2 _
 exact hT h2
theorem ItRd.below {w w':World} {base:Nat} {A:Option Addr} {m c:Nat} {l:List Nat} (h:ItRd w base A m c l) (hb:Below w.heap.size w w'):ItRd w' base A m c l :=
 h.stay hb.size fun g cs fz hg=>hb.block g (Array.getElem?_eq_some_iff.1 hg).1
theorem vis_items {w:World} {base g n c i p:Nat} {vs:List VisV} {s:VisV} (h:GRow visK w base (.slice (some ⟨g,0,none⟩) n c) vs) (hi:vs[i]?=some s) (hp:p=i*5) (A:Option Addr) (m c':Nat) :
   GRow visK (w.setCell ⟨g,p+3,none⟩ (.slice A m c')) base (.slice (some ⟨g,0,none⟩) n c) (vs.set i ⟨s.b,s.o,s.k,s.a,A,m,c',s.h⟩):=by
 subst hp
 exact h.setc (a':=⟨s.b,s.o,s.k,s.a,A,m,c',s.h⟩) hi (j:=3) (by decide) rfl
theorem vis_asked {w:World} {base g n c i p:Nat} {vs:List VisV} {s:VisV} (h:GRow visK w base (.slice (some ⟨g,0,none⟩) n c) vs) (hi:vs[i]?=some s) (hp:p=i*5) (a:Nat) :
   GRow visK (w.setCell ⟨g,p+2,none⟩ (.int .i64 a)) base (.slice (some ⟨g,0,none⟩) n c) (vs.set i ⟨s.b,s.o,s.k,a,s.A,s.m,s.c,s.h⟩):=by
 subst hp
 exact h.setc (a':=⟨s.b,s.o,s.k,a,s.A,s.m,s.c,s.h⟩) hi (j:=2) (by decide) rfl
def VisAt (w:World) (g p:Nat) (s:VisV):Prop :=
 w.cell? ⟨g,p,none⟩=some (.pointer (some ⟨s.b,s.o,none⟩))∧w.cell? ⟨g,p+1,none⟩=some (.int .i64 s.k)∧w.cell? ⟨g,p+2,none⟩=some (.int .i64 s.a)∧w.cell? ⟨g,p+3,none⟩=some (.slice s.A s.m s.c)∧w.cell? ⟨g,p+4,none⟩=some (.int .i64 s.h)
theorem vis_at {w:World} {base g n c i p:Nat} {vs:List VisV} {s:VisV} (h:GRow visK w base (.slice (some ⟨g,0,none⟩) n c) vs) (hi:vs[i]?=some s) (hp:p=i*5):VisAt w g p s:=by
 subst hp
 have e:n=vs.length:=by obtain ⟨A,c',e,_⟩:=h.form;injection e
 subst e
 have c:∀ j u,(visCells s)[j]?=some u→w.cell? ⟨g,i*5+j,none⟩=some u:=fun j u hu=>by
   have:=h.rd.at rfl hi (j:=j) (u:=u) hu
   rwa [Nat.zero_add] at this
 exact ⟨c 0 _ rfl,c 1 _ rfl,c 2 _ rfl,c 3 _ rfl,c 4 _ rfl⟩
def SelAt (w:World) (ad:Addr) (y:Sel):Prop :=
 ad.block<w.heap.size∧w.cell? ad=some (.int .i64 y.kind)∧w.cell? ⟨ad.block,ad.off+1,none⟩=some (.string y.name)∧w.cell? ⟨ad.block,ad.off+2,none⟩=some (.int .i64 y.index)∧w.cell? ⟨ad.block,ad.off+3,none⟩=some (.int .i64 y.start)∧w.cell? ⟨ad.block,ad.off+4,none⟩=some (.int .i64 y.en)∧w.cell? ⟨ad.block,ad.off+5,none⟩=some (.bool y.hs)∧w.cell? ⟨ad.block,ad.off+6,none⟩=some (.bool y.he)∧w.cell? ⟨ad.block,ad.off+7,none⟩=some (.int .i64 y.stride)
theorem SelAt.stay {w w':World} {ad:Addr} {y:Sel} {B:Nat} (h:SelAt w ad y) (hb:Below B w w') (hB:ad.block<B):SelAt w' ad y:=by
 obtain ⟨h0,h1,h2,h3,h4,h5,h6,h7,h8⟩:=h
 have g:∀ j,w'.cell? ⟨ad.block,j,none⟩=w.cell? ⟨ad.block,j,none⟩:=fun j=>hb.cell (p:=⟨ad.block,j,none⟩) hB
 exact ⟨Nat.lt_of_lt_of_le h0 hb.size,by rw[hb.cell hB];exact h1,by rw[g];exact h2,by rw[g];exact h3,by rw[g];exact h4,by rw[g];exact h5,by rw[g];exact h6,by rw[g];exact h7,by rw[g];exact h8⟩
theorem PtrV.stay' {w w':World} {b o:Nat} {x:V6} {B:Nat} (h:PtrV w b o x) (hb:Below B w w') (hB:b<B):PtrV w' b o x:=by
 obtain ⟨h0,h1,h2,h3,h4,h5,h6⟩:=h
 have g:∀ j,w'.cell? ⟨b,j,none⟩=w.cell? ⟨b,j,none⟩:=fun j=>hb.cell (p:=⟨b,j,none⟩) hB
 exact ⟨Nat.lt_of_lt_of_le h0 hb.size,by rw[g];exact h1,by rw[g];exact h2,by rw[g];exact h3,by rw[g];exact h4,by rw[g];exact h5,by rw[g];exact h6⟩
def NxAt (g p bx a:Nat) (b o:Nat) (x:V6) (B:Option Addr) (m c2:Nat) (ad:Addr) (y:Sel) (w:World):Prop :=
 w.cell? ⟨g,p,none⟩=some (.pointer (some ⟨b,o,none⟩))∧w.cell? ⟨g,p+2,none⟩=some (.int .i64 a)∧w.cell? ⟨bx,1,none⟩=some (.slice B m c2)∧w.frozen? ⟨g,p+3,none⟩=false∧w.frozen? ⟨g,p+2,none⟩=false ∧
 (w.cell? ⟨b,o,none⟩=some (.int .i64 x.kd)∧w.cell? ⟨b,o+1,none⟩=some (.int .i64 x.fr)∧w.cell? ⟨b,o+2,none⟩=some (.int .i64 x.to)∧w.cell? ⟨b,o+3,none⟩=some (.string ⟨x.tx.toArray⟩)∧w.cell? ⟨b,o+4,none⟩=some (.slice x.A x.n x.c)∧w.cell? ⟨b,o+5,none⟩=some (.slice x.B x.m x.d)) ∧
 (w.cell? ad=some (.int .i64 y.kind)∧w.cell? ⟨ad.block,ad.off+1,none⟩=some (.string y.name)∧w.cell? ⟨ad.block,ad.off+2,none⟩=some (.int .i64 y.index)∧w.cell? ⟨ad.block,ad.off+3,none⟩=some (.int .i64 y.start)∧w.cell? ⟨ad.block,ad.off+4,none⟩=some (.int .i64 y.en)∧w.cell? ⟨ad.block,ad.off+5,none⟩=some (.bool y.hs)∧w.cell? ⟨ad.block,ad.off+6,none⟩=some (.bool y.he)∧w.cell? ⟨ad.block,ad.off+7,none⟩=some (.int .i64 y.stride))
def NxEnd (V0 W:World) (g n c i:Nat) (vs:List VisV) (s:VisV) (many:Nat) (r:Option (Nat×Nat×List Nat)) (e:Ending) (w':World):Prop :=
 ∃ s1:VisV,(s1.b=s.b∧s1.o=s.o∧s1.k=s.k∧s1.h=s.h)∧Turned g W w'∧GRow visK w' V0.heap.size (.slice (some ⟨g,0,none⟩) n c) (vs.set i s1) ∧
   match r with
   | none=>e=.returned (.tuple #[.int .i64 0,.int .i64 0,.bool false])∧s1.a≤many+1∧ItRd w' V0.heap.size s1.A s1.m s1.c []
   | some (j,a,l)=>e=.returned (.tuple #[.int .i64 j,.int .i64 (if a≤many then s.k+1 else s.k:Nat),.bool true])∧s1.a=a∧ItRd w' V0.heap.size s1.A s1.m s1.c l
def RelNx (V0 W1:World) (g n c i:Nat) (vs:List VisV) (s:VisV) (t:Tree) (sg:Sgm) (r:Option (Nat×Nat×List Nat)) (k:Nat) (wr:World):Prop :=
 ∃ (s1:VisV) (l1:List Nat),(s1.b=s.b∧s1.o=s.o∧s1.k=s.k∧s1.h=s.h)∧Turned g W1 wr∧GRow visK wr V0.heap.size (.slice (some ⟨g,0,none⟩) n c) (vs.set i s1)∧ItRd wr V0.heap.size s1.A s1.m s1.c l1 ∧
   s1.a≤sg.sels.length+1∧k=sg.sels.length+1-s1.a∧nxtV t sg (sg.sels.length+1-s1.a) s1.a l1=r
set_option maxHeartbeats 16000000 in
theorem enext_any (t:Tree) (x:V6) (sg:Sgm) (s:VisV) (l:List Nat) (vs:List VisV) (g p i n c:Nat) (B:Option Addr) (m c2:Nat) (V0 W:World)
   (hb0:Below V0.heap.size V0 W) (hg:V0.heap.size≤g) (hp:p=i*5) (hp9:i≤100000) (hrow:GRow visK W V0.heap.size (.slice (some ⟨g,0,none⟩) n c) vs) (hi:vs[i]?=some s)
   (hptr:PtrV V0 s.b s.o x) (hv:VIs V0 t x) (hit:ItRd W V0.heap.size s.A s.m s.c l) (hsel:SRd V0 B m sg.sels) (hr:∀ y∈sg.sels,RightI y) (h8:sg.sels.length≤8) (ha:s.a≤sg.sels.length+1) (hk:s.k≤1000)
   (h5:t.kd=5→t.names.length=t.items.length) (h9:t.items.length≤1000) :
   Calls Tryz.prog 41 #[.pointer (some ⟨g,p,none⟩),.agg #[.bool sg.deep,.slice B m c2]] W (NxEnd V0 W g n c i vs s sg.sels.length (nxtV t sg (sg.sels.length+1-s.a) s.a l)):=by
 have hgW:g<W.heap.size:=by
   obtain ⟨cur,hc⟩:=hrow.typed (g:=g) rfl
   exact (Array.getElem?_eq_some_iff.1 hc).1
 have hml:sg.sels.length=m:=hsel.1
 have hr0:=hid hr
 have HP:=hid hptr
 have HVV:=hid hv
 have HSL:=hid hsel
 have HI:=hid hi
 have HPI:=hid hp
 have HH8:=hid (And.intro h8 hml)
 obtain ⟨W1,hW1⟩:∃ W1,W1=W.alloc (.cells #[.bool sg.deep,.slice B m c2] 40):=⟨_,rfl⟩
 have HBX:=hid (show Own W1 W.heap.size 40 #[.bool sg.deep,.slice B m c2] by rw[hW1];exact Own.fresh W _ _)
 have HB1:=hid (show Below W.heap.size W W1 by rw[hW1];exact below1s W _)
 have HB01:=hid (show Below V0.heap.size V0 W1 from hb0.trans (HB1.out.mono hb0.size))
 have HR1:=hid (show GRow visK W1 V0.heap.size (.slice (some ⟨g,0,none⟩) n c) vs from hrow.keepB HB1.out (Nat.le_refl _))
 have HI1:=hid (show ItRd W1 V0.heap.size s.A s.m s.c l from hit.below HB1.out)
 have HT1:=hid (show Turned g W W1 from Turned.of_below HB1.out rfl)
 have HW1:=hid hW1
 have hs0:=hb0.size
 have hs1:=HB1.out.size
 have hm9:(m:Int)≤8:=by omega
 clear hb0 hptr hv hsel hi hr hp hrow hit hW1
 generalize hrr:nxtV t sg (sg.sels.length+1-s.a) s.a l=r
 have HRR:=hid hrr
 clear hrr hml h8
 go_enter Tryz.func41,Tryz.ntmps41
 go_wp2
 go_loopg [12] (sg.sels.length+1-s.a) (fun k _ wr=>RelNx V0 W1 g n c i vs s t sg r k wr)
 case atStart =>
   rw[← HW1.out]
   have hset:vs.set i s=vs:=by
     obtain ⟨h1,h2⟩:=List.getElem?_eq_some_iff.1 HI.out
     rw[← h2,List.set_getElem_self]
   exact ⟨s,l,⟨rfl,rfl,rfl,rfl⟩,Turned.refl _ _,by rw[hset];exact HR1.out,HI1.out,ha,rfl,HRR.out⟩
 case round =>
   obtain ⟨s1,l1,hsame,hT,hq,hitr,ha1,hk1,hnx⟩:=hrel
   have hil:i<vs.length:=(List.getElem?_eq_some_iff.1 HI.out).1
   have hi1:(vs.set i s1)[i]?=some s1:=List.getElem?_set_self hil
   obtain ⟨cur,hcur⟩:=hq.typed (g:=g) rfl
   have hgr:g<wr.heap.size:=(Array.getElem?_eq_some_iff.1 hcur).1
   have va:=vis_at hq hi1 HPI.out
   have f3:=hq.free (p+3)
   have f2:=hq.free (p+2)
   have hbox:=hT.2.2.2.2 W.heap.size HBX.out.inside (by omega)
   have hbr:Below V0.heap.size V0 wr:=HB01.out.trans (hT.below hg (by omega))
   have ob:Own wr W.heap.size 40 #[.bool sg.deep,.slice B m c2]:=hbox.trans HBX.out
   have d0:=ob.at 0
   have d1:=ob.at 1
   simp at d0 d1
   have HOB:=hid ob
   have hwx:¬ W.heap.size=g:=by omega
   have hwx':¬ g=W.heap.size:=by omega
   obtain ⟨sb,so,sk,sa,sA,sm,sc,sh⟩:=s1
   obtain ⟨x1,x2,x3,x4⟩:=hsame
   replace x1:sb=s.b:=x1
   replace x2:so=s.o:=x2
   replace x3:sk=s.k:=x3
   replace x4:sh=s.h:=x4
   subst x1 x2 x3 x4
   replace ha1:sa≤sg.sels.length+1:=ha1
   replace hk1:gk=sg.sels.length+1-sa:=hk1
   replace hnx:nxtV t sg (sg.sels.length+1-sa) sa l1=r:=hnx
   obtain ⟨v0,v1,v2,v3,v4⟩:=va
   replace v0:wr.cell? ⟨g,p,none⟩=some (.pointer (some ⟨s.b,s.o,none⟩)):=v0
   replace v1:wr.cell? ⟨g,p+1,none⟩=some (.int .i64 s.k):=v1
   replace v2:wr.cell? ⟨g,p+2,none⟩=some (.int .i64 sa):=v2
   replace v3:wr.cell? ⟨g,p+3,none⟩=some (.slice sA sm sc):=v3
   have HT:=hid hT
   have HQ:=hid hq
   have HI2:=hid hi1
   have HIT:=hid (show ItRd wr V0.heap.size sA sm sc l1 from hitr)
   have HBR:=hid hbr
   have HCU:=hid hcur
   have hml:=HH8.out
   have hsa9:(sa:Int)≤9:=by omega
   have hsk9:(s.k:Int)≤1000:=by omega
   clear hT hq hi1 hbr hcur hitr ob hbox v4
   cases l1 with
   | cons j l2 =>
     have hm0:0<sm:=by have:=HIT.out.1.1;simp at this;omega
     have hcm:=HIT.out.2.1
     have hcx:=HIT.out.2.2.1
     have q0:((sm:Int)==0)=false:=beq_eq_false_iff_ne.2 (by omega)
     obtain ⟨ib,io,hA,_⟩:=HIT.out.1.2 hm0
     subst hA
     obtain ⟨A',hrun,htl⟩:=items_tail (some ⟨ib,io,none⟩) sm sc hm0 hcm
     obtain ⟨hcell,_⟩:=HIT.out.tail
     have HTL:=hid (htl wr.drew V0.heap.size j l2 HIT.out)
     have hnx':r=some (j,sa,l2):=by rw[← hnx];rw[nxtV]
     have HRX:=hid hnx'
     have hm0I:(0:Int)<sm:=by omega
     clear htl hnx hnx'
     have hfin:=(show NxEnd V0 W g n c i vs s sg.sels.length r (.returned (.tuple #[.int .i64 j,.int .i64 (if sa≤sg.sels.length then s.k+1 else s.k:Nat),.bool true])) (wr.drew.setCell ⟨g,p+3,none⟩ (.slice A' (sm-1) (sc-1))) from by
       refine ⟨⟨s.b,s.o,s.k,sa,A',sm-1,sc-1,s.h⟩,⟨rfl,rfl,rfl,rfl⟩,HT1.out.trans ((HT.out.trans (Turned.of_below (Below.refl wr.heap.size wr).drew rfl)).put (p+3) _),?_,?_⟩
       ·have:=vis_items (w:=wr.drew) HQ.out HI2.out HPI.out A' (sm-1) (sc-1)
        rw[List.set_set] at this
        exact this
       ·rw[HRX.out]
        exact ⟨rfl,rfl,HTL.out.set (w:=wr.drew) HCU.out (by decide) _ _⟩)
     clear HRX
     by_cases hle:sa≤sg.sels.length
     ·rw[if_pos hle,Int.natCast_add] at hfin
      have HFIN:=hid hfin
      clear hfin
      have q9:¬ ((sa:Int)>(m:Int)):=by omega
      go_wp2
      go_still_tail 15,(by kernel_rfl)
      go_wp2
      go_quiet (fail)
      go_wp2
      go_quiet (fail)
      go_wp2
      go_ret3
      exact HFIN.out
     ·rw[if_neg hle] at hfin
      have HFIN:=hid hfin
      clear hfin
      have q9:((sa:Int)>(m:Int)):=by omega
      go_wp2
      go_still_tail 15,(by kernel_rfl)
      go_wp2
      go_quiet (fail)
      go_wp2
      go_quiet (fail)
      go_wp2
      go_ret3
      exact HFIN.out
   | nil =>
     have hm0:sm=0:=by have:=HIT.out.1.1;simpa using this.symm
     subst hm0
     obtain ⟨xk,xf,xt,xx,xA,xn,xc,xB,xm,xd⟩:=x
     have HEND:=hid (fun (w5:World) (h5:Below wr.heap.size wr w5) (a:Nat) (ai:Int) (hai:ai=(a:Int)) (A5:Option Addr) (n5 c5:Nat) (l5:List Nat) (ha5:a≤sg.sels.length+1) (hit5:ItRd w5 V0.heap.size A5 n5 c5 l5) (hnx5:nxtV t sg (sg.sels.length+1-a) a l5=r) =>
       show RelNx V0 W1 g n c i vs s t sg r (sg.sels.length+1-a) ((w5.setCell ⟨g,p+3,none⟩ (.slice A5 n5 c5)).setCell ⟨g,p+2,none⟩ (.int .i64 ai)) from by
         subst hai
         have g1:=vis_items (HQ.out.keepB h5 (Nat.le_refl _)) HI2.out HPI.out A5 n5 c5
         rw[List.set_set] at g1
         have g2:=vis_asked g1 (List.getElem?_set_self hil) HPI.out a
         rw[List.set_set] at g2
         have hc5:w5.heap[g]?=some (Obj.cells cur visK.T (0,0)):=(h5.block g hgr).trans HCU.out
         obtain ⟨cur2,hc6⟩:=g1.typed (g:=g) rfl
         exact ⟨⟨s.b,s.o,s.k,a,A5,n5,c5,s.h⟩,l5,⟨rfl,rfl,rfl,rfl⟩,HT.out.trans (((Turned.of_below h5 rfl).put (p+3) _).put (p+2) _),g2,(hit5.set hc5 (by decide) _ _).set hc6 (by decide) _ _,ha5,rfl,hnx5⟩)
     have hpx:=HP.out.stay' HBR.out HP.out.1
     by_cases hlt:sa<sg.sels.length
     ·have hltI:(sa:Int)<m:=by omega
      obtain ⟨ad,hB,hadb,hcl⟩:=HSL.out.2 (by omega)
      subst hB
      have hy:=hcl sa sg.sels[sa] (List.getElem?_eq_getElem hlt)
      have hry:=hr0.out _ (List.getElem_mem hlt)
      have HNX:=hid ((nxt_more (t:=t) hlt).symm.trans hnx)
      generalize sg.sels[sa]=y at *
      have hsy:SelAt V0 (ad.add (sa*8)) y:=⟨by rw[add_block14];exact hadb,hy⟩
      have hsw:=hsy.stay HBR.out (by rw[add_block14];exact hadb)
      have K1:=hid (fun w' (hb:Below V0.heap.size V0 w')=>echildren_any t ⟨xk,xf,xt,xx,xA,xn,xc,xB,xm,xd⟩ y w' (HVV.out.stay hb) h5 hry h9)
      unfold selV at K1
      have HNS:=hid (fun w' (hb:Below wr.heap.size wr w')=>show NxAt g p W.heap.size sa s.b s.o ⟨xk,xf,xt,xx,xA,xn,xc,xB,xm,xd⟩ (some ad) m c2 (ad.add (sa*8)) y w' from by
        have q1:=HQ.out.keepB hb (Nat.le_refl _)
        have q2:=hpx.stay' hb hpx.1
        have q3:=hsw.stay hb hsw.1
        have q4:=HOB.out.stay hb HOB.out.inside
        exact ⟨(hb.cell (p:=⟨g,p,none⟩) hgr).trans v0,(hb.cell (p:=⟨g,p+2,none⟩) hgr).trans v2,q4.at 1,q1.free (p+3),q1.free (p+2),q2.2,q3.2⟩)
      have HNS2:=hid (fun w' (hb:Below wr.heap.size wr w') (u:Value)=>show NxAt g p W.heap.size sa s.b s.o ⟨xk,xf,xt,xx,xA,xn,xc,xB,xm,xd⟩ (some ad) m c2 (ad.add (sa*8)) y (w'.setCell ⟨g,p+3,none⟩ u) from by
        have hh:=HNS.out w' hb
        have z0:V0.heap.size≤g:=hg
        have hsb:=HP.out.1
        have hadb':(ad.add (sa*8)).block<V0.heap.size:=by rw[add_block14];exact hadb
        have o1:∀ a:Addr,a≠⟨g,p+3,none⟩→(w'.setCell ⟨g,p+3,none⟩ u).cell? a=w'.cell? a:=fun a ha=>World.cell?_setCell_other _ _ _ _ (Ne.symm ha)
        have oz:∀ a,(w'.setCell ⟨g,p+3,none⟩ u).frozen? a=w'.frozen? a:=fun a=>World.frozen?_setCell _ _ _ _
        have os:∀ j,(w'.setCell ⟨g,p+3,none⟩ u).cell? ⟨s.b,j,none⟩=w'.cell? ⟨s.b,j,none⟩:=fun j=>o1 _ (fun e=>by injection e with e;omega)
        have oa:∀ j,(w'.setCell ⟨g,p+3,none⟩ u).cell? ⟨(ad.add (sa*8)).block,j,none⟩=w'.cell? ⟨(ad.add (sa*8)).block,j,none⟩:=fun j=>o1 _ (fun e=>by injection e with e;omega)
        have oa0:(w'.setCell ⟨g,p+3,none⟩ u).cell? (ad.add (sa*8))=w'.cell? (ad.add (sa*8)):=o1 _ (fun e=>by have:=congrArg Addr.block e;simp at this;omega)
        unfold NxAt at hh ⊢
        rw[o1 ⟨g,p,none⟩ (by simp),o1 ⟨g,p+2,none⟩ (by simp),o1 ⟨W.heap.size,1,none⟩ (fun e=>by injection e with e;omega),oz,oz,os,os,os,os,os,os,oa0,oa,oa,oa,oa,oa,oa,oa]
        exact hh)
      have hsy2:SelAt wr (ad.add (sa*8)) y:=hsw
      obtain ⟨_,w0,w1,w2,w3,w4,w5',w6,w7⟩:=hsy2
      obtain ⟨_,p0,p1,p2,p3,p4,p5⟩:=hpx
      have HPQ:=hid (And.intro hadb hsw)
      clear hsy hsw hy hcl hnx hadb hry
      go_wp2
      go_quiet (fail)
      go_upto_region 4 with fail
      go_region_held3 (fun w'=>(w'.cell? ⟨g,p,none⟩=some (.pointer (some ⟨s.b,s.o,none⟩))∧w'.cell? ⟨g,p+2,none⟩=some (.int .i64 sa)∧w'.cell? ⟨W.heap.size,1,none⟩=some (.slice (some ad) m c2)∧w'.frozen? ⟨g,p+3,none⟩=false∧w'.frozen? ⟨g,p+2,none⟩=false∧(w'.cell? ⟨s.b,s.o,none⟩=some (.int .i64 xk)∧w'.cell? ⟨s.b,s.o+1,none⟩=some (.int .i64 xf)∧w'.cell? ⟨s.b,s.o+2,none⟩=some (.int .i64 xt)∧w'.cell? ⟨s.b,s.o+3,none⟩=some (.string ⟨xx.toArray⟩)∧w'.cell? ⟨s.b,s.o+4,none⟩=some (.slice xA xn xc)∧w'.cell? ⟨s.b,s.o+5,none⟩=some (.slice xB xm xd))∧(w'.cell? (ad.add (sa*8))=some (.int .i64 y.kind)∧w'.cell? ⟨(ad.add (sa*8)).block,(ad.add (sa*8)).off+1,none⟩=some (.string y.name)∧w'.cell? ⟨(ad.add (sa*8)).block,(ad.add (sa*8)).off+2,none⟩=some (.int .i64 y.index)∧w'.cell? ⟨(ad.add (sa*8)).block,(ad.add (sa*8)).off+3,none⟩=some (.int .i64 y.start)∧w'.cell? ⟨(ad.add (sa*8)).block,(ad.add (sa*8)).off+4,none⟩=some (.int .i64 y.en)∧w'.cell? ⟨(ad.add (sa*8)).block,(ad.add (sa*8)).off+5,none⟩=some (.bool y.hs)∧w'.cell? ⟨(ad.add (sa*8)).block,(ad.add (sa*8)).off+6,none⟩=some (.bool y.he)∧w'.cell? ⟨(ad.add (sa*8)).block,(ad.add (sa*8)).off+7,none⟩=some (.int .i64 y.stride))))
        ((show NxAt g p W.heap.size sa s.b s.o ⟨xk,xf,xt,xx,xA,xn,xc,xB,xm,xd⟩ (some ad) m c2 (ad.add (sa*8)) y _;with_reducible first|exact HNS.out _ (below_drewN (Below.refl _ _) _)|exact HNS.out _ (below_drewN (Below.refl _ _) _).drew|exact HNS.out _ h5b|exact HNS2.out _ h5b _))
        (first
          | (go_at_call 11;refine (K1.out _ (HBR.out.trans ((by first|exact below_drewN (Below.refl wr.heap.size wr) _|exact (below_drewN (Below.refl wr.heap.size wr) _).drew:Below wr.heap.size wr _).mono HBR.out.size))).mono ?_;rintro e w5 ⟨u5,rfl,hr5,hb5⟩;have h5b:Below wr.heap.size wr w5:=(by first|exact (below_drewN (Below.refl wr.heap.size wr) _).trans (hb5.mono (by first|exact (below_drewN (Below.refl wr.heap.size wr) _).size|simp))|exact ((below_drewN (Below.refl wr.heap.size wr) _).drew).trans hb5);obtain ⟨A5,c5,rfl,_⟩:=hr5.form;have k3:=(h5b.cell (p:=⟨g,p+3,none⟩) hgr).trans v3))
      all_goals
        have HN5:=hid (HEND.out w5 h5b (sa+1) ((sa:Int)+1) (by omega) A5 _ c5 (childT t y) (by omega) (ItRd.of_row hr5 (show V0.heap.size≤_ from HBR.out.size)) HNX.out)
        clear h5b hb5 hr5 k3 w0 w1 w2 w3 w4 w5' w6 w7 p0 p1 p2 p3 p4 p5
        go_wp2
        go_roundg (sg.sels.length+1-(sa+1))
        case measure=>omega
        case rel=>exact HN5.out
     ·have hltI:¬ (sa:Int)<m:=by omega
      obtain ⟨_,p0,p1,p2,p3,p4,p5⟩:=hpx
      by_cases hd:sa=sg.sels.length∧sg.deep=true
      ·obtain ⟨hsl,hdp⟩:=hd
       rw[hdp] at d0
       have hnx2:=hnx
       rw[hsl] at hnx2
       have HNX:=hid ((nxt_deep (t:=t) hdp).symm.trans hnx2)
       have hsm:m=sa:=by omega
       subst hsm
       have K1:=hid (fun w' (hb:Below V0.heap.size V0 w')=>echildren_any t ⟨xk,xf,xt,xx,xA,xn,xc,xB,xm,xd⟩ anyS w' (HVV.out.stay hb) h5 ⟨⟨by decide,by decide⟩,⟨by decide,by decide⟩,⟨by decide,by decide⟩,⟨by decide,by decide⟩⟩ h9)
       unfold selV anyS at K1
       have HBQ:=hid (fun n=>below_drewN (Below.refl wr.heap.size wr) n)
       have HSL2:=hid hsl
       clear hnx hnx2 hsl hltI hlt hdp
       go_wp2
       go_quiet (fail)
       go_wp2
       go_quiet (fail)
       go_wp2_with (go_at_call 11;refine (K1.out _ (HBR.out.trans ((HBQ.out _).mono HBR.out.size))).mono ?_;rintro e w5 ⟨u5,rfl,hr5,hb5⟩;have h5b:Below wr.heap.size wr w5:=(HBQ.out _).trans hb5;obtain ⟨A5,c5,rfl,_⟩:=hr5.form;have k3:=(h5b.cell (p:=⟨g,p+3,none⟩) hgr).trans v3;have k2:=(h5b.cell (p:=⟨g,p+2,none⟩) hgr).trans v2;have z5:=HQ.out.keepB h5b (Nat.le_refl _);have z53:=z5.free (p+3);have z52:=z5.free (p+2);have HN5:=hid (HEND.out w5 h5b (m+1) ((m:Int)+1) (by omega) A5 _ c5 _ (by have:=HSL2.out;omega) (ItRd.of_row hr5 (show V0.heap.size≤_ from HBR.out.size)) (by rw[HSL2.out];exact HNX.out));clear h5b hb5 hr5 z5)
       go_roundg (sg.sels.length+1-(m+1))
       case measure=>have:=HSL2.out;omega
       case rel=>exact HN5.out
      ·have HE:=hid (show r=none by
         rw[← hnx]
         refine nxt_end ?_
         by_cases hsl:sa=sg.sels.length
         ·exact .inr ⟨hsl,by cases h:sg.deep;rfl;exact absurd ⟨hsl,h⟩ hd⟩
         ·exact .inl (by omega))
       have HFIN:=hid (fun w' (hb:Below wr.heap.size wr w')=>show NxEnd V0 W g n c i vs s sg.sels.length r (.returned (.tuple #[.int .i64 0,.int .i64 0,.bool false])) w' from
         ⟨⟨s.b,s.o,s.k,sa,sA,0,sc,s.h⟩,⟨rfl,rfl,rfl,rfl⟩,HT1.out.trans (HT.out.trans (Turned.of_below hb rfl)),HQ.out.keepB hb (Nat.le_refl _),by rw[HE.out];exact ⟨rfl,ha1,HIT.out.below hb⟩⟩)
       by_cases hsl:sa=sg.sels.length
       ·have hdp:sg.deep=false:=by
          cases h:sg.deep
          ·rfl
          ·exact absurd ⟨hsl,h⟩ hd
        rw[hdp] at d0
        have hsm:m=sa:=by omega
        subst hsm
        clear hd hnx hsl hltI hlt hdp
        go_wp2
        go_quiet (fail)
        go_wp2
        go_quiet (fail)
        go_wp2
        go_ret3
        exact HFIN.out _ ⟨rfl,rfl,rfl,Nat.le_refl _,fun _ _=>rfl⟩
       ·have q7:((sa:Int)==(m:Int))=false:=beq_eq_false_iff_ne.2 (by omega)
        clear hd hnx
        go_wp2
        go_quiet (fail)
        go_wp2
        go_quiet (fail)
        go_wp2
        go_ret3
        exact HFIN.out _ ⟨rfl,rfl,rfl,Nat.le_refl _,fun _ _=>rfl⟩
end
section
open Go.RowKit
def VisIs (q:List Sgm) (V0 w:World) (s:VisV) (u:Vis):Prop :=
 s.k=numV q (u.s :: u.r)∧s.a=u.a∧s.h=u.h∧(∃ x,PtrV V0 s.b s.o x∧VIs V0 u.n.t x)∧ItRd w V0.heap.size s.A s.m s.c u.l
def FndIs (V0 w:World) (vS:Value) (s:NdV) (d:Nd):Prop :=
 VIs V0 d.t s.x∧GRow stpK w V0.heap.size (.slice s.S s.n s.c) d.p ∧ ∀ g,(Value.slice s.S s.n s.c).ownBlock=some g→vS.ownBlock≠some g
structure MemE (M:Nat) (q:List Sgm) (once:Bool) (qA:Option Addr) (qn qc:Nat) (V0:World) (bw bm:Nat) (w:World) (c:Cfg) (vO vS vR:Value) (vs:List VisV) (L:List Pst) (ns:List NdV):Prop where
 own:Own w bw 99 #[.slice qA qn qc,.bool once,.map (some bm),vO,vS,vR]
 opn:GRow visK w V0.heap.size vO vs
 lenO:vs.length=c.st.length
 vis:∀ (i:Nat) (s:VisV) (u:Vis),vs[i]?=some s→c.st.reverse[i]?=some u→VisIs q V0 w s u
 stp:GRow stpK w V0.heap.size vS L
 top:∀ u st,c.st=u :: st→u.n.p=L.take u.n.p.length
 row:GRow fndK w V0.heap.size vR ns
 lenR:ns.length=c.row.length
 fnd:∀ (i:Nat) (s:NdV) (d:Nd),ns[i]?=some s→c.row[i]?=some d→FndIs V0 w vS s d
 ovr:Over M q.length w bm c.ov
 bel:Below V0.heap.size V0 w
 lowW:V0.heap.size≤bw
 lowM:V0.heap.size≤bm
theorem GRow.belowR {α:Type}{K:RowK α}{w w':World}{base:Nat}{v:Value}{l:List α}(h:GRow K w base v l)(hb:Below w.heap.size w w'):GRow K w' base v l:=h.keepB hb (Nat.le_refl _)
theorem VisIs.move {q:List Sgm} {V0 w w':World} {s:VisV} {u:Vis} (h:VisIs q V0 w s u) (hs:w.heap.size≤w'.heap.size) (hk:∀ (g:Nat) (cs:Array Value) (fz:Nat×Nat),w.heap[g]?=some (Obj.cells cs 3 fz)→w'.heap[g]?=w.heap[g]?):VisIs q V0 w' s u :=
 ⟨h.1,h.2.1,h.2.2.1,h.2.2.2.1,h.2.2.2.2.stay hs hk⟩
section
variable {M:Nat} {q:List Sgm} {once:Bool} {qA:Option Addr} {qn qc:Nat} {V0:World} {bw bm:Nat} {w w':World} {c:Cfg} {vO vS vR:Value} {vs:List VisV} {L:List Pst} {ns:List NdV}
theorem MemE.below (h:MemE M q once qA qn qc V0 bw bm w c vO vS vR vs L ns) (hb:Below w.heap.size w w'):MemE M q once qA qn qc V0 bw bm w' c vO vS vR vs L ns where
 own:=h.own.stay hb h.own.inside
 opn:=h.opn.belowR hb
 lenO:=h.lenO
 vis:=fun i s u h1 h2=>(h.vis i s u h1 h2).move hb.size fun g cs fz hg=>hb.block g (Array.getElem?_eq_some_iff.1 hg).1
 stp:=h.stp.belowR hb
 top:=h.top
 row:=h.row.belowR hb
 lenR:=h.lenR
 fnd:=fun i s d h1 h2=>⟨(h.fnd i s d h1 h2).1,(h.fnd i s d h1 h2).2.1.belowR hb,(h.fnd i s d h1 h2).2.2⟩
 ovr:=h.ovr.stay (hb.block bm h.ovr.lt)
 bel:=h.bel.trans (hb.mono h.bel.size)
 lowW:=h.lowW
 lowM:=h.lowM
theorem typed_ne {w:World} {g g':Nat} {cs cs':Array Value} {T T':TypeId} {fz fz':Nat×Nat} (h:w.heap[g]?=some (Obj.cells cs T fz)) (h':w.heap[g']?=some (Obj.cells cs' T' fz')) (hT:T≠T'):g≠g':=fun e=>by
 subst e
 rw[h] at h'
 injection h' with h'
 injection h' with _ h2 _
 exact hT h2
theorem GRow.move {α:Type} {K:RowK α} {base:Nat} {v:Value} {l:List α} (h:GRow K w base v l) (hk:∀ (g:Nat) (cs:Array Value) (fz:Nat×Nat),w.heap[g]?=some (Obj.cells cs K.T fz)→w'.heap[g]?=w.heap[g]?):GRow K w' base v l :=
 h.stay fun g hg=>by
   obtain ⟨cur,hc⟩:=h.typed hg
   exact hk g cur _ hc
theorem MemE.over (h:MemE M q once qA qn qc V0 bw bm w c vO vS vR vs L ns) {o:Nat→Nat→Bool} (ho:Over M q.length w' bm o) (hg:w.grownBy w' (some bm)):MemE M q once qA qn qc V0 bw bm w' ⟨c.st,o,c.row⟩ vO vS vR vs L ns:=by
 have hk:∀ (g:Nat) (cs:Array Value) (T:TypeId) (fz:Nat×Nat),w.heap[g]?=some (Obj.cells cs T fz)→w'.heap[g]?=w.heap[g]?:=fun g cs T fz hgc =>
   hg.block g (Array.getElem?_eq_some_iff.1 hgc).1 (fun e=>h.ovr.not hgc (Option.some.inj e))
 exact {
   own:=(hk bw _ _ _ h.own).trans h.own
   opn:=h.opn.move fun g cs fz=>hk g cs _ fz
   lenO:=h.lenO
   vis:=fun i s u h1 h2=>(h.vis i s u h1 h2).move hg.size fun g cs fz=>hk g cs _ fz
   stp:=h.stp.move fun g cs fz=>hk g cs _ fz
   top:=h.top
   row:=h.row.move fun g cs fz=>hk g cs _ fz
   lenR:=h.lenR
   fnd:=fun i s d h1 h2=>⟨(h.fnd i s d h1 h2).1,(h.fnd i s d h1 h2).2.1.move fun g cs fz=>hk g cs _ fz,(h.fnd i s d h1 h2).2.2⟩
   ovr:=ho
   bel:=⟨hg.os.trans h.bel.os,hg.tape.trans h.bel.tape,hg.output.trans h.bel.output,Nat.le_trans h.bel.size hg.size,fun k hk=>(hg.block k (Nat.lt_of_lt_of_le hk h.bel.size) (fun e=>by have:=h.lowM;have:=Option.some.inj e;omega)).trans (h.bel.block k hk)⟩
   lowW:=h.lowW
   lowM:=h.lowM }
theorem MemE.cell (h:MemE M q once qA qn qc V0 bw bm w c vO vS vR vs L ns) (j:Nat) (u:Value):∀ (g:Nat) (cs:Array Value) (T:TypeId) (fz:Nat×Nat),w.heap[g]?=some (Obj.cells cs T fz)→T≠99→(w.setCell ⟨bw,j,none⟩ u).heap[g]?=w.heap[g]?:=fun g cs T fz hg hT =>
 Below.heap_setCell _ _ _ _ (typed_ne hg h.own hT)
theorem MemE.pop (h:MemE M q once qA qn qc V0 bw bm w c vO vS vR vs L ns) {u:Vis} {st:List Vis} (hc:c.st=u :: st) (hch:ChnS c.st) {A:Option Addr} {n k:Nat} (hO:vO=.slice A n k) :
   MemE M q once qA qn qc V0 bw bm (w.setCell ⟨bw,3,none⟩ (.slice A (n-1) k)) ⟨st,c.ov,c.row⟩ (.slice A (n-1) k) vS vR (vs.take (n-1)) L ns:=by
 have hk:=h.cell 3 (.slice A (n-1) k)
 have hn:n=vs.length:=by obtain ⟨A',c',e,_⟩:=h.opn.form;rw[hO] at e;injection e
 have hl:vs.length=st.length+1:=by rw[h.lenO,hc];rfl
 subst hO
 refine {
   own:=h.own.put 3 _
   opn:=(h.opn.cut (k:=n-1) (by omega)).move fun g cs fz hg=>hk g cs _ fz hg (by decide)
   lenO:=by rw[List.length_take];show min (n-1) vs.length=st.length;omega
   vis:=fun i s x h1 h2 => ?_
   stp:=h.stp.move fun g cs fz hg=>hk g cs _ fz hg (by decide)
   top:=fun x st' e => ?_
   row:=h.row.move fun g cs fz hg=>hk g cs _ fz hg (by decide)
   lenR:=h.lenR
   fnd:=fun i s d h1 h2=>⟨(h.fnd i s d h1 h2).1,(h.fnd i s d h1 h2).2.1.move fun g cs fz hg=>hk g cs _ fz hg (by decide),(h.fnd i s d h1 h2).2.2⟩
   ovr:=h.ovr.stay (Below.heap_setCell _ _ _ _ (h.ovr.not h.own).symm)
   bel:=h.bel.setCell (p:=⟨bw,3,none⟩) h.lowW _
   lowW:=h.lowW
   lowM:=h.lowM }
 ·rw [List.getElem?_take] at h1
  split at h1
  ·refine (h.vis i s x h1 ?_).move (by simp[World.setCell]) fun g cs fz hg=>hk g cs _ fz hg (by decide)
   have h2:st.reverse[i]?=some x:=h2
   rw[hc,List.reverse_cons,List.getElem?_append_left (by rw[List.length_reverse];omega)]
   exact h2
  ·cases h1
 ·have e:st=x :: st':=e
  rw[hc] at hch
  have h1:=hch.2.1 x (by rw[e];exact List.mem_cons_self)
  have h2:=h.top u st hc
  have h3:x.n.p.length≤u.n.p.length:=by
    have:=congrArg List.length h1.1
    rw[List.length_take] at this
    omega
  rw[h2,List.take_take,Nat.min_eq_left h3] at h1
  exact h1.1
end
end
section
open Go.RowKit
theorem vis_fr {w:World} {t:Tree} {x:V6} (h:VIs w t x):x.fr=t.fr∧x.to=t.to∧x.kd=t.kd:=by
 obtain ⟨kd,fr,td,tx,items,names⟩:=t
 unfold VIs at h
 exact ⟨h.2.1,h.2.2.1,h.1⟩
theorem eleave_any {M:Nat} {v:Tree} {q:List Sgm} {once:Bool} {qA:Option Addr} {qn qc:Nat} {V0:World} {bw bm:Nat} {W:World} {c:Cfg} {vO vS vR:Value} {vs:List VisV} {L:List Pst} {ns:List NdV}
   (h:MemE M q once qA qn qc V0 bw bm W c vO vS vR vs L ns) (hA:InvA M v q c) (hM:M≤1000000) (hQ:q.length≤1000) (ho:OrdT v 0 M) {u:Vis} {st:List Vis} (hc:c.st=u :: st) (hst:st.length≤1000000) (hro:c.row.length≤1000000) :
   Calls Tryz.prog 43 #[.pointer (some ⟨bw,0,none⟩)] W fun e w'=>e=.returned (.tuple #[]) ∧ ∃ vO' vs',MemE M q once qA qn qc V0 bw bm w' (leaC q u st c.ov c.row) vO' vS vR vs' L ns:=by
 have hl:vs.length=st.length+1:=by rw[h.lenO,hc];rfl
 obtain ⟨A,k,hO,_,_,hg⟩:=h.opn.form
 obtain ⟨g,rfl,hgb,hgs⟩:=hg (by omega)
 obtain ⟨AR,kR,hR,_⟩:=h.row.form
 have hlR:=h.lenR
 rw[hlR] at hR
 have hi:vs[st.length]?=some (vs[st.length]'(by omega)):=List.getElem?_eq_getElem (by omega)
 generalize (vs[st.length]'(by omega))=s at hi
 have hu:c.st.reverse[st.length]?=some u:=by rw[hc,List.reverse_cons,List.getElem?_append_right (by simp)];simp
 obtain ⟨s1,s2,s3,⟨x,s4,s5⟩,s6⟩:=h.vis _ s u hi hu
 rw[hl] at hO
 have hrow:=h.opn
 rw[hO] at hrow
 have hva:=vis_at hrow hi rfl
 obtain ⟨v0,v1,v2,v3,v4⟩:=hva
 have hgv:=hA.vis u (by rw[hc];exact List.mem_cons_self)
 have HFX:=hid (show x.fr=u.n.t.fr from (vis_fr s5).1)
 have HFM:=hid (show u.n.t.fr<M by
   obtain ⟨w,hw,e⟩:=hgv.way
   have h1:=ord_at _ v 0 M ho hw
   have h0:=(ordT_iff v 0 M).1 ho
   have:u.n.t=atT v w:=congrArg Nd.t e
   rw[this];omega)
 have HKQ:=hid (show numV q (u.s :: u.r)≤q.length by unfold numV;omega)
 have HFREE:=hid hgv.free
 have c3:=h.own.at 3
 simp at c3
 rw[hO] at c3
 have hn9:(st.length:Int)≤1000000:=by omega
 have hs:=hid (And.intro s1 (And.intro s2 s3))
 have HL:=hid hl
 clear s1 s2 s3 hrow hl
 obtain ⟨w1,hw1⟩:∃ w1,w1=W.alloc (.cells #[.pointer (some ⟨s.b,s.o,none⟩),.int .i64 s.k,.int .i64 s.a,.slice s.A s.m s.c,.int .i64 s.h] 96):=⟨_,rfl⟩
 have HB:=hid (show Own w1 W.heap.size 96 #[.pointer (some ⟨s.b,s.o,none⟩),.int .i64 s.k,.int .i64 s.a,.slice s.A s.m s.c,.int .i64 s.h] by rw[hw1];exact Own.fresh W _ _)
 have m1:=h.below (w':=w1) (by rw[hw1];exact below1 W _)
 have d3:=m1.own.at 3
 have d2:=m1.own.at 2
 have d5:=m1.own.at 5
 have g3:=m1.own.free 3
 simp at d3 d2 d5
 rw[hO] at d3
 rw[hR] at d5
 have hpx:=s4.stay' m1.bel s4.1
 obtain ⟨_,p0,p1,_⟩:=hpx
 have m2:=m1.pop hc hA.chn hO
 rw[Nat.add_sub_cancel] at m2
 obtain ⟨w2,hw2⟩:∃ w2,w2=w1.setCell ⟨bw,3,none⟩ (.slice (some ⟨g,0,none⟩) st.length k):=⟨_,rfl⟩
 have HW2:=hid hw2
 rw[← hw2] at m2
 have HM2:=hid m2
 have y5:=m2.own.at 5
 have y2:=m2.own.at 2
 simp at y5 y2
 rw[hR] at y5
 have hpx2:=s4.stay' m2.bel s4.1
 obtain ⟨_,r0,r1,_⟩:=hpx2
 have e3:=((below1 W (.cells #[.pointer none,.int .i64 0,.int .i64 0,.slice none 0 0,.int .i64 0] 96)).cell (p:=⟨bw,3,none⟩) h.own.inside).trans c3
 have HW:=hid hw1
 have hbw:¬ bw=W.heap.size:=fun e=>by have:=h.own.inside;omega
 have hbw':¬ W.heap.size=bw:=fun e=>hbw e.symm
 have hsl:=hid (slice_upto visK (some ⟨g,0,none⟩) (st.length+1) k st.length (by have:=m2.opn.form;obtain ⟨A',c',e,q1,_⟩:=this;injection e with _ e1 e2;omega))
 have hrl:=h.lenR
 have hb2:Own w2 W.heap.size 96 #[.pointer (some ⟨s.b,s.o,none⟩),.int .i64 s.k,.int .i64 s.a,.slice s.A s.m s.c,.int .i64 s.h]:=by rw[hw2];exact HB.out.past hbw' _
 have y4:=hb2.at 4
 have y0:=hb2.at 0
 have y1:=hb2.at 1
 simp at y4 y0 y1
 clear hO hR m1 m2 hw1 h hlR hw2 hb2
 generalize hn:st.length=n at *
 have hwr:IntKind.i64.wrap (n:Int)=n:=by rw[IntKind.wrap_i64];omega
 have b1:=below1 W (.cells #[.pointer none,.int .i64 0,.int .i64 0,.slice none 0 0,.int .i64 0] 96)
 have w0:=(b1.cell (p:=⟨g,n*5,none⟩) hgs).trans v0
 have x1:=(b1.cell (p:=⟨g,n*5+1,none⟩) hgs).trans v1
 have x2:=(b1.cell (p:=⟨g,n*5+2,none⟩) hgs).trans v2
 have x3:=(b1.cell (p:=⟨g,n*5+3,none⟩) hgs).trans v3
 have x4:=(b1.cell (p:=⟨g,n*5+4,none⟩) hgs).trans v4
 have hn0:(0:Int)≤n:=by omega
 have hn1:(n:Int)<n+1:=by omega
 have hsl2:=hsl.out
 change ∀ w,(Instr.slice 97 (.slice (some ⟨g,0,none⟩) (n+1) k) none (some (.int .i64 (n:Int))) none).run Tryz.prog w=.ok (.slice (some ⟨g,0,none⟩) n k) w at hsl2
 clear b1 hn
 go_enter Tryz.func43,Tryz.ntmps43
 go_wp2
 go_region
 all_goals
   rw[← HW.out]
   clear v0 v1 v2 v3 v4 c3 e3 w0 x1 x2 x3 x4
   go_wp2
   go_region
 all_goals
   go_wp2
   rw[← HW2.out]
   go_quiet (fail)
   obtain ⟨w5,hw5⟩:∃ w5,w5=w2.drew.drew.drewN nq:=⟨_,rfl⟩
   rw[← hw5]
   have m5:=HM2.out.below (w':=w5) (by rw[hw5];exact ⟨rfl,rfl,rfl,Nat.le_refl _,fun _ _=>rfl⟩)
   have z2:w5.cell? ⟨bw,2,none⟩=some (.map (some bm)):=by rw[hw5];exact y2
   have z0:w5.cell? ⟨W.heap.size,0,none⟩=some (.pointer (some ⟨s.b,s.o,none⟩)):=by rw[hw5];exact y0
   have z1:w5.cell? ⟨W.heap.size,1,none⟩=some (.int .i64 s.k):=by rw[hw5];exact y1
   have zr:w5.cell? ⟨s.b,s.o+1,none⟩=some (.int .i64 x.fr):=by rw[hw5];exact r1
   have HM5:=hid m5
   clear m5 hw5 y0 y1 y2 y4 y5 r0 r1
   by_cases hlen:c.row.length=u.h
   ·have q1:((c.row.length:Int)==(s.h:Int))=true:=by rw[hs.out.2.2,hlen];simp
    obtain ⟨w6,hrun,hov,hgr⟩:=over_put (w:=w5.drew) (HM5.out.ovr.stay rfl) (f:=x.fr) (k:=s.k) (by rw[HFX.out];exact HFM.out) (by rw[hs.out.1];exact HKQ.out) hM hQ (by rw[HFX.out,hs.out.1];exact HFREE.out)
    have HOV:=hid (And.intro hov hgr)
    have HEND:=hid (show ∃ vO' vs',MemE M q once qA qn qc V0 bw bm w6 (leaC q u st c.ov c.row) vO' vS vR vs' L ns from by
      refine ⟨.slice (some ⟨g,0,none⟩) n k,vs.take n,?_⟩
      ·have:=(HM5.out.below (w':=w5.drew) ⟨rfl,rfl,rfl,Nat.le_refl _,fun _ _=>rfl⟩).over hov hgr
       unfold leaC
       rw[if_pos hlen,← HFX.out,← hs.out.1]
       exact this)
    clear hov hgr hlen
    go_wp2
    go_region
    all_goals
      go_wp2
      go_end0
      exact ⟨rfl,HEND.out⟩
   ·have q1:((c.row.length:Int)==(s.h:Int))=false:=beq_eq_false_iff_ne.2 (by rw[hs.out.2.2];omega)
    have HEND:=hid (show ∃ vO' vs',MemE M q once qA qn qc V0 bw bm w5 (leaC q u st c.ov c.row) vO' vS vR vs' L ns from by
      refine ⟨.slice (some ⟨g,0,none⟩) n k,vs.take n,?_⟩
      ·unfold leaC
       rw[if_neg hlen]
       exact HM5.out)
    clear hlen
    go_wp2
    go_end0
    exact ⟨rfl,HEND.out⟩
end
section
open Go.RowKit
theorem enter_over {M:Nat} {v:Tree} {q:List Sgm} {once:Bool} {qA:Option Addr} {qc:Nat} {V0:World} {bw bm:Nat} {W:World} {c:Cfg} {vO vS vR:Value} {vs:List VisV} {L:List Pst} {ns:List NdV}
   (h:MemE M q once qA q.length qc V0 bw bm W c vO vS vR vs L ns) (hM:M≤1000000) (hQ:q.length≤1000) {n:Nd} {i:Nat} {rest:List Sgm} (hi:ItmV M v q n i rest) {sb so:Nat} {x:V6} (hx:PtrV V0 sb so x) (hv:VIs V0 n.t x) (hi9:i≤1000)
   (ho:c.ov (itmT n.t i).fr (numV q rest)=true) :
   Calls Tryz.prog 42 #[.pointer (some ⟨bw,0,none⟩),.pointer (some ⟨sb,so,none⟩),.int .i64 i,.int .i64 (numV q rest)] W fun e w'=>e=.returned (.tuple #[])∧MemE M q once qA q.length qc V0 bw bm w' c vO vS vR vs L ns:=by
 obtain ⟨ib,io,y,hxA,hy,hvy⟩:=ptr_item hv hi.inn
 have hxn:x.n=n.t.items.length:=by obtain ⟨⟨kd,fr,td,tx,items,names⟩,p⟩:=n;exact hv.many.1
 have hin:(i:Int)<x.n:=by have:=hi.inn;omega
 have hfy:y.fr=(itmT n.t i).fr:=(vis_fr hvy).1
 obtain ⟨pre,hpre⟩:=hi.suf
 have hkq:numV q rest≤q.length:=(num_drop hpre).2
 have hlt:=hi.lt
 obtain ⟨xk,xf,xt,xx,xA,xn,xc,xB,xm,xd⟩:=x
 replace hxA:xA=some ⟨ib,io,none⟩:=hxA
 subst hxA
 replace hin:(i:Int)<xn:=hin
 rw[← hfy] at ho hlt
 have hl:∀ m,(Instr.lookup 93 (.map (some bm)) (.agg #[.int .i64 y.fr,.int .i64 (numV q rest)]) false).run Tryz.prog ((W.alloc (.cells #[.int .i64 y.fr,.int .i64 (numV q rest)] 129)).drewN m)=.ok (.bool true) ((W.alloc (.cells #[.int .i64 y.fr,.int .i64 (numV q rest)] 129)).drewN m):=fun m=>by
   have:=over_look (w:=(W.alloc (.cells #[.int .i64 y.fr,.int .i64 (numV q rest)] 129)).drewN m) (h.ovr.stay ((below1 W _).block bm h.ovr.lt)) (f:=y.fr) (k:=numV q rest) (by omega) (by omega)
   rw[ho] at this
   exact this
 have hxs:=hx.stay' h.bel hx.1
 have hys:=hy.stay' h.bel hy.1
 obtain ⟨_,p0,p1,p2,p3,p4,p5⟩:=hxs
 obtain ⟨_,y0,y1,y2,y3,y4,y5⟩:=hys
 replace p4:W.cell? ⟨sb,so+4,none⟩=some (.slice (some ⟨ib,io,none⟩) xn xc):=p4
 have m1:=h.below (below1 W (.cells #[.int .i64 y.fr,.int .i64 (numV q rest)] 129))
 have c2:=m1.own.at 2
 simp at c2
 have HE:=hid (fun n=>show MemE M q once qA q.length qc V0 bw bm _ c vO vS vR vs L ns from m1.below (below_drewN (Below.refl _ _) n))
 have hoT:=Own.fresh W 129 #[.int .i64 y.fr,.int .i64 (numV q rest)]
 have t0:=hoT.at 0
 have t1:=hoT.at 1
 simp at t0 t1
 have hi0:(0:Int)≤i:=by omega
 clear m1 h hx hy hv hvy hxn ho hoT hfy p0 p1 p2 p3 p5 y0 y2 y3 y4 y5 hpre
 generalize numV q rest=k at *
 go_enter Tryz.func42,Tryz.ntmps42
 go_wp2
 go_quiet (fail)
 go_wp2
 refine bodyPost_ret (results_none rfl _ _ _) rfl ?_
 exact ⟨rfl,HE.out _⟩
theorem enter_bare {M:Nat} {v:Tree} {q:List Sgm} {once:Bool} {qA:Option Addr} {qc:Nat} {V0:World} {bw bm:Nat} {W:World} {c:Cfg} {vO vS vR:Value} {vs:List VisV} {L:List Pst} {ns:List NdV}
   (h:MemE M q once qA q.length qc V0 bw bm W c vO vS vR vs L ns) (hM:M≤1000000) (hQ:q.length≤1000) {n:Nd} {i:Nat} {rest:List Sgm} (hi:ItmV M v q n i rest) {sb so:Nat} {x:V6} (hx:PtrV V0 sb so x) (hv:VIs V0 n.t x) (hi9:i≤1000)
   (ho:c.ov (itmT n.t i).fr (numV q rest)=false) (hne:rest≠[]) (hbare:(itmT n.t i).items.length=0) (hl9:c.st.length≤1000000) :
   Calls Tryz.prog 42 #[.pointer (some ⟨bw,0,none⟩),.pointer (some ⟨sb,so,none⟩),.int .i64 i,.int .i64 (numV q rest)] W fun e w'=>e=.returned (.tuple #[])∧MemE M q once qA q.length qc V0 bw bm w' c vO vS vR vs L ns:=by
 obtain ⟨ib,io,y,hxA,hy,hvy⟩:=ptr_item hv hi.inn
 have hxn:x.n=n.t.items.length:=by obtain ⟨⟨kd,fr,td,tx,items,names⟩,p⟩:=n;exact hv.many.1
 have hin:(i:Int)<x.n:=by have:=hi.inn;omega
 have hfy:y.fr=(itmT n.t i).fr:=(vis_fr hvy).1
 obtain ⟨pre,hpre⟩:=hi.suf
 have hkq:numV q rest≤q.length:=(num_drop hpre).2
 have hlt:=hi.lt
 obtain ⟨xk,xf,xt,xx,xA,xn,xc,xB,xm,xd⟩:=x
 replace hxA:xA=some ⟨ib,io,none⟩:=hxA
 subst hxA
 replace hin:(i:Int)<xn:=hin
 rw[← hfy] at ho hlt
 have hl:∀ m,(Instr.lookup 93 (.map (some bm)) (.agg #[.int .i64 y.fr,.int .i64 (numV q rest)]) false).run Tryz.prog ((W.alloc (.cells #[.int .i64 y.fr,.int .i64 (numV q rest)] 129)).drewN m)=.ok (.bool false) ((W.alloc (.cells #[.int .i64 y.fr,.int .i64 (numV q rest)] 129)).drewN m):=fun m=>by
   have:=over_look (w:=(W.alloc (.cells #[.int .i64 y.fr,.int .i64 (numV q rest)] 129)).drewN m) (h.ovr.stay ((below1 W _).block bm h.ovr.lt)) (f:=y.fr) (k:=numV q rest) (by omega) (by omega)
   rw[ho] at this
   exact this
 have hxs:=hx.stay' h.bel hx.1
 have hys:=hy.stay' h.bel hy.1
 have hys0:=hys
 obtain ⟨_,p0,p1,p2,p3,p4,p5⟩:=hxs
 obtain ⟨_,y0,y1,y2,y3,y4,y5⟩:=hys
 replace p4:W.cell? ⟨sb,so+4,none⟩=some (.slice (some ⟨ib,io,none⟩) xn xc):=p4
 have m1:=h.below (below1 W (.cells #[.int .i64 y.fr,.int .i64 (numV q rest)] 129))
 have c2:=m1.own.at 2
 simp at c2
 have HE:=hid (fun n=>show MemE M q once qA q.length qc V0 bw bm _ c vO vS vR vs L ns from m1.below (below_drewN (Below.refl _ _) n))
 have hoT:=Own.fresh W 129 #[.int .i64 y.fr,.int .i64 (numV q rest)]
 have t0:=hoT.at 0
 have t1:=hoT.at 1
 simp at t0 t1
 have hi0:(0:Int)≤i:=by omega
 have hyn:y.n=0:=by
   have:y.n=(itmT n.t i).items.length:=by
     generalize itmT n.t i=tt at hvy
     obtain ⟨kd,fr,td,tx,items,names⟩:=tt
     exact hvy.many.1
   omega
 have c3:=m1.own.at 3
 have c0:=m1.own.at 0
 simp at c3 c0
 obtain ⟨AO,kO,hO,_⟩:=m1.opn.form
 rw[hO,m1.lenO] at c3
 have hkl:((numV q rest:Nat):Int)≠(q.length:Int):=by
   intro e
   have h1:numV q rest=q.length:=by omega
   obtain ⟨s,r,hr⟩:∃ s r,rest=s :: r:=by
     cases rest with
     | nil=>exact absurd rfl hne
     | cons s r=>exact ⟨s,r,rfl⟩
   rw[hr] at h1 hpre
   have:=num_lt hpre
   omega
 have hkq2:(((numV q rest:Nat):Int)==(q.length:Int))=false:=beq_eq_false_iff_ne.2 hkl
 have hst0:0<c.st.length→True:=fun _=>trivial
 have hys1:=hys0.stay (below1 W (.cells #[.int .i64 y.fr,.int .i64 (numV q rest)] 129))
 obtain ⟨_,_,_,_,_,z4,_⟩:=hys1
 rw[hyn] at z4
 clear m1 h hx hy hv hvy hxn ho hoT hfy hys0 hyn hkl hst0 hO hne hbare hkq p0 p1 p2 p3 p5 y0 y2 y3 y4 y5 hpre
 generalize numV q rest=k at *
 go_enter Tryz.func42,Tryz.ntmps42
 go_wp2
 go_quiet (fail)
 go_wp2
 refine bodyPost_ret (results_none rfl _ _ _) rfl ?_
 exact ⟨rfl,HE.out _⟩
end
section
open Go.RowKit
section
variable {M:Nat} {q:List Sgm} {once:Bool} {qA:Option Addr} {qn qc:Nat} {V0:World} {bw bm:Nat} {w w' w9:World} {c:Cfg} {vO vS vR:Value} {vs:List VisV} {L:List Pst} {ns:List NdV}
theorem grown_keeps {α:Type} {K:RowK α} {base:Nat} {v:Value} {l:List α} (h:GRow K w base v l) (hg:w.grownBy w9 v.ownBlock):∀ (g:Nat) (cs:Array Value) (T:TypeId) (fz:Nat×Nat),w.heap[g]?=some (Obj.cells cs T fz)→T≠K.T→w9.heap[g]?=w.heap[g]?:=fun g cs T fz hc hT =>
 hg.block g (Array.getElem?_eq_some_iff.1 hc).1 (fun e=>by
   obtain ⟨cur,hcu⟩:=h.typed e.symm
   exact typed_ne hc hcu hT rfl)
theorem grown_map {α:Type} {K:RowK α} {base:Nat} {v:Value} {l:List α} (h:GRow K w base v l) (hg:w.grownBy w9 v.ownBlock) {M' Q:Nat} {o:Nat→Nat→Bool} (ho:Over M' Q w bm o):Over M' Q w9 bm o :=
 ho.stay (hg.block bm ho.lt (fun e=>by
   obtain ⟨cur,hcu⟩:=h.typed e.symm
   exact ho.not hcu rfl))
theorem MemE.find (h:MemE M q once qA qn qc V0 bw bm w c vO vS vR vs L ns) {w6:World} (hb6:Below w.heap.size w w6) {d:Nd} {y:V6} {A6:Option Addr} {m6 c6:Nat} (hvy:VIs V0 d.t y) (hst:GRow stpK w6 w.heap.size (.slice A6 m6 c6) d.p)
   {vR':Value} (row9:GRow fndK w9 V0.heap.size vR' (ns++[⟨y,A6,m6,c6⟩])) (g9:w6.grownBy w9 vR.ownBlock) :
   MemE M q once qA qn qc V0 bw bm (w9.setCell ⟨bw,5,none⟩ vR') ⟨c.st,c.ov,c.row++[d]⟩ vO vS vR' vs L (ns++[⟨y,A6,m6,c6⟩]):=by
 have h6:=h.below hb6
 have hk9:=grown_keeps h6.row g9
 have own9:Own w9 bw 99 #[.slice qA qn qc,.bool once,.map (some bm),vO,vS,vR]:=(hk9 bw _ _ _ h6.own (by decide)).trans h6.own
 have hk:∀ (g:Nat) (cs:Array Value) (T:TypeId) (fz:Nat×Nat),w6.heap[g]?=some (Obj.cells cs T fz)→T≠fndK.T→T≠99→(w9.setCell ⟨bw,5,none⟩ vR').heap[g]?=w6.heap[g]?:=fun g cs T fz hc h1 h2=>by
   have e:=hk9 g cs T fz hc h1
   rw[Below.heap_setCell w9 ⟨bw,5,none⟩ vR' _ (typed_ne (e.trans hc) own9 h2)]
   exact e
 have hsz:w6.heap.size≤(w9.setCell ⟨bw,5,none⟩ vR').heap.size:=by have:=g9.size;simpa [World.setCell] using this
 have hst9:GRow stpK (w9.setCell ⟨bw,5,none⟩ vR') w.heap.size (.slice A6 m6 c6) d.p:=hst.move fun g cs fz hc=>hk g cs _ fz hc (by decide) (by decide)
 refine {
   own:=own9.put 5 _
   opn:=h6.opn.move fun g cs fz hc=>hk g cs _ fz hc (by decide) (by decide)
   lenO:=h6.lenO
   vis:=fun i s u h1 h2=>(h6.vis i s u h1 h2).move hsz fun g cs fz hc=>hk g cs _ fz hc (by decide) (by decide)
   stp:=h6.stp.move fun g cs fz hc=>hk g cs _ fz hc (by decide) (by decide)
   top:=h6.top
   row:=row9.move fun g cs fz hc=>Below.heap_setCell w9 ⟨bw,5,none⟩ vR' _ (typed_ne hc own9 (by decide))
   lenR:=by rw[List.length_append,List.length_append,h6.lenR];rfl
   fnd:=fun i s e h1 h2 => ?_
   ovr:=(grown_map h6.row g9 h6.ovr).stay (Below.heap_setCell w9 ⟨bw,5,none⟩ vR' _ ((grown_map h6.row g9 h6.ovr).not own9).symm)
   bel:=(below_grown h6.bel g9 h6.bel.size (fun g hg=>(h6.row.low hg).1)).setCell (p:=⟨bw,5,none⟩) h6.lowW _
   lowW:=h6.lowW
   lowM:=h6.lowM }
 rcases Nat.lt_or_ge i ns.length with hlt|hge
 ·rw[List.getElem?_append_left hlt] at h1
  rw[List.getElem?_append_left (by rw[← h6.lenR];exact hlt)] at h2
  obtain ⟨f1,f2,f3⟩:=h6.fnd i s e h1 h2
  exact ⟨f1,f2.move fun g cs fz hc=>hk g cs _ fz hc (by decide) (by decide),f3⟩
 ·have hi:i=ns.length:=by
    have:=(List.getElem?_eq_some_iff.1 h1).1
    rw[List.length_append] at this
    simp at this
    omega
  subst hi
  rw[List.getElem?_append_right (Nat.le_refl _),Nat.sub_self] at h1
  rw[List.getElem?_append_right (by rw[h6.lenR];exact Nat.le_refl _),h6.lenR,Nat.sub_self] at h2
  obtain rfl:_=s:=by simpa using h1
  obtain rfl:_=e:=by simpa using h2
  refine ⟨hvy,hst9.mono h.bel.size,fun g hg hS => ?_⟩
  have h3:=(hst.low hg).1
  have h4:=(h.stp.low hS).2
  omega
theorem MemE.steps (h:MemE M q once qA qn qc V0 bw bm w c vO vS vR vs L ns) {w6:World} (hb6:Below w.heap.size w w6) {A:Option Addr} {m k n:Nat} (hS:vS=.slice A m k) (hn:n≤L.length) (hp:∀ u st,c.st=u :: st→u.n.p.length=n) {x:Pst}
   {vS':Value} (row9:GRow stpK w9 V0.heap.size vS' (L.take n++[x])) (g9:w6.grownBy w9 (Value.slice A n k).ownBlock) (at9:vS'.ownBlock=(Value.slice A n k).ownBlock∨vS'.ownBlock=some w6.heap.size) :
   MemE M q once qA qn qc V0 bw bm (w9.setCell ⟨bw,4,none⟩ vS') c vO vS' vR vs (L.take n++[x]) ns:=by
 have h6:=h.below hb6
 have hob:(Value.slice A n k).ownBlock=vS.ownBlock:=by rw[hS];cases A<;>rfl
 rw[hob] at g9 at9
 have hk9:=grown_keeps h6.stp g9
 have own9:Own w9 bw 99 #[.slice qA qn qc,.bool once,.map (some bm),vO,vS,vR]:=(hk9 bw _ _ _ h6.own (by decide)).trans h6.own
 have hk:∀ (g:Nat) (cs:Array Value) (T:TypeId) (fz:Nat×Nat),w6.heap[g]?=some (Obj.cells cs T fz)→T≠stpK.T→T≠99→(w9.setCell ⟨bw,4,none⟩ vS').heap[g]?=w6.heap[g]?:=fun g cs T fz hc h1 h2=>by
   have e:=hk9 g cs T fz hc h1
   rw[Below.heap_setCell w9 ⟨bw,4,none⟩ vS' _ (typed_ne (e.trans hc) own9 h2)]
   exact e
 have hsz:w6.heap.size≤(w9.setCell ⟨bw,4,none⟩ vS').heap.size:=by have:=g9.size;simpa [World.setCell] using this
 refine {
   own:=own9.put 4 _
   opn:=h6.opn.move fun g cs fz hc=>hk g cs _ fz hc (by decide) (by decide)
   lenO:=h6.lenO
   vis:=fun i s u h1 h2=>(h6.vis i s u h1 h2).move hsz fun g cs fz hc=>hk g cs _ fz hc (by decide) (by decide)
   stp:=row9.move fun g cs fz hc=>Below.heap_setCell w9 ⟨bw,4,none⟩ vS' _ (typed_ne hc own9 (by decide))
   top:=fun u st hc => ?_
   row:=h6.row.move fun g cs fz hc=>hk g cs _ fz hc (by decide) (by decide)
   lenR:=h6.lenR
   fnd:=fun i s e h1 h2 => ?_
   ovr:=(grown_map h6.stp g9 h6.ovr).stay (Below.heap_setCell w9 ⟨bw,4,none⟩ vS' _ ((grown_map h6.stp g9 h6.ovr).not own9).symm)
   bel:=(below_grown h6.bel g9 h6.bel.size (fun g hg=>(h6.stp.low hg).1)).setCell (p:=⟨bw,4,none⟩) h6.lowW _
   lowW:=h6.lowW
   lowM:=h6.lowM }
 ·have h1:=h.top u st hc
  have h2:=hp u st hc
  rw[List.take_append_of_le_length (by rw[List.length_take];omega),List.take_take,Nat.min_eq_left (by omega)]
  exact h1
 ·obtain ⟨f1,f2,f3⟩:=h6.fnd i s e h1 h2
  refine ⟨f1,f2.stay fun g hg => ?_,fun g hg e2 => ?_⟩
  ·obtain ⟨cur,hcu⟩:=f2.typed hg
   have e1:=g9.block g (Array.getElem?_eq_some_iff.1 hcu).1 (fun e=>f3 g hg e.symm)
   rw[Below.heap_setCell w9 ⟨bw,4,none⟩ vS' _ (typed_ne (e1.trans hcu) own9 (by decide))]
   exact e1
  ·rcases at9 with a|a
   ·exact f3 g hg (a▸e2)
   ·have:=(f2.low hg).2
    rw[a] at e2
    injection e2 with e2
    omega
theorem MemE.push (h:MemE M q once qA qn qc V0 bw bm w c vO vS vR vs L ns) {w6:World} (hb6:Below w.heap.size w w6) {u:Vis} {s:VisV} (hs:s.k=numV q (u.s :: u.r)∧s.a=u.a∧s.h=u.h ∧ ∃ x,PtrV V0 s.b s.o x∧VIs V0 u.n.t x) (hl:u.l=[]∧s.A=none∧s.m=0∧s.c=0) (hp:u.n.p=L.take u.n.p.length)
   {vO':Value} (row9:GRow visK w9 V0.heap.size vO' (vs++[s])) (g9:w6.grownBy w9 vO.ownBlock) :
   MemE M q once qA qn qc V0 bw bm (w9.setCell ⟨bw,3,none⟩ vO') ⟨u :: c.st,c.ov,c.row⟩ vO' vS vR (vs++[s]) L ns:=by
 have h6:=h.below hb6
 have hk9:=grown_keeps h6.opn g9
 have own9:Own w9 bw 99 #[.slice qA qn qc,.bool once,.map (some bm),vO,vS,vR]:=(hk9 bw _ _ _ h6.own (by decide)).trans h6.own
 have hk:∀ (g:Nat) (cs:Array Value) (T:TypeId) (fz:Nat×Nat),w6.heap[g]?=some (Obj.cells cs T fz)→T≠visK.T→T≠99→(w9.setCell ⟨bw,3,none⟩ vO').heap[g]?=w6.heap[g]?:=fun g cs T fz hc h1 h2=>by
   have e:=hk9 g cs T fz hc h1
   rw[Below.heap_setCell w9 ⟨bw,3,none⟩ vO' _ (typed_ne (e.trans hc) own9 h2)]
   exact e
 have hsz:w6.heap.size≤(w9.setCell ⟨bw,3,none⟩ vO').heap.size:=by have:=g9.size;simpa [World.setCell] using this
 refine {
   own:=own9.put 3 _
   opn:=row9.move fun g cs fz hc=>Below.heap_setCell w9 ⟨bw,3,none⟩ vO' _ (typed_ne hc own9 (by decide))
   lenO:=by rw[List.length_append,h6.lenO];rfl
   vis:=fun i t x h1 h2 => ?_
   stp:=h6.stp.move fun g cs fz hc=>hk g cs _ fz hc (by decide) (by decide)
   top:=fun x st hc => ?_
   row:=h6.row.move fun g cs fz hc=>hk g cs _ fz hc (by decide) (by decide)
   lenR:=h6.lenR
   fnd:=fun i t e h1 h2=>⟨(h6.fnd i t e h1 h2).1,(h6.fnd i t e h1 h2).2.1.move fun g cs fz hc=>hk g cs _ fz hc (by decide) (by decide),(h6.fnd i t e h1 h2).2.2⟩
   ovr:=(grown_map h6.opn g9 h6.ovr).stay (Below.heap_setCell w9 ⟨bw,3,none⟩ vO' _ ((grown_map h6.opn g9 h6.ovr).not own9).symm)
   bel:=(below_grown h6.bel g9 h6.bel.size (fun g hg=>(h6.opn.low hg).1)).setCell (p:=⟨bw,3,none⟩) h6.lowW _
   lowW:=h6.lowW
   lowM:=h6.lowM }
 ·have h2:(c.st.reverse++[u])[i]?=some x:=by rw[← List.reverse_cons];exact h2
  rcases Nat.lt_or_ge i vs.length with hlt|hge
  ·rw[List.getElem?_append_left hlt] at h1
   rw[List.getElem?_append_left (by rw[List.length_reverse,← h6.lenO];exact hlt)] at h2
   exact (h6.vis i t x h1 h2).move hsz fun g cs fz hc=>hk g cs _ fz hc (by decide) (by decide)
  ·have hi:i=vs.length:=by
     have:=(List.getElem?_eq_some_iff.1 h1).1
     rw[List.length_append] at this
     simp at this
     omega
   subst hi
   rw[List.getElem?_append_right (Nat.le_refl _),Nat.sub_self] at h1
   rw[List.getElem?_append_right (by rw[List.length_reverse,h6.lenO];exact Nat.le_refl _),List.length_reverse,h6.lenO,Nat.sub_self] at h2
   obtain rfl:_=t:=by simpa using h1
   obtain rfl:_=x:=by simpa using h2
   refine ⟨hs.1,hs.2.1,hs.2.2.1,hs.2.2.2,?_⟩
   rw[hl.1,hl.2.1,hl.2.2.1,hl.2.2.2]
   exact ⟨⟨rfl,fun h=>by omega⟩,Nat.le_refl _,by decide,fun _ _ e=>by cases e⟩
 ·have hc:u :: c.st=x :: st:=hc
  injection hc with h1 h2
  subst h1
  exact hp
end
end
section
open Go.RowKit
section
variable {P:Program} {ops:Array Oper} {Q:Exit→Act→World→Prop} {md:Region.Mode} {S:World→Prop} {z:Nat}
def wpTil (P:Program) (md:Region.Mode) (ops:Array Oper) (Q:Exit→Act→World→Prop) (S:World→Prop) (z:Nat):Nat→Array Bool→Act→World→Prop
 | 0,listed,a,w=>Region.ready md ops listed=[]∧Q .normal a w
 | n+1,listed,a,w=>(Region.ready md ops listed=[]→Q .normal a w) ∧ ∀ j∈Region.ready md ops listed,wpOp P ops Q j (fun a' w'=>(j<z→S w')∧wpTil P md ops Q S z n (listed.setIfInBounds j true) a' w') a w
theorem til_any:∀ (n:Nat) (listed:Array Bool) (a:Act) (w:World),wpTil P md ops Q S z n listed a w→wpAny P md ops Q n listed a w
 | 0,_,_,_,h=>h
 | n+1,_,_,_,h=>⟨h.1,fun j hj=>wpOp_mono (fun a' w' hh=>til_any n _ a' w' hh.2) (h.2 j hj)⟩
theorem til_region {id:Nat} {a:Act} {w:World} (hm:P.follows .mixedOrders=true) (hS:S w.drew) (h:S w.drew→wpTil P .any ops Q S z ops.size (Array.replicate ops.size false) a w.drew):(Code.region id ops true).wp P Q a w :=
 wp_region_any hm (til_any _ _ _ _ (h hS))
def closedB (md:Region.Mode) (ops:Array Oper) (listed:Array Bool):Bool:=(List.range ops.size).all fun j => !(listed.getD j false)||(match ops[j]? with
 | some o=>o.after.toList.all fun e => !(Region.binds md e)||listed.getD e.on false
 | none=>true)
def Closed (md:Region.Mode)(ops:Array Oper)(listed:Array Bool):Prop:=∀ (j:Nat) (o:Oper),ops[j]?=some o→listed.getD j false=true → ∀ e∈o.after,Region.binds md e=true→listed.getD e.on false=true
theorem closed_spec {listed:Array Bool} (h:closedB md ops listed=true):Closed md ops listed:=by
 intro j o ho hl e he hb
 have hj:j<ops.size:=(Array.getElem?_eq_some_iff.1 ho).1
 have h1:=List.all_eq_true.1 h j (List.mem_range.2 hj)
 rw[hl,ho] at h1
 have h2:=List.all_eq_true.1 (show (o.after.toList.all fun e => !(Region.binds md e)||listed.getD e.on false)=true by simpa using h1) e (Array.mem_toList_iff.2 he)
 rw[hb] at h2
 simpa using h2
def awaits (md:Region.Mode) (ops:Array Oper):Nat→Nat→Nat→Bool
 | 0,_,_=>false
 | n+1,j,i=>match ops[j]? with
   | some o=>o.after.toList.any fun e=>Region.binds md e&&(e.on==i||awaits md ops n e.on i)
   | none=>true
theorem awaits_spec {listed:Array Bool} (hc:Closed md ops listed) {i:Nat}:∀ (n j:Nat) (o:Oper),ops[j]?=some o→(∀ e∈o.after,Region.binds md e=true→listed.getD e.on false=true)→awaits md ops n j i=true→(∀ e∈o.after,Region.binds md e=true → ∃ q,ops[e.on]?=some q)→(∀ (j:Nat) (o:Oper),ops[j]?=some o → ∀ e∈o.after,Region.binds md e=true → ∃ q,ops[e.on]?=some q)→listed.getD i false=true
 | 0,j,o,ho,hl,h,_,_=>by cases h
 | n + 1,j,o,ho,hl,h,hin,hall=>by
   unfold awaits at h
   rw[ho] at h
   obtain ⟨e,he,h1⟩:=List.any_eq_true.1 h
   rw[Bool.and_eq_true,Bool.or_eq_true] at h1
   have he':=Array.mem_toList_iff.1 he
   have hle:=hl e he' h1.1
   rcases h1.2 with h2|h2
   ·have:e.on=i:=by simpa using h2
    rwa [this] at hle
   ·obtain ⟨q,hq⟩:=hin e he' h1.1
    exact awaits_spec hc n e.on q hq (fun d hd hb=>hc e.on q hq hle d hd hb) h2 (fun d hd hb=>hall e.on q hq d hd hb) hall
def tillB (md:Region.Mode) (ops:Array Oper) (z i:Nat):Bool:=((List.range ops.size).all fun j=>decide (j<z)||awaits md ops ops.size j i)&&((List.range ops.size).all fun j=>match ops[j]? with
 | some o=>o.after.toList.all fun e=>decide (e.on<ops.size)
 | none=>true)
theorem till_spec {i:Nat} (h:tillB md ops z i=true):(∀ j,z≤j→j<ops.size→awaits md ops ops.size j i=true) ∧ ∀ (j:Nat) (o:Oper),ops[j]?=some o → ∀ e∈o.after,Region.binds md e=true → ∃ q,ops[e.on]?=some q:=by
 unfold tillB at h
 rw[Bool.and_eq_true] at h
 refine ⟨fun j hj hl => ?_,fun j o ho e he _ => ?_⟩
 ·have h1:=List.all_eq_true.1 h.1 j (List.mem_range.2 hl)
  rw[decide_eq_false (by omega)] at h1
  simpa using h1
 ·have hj:j<ops.size:=(Array.getElem?_eq_some_iff.1 ho).1
  have h1:=List.all_eq_true.1 h.2 j (List.mem_range.2 hj)
  rw[ho] at h1
  have h2:=List.all_eq_true.1 h1 e (Array.mem_toList_iff.2 he)
  exact ⟨_,Array.getElem?_eq_getElem (of_decide_eq_true h2)⟩
theorem getD_both {listed:Array Bool} {i:Nat} (h:listed.getD i false=true):listed.getD i true=true:=by
 simp only [Array.getD_eq_getD_getElem?] at *
 cases hg:listed[i]? with
 | none=>rfl
 | some x=>rw[hg] at h;exact h
theorem til_first {i:Nat} {o:Oper} {v:Value} (hi:ops[i]?=some o) (hn:Region.noSelect ops=true) (hz:tillB md ops z i=true) (hQ:∀ c a w,Q (.panic c) (a.put o.dst v) w→Q (.panic c) a w) (n:Nat) :
   ∀ (listed:Array Bool) (a:Act) (w:World),Closed md ops listed→(∀ j q,ops[j]?=some q→j≠i→listed.getD j true=false→(∀ e∈q.after,Region.binds md e=true→e.on≠i)→o.apart ops q=true)→i∈Region.ready md ops listed→YieldsIf P ops S o v a→S w →
     wpTil P md ops Q S z n (listed.setIfInBounds i true) (a.put o.dst v) w→wpTil P md ops Q S z (n+1) listed a w:=by
 induction n with
 | zero =>
   intro listed a w hc _ hr hy hS H
   refine ⟨fun e=>absurd hr (by rw[e];simp),fun j hj => ?_⟩
   by_cases e:j=i
   ·subst e
    exact hy.wpOp hi hS ⟨fun _=>hS,H⟩
   ·exact absurd (ready_mono hj e) (by rw[H.1];simp)
 | succ n ih =>
   intro listed a w hc hap hr hy hS H
   refine ⟨fun e=>absurd hr (by rw[e];simp),fun j hj => ?_⟩
   by_cases e:j=i
   ·subst e
    exact hy.wpOp hi hS ⟨fun _=>hS,H⟩
   obtain ⟨hun,q,hq,hall⟩:=mem_ready.1 hj
   have hi0:=(mem_ready.1 hr).1
   have hne:listed.getD i false≠true:=fun h=>by rw[getD_both h] at hi0;cases hi0
   have ahead:∀ d∈q.after,Region.binds md d=true→d.on≠i:=fun d hd hb hon=>hne (hon▸hall d hd hb)
   obtain ⟨hz1,hz2⟩:=till_spec hz
   have hjz:j<z:=by
     by_cases h:j<z
     ·exact h
     ·exact absurd (awaits_spec hc _ j q hq hall (hz1 j (by omega) (Array.getElem?_eq_some_iff.1 hq).1) (fun d hd hb=>hz2 j q hq d hd hb) hz2) hne
   have hput:=wpOp_putIf hq (hap j q hq e hun ahead) (fun cs b=>Region.noSelect_spec hn i o cs b hi) (fun cs b=>Region.noSelect_spec hn j q cs b hq) hQ hy (H.2 j (ready_mono hj e))
   refine wpOp_mono (fun a' w' hh => ?_) hput
   obtain ⟨hy',hS',H'⟩:=hh
   have hSw:=hS' hjz
   have hc':Closed md ops (listed.setIfInBounds j true):=fun l ql hl hll d hd hb=>by
     by_cases ejl:j=l
     ·subst ejl
      obtain rfl:ql=q:=by rw[hq] at hl;injection hl with hl;exact hl.symm
      exact getD_set_true (hall d hd hb)
     ·refine getD_set_true (hc l ql hl ?_ d hd hb)
      rw[getD_set_ne false ejl] at hll
      exact hll
   refine ⟨fun _=>hSw,ih (listed.setIfInBounds j true) a' w' hc' (fun l ql hl hli hlu hla => ?_) (ready_mono hr (Ne.symm e)) hy' hSw (by rw[Array.setIfInBounds_comm _ _ e];exact H')⟩
   refine hap l ql hl hli ?_ hla
   by_cases ejl:j=l
   ·subst ejl;exact hun
   ·rwa [getD_set_ne true ejl] at hlu
theorem til_take {i:Nat} {d:Tmp} {o:Oper} {v:Value} {n:Nat} {listed:Array Bool} {a:Act} {w:World} (hi:ops[i]?=some o) (hd:o.dst=some d) (hn:Region.noSelect ops=true) (hz:tillB md ops z i=true) (hc:closedB md ops listed=true) (hf:Region.free md ops listed i=true) (hr:(Region.ready md ops listed).contains i=true)
   (hQ:∀ c a w,Q (.panic c) (a.put (some d) v) w→Q (.panic c) a w) (hy:YieldsIf P ops S o v a) (hS:S w) (h:wpTil P md ops Q S z n (listed.setIfInBounds i true) (a.put (some d) v) w):wpTil P md ops Q S z (n+1) listed a w :=
 til_first hi hn hz (fun c a w h=>hQ c a w (hd▸h)) n listed a w (closed_spec hc) (Region.free_spec hi hf) (by simpa using hr) hy hS (by rw[hd];exact h)
theorem til_one {i:Nat} {o:Oper} {n:Nat} {listed:Array Bool} {a:Act} {w:World} (hr:Region.ready md ops listed=[i]) (ho:ops[i]?=some o)
   (h:∀ K:Act→World→Prop,Shut (∀ a w,(i<z→S w)→wpTil P md ops Q S z n (listed.setIfInBounds i true) a w→K a w)→if Region.wanted o (yielded ops a.tmps)=true then Oper.wp P o a w K Q else K (a.put o.dst undef) w):wpTil P md ops Q S z (n+1) listed a w:=by
 refine ⟨fun e=>(by rw[hr] at e;cases e),fun j hj => ?_⟩
 rw[hr] at hj
 obtain rfl:j=i:=by simpa using hj
 exact wpOp_step ho (fun K hK=>h K (fun a w hS hW=>hK a w ⟨hS,hW⟩))
theorem til_done {listed:Array Bool} {a:Act} {w:World} (hr:Region.ready md ops listed=[]) (h:Q .normal a w):∀ n,wpTil P md ops Q S z n listed a w
 | 0=>⟨hr,h⟩
 | _+1=>⟨fun _=>h,by rw[hr];simp⟩
end
end
section
open Go.RowKit
theorem enter_find {M:Nat} {v:Tree} {q:List Sgm} {once:Bool} {qA:Option Addr} {qc:Nat} {V0:World} {bw bm:Nat} {W:World} {c:Cfg} {vO vS vR:Value} {vs:List VisV} {L:List Pst} {ns:List NdV}
   (h:MemE M q once qA q.length qc V0 bw bm W c vO vS vR vs L ns) (hA:InvA M v q c) (hM:M≤1000000) (hQ:q.length≤1000) {u:Vis} {st:List Vis} (hc:c.st=u :: st) {i:Nat} (hi:ItmV M v q u.n i []) {sb so:Nat} {x:V6} (hx:PtrV V0 sb so x) (hv:VIs V0 u.n.t x) (hi9:i≤1000)
   (h5:u.n.t.kd=5→i<u.n.t.names.length) (hst:st.length≤100000) (hro:c.row.length≤100000) (ho:c.ov (itmT u.n.t i).fr (numV q [])=false) :
   Calls Tryz.prog 42 #[.pointer (some ⟨bw,0,none⟩),.pointer (some ⟨sb,so,none⟩),.int .i64 i,.int .i64 (numV q [])] W fun e w'=>e=.returned (.tuple #[]) ∧ ∃ vR' ns',MemE M q once qA q.length qc V0 bw bm w' ⟨c.st,if once=true then putO c.ov (itmT u.n.t i).fr (numV q []) else c.ov,c.row++[itmN u.n i]⟩ vO vS vR' vs L ns':=by
 obtain ⟨ib,io,y,hxA,hy,hvy⟩:=ptr_item hv hi.inn
 have hxn:x.n=u.n.t.items.length:=by
   generalize u.n.t=tt at hv
   obtain ⟨kd,fr,td,tx,items,names⟩:=tt
   exact hv.many.1
 have hin:(i:Int)<x.n:=by have:=hi.inn;omega
 have hfy:y.fr=(itmT u.n.t i).fr:=(vis_fr hvy).1
 have hlt:=hi.lt
 have HSTV:=hid (fun w (hb:Below V0.heap.size V0 w)=>estep_any u.n.t x sb so i w (hx.stay' hb hx.1) (hv.stay hb) h5 (by omega))
 obtain ⟨xk,xf,xt,xx,xA,xn,xc,xB,xm,xd⟩:=x
 replace hxA:xA=some ⟨ib,io,none⟩:=hxA
 subst hxA
 replace hin:(i:Int)<xn:=hin
 rw[← hfy] at ho hlt ⊢
 have hnq:numV q []=q.length:=by unfold numV;simp
 rw[hnq] at ho ⊢
 have hl:∀ m,(Instr.lookup 93 (.map (some bm)) (.agg #[.int .i64 y.fr,.int .i64 q.length]) false).run Tryz.prog ((W.alloc (.cells #[.int .i64 y.fr,.int .i64 q.length] 129)).drewN m)=.ok (.bool false) ((W.alloc (.cells #[.int .i64 y.fr,.int .i64 q.length] 129)).drewN m):=fun m=>by
   have:=over_look (w:=(W.alloc (.cells #[.int .i64 y.fr,.int .i64 q.length] 129)).drewN m) (h.ovr.stay ((below1 W _).block bm h.ovr.lt)) (f:=y.fr) (k:=q.length) (by omega) (by omega)
   rw[ho] at this
   exact this
 have hxs:=hx.stay' h.bel hx.1
 have hys:=hy.stay' h.bel hy.1
 obtain ⟨_,p0,p1,p2,p3,p4,p5⟩:=hxs
 obtain ⟨_,y0,y1,y2,y3,y4,y5⟩:=hys
 replace p4:W.cell? ⟨sb,so+4,none⟩=some (.slice (some ⟨ib,io,none⟩) xn xc):=p4
 obtain ⟨w1,hw1⟩:∃ w1,w1=W.alloc (.cells #[.int .i64 y.fr,.int .i64 q.length] 129):=⟨_,rfl⟩
 rw[← hw1] at hl
 have hbw1:Below W.heap.size W w1:=by rw[hw1];exact below1 W _
 have m1:=h.below hbw1
 have c2:=m1.own.at 2
 have c3:=m1.own.at 3
 have c0:=m1.own.at 0
 simp at c2 c3 c0
 obtain ⟨AO,kO,hO,_⟩:=m1.opn.form
 have hl1:vs.length=st.length+1:=by rw[h.lenO,hc];rfl
 rw[hO,hl1] at c3
 obtain ⟨AS,kS,hS,hLk,_⟩:=h.stp.form
 obtain ⟨AR,kR,hR,_⟩:=h.row.form
 rw[h.lenR] at hR
 have hpl:u.n.p.length=st.length:=by have:=hA.chn;rw[hc] at this;exact this.1
 have htop:=h.top u st hc
 rw[hpl] at htop
 have hLn:st.length≤L.length:=by
   have:=congrArg List.length htop
   rw[List.length_take,hpl] at this
   omega
 have hoT:Own w1 W.heap.size 129 #[.int .i64 y.fr,.int .i64 q.length]:=by rw[hw1];exact Own.fresh W _ _
 have HTW:=hid hoT
 have HNE:=hid (show W.heap.size≠bw from fun e=>by have:=h.own.inside;omega)
 have t0:=hoT.at 0
 have t1:=hoT.at 1
 simp at t0 t1
 have hi0:(0:Int)≤i:=by omega
 have HIP:=hid (show (itmN u.n i).p=L.take st.length++[stpT u.n.t i] by rw[← htop];rfl)
 have hcut:GRow stpK W V0.heap.size (.slice AS st.length kS) (L.take st.length):=by have:=h.stp;rw[hS] at this;exact this.cut hLn
 have hln:(L.take st.length).length=st.length:=by rw[List.length_take];omega
 have hrdl:RdG stpK W AS st.length (L.take st.length):=by have:=hcut.rd;rwa [hln] at this
 have hsl:∀ w,(Instr.slice 47 (.slice AS L.length kS) none (some (.int .i64 (st.length:Int))) (some (.int .i64 (st.length:Int)))).run Tryz.prog w=.ok (.slice AS st.length st.length) w:=slice_full stpK AS L.length kS st.length (by omega)
 have HLT:=hid (show (L.take st.length).length≤100000 by rw[hln];exact hst)
 have HRL:=hid (show ns.length≤100000 by rw[h.lenR];exact hro)
 have HVY:=hid (show VIs V0 (itmN u.n i).t y from hvy)
 have HFY:=hid hfy
 have HO:=hid (show c.ov y.fr q.length=false from ho)
 have HLTM:=hid hlt
 have HYP:=hid hy
 have hn9:(st.length:Int)≤100000:=by omega
 have hst':=hst
 have HW1:=hid hw1
 have RD1:=hid (hrdl.below hbw1)
 have HM1:=hid m1
 have hq9:(q.length:Int)≤1000:=by omega
 clear m1 h hx hy hv hvy hxn ho hoT p0 p1 p2 p3 p5 y0 y2 y3 y4 y5 hfy hlt hO hrdl hcut hw1 htop hpl hLn hnq hln hst' hl1 hbw1 hc
 have HS:=hid hS
 have HR:=hid hR
 clear hS hR
 generalize L.take st.length=Ln at *
 generalize hnl:st.length=n at *
 clear hnl
 have hwr:IntKind.i64.wrap (n:Int)=n:=by rw[IntKind.wrap_i64];omega
 go_enter Tryz.func42,Tryz.ntmps42
 go_wp2
 rw[← HW1.out]
 go_quiet (fail)
 obtain ⟨w3,hw3⟩:∃ w3,w3=w1.drewN nq:=⟨_,rfl⟩
 rw[← hw3]
 have m3:=HM1.out.below (w':=w3) (by rw[hw3];exact below_drewN (Below.refl _ _) _)
 have d3:w3.cell? ⟨bw,3,none⟩=some (.slice AO (n+1) kO):=by rw[hw3];exact c3
 have d0:w3.cell? ⟨bw,0,none⟩=some (.slice qA q.length qc):=by rw[hw3];exact c0
 have e0:w3.cell? ⟨W.heap.size,0,none⟩=some (.int .i64 y.fr):=by rw[hw3];exact t0
 have e1:w3.cell? ⟨W.heap.size,1,none⟩=some (.int .i64 q.length):=by rw[hw3];exact t1
 have RDL:=hid (show RdG stpK w3 AS n Ln from RD1.out.below (by rw[hw3];exact below_drewN (Below.refl _ _) _))
 rw[HS.out,HR.out] at m3
 have HM:=hid m3
 have HST:=hid (fun w (hb:Below w3.heap.size w3 w)=>HSTV.out w (m3.bel.trans (hb.mono m3.bel.size)))
 have HTN:=hid (show Own w3 W.heap.size 129 #[.int .i64 y.fr,.int .i64 q.length] by rw[hw3];exact HTW.out)
 clear hw3 c0 c2 c3 t0 t1 hl m3
 have HSB:=hid (fun w' (hb:Below w3.heap.size w3 w')=>show (w'.cell? ⟨ib,io+i*6,none⟩=some (.int .i64 y.kd)∧w'.cell? ⟨ib,io+i*6+1,none⟩=some (.int .i64 y.fr)∧w'.cell? ⟨ib,io+i*6+2,none⟩=some (.int .i64 y.to)∧w'.cell? ⟨ib,io+i*6+3,none⟩=some (.string ⟨y.tx.toArray⟩)∧w'.cell? ⟨ib,io+i*6+4,none⟩=some (.slice y.A y.n y.c)∧w'.cell? ⟨ib,io+i*6+5,none⟩=some (.slice y.B y.m y.d))∧w'.cell? ⟨bw,4,none⟩=some (.slice AS L.length kS)∧w'.cell? ⟨bw,5,none⟩=some (.slice AR c.row.length kR) from by
   have hy3:=HYP.out.stay' (HM.out.bel.trans (hb.mono HM.out.bel.size)) HYP.out.1
   have o:=HM.out.own.stay hb HM.out.own.inside
   exact ⟨hy3.2,o.at 4,o.at 5⟩)
 have HOW:=hid (fun w6 w9 (hb:Below w3.heap.size w3 w6) (hg:w6.grownBy w9 (Value.slice AR c.row.length kR).ownBlock)=>show Own w9 bw 99 #[.slice qA q.length qc,.bool once,.map (some bm),vO,.slice AS L.length kS,.slice AR c.row.length kR] from by
   have m6:=HM.out.below hb
   exact (grown_keeps m6.row hg bw _ _ _ m6.own (by decide)).trans m6.own)
 have HSG:=hid (fun w6 w9 (hb:Below w3.heap.size w3 w6) (hg:w6.grownBy w9 (Value.slice AR c.row.length kR).ownBlock)=>show (w9.cell? ⟨ib,io+i*6,none⟩=some (.int .i64 y.kd)∧w9.cell? ⟨ib,io+i*6+1,none⟩=some (.int .i64 y.fr)∧w9.cell? ⟨ib,io+i*6+2,none⟩=some (.int .i64 y.to)∧w9.cell? ⟨ib,io+i*6+3,none⟩=some (.string ⟨y.tx.toArray⟩)∧w9.cell? ⟨ib,io+i*6+4,none⟩=some (.slice y.A y.n y.c)∧w9.cell? ⟨ib,io+i*6+5,none⟩=some (.slice y.B y.m y.d))∧w9.cell? ⟨bw,4,none⟩=some (.slice AS L.length kS)∧w9.cell? ⟨bw,5,none⟩=some (.slice AR c.row.length kR) from by
   have m6:=HM.out.below hb
   have hy3:=HYP.out.stay' (below_grown m6.bel hg m6.bel.size (fun g hg=>(m6.row.low hg).1)) HYP.out.1
   have o:=HOW.out _ _ hb hg
   exact ⟨hy3.2,o.at 4,o.at 5⟩)
 go_wp2
 -- BEGIN
 refine til_region (z:=25) (S:=(fun w'=>(w'.cell? ⟨ib,io+i*6,none⟩=some (.int .i64 y.kd)∧w'.cell? ⟨ib,io+i*6+1,none⟩=some (.int .i64 y.fr)∧w'.cell? ⟨ib,io+i*6+2,none⟩=some (.int .i64 y.to)∧w'.cell? ⟨ib,io+i*6+3,none⟩=some (.string ⟨y.tx.toArray⟩)∧w'.cell? ⟨ib,io+i*6+4,none⟩=some (.slice y.A y.n y.c)∧w'.cell? ⟨ib,io+i*6+5,none⟩=some (.slice y.B y.m y.d))∧w'.cell? ⟨bw,4,none⟩=some (.slice AS L.length kS)∧w'.cell? ⟨bw,5,none⟩=some (.slice AR c.row.length kR))) (by kernel_rfl) (HSB.out _ (Below.refl _ _).drew) (fun hHeld => ?_)
 refine til_take (i:=0) (d:=42) (v:=.pointer (some ⟨bw,0,none⟩)) rfl rfl (by kernel_rfl) (by kernel_rfl) (by kernel_rfl) (by kernel_rfl) (by kernel_rfl) (fun _ _ _ h=>h) (Or.inl ⟨by rfl,?_⟩) hHeld ?_
 ·intro w hSw
  (try dsimp only at hSw)
  go_simp
 (try dsimp only)
 (try simp only [Act.put,List.setIfInBounds_toArray,List.set_cons_zero,List.set_cons_succ])
 refine til_take (i:=1) (d:=43) (v:=.pointer (some ⟨bw,0,none⟩)) rfl rfl (by kernel_rfl) (by kernel_rfl) (by kernel_rfl) (by kernel_rfl) (by kernel_rfl) (fun _ _ _ h=>h) (Or.inl ⟨by rfl,?_⟩) hHeld ?_
 ·intro w hSw
  (try dsimp only at hSw)
  go_simp
 (try dsimp only)
 (try simp only [Act.put,List.setIfInBounds_toArray,List.set_cons_zero,List.set_cons_succ])
 refine til_take (i:=2) (d:=44) (v:=.pointer (some ⟨bw,0,none⟩)) rfl rfl (by kernel_rfl) (by kernel_rfl) (by kernel_rfl) (by kernel_rfl) (by kernel_rfl) (fun _ _ _ h=>h) (Or.inl ⟨by rfl,?_⟩) hHeld ?_
 ·intro w hSw
  (try dsimp only at hSw)
  go_simp
 (try dsimp only)
 (try simp only [Act.put,List.setIfInBounds_toArray,List.set_cons_zero,List.set_cons_succ])
 refine til_take (i:=3) (d:=45) (v:=.pointer (some ⟨bw,5,none⟩)) rfl rfl (by kernel_rfl) (by kernel_rfl) (by kernel_rfl) (by kernel_rfl) (by kernel_rfl) (fun _ _ _ h=>h) (Or.inl ⟨by rfl,?_⟩) hHeld ?_
 ·intro w hSw
  (try dsimp only at hSw)
  go_simp
 (try dsimp only)
 (try simp only [Act.put,List.setIfInBounds_toArray,List.set_cons_zero,List.set_cons_succ])
 refine til_take (i:=4) (d:=46) (v:=.slice AR c.row.length kR) rfl rfl (by kernel_rfl) (by kernel_rfl) (by kernel_rfl) (by kernel_rfl) (by kernel_rfl) (fun _ _ _ h=>h) (Or.inl ⟨by rfl,?_⟩) hHeld ?_
 ·intro w hSw
  (try dsimp only at hSw)
  go_simp
 (try dsimp only)
 (try simp only [Act.put,List.setIfInBounds_toArray,List.set_cons_zero,List.set_cons_succ])
 refine til_take (i:=5) (d:=47) (v:=.pointer (some ⟨ib,io+i*6,none⟩)) rfl rfl (by kernel_rfl) (by kernel_rfl) (by kernel_rfl) (by kernel_rfl) (by kernel_rfl) (fun _ _ _ h=>h) (Or.inl ⟨by rfl,?_⟩) hHeld ?_
 ·intro w hSw
  (try dsimp only at hSw)
  go_simp
 (try dsimp only)
 (try simp only [Act.put,List.setIfInBounds_toArray,List.set_cons_zero,List.set_cons_succ])
 refine til_take (i:=6) (d:=48) (v:=.pointer (some ⟨ib,io+i*6,none⟩)) rfl rfl (by kernel_rfl) (by kernel_rfl) (by kernel_rfl) (by kernel_rfl) (by kernel_rfl) (fun _ _ _ h=>h) (Or.inl ⟨by rfl,?_⟩) hHeld ?_
 ·intro w hSw
  (try dsimp only at hSw)
  go_simp
 (try dsimp only)
 (try simp only [Act.put,List.setIfInBounds_toArray,List.set_cons_zero,List.set_cons_succ])
 refine til_take (i:=7) (d:=49) (v:=.agg #[.int .i64 y.kd,.int .i64 y.fr,.int .i64 y.to,.string ⟨y.tx.toArray⟩,.slice y.A y.n y.c,.slice y.B y.m y.d]) rfl rfl (by kernel_rfl) (by kernel_rfl) (by kernel_rfl) (by kernel_rfl) (by kernel_rfl) (fun _ _ _ h=>h) (Or.inl ⟨by rfl,?_⟩) hHeld ?_
 ·intro w hSw
  (try dsimp only at hSw)
  go_simp
 (try dsimp only)
 (try simp only [Act.put,List.setIfInBounds_toArray,List.set_cons_zero,List.set_cons_succ])
 refine til_take (i:=8) (d:=50) (v:=.pointer (some ⟨bw,0,none⟩)) rfl rfl (by kernel_rfl) (by kernel_rfl) (by kernel_rfl) (by kernel_rfl) (by kernel_rfl) (fun _ _ _ h=>h) (Or.inl ⟨by rfl,?_⟩) hHeld ?_
 ·intro w hSw
  (try dsimp only at hSw)
  go_simp
 (try dsimp only)
 (try simp only [Act.put,List.setIfInBounds_toArray,List.set_cons_zero,List.set_cons_succ])
 refine til_take (i:=9) (d:=51) (v:=.pointer (some ⟨bw,0,none⟩)) rfl rfl (by kernel_rfl) (by kernel_rfl) (by kernel_rfl) (by kernel_rfl) (by kernel_rfl) (fun _ _ _ h=>h) (Or.inl ⟨by rfl,?_⟩) hHeld ?_
 ·intro w hSw
  (try dsimp only at hSw)
  go_simp
 (try dsimp only)
 (try simp only [Act.put,List.setIfInBounds_toArray,List.set_cons_zero,List.set_cons_succ])
 refine til_take (i:=10) (d:=52) (v:=.pointer (some ⟨bw,4,none⟩)) rfl rfl (by kernel_rfl) (by kernel_rfl) (by kernel_rfl) (by kernel_rfl) (by kernel_rfl) (fun _ _ _ h=>h) (Or.inl ⟨by rfl,?_⟩) hHeld ?_
 ·intro w hSw
  (try dsimp only at hSw)
  go_simp
 (try dsimp only)
 (try simp only [Act.put,List.setIfInBounds_toArray,List.set_cons_zero,List.set_cons_succ])
 refine til_take (i:=11) (d:=53) (v:=.slice AS L.length kS) rfl rfl (by kernel_rfl) (by kernel_rfl) (by kernel_rfl) (by kernel_rfl) (by kernel_rfl) (fun _ _ _ h=>h) (Or.inl ⟨by rfl,?_⟩) hHeld ?_
 ·intro w hSw
  (try dsimp only at hSw)
  go_simp
 (try dsimp only)
 (try simp only [Act.put,List.setIfInBounds_toArray,List.set_cons_zero,List.set_cons_succ])
 refine til_take (i:=12) (d:=54) (v:=.int .i64 n) rfl rfl (by kernel_rfl) (by kernel_rfl) (by kernel_rfl) (by kernel_rfl) (by kernel_rfl) (fun _ _ _ h=>h) (Or.inl ⟨by rfl,?_⟩) hHeld ?_
 ·intro w hSw
  (try dsimp only at hSw)
  go_simp
 (try dsimp only)
 (try simp only [Act.put,List.setIfInBounds_toArray,List.set_cons_zero,List.set_cons_succ])
 refine til_take (i:=13) (d:=55) (v:=.int .i64 n) rfl rfl (by kernel_rfl) (by kernel_rfl) (by kernel_rfl) (by kernel_rfl) (by kernel_rfl) (fun _ _ _ h=>h) (Or.inl ⟨by rfl,?_⟩) hHeld ?_
 ·intro w hSw
  (try dsimp only at hSw)
  go_simp
 (try dsimp only)
 (try simp only [Act.put,List.setIfInBounds_toArray,List.set_cons_zero,List.set_cons_succ])
 refine til_take (i:=14) (d:=56) (v:=.slice AS n n) rfl rfl (by kernel_rfl) (by kernel_rfl) (by kernel_rfl) (by kernel_rfl) (by kernel_rfl) (fun _ _ _ h=>h) (Or.inl ⟨by rfl,?_⟩) hHeld ?_
 ·intro w hSw
  (try dsimp only at hSw)
  go_simp
 (try dsimp only)
 (try simp only [Act.put,List.setIfInBounds_toArray,List.set_cons_zero,List.set_cons_succ])
 refine til_take (i:=15) (d:=57) (v:=.pointer (some ⟨sb,so,none⟩)) rfl rfl (by kernel_rfl) (by kernel_rfl) (by kernel_rfl) (by kernel_rfl) (by kernel_rfl) (fun _ _ _ h=>h) (Or.inl ⟨by rfl,?_⟩) hHeld ?_
 ·intro w hSw
  (try dsimp only at hSw)
  go_simp
 (try dsimp only)
 (try simp only [Act.put,List.setIfInBounds_toArray,List.set_cons_zero,List.set_cons_succ])
 refine til_take (i:=16) (d:=58) (v:=.int .i64 i) rfl rfl (by kernel_rfl) (by kernel_rfl) (by kernel_rfl) (by kernel_rfl) (by kernel_rfl) (fun _ _ _ h=>h) (Or.inl ⟨by rfl,?_⟩) hHeld ?_
 ·intro w hSw
  (try dsimp only at hSw)
  go_simp
 (try dsimp only)
 (try simp only [Act.put,List.setIfInBounds_toArray,List.set_cons_zero,List.set_cons_succ])
 refine til_one (i:=17) (by kernel_rfl) rfl (fun K17 hK17 => ?_)
 go_simp
 go_at_call 62
 refine (HST.out _ (Below.refl w3.heap.size w3).drew).mono ?_
 rintro e w5 ⟨rfl,hb5⟩
 have h5:Below w3.heap.size w3 w5:=(Below.refl w3.heap.size w3).drew.trans hb5
 have HS5:=hid (HSB.out w5 h5)
 have H5:=hid h5
 clear hb5 h5
 refine hK17.out _ _ (fun _=>HS5.out) ?_
 (try dsimp only)
 (try simp only [Act.put,List.setIfInBounds_toArray,List.set_cons_zero,List.set_cons_succ])
 refine til_one (i:=18) (by kernel_rfl) rfl (fun K18 hK18 => ?_)
 go_simp
 have h5a:Below w3.heap.size w3 (w5.alloc (.cells #[.bool (stpT u.n.t i).named,.string ⟨(stpT u.n.t i).name.toArray⟩,.int .i64 (stpT u.n.t i).index] 86)):=H5.out.trans ((below1 w5 _).mono H5.out.size)
 have H5A:=hid h5a
 have NEW:=hid ((GRow.made (K:=stpK) (base:=0) (l:=[stpT u.n.t i]) w5 #[.bool (stpT u.n.t i).named,.string ⟨(stpT u.n.t i).name.toArray⟩,.int .i64 (stpT u.n.t i).index] rfl (by simp[maxLen]) (Nat.zero_le _)).rd)
 have RDS:=hid (RDL.out.below h5a)
 have HS5A:=hid (HSB.out _ h5a)
 clear h5a
 refine hK18.out _ _ (fun _=>HS5A.out) ?_
 (try dsimp only)
 (try simp only [Act.put,List.setIfInBounds_toArray,List.set_cons_zero,List.set_cons_succ])
 refine til_one (i:=19) (by kernel_rfl) rfl (fun K19 hK19 => ?_)
 refine step_row_fresh (KK:=stpK) rfl (.tmp 56) (.tmp 60) rfl AS n Ln rfl RDS.out (stpT u.n.t i) _ 1 rfl NEW.out (by have:=HLT.out;omega) w3.heap.size H5A.out.size ?_
 intro v6 w6 row6 grown6 at6
 obtain ⟨A6,c6,hv6,_⟩:=row6.form
 generalize (Ln++[stpT u.n.t i]).length=m6 at hv6
 subst hv6
 have h6:Below w3.heap.size w3 w6:=H5A.out.trans ((show Below (w5.alloc (.cells #[.bool (stpT u.n.t i).named,.string ⟨(stpT u.n.t i).name.toArray⟩,.int .i64 (stpT u.n.t i).index] 86)).heap.size (w5.alloc (.cells #[.bool (stpT u.n.t i).named,.string ⟨(stpT u.n.t i).name.toArray⟩,.int .i64 (stpT u.n.t i).index] 86)) w6 from ⟨grown6.os,grown6.tape,grown6.output,grown6.size,fun k hk=>grown6.block k hk (by simp)⟩).mono H5A.out.size)
 have H6:=hid h6
 have R6:=hid row6
 have HS6:=hid (HSB.out _ h6)
 clear h6 row6 grown6 at6
 refine hK19.out _ _ (fun _=>HS6.out) ?_
 (try dsimp only)
 (try simp only [Act.put,List.setIfInBounds_toArray,List.set_cons_zero,List.set_cons_succ])
 refine til_one (i:=20) (by kernel_rfl) rfl (fun K20 hK20 => ?_)
 go_simp
 refine hK20.out _ _ (fun _=>HS6.out) ?_
 (try dsimp only)
 (try simp only [Act.put,List.setIfInBounds_toArray,List.set_cons_zero,List.set_cons_succ])
 refine til_one (i:=21) (by kernel_rfl) rfl (fun K21 hK21 => ?_)
 go_simp
 have h6a:Below w3.heap.size w3 (w6.alloc (.cells #[.int .i64 y.kd,.int .i64 y.fr,.int .i64 y.to,.string ⟨y.tx.toArray⟩,.slice y.A y.n y.c,.slice y.B y.m y.d,.slice A6 m6 c6] 66)):=H6.out.trans ((below1 w6 _).mono H6.out.size)
 have H6A:=hid h6a
 have HS6A:=hid (HSB.out _ h6a)
 have NEWF:=hid ((GRow.made (K:=fndK) (base:=0) (l:=[(⟨y,A6,m6,c6⟩:NdV)]) w6 #[.int .i64 y.kd,.int .i64 y.fr,.int .i64 y.to,.string ⟨y.tx.toArray⟩,.slice y.A y.n y.c,.slice y.B y.m y.d,.slice A6 m6 c6] rfl (by simp[maxLen]) (Nat.zero_le _)).rd)
 have ROWF:=hid (HM.out.row.belowR h6a)
 clear h6a
 refine hK21.out _ _ (fun _=>HS6A.out) ?_
 (try dsimp only)
 (try simp only [Act.put,List.setIfInBounds_toArray,List.set_cons_zero,List.set_cons_succ])
 refine til_one (i:=22) (by kernel_rfl) rfl (fun K22 hK22 => ?_)
 refine step_row_append (KK:=fndK) rfl (.tmp 46) (.tmp 63) rfl V0.heap.size (.slice AR c.row.length kR) ns rfl ROWF.out _ 1 1 [(⟨y,A6,m6,c6⟩:NdV)] rfl NEWF.out (by have:=HRL.out;omega) (Nat.le_trans HM.out.bel.size H6A.out.size) ?_
 intro v9 w9 row9 grown9 at9
 obtain ⟨A9,c9,hv9,_⟩:=row9.form
 generalize (ns++[(⟨y,A6,m6,c6⟩:NdV)]).length=m9 at hv9
 subst hv9
 have HS9:=hid (HSG.out _ _ H6A.out grown9)
 have o9:=HOW.out _ _ H6A.out grown9
 have k5:=o9.at 5
 have z5:=o9.free 5
 simp at k5
 have HMF:=hid (HM.out.find H6A.out HVY.out (d:=itmN u.n i) (by rw[show (itmN u.n i).p=Ln++[stpT u.n.t i] from HIP.out];exact R6.out.belowR (below1 w6 _)) row9 grown9)
 have OT9:=hid (show Own w9 W.heap.size 129 #[.int .i64 y.fr,.int .i64 q.length] from (grown_keeps ROWF.out grown9 W.heap.size _ _ _ (HTN.out.stay H6A.out HTN.out.inside) (by decide)).trans (HTN.out.stay H6A.out HTN.out.inside))
 clear row9 grown9 at9 o9
 refine hK22.out _ _ (fun _=>HS9.out) ?_
 (try dsimp only)
 (try simp only [Act.put,List.setIfInBounds_toArray,List.set_cons_zero,List.set_cons_succ])
 refine til_take (i:=23) (d:=65) (v:=.pointer (some ⟨bw,0,none⟩)) rfl rfl (by kernel_rfl) (by kernel_rfl) (by kernel_rfl) (by kernel_rfl) (by kernel_rfl) (fun _ _ _ h=>h) (Or.inl ⟨by rfl,?_⟩) HS9.out ?_
 ·intro w hSw
  (try dsimp only at hSw)
  go_simp
 (try dsimp only)
 (try simp only [Act.put,List.setIfInBounds_toArray,List.set_cons_zero,List.set_cons_succ])
 refine til_take (i:=24) (d:=66) (v:=.pointer (some ⟨bw,5,none⟩)) rfl rfl (by kernel_rfl) (by kernel_rfl) (by kernel_rfl) (by kernel_rfl) (by kernel_rfl) (fun _ _ _ h=>h) (Or.inl ⟨by rfl,?_⟩) HS9.out ?_
 ·intro w hSw
  (try dsimp only at hSw)
  go_simp
 (try dsimp only)
 (try simp only [Act.put,List.setIfInBounds_toArray,List.set_cons_zero,List.set_cons_succ])
 refine til_one (i:=25) (by kernel_rfl) rfl (fun K25 hK25 => ?_)
 go_simp
 refine hK25.out _ _ (fun h=>absurd h (by decide)) ?_
 (try dsimp only)
 (try simp only [Act.put,List.setIfInBounds_toArray,List.set_cons_zero,List.set_cons_succ])
 refine til_done (by kernel_rfl) ?_ _
 -- END
 obtain ⟨w10,hw10⟩:∃ w10,w10=w9.setCell ⟨bw,5,none⟩ (.slice A9 m9 c9):=⟨_,rfl⟩
 have HW10:=hid hw10
 rw[← hw10] at HMF
 have ot:=(show Own w10 W.heap.size 129 #[.int .i64 y.fr,.int .i64 q.length] by rw[hw10];exact OT9.out.past HNE.out _)
 have g0:=ot.at 0
 have g1:=ot.at 1
 have b1:=HMF.out.own.at 1
 have b2:=HMF.out.own.at 2
 simp at g0 g1 b1 b2
 rw[← HW10.out]
 clear hw10 ot k5 z5
 cases once
 ·go_wp2
  refine bodyPost_ret (results_none rfl _ _ _) rfl ?_
  exact ⟨rfl,_,_,by rw[HS.out];exact HMF.out⟩
 ·obtain ⟨w11,hrun,hov,hgr⟩:=over_put (w:=w10.drew) (HMF.out.ovr.stay rfl) (f:=y.fr) (k:=q.length) HLTM.out (Nat.le_refl _) hM hQ HO.out
  have HE:=hid ((HMF.out.below (w':=w10.drew) ⟨rfl,rfl,rfl,Nat.le_refl _,fun _ _=>rfl⟩).over hov hgr)
  clear hov hgr
  go_wp2
  go_region
  all_goals
    go_wp2
    refine bodyPost_ret (results_none rfl _ _ _) rfl ?_
    exact ⟨rfl,_,_,by rw[HS.out];exact HE.out⟩
end
end Go.Proofs.YtnokhgfifbkflaaGreat
