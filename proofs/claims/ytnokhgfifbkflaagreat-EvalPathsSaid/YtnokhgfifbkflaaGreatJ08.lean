/- Lemmas. -/
import Derived.Test.YtnokhgfifbkflaaGreatJ07
set_option maxRecDepth 100000
set_option maxHeartbeats 8000000
set_option linter.unusedVariables false
namespace Go.Proofs.YtnokhgfifbkflaaGreat
section
open Go.RowKit
theorem rlet_34 (W:World):Calls Tryz.prog 133 #[.int .u8 34] W fun e w'=>e=.returned (.int .u8 34)∧Below W.heap.size W w':=by
 go_enter Tryz.func133,Tryz.ntmps133
 go_wp2
 refine wp_loop_rounds 9 ?_
 rw[rounds_succ]
 go_wp2
 go_ret
 exact ⟨rfl,below2 _ _ _⟩
theorem rlet_92 (W:World):Calls Tryz.prog 133 #[.int .u8 92] W fun e w'=>e=.returned (.int .u8 92)∧Below W.heap.size W w':=by
 go_enter Tryz.func133,Tryz.ntmps133
 go_wp2
 refine wp_loop_rounds 9 ?_
 rw[rounds_succ]
 go_wp2
 rw[rounds_succ]
 go_wp2
 go_ret
 exact ⟨rfl,below2 _ _ _⟩
theorem rlet_98 (W:World):Calls Tryz.prog 133 #[.int .u8 98] W fun e w'=>e=.returned (.int .u8 8)∧Below W.heap.size W w':=by
 go_enter Tryz.func133,Tryz.ntmps133
 go_wp2
 refine wp_loop_rounds 9 ?_
 rw[rounds_succ]
 go_wp2
 rw[rounds_succ]
 go_wp2
 rw[rounds_succ]
 go_wp2
 rw[rounds_succ]
 go_wp2
 go_ret
 exact ⟨rfl,below2 _ _ _⟩
theorem rlet_102 (W:World):Calls Tryz.prog 133 #[.int .u8 102] W fun e w'=>e=.returned (.int .u8 12)∧Below W.heap.size W w':=by
 go_enter Tryz.func133,Tryz.ntmps133
 go_wp2
 refine wp_loop_rounds 9 ?_
 rw[rounds_succ]
 go_wp2
 rw[rounds_succ]
 go_wp2
 rw[rounds_succ]
 go_wp2
 rw[rounds_succ]
 go_wp2
 rw[rounds_succ]
 go_wp2
 go_ret
 exact ⟨rfl,below2 _ _ _⟩
theorem rlet_110 (W:World):Calls Tryz.prog 133 #[.int .u8 110] W fun e w'=>e=.returned (.int .u8 10)∧Below W.heap.size W w':=by
 go_enter Tryz.func133,Tryz.ntmps133
 go_wp2
 refine wp_loop_rounds 9 ?_
 rw[rounds_succ]
 go_wp2
 rw[rounds_succ]
 go_wp2
 rw[rounds_succ]
 go_wp2
 rw[rounds_succ]
 go_wp2
 rw[rounds_succ]
 go_wp2
 rw[rounds_succ]
 go_wp2
 go_ret
 exact ⟨rfl,below2 _ _ _⟩
theorem rlet_114 (W:World):Calls Tryz.prog 133 #[.int .u8 114] W fun e w'=>e=.returned (.int .u8 13)∧Below W.heap.size W w':=by
 go_enter Tryz.func133,Tryz.ntmps133
 go_wp2
 refine wp_loop_rounds 9 ?_
 rw[rounds_succ]
 go_wp2
 rw[rounds_succ]
 go_wp2
 rw[rounds_succ]
 go_wp2
 rw[rounds_succ]
 go_wp2
 rw[rounds_succ]
 go_wp2
 rw[rounds_succ]
 go_wp2
 rw[rounds_succ]
 go_wp2
 go_ret
 exact ⟨rfl,below2 _ _ _⟩
theorem rlet_116 (W:World):Calls Tryz.prog 133 #[.int .u8 116] W fun e w'=>e=.returned (.int .u8 9)∧Below W.heap.size W w':=by
 go_enter Tryz.func133,Tryz.ntmps133
 go_wp2
 refine wp_loop_rounds 9 ?_
 rw[rounds_succ]
 go_wp2
 rw[rounds_succ]
 go_wp2
 rw[rounds_succ]
 go_wp2
 rw[rounds_succ]
 go_wp2
 rw[rounds_succ]
 go_wp2
 rw[rounds_succ]
 go_wp2
 rw[rounds_succ]
 go_wp2
 rw[rounds_succ]
 go_wp2
 go_ret
 exact ⟨rfl,below2 _ _ _⟩
end
section
open Go.RowKit
theorem lit_rd (w:World) (cs:Array Value) (news:List UInt8) (h:cs=(byteCells news).toArray):Rd (w.alloc (.cells cs 5)) (w.heap.size+1) (some ⟨w.heap.size,0,none⟩) news.length (byteCells news):=by
 subst h
 exact Rd.of_list (Own.fresh w 5 _) (byteCells_length news)
theorem part_is (s:ByteArray) (k m:Nat):(s.extract k (k+m)).data.toList=(s.data.toList.drop k).take m:=by
 rw[ByteArray.data_extract,Array.toList_extract,List.extract_eq_take_drop]
 congr 1
 omega
end
section
open Go.RowKit
structure Pst where
 named:Bool
 name:List UInt8
 index:Int
end
section
open Go.RowKit
def digB (c:UInt8):Bool:=decide (48≤c.toNat∧c.toNat≤57)
def valD (ds:List UInt8)(v:Nat):Nat:=ds.foldl (fun a c=>a*10+(c.toNat-48)) v
theorem val_snoc (ds:List UInt8)(d:UInt8)(v:Nat):valD (ds++[d]) v=valD ds v*10+(d.toNat-48):=by unfold valD;rw[List.foldl_append];rfl
end
section
open Go.RowKit
structure RowK (α:Type) where
 T:TypeId
 S:TypeId
 n:Nat
 bytes:Nat
 zero:Value
 enc:α→List Value
 pos:0<n
 len:∀ a,(enc a).length=n
 one:∀ a,∀ u∈enc a,u.oneCell'=true
 under:Tryz.prog.underlying S=some (.slice T)
 info:(Tryz.prog.info? T).map (fun i=>(i.zero,i.size,i.bytes))=some (some zero,n,bytes)
 zlen:zero.cells.size=n
 small:bytes≤1000
section
variable {α:Type} (K:RowK α)
def RowK.all:List α→List Value
 | []=>[]
 | a :: t=>K.enc a++RowK.all t
theorem RowK.all_len:∀ l:List α,(K.all l).length=l.length*K.n
 | []=>by simp[RowK.all]
 | a :: t=>by simp[RowK.all,K.len,RowK.all_len t,Nat.add_mul];omega
theorem RowK.all_append:∀ l m:List α,K.all (l++m)=K.all l++K.all m
 | [],m=>rfl
 | a :: t,m=>by simp[RowK.all,RowK.all_append t m]
theorem RowK.all_one:∀ l:List α,∀ u∈K.all l,u.oneCell'=true
 | [],u,h=>by cases h
 | a :: t,u,h=>by
   rcases List.mem_append.1 h with h|h
   ·exact K.one a u h
   ·exact RowK.all_one t u h
theorem RowK.all_at:∀ (l:List α) (i:Nat) (a:α),l[i]?=some a → ∀ j,j<K.n→(K.all l)[i*K.n+j]?=(K.enc a)[j]?
 | [],i,a,h=>by cases h
 | u :: t,0,a,h=>by
   intro j hj
   obtain rfl:u=a:=by simpa using h
   show (K.enc u++K.all t)[0*K.n+j]?=_
   rw[Nat.zero_mul,Nat.zero_add,List.getElem?_append_left (by rw[K.len];exact hj)]
 | u :: t,i+1,a,h=>by
   intro j hj
   have:=RowK.all_at t i a (by simpa using h) j hj
   rw[← this]
   show (K.enc u++K.all t)[(i+1)*K.n+j]?=_
   rw[List.getElem?_append_right (by rw[K.len,Nat.add_mul];omega),K.len]
   congr 1
   rw[Nat.add_mul]
   omega
theorem RowK.all_take:∀ (l:List α) (k:Nat),K.all (l.take k)=(K.all l).take (k*K.n)
 | [],k=>by simp[RowK.all]
 | a :: t,0=>by simp[RowK.all]
 | a :: t,k+1=>by
   rw[List.take_succ_cons]
   show K.enc a++K.all (t.take k)=(K.enc a++K.all t).take ((k+1)*K.n)
   have e1:(K.enc a).take ((k+1)*K.n)=K.enc a:=List.take_of_length_le (by rw[K.len,Nat.add_mul];omega)
   have e2:(k+1)*K.n-K.n=k*K.n:=by rw[Nat.add_mul];omega
   rw[RowK.all_take t k,List.take_append,K.len,e1,e2]
def RdG (w:World) (A:Option Addr) (m:Nat) (l:List α):Prop :=
 l.length=m∧(0<m → ∃ b o:Nat,A=some ⟨b,o,none⟩∧b<w.heap.size ∧ ∀ j u,(K.all l)[j]?=some u→w.cell? ⟨b,o+j,none⟩=some u)
def GRow (w:World)(base:Nat)(v:Value)(l:List α):Prop:=w.ownsRow base K.T K.n v l.length (K.all l)
variable {K} {w w':World} {base:Nat} {v:Value} {l:List α}
theorem GRow.nil (w:World)(base:Nat):GRow K w base (.slice none 0 0) []:=⟨by simp[RowK.all],.inl ⟨rfl,rfl⟩⟩
theorem GRow.form (h:GRow K w base v l):∃ A c,v=.slice A l.length c∧l.length≤c∧c≤maxLen∧(0<l.length → ∃ g,A=some ⟨g,0,none⟩∧base≤g∧g<w.heap.size):=by
 rcases h.2 with ⟨rfl,h0⟩|⟨g,c,cur,rfl,hb,hg,h1,h2,_⟩
 ·exact ⟨none,0,by rw[h0],by omega,by decide,fun h=>by omega⟩
 ·exact ⟨_,c,rfl,h1,h2,fun _=>⟨g,rfl,hb,(Array.getElem?_eq_some_iff.1 hg).1⟩⟩
theorem GRow.stay (h:GRow K w base v l) (hk:∀ g,v.ownBlock=some g→w'.heap[g]?=w.heap[g]?):GRow K w' base v l:=by
 refine ⟨h.1,?_⟩
 rcases h.2 with hn|⟨g,c,cur,rfl,hbg,hg,rest⟩
 ·exact .inl hn
 ·exact .inr ⟨g,c,cur,rfl,hbg,(hk g rfl).trans hg,rest⟩
theorem GRow.low (h:GRow K w base v l) {g:Nat} (hg:v.ownBlock=some g):base≤g∧g<w.heap.size:=by
 rcases h.2 with ⟨rfl,_⟩|⟨g',c,cur,rfl,hb,hh,_⟩
 ·cases hg
 ·obtain rfl:g'=g:=by simpa [Value.ownBlock] using hg
  exact ⟨hb,(Array.getElem?_eq_some_iff.1 hh).1⟩
theorem GRow.mono {B:Nat} (h:GRow K w base v l) (hB:B≤base):GRow K w B v l:=by
 refine ⟨h.1,?_⟩
 rcases h.2 with hn|⟨g,c,cur,rfl,hbg,rest⟩
 ·exact .inl hn
 ·exact .inr ⟨g,c,cur,rfl,by omega,rest⟩
theorem GRow.rd {A:Option Addr} {m c:Nat} (h:GRow K w base (.slice A m c) l):RdG K w A l.length l:=by
 refine ⟨rfl,fun hn => ?_⟩
 rcases h.2 with ⟨hv,h0⟩|⟨g,c',cur,hv,hb,hg,_⟩
 ·omega
 ·injection hv with hA hn' hc
  subst hA hn' hc
  have hc:=h.cells (g:=g) rfl
  refine ⟨g,0,rfl,(Array.getElem?_eq_some_iff.1 hg).1,fun j u hu => ?_⟩
  have:=hc j u hu
  rwa [add_none] at this
theorem RdG.at {A:Option Addr} {m:Nat} (h:RdG K w A m l) {b o:Nat} (hA:A=some ⟨b,o,none⟩) {i:Nat} {a:α} (ha:l[i]?=some a) {j:Nat} {u:Value} (hu:(K.enc a)[j]?=some u):w.cell? ⟨b,o+(i*K.n+j),none⟩=some u:=by
 have hi:i<l.length:=(List.getElem?_eq_some_iff.1 ha).1
 obtain ⟨b',o',e,_,hc⟩:=h.2 (by have:=h.1;omega)
 rw[hA] at e
 injection e with e
 injection e with e1 e2
 subst e1 e2
 have hj:j<K.n:=by
   have:=(List.getElem?_eq_some_iff.1 hu).1
   rwa [K.len] at this
 exact hc _ _ ((K.all_at l i a ha j hj).trans hu)
theorem GRow.made (w:World) (cs:Array Value) (hc:cs=(K.all l).toArray) (hl:l.length≤maxLen) (hb:base≤w.heap.size):GRow K (w.alloc (.cells cs K.T)) base (.slice (some ⟨w.heap.size,0,none⟩) l.length l.length) l:=by
 subst hc
 refine ⟨K.all_len l,.inr ⟨w.heap.size,l.length,_,rfl,hb,heap_alloc_new w _,Nat.le_refl _,hl,by simp[K.all_len],?_⟩⟩
 rw[List.take_of_length_le]
 simp[K.all_len]
theorem GRow.cut {A:Option Addr} {m c k:Nat} (h:GRow K w base (.slice A m c) l) (hk:k≤l.length):GRow K w base (.slice A k c) (l.take k):=by
 have hl:(l.take k).length=k:=by simp;omega
 unfold GRow at h ⊢
 rw[hl]
 refine ⟨by rw[K.all_len,hl],?_⟩
 rcases h.2 with ⟨hv,h0⟩|⟨g,c',cur,hv,hb,hg,h1,h2,h3,h4⟩
 ·injection hv with hA hm hc
  obtain rfl:k=0:=by omega
  exact .inl ⟨by rw[hA,hc],rfl⟩
 ·injection hv with hA hm hc
  refine .inr ⟨g,c',cur,by rw[hA,hc],hb,hg,by omega,h2,h3,?_⟩
  rw[K.all_take,← h4,List.take_take,Nat.min_eq_left (Nat.mul_le_mul_right _ hk)]
theorem GRow.put {g m c i:Nat} {a:α} {u:Value} (h1:K.n=1) (h:GRow K w base (.slice (some ⟨g,0,none⟩) m c) l) (hi:i<l.length) (hu:K.enc a=[u]):GRow K (w.setCell ⟨g,i,none⟩ u) base (.slice (some ⟨g,0,none⟩) m c) (l.set i a):=by
 have hset:∀ (l:List α) (i:Nat),i<l.length→K.all (l.set i a)=(K.all l).set i u:=by
   intro l
   induction l with
   | nil=>intro i h;simp at h
   | cons b t ih =>
     intro i hi
     obtain ⟨x,hx⟩:∃ x,K.enc b=[x]:=by
       have:=K.len b
       rw[h1] at this
       exact List.length_eq_one_iff.1 this
     cases i with
     | zero=>show K.enc a++K.all t=(K.enc b++K.all t).set 0 u;rw[hu,hx];rfl
     | succ i =>
       show K.enc b++K.all (t.set i a)=(K.enc b++K.all t).set (i+1) u
       rw[hx,ih i (by simpa using hi)];rfl
 unfold GRow at h ⊢
 rw[List.length_set,hset l i hi]
 refine ⟨by rw[List.length_set];exact h.1,?_⟩
 rcases h.2 with ⟨hv,h0⟩|⟨g',c',cur,hv,hb,hg,g1,g2,g3,g4⟩
 ·cases hv
 ·injection hv with hA hm hc
  injection hA with hA
  injection hA with hA
  subst hA
  refine .inr ⟨g,c',cur.setIfInBounds i u,by rw[hm,hc],hb,?_,g1,g2,by simpa using g3,?_⟩
  ·simp[World.setCell,Array.getElem?_modify,hg]
  ·rw[Array.toList_setIfInBounds,List.take_set,g4]
theorem GRow.free {g m c:Nat} (h:GRow K w base (.slice (some ⟨g,0,none⟩) m c) l) (i:Nat):w.frozen? ⟨g,i,none⟩=false:=by
 rcases h.2 with ⟨hv,h0⟩|⟨g',c',cur,hv,hb,hg,_⟩
 ·cases hv
 ·injection hv with hA hm hc
  injection hA with hA
  injection hA with hA
  subst hA
  simp[World.frozen?,hg]
theorem run_row_append (w:World) (base:Nat) (ty:TypeId) (v:Value) (l:List α) (hown:GRow K w base v l) (A:Option Addr) (m c:Nat) (news:List α) (hr:RdG K w A m news)
   (h63:l.length+m≤1000000000) (hbase:base≤w.heap.size) :
   ∃ v' w',(Builtin.append_ #[K.S,K.S] ty #[v,.slice A m c]).run Tryz.prog w=.ok v' w'∧GRow K w' base v' (l++news)∧w.grownBy w' v.ownBlock∧(v'.ownBlock=v.ownBlock∨v'.ownBlock=some w.heap.size):=by
 obtain ⟨i,hi,hz,hsize,hby⟩:=info_parts K.info
 have hl:(l++news).length=l.length+m:=by rw[List.length_append,hr.1]
 cases A with
 | none =>
   have hm:m=0:=by
     by_cases h:0<m
     ·obtain ⟨b,o,e,_⟩:=hr.2 h
      cases e
     ·omega
   subst hm
   obtain rfl:news=[]:=List.eq_nil_of_length_eq_zero hr.1
   refine ⟨v,w,?_,by simpa using hown,⟨rfl,rfl,rfl,Nat.le_refl _,fun _ _ _=>rfl⟩,.inl rfl⟩
   have ht:=K.under
   rcases hown.2 with ⟨rfl,h0⟩|⟨g,cap,cur,rfl,_,_,hnc,_⟩
   ·simp[Builtin.append_,run_underlying ht,sizeOf,typeInfo,hi,Builtin.lenOf,Builtin.firstCells]
   ·simp[Builtin.append_,run_underlying ht,sizeOf,typeInfo,hi,Builtin.lenOf,Builtin.firstCells,hnc,storeCells]
 | some ad =>
   have hc:∀ j u,(K.all news)[j]?=some u→w.cell? (ad.add j)=some u:=by
     intro j u hu
     have hm:0<m:=by
       have h1:=hr.1
       have h2:=(List.getElem?_eq_some_iff.1 hu).1
       rw[K.all_len] at h2
       rcases Nat.eq_zero_or_pos news.length with h|h
       ·rw[h] at h2;simp at h2
       ·omega
     obtain ⟨b,o,e,_,h⟩:=hr.2 hm
     have e':ad=⟨b,o,none⟩:=Option.some.inj e
     rw[e',add_none]
     exact h j u hu
   have hbytes:(l.length+m)*K.bytes≤140737488355328:=by
     have:=Nat.mul_le_mul h63 K.small
     omega
   obtain ⟨v',w',h1,h2,h3,_,h5⟩:=run_append_own_at (P:=Tryz.prog) w base K.S ty K.T i _ K.n K.bytes K.under hi hz hsize hby K.zlen K.pos v l.length (K.all l) hown ad m c (K.all news) (by rw[K.all_len,hr.1]) hc (K.all_one news) (by unfold maxLen;omega) hbytes hbase
   refine ⟨v',w',h1,?_,h3,h5⟩
   unfold GRow
   rw[hl,K.all_append]
   exact h2
theorem row_append {ops:Array Oper} {rest:List Oper} {o:Oper} {a:Act} {Q:Exit→Act→World→Prop} (w:World) (hgd:o.guard=none) (s x:Operand) (ho:o.op=.call { callee:=.builtin .append,args:=#[s,x],argTypes:=#[K.S,K.S] })
   (base:Nat) (v:Value) (l:List α) (hs:a.eval s=v) (hown:GRow K w base v l) (A:Option Addr) (m c:Nat) (news:List α) (hx:a.eval x=.slice A m c) (hr:RdG K w A m news)
   (h63:l.length+m≤1000000000) (hbase:base≤w.heap.size)
   (h:∀ v' w',GRow K w' base v' (l++news)→w.grownBy w' v.ownBlock→(v'.ownBlock=v.ownBlock∨v'.ownBlock=some w.heap.size)→wpList Tryz.prog ops Q rest (a.put o.dst v') w'):wpList Tryz.prog ops Q (o :: rest) a w :=
 wpList_plain hgd fun _ hK=>by
   obtain ⟨v',w',hrun,h2,h3,h5⟩:=run_row_append w base o.type v l hown A m c news hr h63 hbase
   unfold Oper.wp execOp
   simp only [ho,resolve,invoke,builtin,Sem.run_bind,Sem.run_pure,Result.andThen_ok,List.map_toArray,List.map_cons,List.map_nil,hs,hx,hrun]
   exact hK _ _ (h v' w' h2 h3 h5)
end
end
section
open Go.RowKit
def faultQ:QSt→UInt8→Int
 | .plain,c=>if c.toNat<32 then 7 else 2
 | .sign _ _ _,_=>2
 | .esc,_=>3
 | .hex _ _,c=>if (hexB c).isSome then 4 else 3
 | .half _,_=>4
 | .hesc _,_=>4
 | .hhex _ k _,_=>if k≤1 then 4 else 3
 | .done,_=>14
def readR:QSt→List UInt8→List UInt8→Nat→List UInt8×Nat×Int
 | _,[],_,n=>([],n,10)
 | st,c :: t,acc,n=>match stepQ st c with
   | none=>([],n,faultQ st c)
   | some (.done,e)=>(acc++e,n+1,1)
   | some (st',e)=>readR st' t (acc++e) (n+1)
theorem readR_on {st st':QSt} {c:UInt8} {e:List UInt8} (h:stepQ st c=some (st',e)) (hd:st'≠.done) (t acc:List UInt8) (n:Nat):readR st (c :: t) acc n=readR st' t (acc++e) (n+1):=by
 conv=>lhs;unfold readR
 rw[h]
 cases st'
 case done=>exact absurd rfl hd
 all_goals rfl
theorem readR_no {st:QSt} {c:UInt8} (h:stepQ st c=none) (t acc:List UInt8) (n:Nat):readR st (c :: t) acc n=([],n,faultQ st c):=by
 conv=>lhs;unfold readR
 rw[h]
theorem readR_done {st:QSt} {c:UInt8} {e:List UInt8} (h:stepQ st c=some (.done,e)) (t acc:List UInt8) (n:Nat):readR st (c :: t) acc n=(acc++e,n+1,1):=by
 conv=>lhs;unfold readR
 rw[h]
theorem readQ_no {st:QSt} {c:UInt8} (h:stepQ st c=none) (t acc:List UInt8) (n:Nat):readQ st (c :: t) acc n=none:=by
 conv=>lhs;unfold readQ
 rw[h]
theorem readQ_done {st:QSt} {c:UInt8} {e:List UInt8} (h:stepQ st c=some (.done,e)) (t acc:List UInt8) (n:Nat):readQ st (c :: t) acc n=some (acc++e,n+1):=by
 conv=>lhs;unfold readQ
 rw[h]
theorem faultQ_ne (st:QSt) (c:UInt8):faultQ st c≠1∧faultQ st c≠0:=by
 unfold faultQ
 (repeat' split)<;>decide
theorem readR_cases (l:List UInt8):∀ (st:QSt) (acc:List UInt8) (n:Nat),
   (∃ u m,readQ st l acc n=some (u,m)∧readR st l acc n=(u,m,1))∨(readQ st l acc n=none ∧ ∃ m j,readR st l acc n=([],m,j)∧j≠1∧m≤n+l.length):=by
 induction l with
 | nil=>intro st acc n;exact .inr ⟨rfl,n,10,rfl,by decide,by omega⟩
 | cons c t ih =>
   intro st acc n
   cases hs:stepQ st c with
   | none=>exact .inr ⟨readQ_no hs _ _ _,n,_,readR_no hs _ _ _,(faultQ_ne st c).1,by omega⟩
   | some x =>
     obtain ⟨st',e⟩:=x
     by_cases hd:st'=.done
     ·subst hd
      exact .inl ⟨_,_,readQ_done hs _ _ _,readR_done hs _ _ _⟩
     ·rw[readQ_on hs hd,readR_on hs hd]
      rcases ih st' (acc++e) (n+1) with h|⟨h1,m,j,h2,h3,h4⟩
      ·exact .inl h
      ·exact .inr ⟨h1,m,j,h2,h3,by simp;omega⟩
def pendQ:QSt→Nat
 | .sign _ _ p=>p.length
 | _=>0
theorem ofB_len (v:Int):(ofB v).length≤4:=by
 unfold ofB ofI
 (repeat' split)<;>simp
theorem stepQ_len {st st':QSt} {c:UInt8} {e:List UInt8} (h:stepQ st c=some (st',e)):e.length+pendQ st'≤pendQ st+4:=by
 cases st with
 | done=>cases h
 | plain =>
   rw[step_plain] at h
   (repeat' split at h)<;>cases h<;>simp[pendQ]
 | sign sg lf p =>
   rw[step_sign] at h
   (repeat' split at h)<;>cases h<;>simp[pendQ]<;>omega
 | esc =>
   have h:(if c=117 then some (QSt.hex 0 0,[]) else if letB c=0 then none else some (QSt.plain,[letB c]))=some (st',e):=h
   (repeat' split at h)<;>cases h<;>simp[pendQ]
 | hex k v =>
   cases hd:hexB c with
   | none=>rw[step_hex_none _ _ _ hd] at h;cases h
   | some d =>
     rw[step_hex _ _ _ _ hd] at h
     have:=ofB_len (v*16+d)
     (repeat' split at h)<;>cases h<;>simp[pendQ]<;>omega
 | half g =>
   have h:(if c=92 then some (QSt.hesc g,[]) else none)=some (st',e):=h
   (repeat' split at h)<;>cases h<;>simp[pendQ]
 | hesc g =>
   have h:(if c=117 then some (QSt.hhex g 0 0,[]) else none)=some (st',e):=h
   (repeat' split at h)<;>cases h<;>simp[pendQ]
 | hhex g k v =>
   cases hd:hexB c with
   | none=>rw[step_hhex_none _ _ _ _ hd] at h;cases h
   | some d =>
     rw[step_hhex _ _ _ _ _ hd] at h
     have:=ofB_len (65536+(g-55296)*1024+(v*16+d-56320))
     (repeat' split at h)<;>cases h<;>simp[pendQ]<;>omega
end
section
def dgI (a c:Int):Int :=
 if a=0∨a=1 then (if c=48 then 2 else 3) else if a=3 then 3 else if a=4∨a=5 then 5 else if a=6∨a=7∨a=8 then 8 else 0
def sgI (a c:Int):Int:=if a=6 then 7 else if a=0∧c=45 then 1 else 0
def nxI (a c:Int):Int :=
 if c=43∨c=45 then sgI a c else if c=46∧(a=2∨a=3) then 4 else
 if (c=101∨c=69)∧(a=2∨a=3∨a=5) then 6 else if isDigitI c then dgI a c else 0
def whI (a:Int):Bool:=decide (a=2∨a=3∨a=5∨a=8)
def stickI (c:Int):Bool:=isDigitI c||isAlphaI c||decide (c=46)||decide (c=43)||decide (c=45)
def anI (a c:Int):Int:=if nxI a c≠0 then 0 else if whI a && !stickI c then 1 else 2
def StA (a:Int):Prop:=0≤a∧a≤8
theorem stA_cases {a:Int}(h:StA a):a=0∨a=1∨a=2∨a=3∨a=4∨a=5∨a=6∨a=7∨a=8:=by unfold StA at h;omega
theorem stA_next (a c:Int):StA (nxI a c):=by
 unfold nxI sgI dgI StA
 (repeat' split)<;>omega
def acc (a:Int):List UInt8→Bool
 | []=>whI a
 | c :: t=>if nxI a c.toNat=0 then false else acc (nxI a c.toNat) t
def digL:List UInt8→Nat
 | []=>0
 | c :: t=>if isDigitI c.toNat then digL t+1 else 0
def hdIs (l:List UInt8)(c:Int):Bool:=match l with | []=>false|x :: _=>decide ((x.toNat:Int)=c)
def expR (l:List UInt8):Bool:=decide (0<l.length∧digL l=l.length)
def signR (l:List UInt8):Bool:=if hdIs l 43||hdIs l 45 then expR (l.drop 1) else expR l
def tailR (l:List UInt8):Bool:=if l.length=0 then true else if hdIs l 101||hdIs l 69 then signR (l.drop 1) else false
def fracR (l:List UInt8):Bool:=if digL l=0 then false else tailR (l.drop (digL l))
def pointR (l:List UInt8):Bool:=if hdIs l 46 then fracR (l.drop 1) else tailR l
def intR (l:List UInt8):Bool:=if digL l=0∨1<digL l∧hdIs l 48=true then false else pointR (l.drop (digL l))
def isR (l:List UInt8):Bool:=if hdIs l 45 then intR (l.drop 1) else intR l
theorem acc_cons (a:Int)(c:UInt8)(t:List UInt8):acc a (c :: t)=if nxI a c.toNat=0 then false else acc (nxI a c.toNat) t:=rfl
theorem digL_cons (c:UInt8)(t:List UInt8):digL (c :: t)=if isDigitI c.toNat then digL t+1 else 0:=rfl
theorem digL_le (l:List UInt8):digL l≤l.length:=by
 induction l with
 | nil=>exact Nat.le_refl _
 | cons c t ih=>rw[digL_cons];split<;>simp<;>omega
theorem hd_cons (x:UInt8)(t:List UInt8)(c:Int):hdIs (x :: t) c=decide ((x.toNat:Int)=c):=rfl
theorem dig_iff (c:Int):isDigitI c=true↔48≤c∧c≤57:=by simp[isDigitI]
theorem nx_dig {a c:Int} (h:isDigitI c=true):nxI a c=dgI a c:=by
 rw[dig_iff] at h
 unfold nxI
 rw[if_neg (by omega),if_neg (by omega),if_neg (by omega),if_pos ((dig_iff c).2 h)]
theorem acc8 (l:List UInt8):acc 8 l=decide (digL l=l.length):=by
 induction l with
 | nil=>rfl
 | cons c t ih =>
   rw[acc_cons,digL_cons]
   by_cases hd:isDigitI c.toNat=true
   ·rw[nx_dig hd,show dgI 8 c.toNat=8 from rfl,if_neg (by decide),ih,if_pos hd]
    simp
   ·rw[if_neg hd,show nxI 8 c.toNat=0 by unfold nxI sgI;simp only [hd];(repeat' split)<;>simp_all,if_pos rfl]
    simp
theorem acc7 (l:List UInt8):acc 7 l=expR l:=by
 cases l with
 | nil=>rfl
 | cons c t =>
   unfold expR
   rw[acc_cons,digL_cons]
   by_cases hd:isDigitI c.toNat=true
   ·rw[nx_dig hd,show dgI 7 c.toNat=8 from rfl,if_neg (by decide),acc8,if_pos hd]
    simp
   ·rw[if_neg hd,show nxI 7 c.toNat=0 by unfold nxI sgI;simp only [hd];(repeat' split)<;>simp_all,if_pos rfl]
    simp
theorem acc6 (l:List UInt8):acc 6 l=signR l:=by
 unfold signR
 cases l with
 | nil=>rfl
 | cons c t =>
   rw[acc_cons,hd_cons,hd_cons]
   by_cases hs:(c.toNat:Int)=43∨(c.toNat:Int)=45
   ·rw[show nxI 6 c.toNat=7 by unfold nxI;rw[if_pos hs];rfl,if_neg (by decide),acc7,if_pos (by simpa using hs)]
    rfl
   ·have hr:¬ (decide ((c.toNat:Int)=43)||decide ((c.toNat:Int)=45))=true:=by simpa using hs
    by_cases hd:isDigitI c.toNat=true
    ·rw[if_neg hr,nx_dig hd,show dgI 6 c.toNat=8 from rfl,if_neg (by decide),acc8]
     unfold expR
     rw[digL_cons,if_pos hd]
     simp
    ·rw[if_neg hr,show nxI 6 c.toNat=0 by unfold nxI;simp only [hd,hs];simp,if_pos rfl]
     unfold expR
     rw[digL_cons,if_neg hd]
     simp
theorem drop_dig (c:UInt8) (t:List UInt8) (h:isDigitI c.toNat=true):(c :: t).drop (digL (c :: t))=t.drop (digL t):=by
 rw[digL_cons,if_pos h];rfl
theorem drop_nodig (c:UInt8) (t:List UInt8) (h:¬ isDigitI c.toNat=true):(c :: t).drop (digL (c :: t))=c :: t:=by
 rw[digL_cons,if_neg h];rfl
theorem acc_e (a:Int) (ha:a=2∨a=3∨a=5) (c:UInt8) (t:List UInt8) (h:¬ isDigitI c.toNat=true) (hp:(c.toNat:Int)=46→a=5):acc a (c :: t)=tailR (c :: t):=by
 unfold tailR
 rw[acc_cons,hd_cons,hd_cons,if_neg (show ¬ (c :: t).length=0 by simp)]
 by_cases he:(c.toNat:Int)=101∨(c.toNat:Int)=69
 ·rw[show nxI a c.toNat=6 by unfold nxI;rw[if_neg (by omega),if_neg (by omega),if_pos (by omega)],if_neg (by decide),acc6,if_pos (by simpa using he)]
  rfl
 ·rw[show nxI a c.toNat=0 by unfold nxI sgI;(repeat' split)<;>first|omega|simp_all,if_pos rfl,if_neg (by simpa using he)]
theorem acc5 (l:List UInt8):acc 5 l=tailR (l.drop (digL l)):=by
 induction l with
 | nil=>rfl
 | cons c t ih =>
   by_cases hd:isDigitI c.toNat=true
   ·rw[acc_cons,nx_dig hd,show dgI 5 c.toNat=5 from rfl,if_neg (by decide),ih,drop_dig c t hd]
   ·rw[drop_nodig c t hd,acc_e 5 (by omega) c t hd (fun _=>rfl)]
theorem acc4 (l:List UInt8):acc 4 l=fracR l:=by
 unfold fracR
 cases l with
 | nil=>rfl
 | cons c t =>
   by_cases hd:isDigitI c.toNat=true
   ·rw[acc_cons,nx_dig hd,show dgI 4 c.toNat=5 from rfl,if_neg (by decide),acc5,drop_dig c t hd,if_neg (by rw[digL_cons,if_pos hd];omega)]
   ·rw[if_pos (by rw[digL_cons,if_neg hd]),acc_cons,show nxI 4 c.toNat=0 by unfold nxI sgI;simp only [hd];(repeat' split)<;>simp_all,if_pos rfl]
theorem acc_p (a:Int) (ha:a=2∨a=3) (c:UInt8) (t:List UInt8) (h:¬ isDigitI c.toNat=true):acc a (c :: t)=pointR (c :: t):=by
 unfold pointR
 rw[hd_cons]
 by_cases hp:(c.toNat:Int)=46
 ·rw[acc_cons,show nxI a c.toNat=4 by unfold nxI;rw[if_neg (by omega),if_pos ⟨hp,ha⟩],if_neg (by decide),acc4,if_pos (by simpa using hp)]
  rfl
 ·rw[if_neg (by simpa using hp)]
  exact acc_e a (by omega) c t h (fun e=>absurd e hp)
theorem acc3 (l:List UInt8):acc 3 l=pointR (l.drop (digL l)):=by
 induction l with
 | nil=>rfl
 | cons c t ih =>
   by_cases hd:isDigitI c.toNat=true
   ·rw[acc_cons,nx_dig hd,show dgI 3 c.toNat=3 from rfl,if_neg (by decide),ih,drop_dig c t hd]
   ·rw[drop_nodig c t hd,acc_p 3 (by omega) c t hd]
theorem acc2 (l:List UInt8):acc 2 l=if digL l=0 then pointR l else false:=by
 cases l with
 | nil=>rfl
 | cons c t =>
   by_cases hd:isDigitI c.toNat=true
   ·rw[acc_cons,nx_dig hd,show dgI 2 c.toNat=0 from rfl,if_pos rfl,if_neg (by rw[digL_cons,if_pos hd];omega)]
   ·rw[if_pos (by rw[digL_cons,if_neg hd]),acc_p 2 (by omega) c t hd]
theorem acc01 (a:Int) (ha:a=0∨a=1) (l:List UInt8) (hm:a=0→hdIs l 45=false):acc a l=intR l:=by
 unfold intR
 cases l with
 | nil=>rcases ha with rfl|rfl<;>rfl
 | cons c t =>
   rw[acc_cons,hd_cons]
   by_cases hd:isDigitI c.toNat=true
   ·have hdd:dgI a c.toNat=if (c.toNat:Int)=48 then 2 else 3:=by unfold dgI;rw[if_pos ha]
    rw[nx_dig hd,hdd,drop_dig c t hd,digL_cons,if_pos hd]
    by_cases h0:(c.toNat:Int)=48
    ·rw [if_pos h0,if_neg (by decide),acc2]
     by_cases hz:digL t=0
     ·rw[if_pos hz,if_neg (by rw[hz];simp),hz]
      rfl
     ·rw[if_neg hz,if_pos (by simp[h0];omega)]
    ·rw[if_neg h0,if_neg (by decide),acc3,if_neg (by simp[h0])]
   ·rw [digL_cons,if_neg hd,if_pos (Or.inl rfl),show nxI a c.toNat=0 by
      unfold nxI sgI
      have hm':a=0→¬ (c.toNat:Int)=45:=fun e=>by have:=hm e;rw[hd_cons] at this;simpa using this
      (repeat' split)<;>first|omega|simp_all,if_pos rfl]
theorem acc0 (l:List UInt8):acc 0 l=isR l:=by
 unfold isR
 by_cases hm:hdIs l 45=true
 ·cases l with
  | nil=>cases hm
  | cons c t =>
    rw[if_pos hm]
    rw[hd_cons] at hm
    have hc:(c.toNat:Int)=45:=of_decide_eq_true hm
    rw[acc_cons,hc,show nxI 0 45=1 from rfl,if_neg (by decide),acc01 1 (Or.inr rfl) t (fun e=>by omega)]
    rfl
 ·rw[if_neg hm,acc01 0 (Or.inl rfl) l (fun _=>by simpa using hm)]
def At (a:Int)(l:List UInt8):Prop:=StA a ∧ ∀ r,acc 0 (l++r)=acc a r
theorem at_nil:At 0 []:=⟨by unfold StA;omega,fun r=>rfl⟩
theorem at_step {a:Int} {l:List UInt8} (h:At a l) (c:UInt8) (hc:nxI a c.toNat≠0):At (nxI a c.toNat) (l++[c]) :=
 ⟨stA_next _ _,fun r=>by rw[List.append_assoc,h.2];show acc a (c :: r)=_;rw[acc_cons,if_neg hc]⟩
theorem at_is {a:Int} {l:List UInt8} (h:At a l):isR l=whI a:=by
 have:=h.2 []
 rw[List.append_nil] at this
 rw[← acc0,this];rfl
theorem at_dead {a:Int} {l:List UInt8} (h:At a l) (c:UInt8) (hc:nxI a c.toNat=0) (r:List UInt8):isR (l++c :: r)=false:=by
 rw[← acc0,h.2,acc_cons,if_pos hc]
theorem wh_one (a:Int) (h:StA a):(whI a||acc a [49])=true:=by
 rcases stA_cases h with rfl|rfl|rfl|rfl|rfl|rfl|rfl|rfl|rfl<;>decide +kernel
theorem at_goes {a:Int} {l:List UInt8} (h:At a l) (c:UInt8):(isR (l++[c])||isR (l++[c]++[49]))=decide (nxI a c.toNat≠0):=by
 by_cases hc:nxI a c.toNat=0
 ·rw[at_dead h c hc [],show l++[c]++[49]=l++c :: [49] by simp,at_dead h c hc [49]]
  simp[hc]
 ·have h':=at_step h c hc
  rw[at_is h',← acc0,h'.2,wh_one _ h'.1]
  simp[hc]
end
section
open Go.RowKit
def wT:ByteArray:=⟨#[116,114,117,101]⟩
def wF:ByteArray:=⟨#[102,97,108,115,101]⟩
def wN:ByteArray:=⟨#[110,117,108,108]⟩
theorem zT:wT.size=4:=rfl
theorem zF:wF.size=5:=rfl
theorem zN:wN.size=4:=rfl
end
end Go.Proofs.YtnokhgfifbkflaaGreat
