/- Lemmas. -/
import Derived.Test.YtmgdjlkndbejkaaGreatDoorJ06
import Derived.Deep.DeepMust
set_option maxRecDepth 100000
set_option maxHeartbeats 8000000
set_option linter.unusedVariables false
namespace Go.Proofs.YtmgdjlkndbejkaaGreatDoor
section
open Go.RowKit
theorem low_toNat (n:Nat) (h:n≤15):((lowB n).toNat:Int)=if n<10 then 48+(n:Int) else 87+n:=by
 unfold lowB
 split
 ·rw[UInt8.toNat_ofNat'];omega
 ·rw[if_pos (by omega),UInt8.toNat_ofNat'];omega
end
section
open Go.RowKit
theorem lit_rd (w:World) (cs:Array Value) (news:List UInt8) (h:cs=(byteCells news).toArray):Rd (w.alloc (.cells cs 5)) (w.heap.size+1) (some ⟨w.heap.size,0,none⟩) news.length (byteCells news):=by
 subst h
 exact Rd.of_list (Own.fresh w 5 _) (byteCells_length news)
end
section
open Go.RowKit
structure Pst where
 named:Bool
 name:List UInt8
 index:Int
def escN (c:UInt8):UInt8:=if c=8 then 98 else if c=9 then 116 else if c=10 then 110 else if c=12 then 102 else if c=13 then 114 else if c=39 then 39 else if c=92 then 92 else 0
def ctlN (c:UInt8):List UInt8:=[92,117,48,48,lowB (c.toNat/16),lowB (c.toNat%16)]
def pieceM (l:List UInt8) (n:Nat):List UInt8:=match l with
 | []=>[]
 | c :: t=>if n=0 then stranger else if escN c≠0 then [92,escN c] else if c.toNat<32 then ctlN c else (c :: t).take n
theorem pieceM_cons (c:UInt8)(t:List UInt8)(n:Nat):pieceM (c :: t) n=if n=0 then stranger else if escN c≠0 then [92,escN c] else if c.toNat<32 then ctlN c else (c :: t).take n:=rfl
def nameGo:Nat→List UInt8→List UInt8
 | 0,_=>[]
 | f+1,l=>if l=[] then [] else pieceM l (sgnL l)++nameGo f (l.drop (goOn (sgnL l)))
def nameM (l:List UInt8):List UInt8:=nameGo l.length l
def nameT (l:List UInt8):List UInt8:=39 :: (nameM l++[39])
def digN (n:Nat):List UInt8:=if n<10 then [UInt8.ofNat (48+n)] else digN (n/10)++[UInt8.ofNat (48+n%10)]
termination_by n
decreasing_by omega
theorem digN_one (n:Nat)(h:n<10):digN n=[UInt8.ofNat (48+n)]:=by rw[digN,if_pos h]
theorem digN_more (n:Nat)(h:¬ n<10):digN n=digN (n/10)++[UInt8.ofNat (48+n%10)]:=by rw[digN,if_neg h]
theorem nameGo_nil (f:Nat):nameGo f []=[]:=by cases f<;>rfl
theorem nameGo_cons (f:Nat) (c:UInt8) (t:List UInt8):nameGo (f+1) (c :: t)=pieceM (c :: t) (sgnL (c :: t))++nameGo f ((c :: t).drop (goOn (sgnL (c :: t)))):=by
 show (if c :: t=[] then [] else _)=_
 rw[if_neg (by simp)]
theorem goOn_pos (n:Nat):1≤goOn n:=by unfold goOn;split<;>omega
theorem nameGo_fuel:∀ (f g:Nat) (l:List UInt8),l.length≤f→l.length≤g→nameGo f l=nameGo g l
 | f,g,[],_,_=>by rw[nameGo_nil,nameGo_nil]
 | 0,_,_ :: _,h,_=>by simp at h
 | _+1,0,_ :: _,_,h=>by simp at h
 | f+1,g+1,c :: t,h1,h2=>by
   rw[nameGo_cons,nameGo_cons]
   have:=goOn_pos (sgnL (c :: t))
   rw[nameGo_fuel f g _ (by simp at h1 ⊢;omega) (by simp at h2 ⊢;omega)]
theorem nameM_cons (c:UInt8) (t:List UInt8):nameM (c :: t)=pieceM (c :: t) (sgnL (c :: t))++nameM ((c :: t).drop (goOn (sgnL (c :: t)))):=by
 have:=goOn_pos (sgnL (c :: t))
 unfold nameM
 show nameGo (t.length+1) (c :: t)=_
 rw[nameGo_cons,nameGo_fuel t.length ((c :: t).drop (goOn (sgnL (c :: t)))).length _ (by simp;omega) (Nat.le_refl _)]
theorem sgn_take (l:List UInt8):∀ (sg lf:Int) (k j:Nat) (rest:List UInt8),sgnGo sg lf l k=j→j≠0→sgnGo sg lf (l.take (j-k)++rest) k=j:=by
 induction l with
 | nil=>intro sg lf k j rest h hj;exact absurd h.symm hj
 | cons c t ih =>
   intro sg lf k j rest h hj
   have hs:=sgn_split _ _ _ _ _ h hj
   have e:j-k=(j-(k+1))+1:=by omega
   rw[e,List.take_succ_cons,List.cons_append]
   have h':(if okU sg lf c.toNat then (if lfU lf c.toNat=0 then k+1 else sgnGo (sgU sg lf c.toNat) (lfU lf c.toNat) t (k+1)) else 0)=j:=h
   show (if okU sg lf c.toNat then (if lfU lf c.toNat=0 then k+1 else sgnGo (sgU sg lf c.toNat) (lfU lf c.toNat) (t.take (j-(k+1))++rest) (k+1)) else 0)=j
   split at h'
   ·rename_i hok
    rw[if_pos hok]
    split at h'
    ·rename_i hz;rw[if_pos hz];exact h'
    ·rename_i hz;rw[if_neg hz];exact ih _ _ _ _ rest h' hj
   ·exact absurd h'.symm hj
theorem sgnL_take {l:List UInt8} {n:Nat} (h:sgnL l=n) (h0:n≠0) (rest:List UInt8):sgnL (l.take n++rest)=n∧1≤n∧n≤l.length:=by
 have h1:=sgn_take l 0 0 0 n rest h h0
 have h2:=sgn_split l 0 0 0 n h h0
 exact ⟨h1,by omega,by omega⟩
theorem escN_cases {c:UInt8} (h:escN c≠0):c=8∨c=9∨c=10∨c=12∨c=13∨c=39∨c=92:=by
 unfold escN at h
 (repeat' split at h)<;>first|(exfalso;exact h rfl)|simp_all
end
section
open Go.RowKit
theorem head_app {a b:List UInt8} (h:a≠[]):(a++b).head?=a.head?:=by
 cases a with
 | nil=>exact absurd rfl h
 | cons x y=>rfl
def digB (c:UInt8):Bool:=decide (48≤c.toNat∧c.toNat≤57)
theorem dig_toNat (n:Nat)(h:n<10):(UInt8.ofNat (48+n)).toNat=48+n:=UInt8.toNat_ofNat_of_lt' (by show 48+n<256;omega)
theorem digB_of (n:Nat)(h:n<10):digB (UInt8.ofNat (48+n))=true:=by unfold digB;rw[dig_toNat n h];exact decide_eq_true (by omega)
theorem digN_pos (v:Nat):1≤(digN v).length:=by
 by_cases h:v<10
 ·rw[digN_one v h];simp
 ·rw[digN_more v h];simp
theorem digN_len:∀ (k v:Nat),v<10 ^ (k+1)→(digN v).length≤k+1
 | 0,v,h=>by rw[digN_one v (by simpa using h)];simp
 | k + 1,v,h=>by
   by_cases h2:v<10
   ·rw[digN_one v h2];simp
   ·have:=digN_len k (v/10) (by rw[Nat.div_lt_iff_lt_mul (by decide)];rw[Nat.pow_succ] at h;exact h)
    rw[digN_more v h2,List.length_append,List.length_singleton]
    omega
theorem digN_head (v:Nat):(digN v).head?=some 48→v=0:=by
 induction v using Nat.strongRecOn with
 | ind v ih =>
   intro h
   by_cases h2:v<10
   ·rw[digN_one v h2] at h
    have h:UInt8.ofNat (48+v)=48:=by simpa using h
    have:=congrArg UInt8.toNat h
    rw[dig_toNat v h2] at this
    have e:(48:UInt8).toNat=48:=rfl
    omega
   ·have hp:=digN_pos (v/10)
    rw[digN_more v h2,head_app (by intro e;rw[e] at hp;simp at hp)] at h
    have:=ih (v/10) (by omega) h
    omega
def valD (ds:List UInt8)(v:Nat):Nat:=ds.foldl (fun a c=>a*10+(c.toNat-48)) v
theorem val_snoc (ds:List UInt8)(d:UInt8)(v:Nat):valD (ds++[d]) v=valD ds v*10+(d.toNat-48):=by unfold valD;rw[List.foldl_append];rfl
end
section
open Go.RowKit
structure RowK (α:Type) where
 T:TypeId
 S:TypeId
 n:Nat
 bytes:Nat
 zero:Value
 enc:α→List Value
 pos:0<n
 len:∀ a,(enc a).length=n
 one:∀ a,∀ u∈enc a,u.oneCell'=true
 under:Tryz.prog.underlying S=some (.slice T)
 info:(Tryz.prog.info? T).map (fun i=>(i.zero,i.size,i.bytes))=some (some zero,n,bytes)
 zlen:zero.cells.size=n
 small:bytes≤1000
section
variable {α:Type} (K:RowK α)
def RowK.all:List α→List Value
 | []=>[]
 | a :: t=>K.enc a++RowK.all t
theorem RowK.all_len:∀ l:List α,(K.all l).length=l.length*K.n
 | []=>by simp[RowK.all]
 | a :: t=>by simp[RowK.all,K.len,RowK.all_len t,Nat.add_mul];omega
theorem RowK.all_append:∀ l m:List α,K.all (l++m)=K.all l++K.all m
 | [],m=>rfl
 | a :: t,m=>by simp[RowK.all,RowK.all_append t m]
theorem RowK.all_one:∀ l:List α,∀ u∈K.all l,u.oneCell'=true
 | [],u,h=>by cases h
 | a :: t,u,h=>by
   rcases List.mem_append.1 h with h|h
   ·exact K.one a u h
   ·exact RowK.all_one t u h
theorem RowK.all_at:∀ (l:List α) (i:Nat) (a:α),l[i]?=some a → ∀ j,j<K.n→(K.all l)[i*K.n+j]?=(K.enc a)[j]?
 | [],i,a,h=>by cases h
 | u :: t,0,a,h=>by
   intro j hj
   obtain rfl:u=a:=by simpa using h
   show (K.enc u++K.all t)[0*K.n+j]?=_
   rw[Nat.zero_mul,Nat.zero_add,List.getElem?_append_left (by rw[K.len];exact hj)]
 | u :: t,i+1,a,h=>by
   intro j hj
   have:=RowK.all_at t i a (by simpa using h) j hj
   rw[← this]
   show (K.enc u++K.all t)[(i+1)*K.n+j]?=_
   rw[List.getElem?_append_right (by rw[K.len,Nat.add_mul];omega),K.len]
   congr 1
   rw[Nat.add_mul]
   omega
def RdG (w:World) (A:Option Addr) (m:Nat) (l:List α):Prop :=
 l.length=m∧(0<m → ∃ b o:Nat,A=some ⟨b,o,none⟩∧b<w.heap.size ∧ ∀ j u,(K.all l)[j]?=some u→w.cell? ⟨b,o+j,none⟩=some u)
def GRow (w:World)(base:Nat)(v:Value)(l:List α):Prop:=w.ownsRow base K.T K.n v l.length (K.all l)
variable {K} {w w':World} {base:Nat} {v:Value} {l:List α}
theorem GRow.nil (w:World)(base:Nat):GRow K w base (.slice none 0 0) []:=⟨by simp[RowK.all],.inl ⟨rfl,rfl⟩⟩
theorem GRow.form (h:GRow K w base v l):∃ A c,v=.slice A l.length c∧l.length≤c∧c≤maxLen∧(0<l.length → ∃ g,A=some ⟨g,0,none⟩∧base≤g∧g<w.heap.size):=by
 rcases h.2 with ⟨rfl,h0⟩|⟨g,c,cur,rfl,hb,hg,h1,h2,_⟩
 ·exact ⟨none,0,by rw[h0],by omega,by decide,fun h=>by omega⟩
 ·exact ⟨_,c,rfl,h1,h2,fun _=>⟨g,rfl,hb,(Array.getElem?_eq_some_iff.1 hg).1⟩⟩
theorem GRow.stay (h:GRow K w base v l) (hk:∀ g,v.ownBlock=some g→w'.heap[g]?=w.heap[g]?):GRow K w' base v l:=by
 refine ⟨h.1,?_⟩
 rcases h.2 with hn|⟨g,c,cur,rfl,hbg,hg,rest⟩
 ·exact .inl hn
 ·exact .inr ⟨g,c,cur,rfl,hbg,(hk g rfl).trans hg,rest⟩
theorem GRow.low (h:GRow K w base v l) {g:Nat} (hg:v.ownBlock=some g):base≤g∧g<w.heap.size:=by
 rcases h.2 with ⟨rfl,_⟩|⟨g',c,cur,rfl,hb,hh,_⟩
 ·cases hg
 ·obtain rfl:g'=g:=by simpa [Value.ownBlock] using hg
  exact ⟨hb,(Array.getElem?_eq_some_iff.1 hh).1⟩
theorem GRow.mono {B:Nat} (h:GRow K w base v l) (hB:B≤base):GRow K w B v l:=by
 refine ⟨h.1,?_⟩
 rcases h.2 with hn|⟨g,c,cur,rfl,hbg,rest⟩
 ·exact .inl hn
 ·exact .inr ⟨g,c,cur,rfl,by omega,rest⟩
theorem GRow.rd {A:Option Addr} {m c:Nat} (h:GRow K w base (.slice A m c) l):RdG K w A l.length l:=by
 refine ⟨rfl,fun hn => ?_⟩
 rcases h.2 with ⟨hv,h0⟩|⟨g,c',cur,hv,hb,hg,_⟩
 ·omega
 ·injection hv with hA hn' hc
  subst hA hn' hc
  have hc:=h.cells (g:=g) rfl
  refine ⟨g,0,rfl,(Array.getElem?_eq_some_iff.1 hg).1,fun j u hu => ?_⟩
  have:=hc j u hu
  rwa [add_none] at this
theorem RdG.at {A:Option Addr} {m:Nat} (h:RdG K w A m l) {b o:Nat} (hA:A=some ⟨b,o,none⟩) {i:Nat} {a:α} (ha:l[i]?=some a) {j:Nat} {u:Value} (hu:(K.enc a)[j]?=some u):w.cell? ⟨b,o+(i*K.n+j),none⟩=some u:=by
 have hi:i<l.length:=(List.getElem?_eq_some_iff.1 ha).1
 obtain ⟨b',o',e,_,hc⟩:=h.2 (by have:=h.1;omega)
 rw[hA] at e
 injection e with e
 injection e with e1 e2
 subst e1 e2
 have hj:j<K.n:=by
   have:=(List.getElem?_eq_some_iff.1 hu).1
   rwa [K.len] at this
 exact hc _ _ ((K.all_at l i a ha j hj).trans hu)
theorem GRow.made (w:World) (cs:Array Value) (hc:cs=(K.all l).toArray) (hl:l.length≤maxLen) (hb:base≤w.heap.size):GRow K (w.alloc (.cells cs K.T)) base (.slice (some ⟨w.heap.size,0,none⟩) l.length l.length) l:=by
 subst hc
 refine ⟨K.all_len l,.inr ⟨w.heap.size,l.length,_,rfl,hb,heap_alloc_new w _,Nat.le_refl _,hl,by simp[K.all_len],?_⟩⟩
 rw[List.take_of_length_le]
 simp[K.all_len]
theorem GRow.put {g m c i:Nat} {a:α} {u:Value} (h1:K.n=1) (h:GRow K w base (.slice (some ⟨g,0,none⟩) m c) l) (hi:i<l.length) (hu:K.enc a=[u]):GRow K (w.setCell ⟨g,i,none⟩ u) base (.slice (some ⟨g,0,none⟩) m c) (l.set i a):=by
 have hset:∀ (l:List α) (i:Nat),i<l.length→K.all (l.set i a)=(K.all l).set i u:=by
   intro l
   induction l with
   | nil=>intro i h;simp at h
   | cons b t ih =>
     intro i hi
     obtain ⟨x,hx⟩:∃ x,K.enc b=[x]:=by
       have:=K.len b
       rw[h1] at this
       exact List.length_eq_one_iff.1 this
     cases i with
     | zero=>show K.enc a++K.all t=(K.enc b++K.all t).set 0 u;rw[hu,hx];rfl
     | succ i =>
       show K.enc b++K.all (t.set i a)=(K.enc b++K.all t).set (i+1) u
       rw[hx,ih i (by simpa using hi)];rfl
 unfold GRow at h ⊢
 rw[List.length_set,hset l i hi]
 refine ⟨by rw[List.length_set];exact h.1,?_⟩
 rcases h.2 with ⟨hv,h0⟩|⟨g',c',cur,hv,hb,hg,g1,g2,g3,g4⟩
 ·cases hv
 ·injection hv with hA hm hc
  injection hA with hA
  injection hA with hA
  subst hA
  refine .inr ⟨g,c',cur.setIfInBounds i u,by rw[hm,hc],hb,?_,g1,g2,by simpa using g3,?_⟩
  ·simp[World.setCell,Array.getElem?_modify,hg]
  ·rw[Array.toList_setIfInBounds,List.take_set,g4]
theorem GRow.free {g m c:Nat} (h:GRow K w base (.slice (some ⟨g,0,none⟩) m c) l) (i:Nat):w.frozen? ⟨g,i,none⟩=false:=by
 rcases h.2 with ⟨hv,h0⟩|⟨g',c',cur,hv,hb,hg,_⟩
 ·cases hv
 ·injection hv with hA hm hc
  injection hA with hA
  injection hA with hA
  subst hA
  simp[World.frozen?,hg]
theorem run_row_append (w:World) (base:Nat) (ty:TypeId) (v:Value) (l:List α) (hown:GRow K w base v l) (A:Option Addr) (m c:Nat) (news:List α) (hr:RdG K w A m news)
   (h63:l.length+m≤1000000000) (hbase:base≤w.heap.size) :
   ∃ v' w',(Builtin.append_ #[K.S,K.S] ty #[v,.slice A m c]).run Tryz.prog w=.ok v' w'∧GRow K w' base v' (l++news)∧w.grownBy w' v.ownBlock∧(v'.ownBlock=v.ownBlock∨v'.ownBlock=some w.heap.size):=by
 obtain ⟨i,hi,hz,hsize,hby⟩:=info_parts K.info
 have hl:(l++news).length=l.length+m:=by rw[List.length_append,hr.1]
 cases A with
 | none =>
   have hm:m=0:=by
     by_cases h:0<m
     ·obtain ⟨b,o,e,_⟩:=hr.2 h
      cases e
     ·omega
   subst hm
   obtain rfl:news=[]:=List.eq_nil_of_length_eq_zero hr.1
   refine ⟨v,w,?_,by simpa using hown,⟨rfl,rfl,rfl,Nat.le_refl _,fun _ _ _=>rfl⟩,.inl rfl⟩
   have ht:=K.under
   rcases hown.2 with ⟨rfl,h0⟩|⟨g,cap,cur,rfl,_,_,hnc,_⟩
   ·simp[Builtin.append_,run_underlying ht,sizeOf,typeInfo,hi,Builtin.lenOf,Builtin.firstCells]
   ·simp[Builtin.append_,run_underlying ht,sizeOf,typeInfo,hi,Builtin.lenOf,Builtin.firstCells,hnc,storeCells]
 | some ad =>
   have hc:∀ j u,(K.all news)[j]?=some u→w.cell? (ad.add j)=some u:=by
     intro j u hu
     have hm:0<m:=by
       have h1:=hr.1
       have h2:=(List.getElem?_eq_some_iff.1 hu).1
       rw[K.all_len] at h2
       rcases Nat.eq_zero_or_pos news.length with h|h
       ·rw[h] at h2;simp at h2
       ·omega
     obtain ⟨b,o,e,_,h⟩:=hr.2 hm
     have e':ad=⟨b,o,none⟩:=Option.some.inj e
     rw[e',add_none]
     exact h j u hu
   have hbytes:(l.length+m)*K.bytes≤140737488355328:=by
     have:=Nat.mul_le_mul h63 K.small
     omega
   obtain ⟨v',w',h1,h2,h3,_,h5⟩:=run_append_own_at (P:=Tryz.prog) w base K.S ty K.T i _ K.n K.bytes K.under hi hz hsize hby K.zlen K.pos v l.length (K.all l) hown ad m c (K.all news) (by rw[K.all_len,hr.1]) hc (K.all_one news) (by unfold maxLen;omega) hbytes hbase
   refine ⟨v',w',h1,?_,h3,h5⟩
   unfold GRow
   rw[hl,K.all_append]
   exact h2
theorem row_append {ops:Array Oper} {rest:List Oper} {o:Oper} {a:Act} {Q:Exit→Act→World→Prop} (w:World) (hgd:o.guard=none) (s x:Operand) (ho:o.op=.call { callee:=.builtin .append,args:=#[s,x],argTypes:=#[K.S,K.S] })
   (base:Nat) (v:Value) (l:List α) (hs:a.eval s=v) (hown:GRow K w base v l) (A:Option Addr) (m c:Nat) (news:List α) (hx:a.eval x=.slice A m c) (hr:RdG K w A m news)
   (h63:l.length+m≤1000000000) (hbase:base≤w.heap.size)
   (h:∀ v' w',GRow K w' base v' (l++news)→w.grownBy w' v.ownBlock→(v'.ownBlock=v.ownBlock∨v'.ownBlock=some w.heap.size)→wpList Tryz.prog ops Q rest (a.put o.dst v') w'):wpList Tryz.prog ops Q (o :: rest) a w :=
 wpList_plain hgd fun _ hK=>by
   obtain ⟨v',w',hrun,h2,h3,h5⟩:=run_row_append w base o.type v l hown A m c news hr h63 hbase
   unfold Oper.wp execOp
   simp only [ho,resolve,invoke,builtin,Sem.run_bind,Sem.run_pure,Result.andThen_ok,List.map_toArray,List.map_cons,List.map_nil,hs,hx,hrun]
   exact hK _ _ (h v' w' h2 h3 h5)
end
end
section
open Go.RowKit
def faultQ:QSt→UInt8→Int
 | .plain,c=>if c.toNat<32 then 7 else 2
 | .sign _ _ _,_=>2
 | .esc,_=>3
 | .hex _ _,c=>if (hexB c).isSome then 4 else 3
 | .half _,_=>4
 | .hesc _,_=>4
 | .hhex _ k _,_=>if k≤1 then 4 else 3
 | .done,_=>14
def readR:QSt→List UInt8→List UInt8→Nat→List UInt8×Nat×Int
 | _,[],_,n=>([],n,10)
 | st,c :: t,acc,n=>match stepQ st c with
   | none=>([],n,faultQ st c)
   | some (.done,e)=>(acc++e,n+1,1)
   | some (st',e)=>readR st' t (acc++e) (n+1)
theorem readR_on {st st':QSt} {c:UInt8} {e:List UInt8} (h:stepQ st c=some (st',e)) (hd:st'≠.done) (t acc:List UInt8) (n:Nat):readR st (c :: t) acc n=readR st' t (acc++e) (n+1):=by
 conv=>lhs;unfold readR
 rw[h]
 cases st'
 case done=>exact absurd rfl hd
 all_goals rfl
theorem readR_no {st:QSt} {c:UInt8} (h:stepQ st c=none) (t acc:List UInt8) (n:Nat):readR st (c :: t) acc n=([],n,faultQ st c):=by
 conv=>lhs;unfold readR
 rw[h]
theorem readR_done {st:QSt} {c:UInt8} {e:List UInt8} (h:stepQ st c=some (.done,e)) (t acc:List UInt8) (n:Nat):readR st (c :: t) acc n=(acc++e,n+1,1):=by
 conv=>lhs;unfold readR
 rw[h]
theorem readQ_no {st:QSt} {c:UInt8} (h:stepQ st c=none) (t acc:List UInt8) (n:Nat):readQ st (c :: t) acc n=none:=by
 conv=>lhs;unfold readQ
 rw[h]
theorem readQ_done {st:QSt} {c:UInt8} {e:List UInt8} (h:stepQ st c=some (.done,e)) (t acc:List UInt8) (n:Nat):readQ st (c :: t) acc n=some (acc++e,n+1):=by
 conv=>lhs;unfold readQ
 rw[h]
theorem faultQ_ne (st:QSt) (c:UInt8):faultQ st c≠1∧faultQ st c≠0:=by
 unfold faultQ
 (repeat' split)<;>decide
theorem readR_cases (l:List UInt8):∀ (st:QSt) (acc:List UInt8) (n:Nat),
   (∃ u m,readQ st l acc n=some (u,m)∧readR st l acc n=(u,m,1))∨(readQ st l acc n=none ∧ ∃ m j,readR st l acc n=([],m,j)∧j≠1∧m≤n+l.length):=by
 induction l with
 | nil=>intro st acc n;exact .inr ⟨rfl,n,10,rfl,by decide,by omega⟩
 | cons c t ih =>
   intro st acc n
   cases hs:stepQ st c with
   | none=>exact .inr ⟨readQ_no hs _ _ _,n,_,readR_no hs _ _ _,(faultQ_ne st c).1,by omega⟩
   | some x =>
     obtain ⟨st',e⟩:=x
     by_cases hd:st'=.done
     ·subst hd
      exact .inl ⟨_,_,readQ_done hs _ _ _,readR_done hs _ _ _⟩
     ·rw[readQ_on hs hd,readR_on hs hd]
      rcases ih st' (acc++e) (n+1) with h|⟨h1,m,j,h2,h3,h4⟩
      ·exact .inl h
      ·exact .inr ⟨h1,m,j,h2,h3,by simp;omega⟩
def pendQ:QSt→Nat
 | .sign _ _ p=>p.length
 | _=>0
theorem ofB_len (v:Int):(ofB v).length≤4:=by
 unfold ofB ofI
 (repeat' split)<;>simp
theorem stepQ_len {st st':QSt} {c:UInt8} {e:List UInt8} (h:stepQ st c=some (st',e)):e.length+pendQ st'≤pendQ st+4:=by
 cases st with
 | done=>cases h
 | plain =>
   rw[step_plain] at h
   (repeat' split at h)<;>cases h<;>simp[pendQ]
 | sign sg lf p =>
   rw[step_sign] at h
   (repeat' split at h)<;>cases h<;>simp[pendQ]<;>omega
 | esc =>
   have h:(if c=117 then some (QSt.hex 0 0,[]) else if letB c=0 then none else some (QSt.plain,[letB c]))=some (st',e):=h
   (repeat' split at h)<;>cases h<;>simp[pendQ]
 | hex k v =>
   cases hd:hexB c with
   | none=>rw[step_hex_none _ _ _ hd] at h;cases h
   | some d =>
     rw[step_hex _ _ _ _ hd] at h
     have:=ofB_len (v*16+d)
     (repeat' split at h)<;>cases h<;>simp[pendQ]<;>omega
 | half g =>
   have h:(if c=92 then some (QSt.hesc g,[]) else none)=some (st',e):=h
   (repeat' split at h)<;>cases h<;>simp[pendQ]
 | hesc g =>
   have h:(if c=117 then some (QSt.hhex g 0 0,[]) else none)=some (st',e):=h
   (repeat' split at h)<;>cases h<;>simp[pendQ]
 | hhex g k v =>
   cases hd:hexB c with
   | none=>rw[step_hhex_none _ _ _ _ hd] at h;cases h
   | some d =>
     rw[step_hhex _ _ _ _ _ hd] at h
     have:=ofB_len (65536+(g-55296)*1024+(v*16+d-56320))
     (repeat' split at h)<;>cases h<;>simp[pendQ]<;>omega
theorem read_len (l:List UInt8):∀ (st:QSt) (acc:List UInt8) (n:Nat) (u:List UInt8) (m:Nat),readQ st l acc n=some (u,m)→u.length≤acc.length+pendQ st+4*l.length:=by
 induction l with
 | nil=>intro st acc n u m h;cases h
 | cons c t ih =>
   intro st acc n u m h
   cases hs:stepQ st c with
   | none=>rw[readQ_no hs] at h;cases h
   | some x =>
     obtain ⟨st',e⟩:=x
     have hl:=stepQ_len hs
     by_cases hd:st'=.done
     ·subst hd
      rw[readQ_done hs] at h
      cases h
      simp
      omega
     ·rw[readQ_on hs hd] at h
      have:=ih _ _ _ _ _ h
      simp at this ⊢
      omega
theorem piece_len (c:UInt8) (t:List UInt8):(pieceP (c :: t) (sgnL (c :: t))).length≤6*goOn (sgnL (c :: t))∧goOn (sgnL (c :: t))≤(c :: t).length∧1≤goOn (sgnL (c :: t)):=by
 have hs:=sgn_split (c :: t) 0 0 0 _ rfl
 generalize hn:sgnL (c :: t)=n
 have hs:n≠0→0<n∧n≤0+(c :: t).length:=fun h=>by rw[← hn] at h ⊢;exact hs h
 unfold pieceP goOn
 by_cases h0:n=0
 ·subst h0
  simp[stranger]
 ·have:=hs h0
  simp only [if_neg h0]
  refine ⟨?_,by omega,by omega⟩
  (repeat' split)<;>simp<;>omega
end
end Go.Proofs.YtmgdjlkndbejkaaGreatDoor
