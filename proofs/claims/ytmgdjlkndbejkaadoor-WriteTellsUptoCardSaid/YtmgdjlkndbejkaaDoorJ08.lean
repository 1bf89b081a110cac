/- Lemmas. -/
import Derived.Test.YtmgdjlkndbejkaaDoorJ07
import Derived.Deep.DeepMust
set_option maxRecDepth 100000
set_option maxHeartbeats 8000000
set_option linter.unusedVariables false
namespace Go.Proofs.YtmgdjlkndbejkaaDoor
open Go.Lib (hid)
section
open Go.RowKit
theorem low_toNat (n:Nat) (h:n≤15):((lowB n).toNat:Int)=if n<10 then 48+(n:Int) else 87+n:=by
 unfold lowB
 split
 ·rw[UInt8.toNat_ofNat'];omega
 ·rw[if_pos (by omega),UInt8.toNat_ofNat'];omega
theorem rlowerN_any (n:Nat) (h:n≤15) (w:World):Calls Tryd.prog 65 #[.int .i64 n] w fun e w'=>e=.returned (.int .u8 (lowB n).toNat)∧w=w':=by
 have hv:=low_toNat n h
 by_cases h9:n<10
 ·rw[if_pos h9] at hv
  have HV:=hid hv
  clear hv
  have g1:¬ (10:Int)≤n:=by omega
  have g2:(n:Int)≤9:=by omega
  go_enter Tryd.func65,Tryd.ntmps65
  go_wp2
  go_ret
  exact ⟨ret_i HV.out.symm,rfl⟩
 ·rw[if_neg h9] at hv
  have HV:=hid hv
  clear hv
  have g1:(10:Int)≤n:=by omega
  have g2:(n:Int)≤15:=by omega
  go_enter Tryd.func65,Tryd.ntmps65
  go_wp2
  go_ret
  exact ⟨ret_i HV.out.symm,rfl⟩
end
section
open Go.RowKit
theorem sgnGo_cons (sg lf:Int) (l:List UInt8) (j m:Nat) (h:j<l.length):sgnGo sg lf (l.drop j) m=if okU sg lf l[j].toNat then (if lfU lf l[j].toNat=0 then m+1 else sgnGo (sgU sg lf l[j].toNat) (lfU lf l[j].toNat) (l.drop (j+1)) (m+1)) else 0:=by
 rw[List.drop_eq_getElem_cons h];rfl
theorem lit_rd (w:World) (cs:Array Value) (news:List UInt8) (h:cs=(byteCells news).toArray):Rd (w.alloc (.cells cs 5)) (w.heap.size+1) (some ⟨w.heap.size,0,none⟩) news.length (byteCells news):=by
 subst h
 exact Rd.of_list (Own.fresh w 5 _) (byteCells_length news)
theorem sgn_long (l:List UInt8) (k m:Nat) (h:k<l.length) (hs:sgnL (l.drop k)=m) (hm:2≤m):128≤l[k].toNat:=by
 by_cases hc:l[k].toNat<128
 ·rw[List.drop_eq_getElem_cons h,sgn_small _ _ hc] at hs
  omega
 ·omega
theorem part_is (s:ByteArray) (k m:Nat):(s.extract k (k+m)).data.toList=(s.data.toList.drop k).take m:=by
 rw[ByteArray.data_extract,Array.toList_extract,List.extract_eq_take_drop]
 congr 1
 omega
end
section
open Go.RowKit
structure Pst where
 named:Bool
 name:List UInt8
 index:Int
def rightB (s:Pst):Bool:=if s.named then decide (s.index=0)&&decide (badU s.name = -1) else decide (s.name=[])&&decide (0≤s.index∧s.index≤9007199254740991)
def escN (c:UInt8):UInt8:=if c=8 then 98 else if c=9 then 116 else if c=10 then 110 else if c=12 then 102 else if c=13 then 114 else if c=39 then 39 else if c=92 then 92 else 0
def letN (c:UInt8):UInt8:=if c=98 then 8 else if c=116 then 9 else if c=110 then 10 else if c=102 then 12 else if c=114 then 13 else if c=39 then 39 else if c=92 then 92 else 0
def ctlN (c:UInt8):List UInt8:=[92,117,48,48,lowB (c.toNat/16),lowB (c.toNat%16)]
def pieceM (l:List UInt8) (n:Nat):List UInt8:=match l with
 | []=>[]
 | c :: t=>if n=0 then stranger else if escN c≠0 then [92,escN c] else if c.toNat<32 then ctlN c else (c :: t).take n
theorem pieceM_cons (c:UInt8)(t:List UInt8)(n:Nat):pieceM (c :: t) n=if n=0 then stranger else if escN c≠0 then [92,escN c] else if c.toNat<32 then ctlN c else (c :: t).take n:=rfl
def nameGo:Nat→List UInt8→List UInt8
 | 0,_=>[]
 | f+1,l=>if l=[] then [] else pieceM l (sgnL l)++nameGo f (l.drop (goOn (sgnL l)))
def nameM (l:List UInt8):List UInt8:=nameGo l.length l
def nameT (l:List UInt8):List UInt8:=39 :: (nameM l++[39])
def digN (n:Nat):List UInt8:=if n<10 then [UInt8.ofNat (48+n)] else digN (n/10)++[UInt8.ofNat (48+n%10)]
termination_by n
decreasing_by omega
def stepT (s:Pst):List UInt8:=91 :: ((if s.named then nameT s.name else digN s.index.toNat)++[93])
def putP (l:List Pst):List UInt8:=if l.all rightB then 36 :: l.flatMap stepT else []
theorem digN_one (n:Nat)(h:n<10):digN n=[UInt8.ofNat (48+n)]:=by rw[digN,if_pos h]
theorem digN_more (n:Nat)(h:¬ n<10):digN n=digN (n/10)++[UInt8.ofNat (48+n%10)]:=by rw[digN,if_neg h]
theorem nameGo_nil (f:Nat):nameGo f []=[]:=by cases f<;>rfl
theorem nameGo_cons (f:Nat) (c:UInt8) (t:List UInt8):nameGo (f+1) (c :: t)=pieceM (c :: t) (sgnL (c :: t))++nameGo f ((c :: t).drop (goOn (sgnL (c :: t)))):=by
 show (if c :: t=[] then [] else _)=_
 rw[if_neg (by simp)]
theorem goOn_pos (n:Nat):1≤goOn n:=by unfold goOn;split<;>omega
theorem nameGo_fuel:∀ (f g:Nat) (l:List UInt8),l.length≤f→l.length≤g→nameGo f l=nameGo g l
 | f,g,[],_,_=>by rw[nameGo_nil,nameGo_nil]
 | 0,_,_ :: _,h,_=>by simp at h
 | _+1,0,_ :: _,_,h=>by simp at h
 | f+1,g+1,c :: t,h1,h2=>by
   rw[nameGo_cons,nameGo_cons]
   have:=goOn_pos (sgnL (c :: t))
   rw[nameGo_fuel f g _ (by simp at h1 ⊢;omega) (by simp at h2 ⊢;omega)]
theorem nameM_cons (c:UInt8) (t:List UInt8):nameM (c :: t)=pieceM (c :: t) (sgnL (c :: t))++nameM ((c :: t).drop (goOn (sgnL (c :: t)))):=by
 have:=goOn_pos (sgnL (c :: t))
 unfold nameM
 show nameGo (t.length+1) (c :: t)=_
 rw[nameGo_cons,nameGo_fuel t.length ((c :: t).drop (goOn (sgnL (c :: t)))).length _ (by simp;omega) (Nat.le_refl _)]
theorem sgn_take (l:List UInt8):∀ (sg lf:Int) (k j:Nat) (rest:List UInt8),sgnGo sg lf l k=j→j≠0→sgnGo sg lf (l.take (j-k)++rest) k=j:=by
 induction l with
 | nil=>intro sg lf k j rest h hj;exact absurd h.symm hj
 | cons c t ih =>
   intro sg lf k j rest h hj
   have hs:=sgn_split _ _ _ _ _ h hj
   have e:j-k=(j-(k+1))+1:=by omega
   rw[e,List.take_succ_cons,List.cons_append]
   have h':(if okU sg lf c.toNat then (if lfU lf c.toNat=0 then k+1 else sgnGo (sgU sg lf c.toNat) (lfU lf c.toNat) t (k+1)) else 0)=j:=h
   show (if okU sg lf c.toNat then (if lfU lf c.toNat=0 then k+1 else sgnGo (sgU sg lf c.toNat) (lfU lf c.toNat) (t.take (j-(k+1))++rest) (k+1)) else 0)=j
   split at h'
   ·rename_i hok
    rw[if_pos hok]
    split at h'
    ·rename_i hz;rw[if_pos hz];exact h'
    ·rename_i hz;rw[if_neg hz];exact ih _ _ _ _ rest h' hj
   ·exact absurd h'.symm hj
theorem sgnL_take {l:List UInt8} {n:Nat} (h:sgnL l=n) (h0:n≠0) (rest:List UInt8):sgnL (l.take n++rest)=n∧1≤n∧n≤l.length:=by
 have h1:=sgn_take l 0 0 0 n rest h h0
 have h2:=sgn_split l 0 0 0 n h h0
 exact ⟨h1,by omega,by omega⟩
theorem escN_cases {c:UInt8} (h:escN c≠0):c=8∨c=9∨c=10∨c=12∨c=13∨c=39∨c=92:=by
 unfold escN at h
 (repeat' split at h)<;>first|(exfalso;exact h rfl)|simp_all
end
section
open Go.RowKit
def digB (c:UInt8):Bool:=decide (48≤c.toNat∧c.toNat≤57)
theorem dig_toNat (n:Nat)(h:n<10):(UInt8.ofNat (48+n)).toNat=48+n:=UInt8.toNat_ofNat_of_lt' (by show 48+n<256;omega)
theorem digN_len:∀ (k v:Nat),v<10 ^ (k+1)→(digN v).length≤k+1
 | 0,v,h=>by rw[digN_one v (by simpa using h)];simp
 | k + 1,v,h=>by
   by_cases h2:v<10
   ·rw[digN_one v h2];simp
   ·have:=digN_len k (v/10) (by rw[Nat.div_lt_iff_lt_mul (by decide)];rw[Nat.pow_succ] at h;exact h)
    rw[digN_more v h2,List.length_append,List.length_singleton]
    omega
def valD (ds:List UInt8)(v:Nat):Nat:=ds.foldl (fun a c=>a*10+(c.toNat-48)) v
theorem val_snoc (ds:List UInt8)(d:UInt8)(v:Nat):valD (ds++[d]) v=valD ds v*10+(d.toNat-48):=by unfold valD;rw[List.foldl_append];rfl
theorem right_index {s:Pst} (h:rightB s=true) (hn:s.named=false):s=⟨false,[],s.index⟩∧0≤s.index∧s.index≤9007199254740991:=by
 obtain ⟨nd,nm,ix⟩:=s
 have hn:nd=false:=hn
 subst hn
 unfold rightB at h
 simp only [Bool.false_eq_true,if_false,Bool.and_eq_true,decide_eq_true_eq] at h
 obtain ⟨rfl,h⟩:=h
 exact ⟨rfl,h⟩
theorem right_name {s:Pst} (h:rightB s=true) (hn:s.named=true):s=⟨true,s.name,0⟩∧badU s.name = -1:=by
 obtain ⟨nd,nm,ix⟩:=s
 have hn:nd=true:=hn
 subst hn
 unfold rightB at h
 simp only [if_true,Bool.and_eq_true,decide_eq_true_eq] at h
 obtain ⟨rfl,h⟩:=h
 exact ⟨rfl,h⟩
end
section
open Go.RowKit
structure RowK (α:Type) where
 T:TypeId
 S:TypeId
 n:Nat
 bytes:Nat
 zero:Value
 enc:α→List Value
 pos:0<n
 len:∀ a,(enc a).length=n
 one:∀ a,∀ u∈enc a,u.oneCell'=true
 under:Tryd.prog.underlying S=some (.slice T)
 info:(Tryd.prog.info? T).map (fun i=>(i.zero,i.size,i.bytes))=some (some zero,n,bytes)
 zlen:zero.cells.size=n
 small:bytes≤1000
section
variable {α:Type} (K:RowK α)
def RowK.all:List α→List Value
 | []=>[]
 | a :: t=>K.enc a++RowK.all t
theorem RowK.all_len:∀ l:List α,(K.all l).length=l.length*K.n
 | []=>by simp[RowK.all]
 | a :: t=>by simp[RowK.all,K.len,RowK.all_len t,Nat.add_mul];omega
theorem RowK.all_append:∀ l m:List α,K.all (l++m)=K.all l++K.all m
 | [],m=>rfl
 | a :: t,m=>by simp[RowK.all,RowK.all_append t m]
theorem RowK.all_one:∀ l:List α,∀ u∈K.all l,u.oneCell'=true
 | [],u,h=>by cases h
 | a :: t,u,h=>by
   rcases List.mem_append.1 h with h|h
   ·exact K.one a u h
   ·exact RowK.all_one t u h
theorem RowK.all_at:∀ (l:List α) (i:Nat) (a:α),l[i]?=some a → ∀ j,j<K.n→(K.all l)[i*K.n+j]?=(K.enc a)[j]?
 | [],i,a,h=>by cases h
 | u :: t,0,a,h=>by
   intro j hj
   obtain rfl:u=a:=by simpa using h
   show (K.enc u++K.all t)[0*K.n+j]?=_
   rw[Nat.zero_mul,Nat.zero_add,List.getElem?_append_left (by rw[K.len];exact hj)]
 | u :: t,i+1,a,h=>by
   intro j hj
   have:=RowK.all_at t i a (by simpa using h) j hj
   rw[← this]
   show (K.enc u++K.all t)[(i+1)*K.n+j]?=_
   rw[List.getElem?_append_right (by rw[K.len,Nat.add_mul];omega),K.len]
   congr 1
   rw[Nat.add_mul]
   omega
def RdG (w:World) (A:Option Addr) (m:Nat) (l:List α):Prop :=
 l.length=m∧(0<m → ∃ b o:Nat,A=some ⟨b,o,none⟩∧b<w.heap.size ∧ ∀ j u,(K.all l)[j]?=some u→w.cell? ⟨b,o+j,none⟩=some u)
def GRow (w:World)(base:Nat)(v:Value)(l:List α):Prop:=w.ownsRow base K.T K.n v l.length (K.all l)
variable {K} {w w':World} {base:Nat} {v:Value} {l:List α}
theorem GRow.nil (w:World)(base:Nat):GRow K w base (.slice none 0 0) []:=⟨by simp[RowK.all],.inl ⟨rfl,rfl⟩⟩
theorem GRow.form (h:GRow K w base v l):∃ A c,v=.slice A l.length c∧l.length≤c∧c≤maxLen∧(0<l.length → ∃ g,A=some ⟨g,0,none⟩∧base≤g∧g<w.heap.size):=by
 rcases h.2 with ⟨rfl,h0⟩|⟨g,c,cur,rfl,hb,hg,h1,h2,_⟩
 ·exact ⟨none,0,by rw[h0],by omega,by decide,fun h=>by omega⟩
 ·exact ⟨_,c,rfl,h1,h2,fun _=>⟨g,rfl,hb,(Array.getElem?_eq_some_iff.1 hg).1⟩⟩
theorem GRow.stay (h:GRow K w base v l) (hk:∀ g,v.ownBlock=some g→w'.heap[g]?=w.heap[g]?):GRow K w' base v l:=by
 refine ⟨h.1,?_⟩
 rcases h.2 with hn|⟨g,c,cur,rfl,hbg,hg,rest⟩
 ·exact .inl hn
 ·exact .inr ⟨g,c,cur,rfl,hbg,(hk g rfl).trans hg,rest⟩
theorem GRow.low (h:GRow K w base v l) {g:Nat} (hg:v.ownBlock=some g):base≤g∧g<w.heap.size:=by
 rcases h.2 with ⟨rfl,_⟩|⟨g',c,cur,rfl,hb,hh,_⟩
 ·cases hg
 ·obtain rfl:g'=g:=by simpa [Value.ownBlock] using hg
  exact ⟨hb,(Array.getElem?_eq_some_iff.1 hh).1⟩
theorem GRow.mono {B:Nat} (h:GRow K w base v l) (hB:B≤base):GRow K w B v l:=by
 refine ⟨h.1,?_⟩
 rcases h.2 with hn|⟨g,c,cur,rfl,hbg,rest⟩
 ·exact .inl hn
 ·exact .inr ⟨g,c,cur,rfl,by omega,rest⟩
theorem GRow.rd {A:Option Addr} {m c:Nat} (h:GRow K w base (.slice A m c) l):RdG K w A l.length l:=by
 refine ⟨rfl,fun hn => ?_⟩
 rcases h.2 with ⟨hv,h0⟩|⟨g,c',cur,hv,hb,hg,_⟩
 ·omega
 ·injection hv with hA hn' hc
  subst hA hn' hc
  have hc:=h.cells (g:=g) rfl
  refine ⟨g,0,rfl,(Array.getElem?_eq_some_iff.1 hg).1,fun j u hu => ?_⟩
  have:=hc j u hu
  rwa [add_none] at this
theorem RdG.at {A:Option Addr} {m:Nat} (h:RdG K w A m l) {b o:Nat} (hA:A=some ⟨b,o,none⟩) {i:Nat} {a:α} (ha:l[i]?=some a) {j:Nat} {u:Value} (hu:(K.enc a)[j]?=some u):w.cell? ⟨b,o+(i*K.n+j),none⟩=some u:=by
 have hi:i<l.length:=(List.getElem?_eq_some_iff.1 ha).1
 obtain ⟨b',o',e,_,hc⟩:=h.2 (by have:=h.1;omega)
 rw[hA] at e
 injection e with e
 injection e with e1 e2
 subst e1 e2
 have hj:j<K.n:=by
   have:=(List.getElem?_eq_some_iff.1 hu).1
   rwa [K.len] at this
 exact hc _ _ ((K.all_at l i a ha j hj).trans hu)
theorem GRow.made (w:World) (cs:Array Value) (hc:cs=(K.all l).toArray) (hl:l.length≤maxLen) (hb:base≤w.heap.size):GRow K (w.alloc (.cells cs K.T)) base (.slice (some ⟨w.heap.size,0,none⟩) l.length l.length) l:=by
 subst hc
 refine ⟨K.all_len l,.inr ⟨w.heap.size,l.length,_,rfl,hb,heap_alloc_new w _,Nat.le_refl _,hl,by simp[K.all_len],?_⟩⟩
 rw[List.take_of_length_le]
 simp[K.all_len]
theorem GRow.put {g m c i:Nat} {a:α} {u:Value} (h1:K.n=1) (h:GRow K w base (.slice (some ⟨g,0,none⟩) m c) l) (hi:i<l.length) (hu:K.enc a=[u]):GRow K (w.setCell ⟨g,i,none⟩ u) base (.slice (some ⟨g,0,none⟩) m c) (l.set i a):=by
 have hset:∀ (l:List α) (i:Nat),i<l.length→K.all (l.set i a)=(K.all l).set i u:=by
   intro l
   induction l with
   | nil=>intro i h;simp at h
   | cons b t ih =>
     intro i hi
     obtain ⟨x,hx⟩:∃ x,K.enc b=[x]:=by
       have:=K.len b
       rw[h1] at this
       exact List.length_eq_one_iff.1 this
     cases i with
     | zero=>show K.enc a++K.all t=(K.enc b++K.all t).set 0 u;rw[hu,hx];rfl
     | succ i =>
       show K.enc b++K.all (t.set i a)=(K.enc b++K.all t).set (i+1) u
       rw[hx,ih i (by simpa using hi)];rfl
 unfold GRow at h ⊢
 rw[List.length_set,hset l i hi]
 refine ⟨by rw[List.length_set];exact h.1,?_⟩
 rcases h.2 with ⟨hv,h0⟩|⟨g',c',cur,hv,hb,hg,g1,g2,g3,g4⟩
 ·cases hv
 ·injection hv with hA hm hc
  injection hA with hA
  injection hA with hA
  subst hA
  refine .inr ⟨g,c',cur.setIfInBounds i u,by rw[hm,hc],hb,?_,g1,g2,by simpa using g3,?_⟩
  ·simp[World.setCell,Array.getElem?_modify,hg]
  ·rw[Array.toList_setIfInBounds,List.take_set,g4]
theorem GRow.free {g m c:Nat} (h:GRow K w base (.slice (some ⟨g,0,none⟩) m c) l) (i:Nat):w.frozen? ⟨g,i,none⟩=false:=by
 rcases h.2 with ⟨hv,h0⟩|⟨g',c',cur,hv,hb,hg,_⟩
 ·cases hv
 ·injection hv with hA hm hc
  injection hA with hA
  injection hA with hA
  subst hA
  simp[World.frozen?,hg]
theorem run_row_append (w:World) (base:Nat) (ty:TypeId) (v:Value) (l:List α) (hown:GRow K w base v l) (A:Option Addr) (m c:Nat) (news:List α) (hr:RdG K w A m news)
   (h63:l.length+m≤1000000000) (hbase:base≤w.heap.size) :
   ∃ v' w',(Builtin.append_ #[K.S,K.S] ty #[v,.slice A m c]).run Tryd.prog w=.ok v' w'∧GRow K w' base v' (l++news)∧w.grownBy w' v.ownBlock∧(v'.ownBlock=v.ownBlock∨v'.ownBlock=some w.heap.size):=by
 obtain ⟨i,hi,hz,hsize,hby⟩:=info_parts K.info
 have hl:(l++news).length=l.length+m:=by rw[List.length_append,hr.1]
 cases A with
 | none =>
   have hm:m=0:=by
     by_cases h:0<m
     ·obtain ⟨b,o,e,_⟩:=hr.2 h
      cases e
     ·omega
   subst hm
   obtain rfl:news=[]:=List.eq_nil_of_length_eq_zero hr.1
   refine ⟨v,w,?_,by simpa using hown,⟨rfl,rfl,rfl,Nat.le_refl _,fun _ _ _=>rfl⟩,.inl rfl⟩
   have ht:=K.under
   rcases hown.2 with ⟨rfl,h0⟩|⟨g,cap,cur,rfl,_,_,hnc,_⟩
   ·simp[Builtin.append_,run_underlying ht,sizeOf,typeInfo,hi,Builtin.lenOf,Builtin.firstCells]
   ·simp[Builtin.append_,run_underlying ht,sizeOf,typeInfo,hi,Builtin.lenOf,Builtin.firstCells,hnc,storeCells]
 | some ad =>
   have hc:∀ j u,(K.all news)[j]?=some u→w.cell? (ad.add j)=some u:=by
     intro j u hu
     have hm:0<m:=by
       have h1:=hr.1
       have h2:=(List.getElem?_eq_some_iff.1 hu).1
       rw[K.all_len] at h2
       rcases Nat.eq_zero_or_pos news.length with h|h
       ·rw[h] at h2;simp at h2
       ·omega
     obtain ⟨b,o,e,_,h⟩:=hr.2 hm
     have e':ad=⟨b,o,none⟩:=Option.some.inj e
     rw[e',add_none]
     exact h j u hu
   have hbytes:(l.length+m)*K.bytes≤140737488355328:=by
     have:=Nat.mul_le_mul h63 K.small
     omega
   obtain ⟨v',w',h1,h2,h3,_,h5⟩:=run_append_own_at (P:=Tryd.prog) w base K.S ty K.T i _ K.n K.bytes K.under hi hz hsize hby K.zlen K.pos v l.length (K.all l) hown ad m c (K.all news) (by rw[K.all_len,hr.1]) hc (K.all_one news) (by unfold maxLen;omega) hbytes hbase
   refine ⟨v',w',h1,?_,h3,h5⟩
   unfold GRow
   rw[hl,K.all_append]
   exact h2
theorem row_append {ops:Array Oper} {rest:List Oper} {o:Oper} {a:Act} {Q:Exit→Act→World→Prop} (w:World) (hgd:o.guard=none) (s x:Operand) (ho:o.op=.call { callee:=.builtin .append,args:=#[s,x],argTypes:=#[K.S,K.S] })
   (base:Nat) (v:Value) (l:List α) (hs:a.eval s=v) (hown:GRow K w base v l) (A:Option Addr) (m c:Nat) (news:List α) (hx:a.eval x=.slice A m c) (hr:RdG K w A m news)
   (h63:l.length+m≤1000000000) (hbase:base≤w.heap.size)
   (h:∀ v' w',GRow K w' base v' (l++news)→w.grownBy w' v.ownBlock→(v'.ownBlock=v.ownBlock∨v'.ownBlock=some w.heap.size)→wpList Tryd.prog ops Q rest (a.put o.dst v') w'):wpList Tryd.prog ops Q (o :: rest) a w :=
 wpList_plain hgd fun _ hK=>by
   obtain ⟨v',w',hrun,h2,h3,h5⟩:=run_row_append w base o.type v l hown A m c news hr h63 hbase
   unfold Oper.wp execOp
   simp only [ho,resolve,invoke,builtin,Sem.run_bind,Sem.run_pure,Result.andThen_ok,List.map_toArray,List.map_cons,List.map_nil,hs,hx,hrun]
   exact hK _ _ (h v' w' h2 h3 h5)
end
end
section
open Go.RowKit
theorem ofB_len (v:Int):(ofB v).length≤4:=by
 unfold ofB ofI
 (repeat' split)<;>simp
theorem piece_len (c:UInt8) (t:List UInt8):(pieceP (c :: t) (sgnL (c :: t))).length≤6*goOn (sgnL (c :: t))∧goOn (sgnL (c :: t))≤(c :: t).length∧1≤goOn (sgnL (c :: t)):=by
 have hs:=sgn_split (c :: t) 0 0 0 _ rfl
 generalize hn:sgnL (c :: t)=n
 have hs:n≠0→0<n∧n≤0+(c :: t).length:=fun h=>by rw[← hn] at h ⊢;exact hs h
 unfold pieceP goOn
 by_cases h0:n=0
 ·subst h0
  simp[stranger]
 ·have:=hs h0
  simp only [if_neg h0]
  refine ⟨?_,by omega,by omega⟩
  (repeat' split)<;>simp<;>omega
end
end Go.Proofs.YtmgdjlkndbejkaaDoor
