/- Lemmas. -/
import Derived.Test.YtnokhgfifbkflaaGreatJ03
import Derived.Deep.AppendLies
import Derived.Laws.CopyOwn
set_option maxRecDepth 100000
set_option maxHeartbeats 8000000
set_option linter.unusedVariables false
namespace Go.Proofs.YtnokhgfifbkflaaGreat
open Go.Lib (hid)
section
open Go.RowKit
def Rd (w:World) (B:Nat) (A:Option Addr) (n:Nat) (xs:List Value):Prop :=
 xs.length=n∧(0<n → ∃ ad:Addr,A=some ad∧ad.block<B ∧ ∀ j u,xs[j]?=some u→w.cell? (ad.add j)=some u)
def IsRow (k:IntKind) (w:World) (A:Option Addr) (len cap:Nat) (zs:List Int):Prop :=
 (A=none∧len=0∧cap=0∧zs=[]) ∨
 ∃ ad:Addr,A=some ad∧len≤cap∧cap≤maxLen∧zs.length=cap∧(∀ i,i<zs.length→w.cell? (ad.add i)=some (.int k (zs.getD i 0))) ∧ ∀ n∈zs,(Lit.int k n).wf=true
section
variable {w w':World} {B:Nat} {A:Option Addr} {n:Nat} {xs:List Value}
theorem add_none (b o j:Nat):(⟨b,o,none⟩:Addr).add j=⟨b,o+j,none⟩:=by
 unfold Addr.add
 split
 ·subst_vars;rfl
 ·rfl
theorem add_block (a:Addr)(j:Nat):(a.add j).block=a.block:=by unfold Addr.add;split<;>rfl
theorem cell_inside {p:Addr} {v:Value} (h:w.cell? p=some v):p.block<w.heap.size:=by
 by_cases hp:p.block<w.heap.size
 ·exact hp
 ·unfold World.cell? at h
  rw[Array.getElem?_eq_none (by omega)] at h
  simp at h
theorem Rd.zero (w:World)(B:Nat)(A:Option Addr):Rd w B A 0 []:=⟨rfl,fun h=>absurd h (by omega)⟩
theorem Rd.stay (h:Rd w B A n xs) (hb:Below B w w'):Rd w' B A n xs :=
 ⟨h.1,fun hn=>by
   obtain ⟨ad,e,hlt,hc⟩:=h.2 hn
   exact ⟨ad,e,hlt,fun j u hu=>(hb.cell (p:=ad.add j) (by rw[add_block];exact hlt)).trans (hc j u hu)⟩⟩
theorem Rd.more {B':Nat} (h:Rd w B A n xs) (hB:B≤B'):Rd w B' A n xs :=
 ⟨h.1,fun hn=>by
   obtain ⟨ad,e,hlt,hc⟩:=h.2 hn
   exact ⟨ad,e,by omega,hc⟩⟩
theorem Rd.of_cells {b:Nat} {t:TypeId} {cs:Array Value} (h:Own w b t cs) (off m:Nat) (hm:off+m≤cs.size):Rd w (b+1) (some ⟨b,off,none⟩) m ((cs.toList.drop off).take m):=by
 refine ⟨by simp;omega,fun _=>⟨_,rfl,Nat.lt_succ_self _,fun j u hu => ?_⟩⟩
 rw[add_none,h.at]
 rw[List.getElem?_take] at hu
 split at hu
 ·rw[List.getElem?_drop] at hu
  simpa using hu
 ·cases hu
theorem Rd.of_owned {base:Nat} {e:TypeId} {c:Nat} (h:w.ownsRow base e 1 (.slice A n c) n xs):Rd w w.heap.size A n xs:=by
 refine ⟨by simpa using h.1,fun hn => ?_⟩
 rcases h.2 with ⟨_,h0⟩|⟨g,cap,cur,hv,hb,hg,_⟩
 ·omega
 ·injection hv with hA _ _
  subst hA
  exact ⟨_,rfl,(Array.getElem?_eq_some_iff.1 hg).1,h.cells (g:=g) rfl⟩
theorem Rd.of_row {k:IntKind} {len cap:Nat} {zs:List Int} (h:IsRow k w A len cap zs):Rd w w.heap.size A len ((zs.take len).map (Value.int k)):=by
 rcases h with ⟨rfl,rfl,rfl,rfl⟩|⟨ad,rfl,hl,hm,hz,hc,_⟩
 ·exact Rd.zero _ _ _
 ·refine ⟨by simp;omega,fun hn=>⟨ad,rfl,?_,fun j u hu => ?_⟩⟩
  ·have:=cell_inside (hc 0 (by omega))
   rwa [add_block] at this
  ·rw [List.getElem?_map,List.getElem?_take] at hu
   split at hu
   ·rename_i hj
    have hj':j<zs.length:=by omega
    rw[hc j hj']
    rw[List.getElem?_eq_getElem hj'] at hu
    simpa [hj'] using hu
   ·cases hu
theorem IsRow.wf {k:IntKind} {len cap:Nat} {zs:List Int} (h:IsRow k w A len cap zs):∀ n∈zs,(Lit.int k n).wf=true:=by
 rcases h with ⟨_,_,_,rfl⟩|⟨_,_,_,_,_,_,h⟩
 ·intro n hn;cases hn
 ·exact h
end
section
variable {P:Program}
theorem run_append_rd (w:World) (base:Nat) (t ty e:TypeId) (i:TypeInfo) (z:Value) (bytes:Nat) (ht:P.underlying t=some (.slice e)) (hi:P.info? e=some i) (hz:i.zero=some z)
   (hsize:i.size=1) (hby:i.bytes=bytes) (hzs:z.cells.size=1)
   (v:Value) (n:Nat) (xs:List Value) (hown:w.ownsRow base e 1 v n xs)
   (B:Nat) (A:Option Addr) (m c:Nat) (news:List Value) (hr:Rd w B A m news) (h1:∀ u∈news,u.oneCell'=true)
   (h63:n+m≤maxLen) (hbytes:(n+m)*bytes≤140737488355328) (hbase:base≤w.heap.size) :
   ∃ v' w',(Builtin.append_ #[t,t] ty #[v,.slice A m c]).run P w=.ok v' w'∧w'.ownsRow base e 1 v' (n+m) (xs++news)∧w.grownBy w' v.ownBlock ∧
     (v'=.slice none 0 0↔v=.slice none 0 0∧m=0)∧(v'.ownBlock=v.ownBlock∨v'.ownBlock=some w.heap.size):=by
 cases A with
 | none =>
   have hm:m=0:=by
     by_cases h:0<m
     ·obtain ⟨ad,e,_⟩:=hr.2 h
      cases e
     ·omega
   subst hm
   obtain rfl:news=[]:=List.eq_nil_of_length_eq_zero hr.1
   refine ⟨v,w,?_,by simpa using hown,⟨rfl,rfl,rfl,Nat.le_refl _,fun _ _ _=>rfl⟩,by simp,.inl rfl⟩
   rcases hown.2 with ⟨rfl,rfl⟩|⟨g,cap,cur,rfl,_,_,hnc,_⟩
   ·simp[Builtin.append_,run_underlying ht,sizeOf,typeInfo,hi,Builtin.lenOf,Builtin.firstCells]
   ·simp[Builtin.append_,run_underlying ht,sizeOf,typeInfo,hi,Builtin.lenOf,Builtin.firstCells,hnc,storeCells]
 | some ad =>
   have hc:∀ j u,news[j]?=some u→w.cell? (ad.add j)=some u:=by
     intro j u hu
     have hm:0<m:=by
       have:=hr.1
       have:=(List.getElem?_eq_some_iff.1 hu).1
       omega
     obtain ⟨ad',e,_,h⟩:=hr.2 hm
     injection e with e
     subst e
     exact h j u hu
   exact run_append_own_at (P:=P) w base t ty e i z 1 bytes ht hi hz hsize hby hzs (by omega) v n xs hown ad m c news (by simpa using hr.1) hc h1 h63 hbytes hbase
theorem wp_append_rd (w:World) {o:Oper} {a:Act} {K:Act→World→Prop} {Q:Exit→Act→World→Prop} (s x:Operand) (t:TypeId)
   (ho:o.op=.call { callee:=.builtin .append,args:=#[s,x],argTypes:=#[t,t] })
   (base:Nat) (e:TypeId) (i:TypeInfo) (z:Value) (bytes:Nat) (ht:P.underlying t=some (.slice e)) (hi:P.info? e=some i) (hz:i.zero=some z)
   (hsize:i.size=1) (hby:i.bytes=bytes) (hzs:z.cells.size=1)
   (v:Value) (n:Nat) (xs:List Value) (hs:a.eval s=v) (hown:w.ownsRow base e 1 v n xs)
   (B:Nat) (A:Option Addr) (m c:Nat) (news:List Value) (hx:a.eval x=.slice A m c) (hr:Rd w B A m news) (h1:∀ u∈news,u.oneCell'=true)
   (h63:n+m≤maxLen) (hbytes:(n+m)*bytes≤140737488355328) (hbase:base≤w.heap.size)
   (h:∀ v' w',w'.ownsRow base e 1 v' (n+m) (xs++news)→w.grownBy w' v.ownBlock→(v'=.slice none 0 0↔v=.slice none 0 0∧m=0)→(v'.ownBlock=v.ownBlock∨v'.ownBlock=some w.heap.size)→K (a.put o.dst v') w'):o.wp P a w K Q:=by
 obtain ⟨v',w',hrun,h2,h3,h4,h5⟩:=run_append_rd (P:=P) w base t o.type e i z bytes ht hi hz hsize hby hzs v n xs hown B A m c news hr h1 h63 hbytes hbase
 unfold Oper.wp execOp
 simp only [ho,resolve,invoke,builtin,Sem.run_bind,Sem.run_pure,Result.andThen_ok,List.map_toArray,List.map_cons,List.map_nil,hs,hx,hrun]
 exact h v' w' h2 h3 h4 h5
theorem wpList_append_rd (w:World) {ops:Array Oper} {rest:List Oper} {o:Oper} {a:Act} {Q:Exit→Act→World→Prop} (hgd:o.guard=none) (s x:Operand) (t:TypeId)
   (ho:o.op=.call { callee:=.builtin .append,args:=#[s,x],argTypes:=#[t,t] })
   (base:Nat) (e:TypeId) (i:TypeInfo) (z:Value) (bytes:Nat) (ht:P.underlying t=some (.slice e)) (hi:P.info? e=some i) (hz:i.zero=some z)
   (hsize:i.size=1) (hby:i.bytes=bytes) (hzs:z.cells.size=1)
   (v:Value) (n:Nat) (xs:List Value) (hs:a.eval s=v) (hown:w.ownsRow base e 1 v n xs)
   (B:Nat) (A:Option Addr) (m c:Nat) (news:List Value) (hx:a.eval x=.slice A m c) (hr:Rd w B A m news) (h1:∀ u∈news,u.oneCell'=true)
   (h63:n+m≤maxLen) (hbytes:(n+m)*bytes≤140737488355328) (hbase:base≤w.heap.size)
   (h:∀ v' w',w'.ownsRow base e 1 v' (n+m) (xs++news)→w.grownBy w' v.ownBlock→(v'=.slice none 0 0↔v=.slice none 0 0∧m=0)→(v'.ownBlock=v.ownBlock∨v'.ownBlock=some w.heap.size)→wpList P ops Q rest (a.put o.dst v') w'):wpList P ops Q (o :: rest) a w :=
 wpList_plain hgd fun _ hK=>wp_append_rd w s x t ho base e i z bytes ht hi hz hsize hby hzs v n xs hs hown B A m c news hx hr h1 h63 hbytes hbase fun v' w' h2 h3 h4 h5=>hK _ _ (h v' w' h2 h3 h4 h5)
end
theorem ints_one (k:IntKind) (l:List Int):∀ u∈l.map (Value.int k),u.oneCell'=true:=by
 intro u hu
 obtain ⟨n,_,rfl⟩:=List.mem_map.1 hu
 rfl
theorem byte_info:(Tryz.prog.info? 5).map (fun i=>(i.zero,i.size,i.bytes))=some (some (.int .u8 0),1,1):=by kernel_rfl
theorem conv_rd {w:World} {B b off n c:Nat} {xs:List Int} (h:Rd w B (some ⟨b,off,none⟩) n (xs.map (Value.int .u8))) :
   (convert 22 9 (.slice (some ⟨b,off,none⟩) n c)).run Tryz.prog w=.ok (.string (strOfNums xs)) w:=by
 have hl:xs.length=n:=by simpa using h.1
 refine run_convert_bytes_arg _ _ _ Tryz.underlying22 Tryz.underlying5 b off n c xs hl (fun i hi => ?_) _ Tryz.underlying9
 obtain ⟨ad,e,_,hc⟩:=h.2 (by omega)
 injection e with e
 subst e
 have:=hc i (.int .u8 (xs.getD i 0)) (by simp[hl,hi])
 rwa [add_none] at this
theorem ownBlock_is {g o n c g':Nat} (h:(Value.slice (some ⟨g,o,none⟩) n c).ownBlock=some g'):g'=g:=by
 simp[Value.ownBlock] at h
 exact h.symm
theorem own_form {w:World} {base:Nat} {e:TypeId} {v:Value} {n:Nat} {xs:List Value} (h:w.ownsRow base e 1 v n xs) (hne:v≠.slice none 0 0) :
   ∃ g c:Nat,v=.slice (some ⟨g,0,none⟩) n c∧base≤g∧g<w.heap.size∧n≤c∧c≤maxLen:=by
 rcases h.2 with ⟨hv,_⟩|⟨g,c,cur,hv,hb,hg,hn,hm,_⟩
 ·exact absurd hv hne
 ·exact ⟨g,c,hv,hb,(Array.getElem?_eq_some_iff.1 hg).1,hn,hm⟩
theorem own_stay {w w':World} {base B:Nat} {e:TypeId} {v:Value} {n:Nat} {xs:List Value} (h:w.ownsRow base e 1 v n xs) (hb:Below B w w') (hB:∀ g,v.ownBlock=some g→g<B):w'.ownsRow base e 1 v n xs:=by
 refine ⟨h.1,?_⟩
 rcases h.2 with hn|⟨g,c,cur,rfl,hbg,hg,rest⟩
 ·exact .inl hn
 ·exact .inr ⟨g,c,cur,rfl,hbg,(hb.block g (hB g rfl)).trans hg,rest⟩
theorem Rd.of_list {w:World} {b:Nat} {t:TypeId} {l:List Value} {k:Nat} (h:Own w b t l.toArray) (hk:l.length=k):Rd w (b+1) (some ⟨b,0,none⟩) k l:=by
 have:=Rd.of_cells h 0 k (by simp[hk])
 simpa [List.take_of_length_le (Nat.le_of_eq hk)] using this
theorem below_grown {B:Nat}{a w w':World}{v:Value}(h:Below B a w)(hg:w.grownBy w' v.ownBlock)(hB:B≤w.heap.size)(hv:∀ g,v.ownBlock=some g→B≤g):Below B a w':=h.grown hg hB hv
theorem made_one (v:Value) (n:Nat):madeCells #[v] n=(List.replicate n v).toArray:=by
 apply Array.ext
 ·simp[madeCells]
 ·intro i h1 h2
  simp[madeCells,Nat.mod_one]
end
section
open Go.RowKit
theorem conv_one (W:World) (x:Int) :
   (convert 22 9 (.slice (some ⟨W.heap.size,0,none⟩) 1 1)).run Tryz.prog (W.alloc (.cells #[.int .u8 x] 5))=.ok (.string (strOfNums [x])) (W.alloc (.cells #[.int .u8 x] 5)):=by
 exact run_convert_bytes_arg _ _ _ Tryz.underlying22 Tryz.underlying5 W.heap.size 0 1 1 [x] rfl (fun i hi=>by
   obtain rfl:i=0:=by omega
   simp) _ Tryz.underlying9
theorem conv_one' (W:World) (o:Obj) (x:Int) :
   (convert 22 9 (.slice (some ⟨W.heap.size+1,0,none⟩) 1 1)).run Tryz.prog ((W.alloc o).alloc (.cells #[.int .u8 x] 5))=.ok (.string (strOfNums [x])) ((W.alloc o).alloc (.cells #[.int .u8 x] 5)):=by
 have:=conv_one (W.alloc o) x
 simpa using this
def sizeOfV:Value→Nat | .string b=>b.size|_=>0
def RelPad (s:ByteArray) (n:Nat) (W wr:World) (lo tp:Value):Prop :=
 ∃ (k:Nat) (x y:ByteArray),lo=.string x∧tp=.string y∧x.size=s.size+k∧y.size=s.size+k∧s.size+k≤n ∧
   x.data.toList=s.data.toList++List.replicate k 128∧y.data.toList=s.data.toList++List.replicate k 191∧Below W.heap.size W wr
theorem least_cell (w:World) (n:Nat) (hn:n=1∨n=2∨n=3∨n=4) :
   (w.alloc (.cells #[.int .i64 0,.int .i64 0,.int .i64 128,.int .i64 2048,.int .i64 65536] 3)).cell? ⟨w.heap.size,n,none⟩=some (.int .i64 (leastR n)):=by
 rw[(Own.fresh w 3 _).at n]
 rcases hn with rfl|rfl|rfl|rfl<;>rfl
theorem ret_three {k:IntKind} {x y:Bool} {z:Int} {t:Bool×Bool×Int} (h:(x,y,z)=t) :
   Ending.returned (.tuple #[.bool x,.bool y,.int k z])=.returned (.tuple #[.bool t.1,.bool t.2.1,.int k t.2.2]):=by subst h;rfl
theorem cons_of (s:ByteArray) (h:0<s.size):∃ t,s.data.toList=s[0] :: t:=by
 have hl:0<s.data.toList.length:=h
 cases hc:s.data.toList with
 | nil=>rw[hc] at hl;simp at hl
 | cons a t =>
   refine ⟨t,?_⟩
   have:s.data.toList[0]=a:=by simp[hc]
   have e:s[0]=a:=this
   rw[e]
theorem padR_of (s:ByteArray)(n:Nat)(c:UInt8):s.data.toList++List.replicate (n-s.size) c=padR s.data.toList n c:=rfl
theorem begR_cons (c:UInt8) (t:List UInt8):begR (c :: t) =
   if sizeR c.toNat=0∨sizeR c.toNat<(c :: t).length then (false,false,0) else
   if contR t then endR (c :: t).length (sizeR c.toNat).toNat (numR (padR (c :: t) (sizeR c.toNat).toNat 128)) (numR (padR (c :: t) (sizeR c.toNat).toNat 191)) else (false,false,0):=rfl
theorem begR_end (s:ByteArray) (n:Nat) (h1:0<s.size) (h4:s.size≤n) (hr:sizeR s[0].toNat=n) (hc:ContTo s s.size) :
   begR s.data.toList=endR s.size n (numR (padR s.data.toList n 128)) (numR (padR s.data.toList n 191)):=by
 obtain ⟨t,ht⟩:=cons_of s h1
 have hs:s.size=s.data.toList.length:=rfl
 unfold ContTo at hc
 rw[List.take_of_length_le (by rw[hs];omega)] at hc
 rw[hs] at h4 h1 ⊢
 rw[ht] at hc h4 h1 ⊢
 simp only [List.drop_one,List.tail_cons] at hc
 rw[begR_cons]
 rw[if_neg (by rw[hr];omega),if_pos hc,hr]
 rfl
theorem begR_not (s:ByteArray) (n k:Nat) (h1:0<s.size) (h4:s.size≤n) (hr:sizeR s[0].toNat=n) (hc:contR ((s.data.toList.take (k+1)).drop 1)=false) :
   begR s.data.toList=(false,false,0):=by
 obtain ⟨t,ht⟩:=cons_of s h1
 have hs:s.size=s.data.toList.length:=rfl
 have hc':=cont_no _ _ hc
 rw[hs] at h4 h1
 rw[ht] at hc' h4 h1 ⊢
 simp only [List.drop_one,List.tail_cons] at hc'
 rw[begR_cons]
 rw[if_neg (by rw[hr];omega),if_neg (by rw[hc'];simp)]
theorem rbegins_core (s:ByteArray) (W:World) (n:Nat) (hn:n=1∨n=2∨n=3∨n=4) (h1:0<s.size) (h4:s.size≤n) (hr:sizeR s[0].toNat=n) :
   Calls Tryz.prog 85 #[.string s] W fun e w'=>e=.returned (.tuple #[.bool (begR s.data.toList).1,.bool (begR s.data.toList).2.1,.int .i64 (begR s.data.toList).2.2])∧Below W.heap.size W w':=by
 have hcv1:=conv_one
 have hcv2:=conv_one'
 have hlc:=fun w=>least_cell w n hn
 have z1:(strOfNums [128]).size=1:=rfl
 have z2:(strOfNums [191]).size=1:=rfl
 have n1:1≤n:=by omega
 have n4:n≤4:=by omega
 have n0:((n:Int)==0)=false:=beq_eq_false_iff_ne.2 (by omega)
 have hs1:=fun w=>rsize_any s[0].toNat w
 rw[hr] at hs1
 have HS:=hid hs1
 have HR:=hid hr
 clear hs1 hr hn
 go_enter Tryz.func85,Tryz.ntmps85
 go_wp2_with (first|(go_at_call 109;refine (HS.out _).mono ?_;rintro e w' ⟨rfl,rfl⟩))
 go_loop [6] (fun i=>RelCont s i) (fun i=>s.size-(intOf i).toNat)
 case atStart=>exact ⟨1,Nat.le_refl _,h1,rfl,contTo_one s⟩
 case round =>
   obtain ⟨k,hk1,hk,rfl,hcont⟩:=hrel
   by_cases hlt:k<s.size
   ·obtain ⟨c0,c9⟩:=byte_le s k hlt
    have HS:=hid (cont_snoc s k hk1 hlt)
    have HK:=hid hcont
    by_cases hlo:(s[k].toNat:Int)<128
    ·have HB:=hid (begR_not s n k h1 h4 HR.out (by rw[HS.out];simp;omega))
     clear hcont
     go_wp2
     go_ret3
     exact ⟨ret_three HB.out.symm,Below.refl _ _⟩
    ·by_cases hhi:191<(s[k].toNat:Int)
     ·have HB:=hid (begR_not s n k h1 h4 HR.out (by rw[HS.out];simp;omega))
      clear hcont
      go_wp2
      go_ret3
      exact ⟨ret_three HB.out.symm,Below.refl _ _⟩
     ·clear hcont
      have hlo':128≤(s[k].toNat:Int):=by omega
      have hhi':(s[k].toNat:Int)≤191:=by omega
      go_wp2
      go_round
      case rel=>exact ⟨k+1,by omega,hlt,by go_num,by unfold ContTo;rw[HS.out,show contR ((s.data.toList.take k).drop 1)=true from HK.out];simp;omega⟩
      case measure=>simp[intOf];omega
   ·obtain rfl:k=s.size:=by omega
    have HC:=hid hcont
    clear hcont
    go_wp2
    go_loopw [7,8] (fun lo tp wr=>RelPad s n W wr lo tp) (fun lo _ _=>n-sizeOfV lo)
    case atStart=>exact ⟨0,s,s,rfl,rfl,rfl,rfl,h4,by simp,by simp,Below.refl _ _⟩
    case round =>
      obtain ⟨j,x,y,rfl,rfl,hx,hy,hj,hxl,hyl,hbel⟩:=hrel
      by_cases hlt:x.size<n
      ·have hx1:x.size≤4:=by omega
       have hy1:y.size≤4:=by omega
       have hyn:y.size<n:=by omega
       have hj':s.size+(j+1)≤n:=by omega
       have HX:=hid hx
       have HY:=hid hy
       have HXL:=hid hxl
       have HYL:=hid hyl
       clear hx hy hxl hyl
       go_wp2
       case roundEnd =>
         refine ⟨⟨j+1,_,_,rfl,rfl,?_,?_,hj',?_,?_,(hbel.alloc hbel.size _).alloc (by have:=hbel.size;simp;omega) _⟩,?_⟩
         ·rw[ByteArray.size_append,HX.out];rfl
         ·rw[ByteArray.size_append,HY.out];rfl
         ·rw[ByteArray.data_append];simp[HXL.out,List.replicate_succ'];rfl
         ·rw[ByteArray.data_append];simp[HYL.out,List.replicate_succ'];rfl
         ·simp only [sizeOfV,ByteArray.size_append];rw[z1];omega
      ·have HX:=hid hx
       have HY:=hid hy
       have HXL:=hid hxl
       have HYL:=hid hyl
       have hx1:x.size≤4:=by omega
       have hy1:y.size≤4:=by omega
       have hx0:0<x.size:=by omega
       have hy0:0<y.size:=by omega
       have ha:=fun w=>rnumber_any x w hx0 hx1
       have hb:=fun w=>rnumber_any y w hy0 hy1
       have HA:=hid ha
       have HB:=hid hb
       have hjn:j=n-s.size:=by omega
       have HE:=hid (begR_end s n h1 h4 HR.out HC.out)
       rw[← padR_of s n,← padR_of s n,← hjn,← hxl,← hyl] at HE
       clear hx hy hxl hyl ha hb hjn
       generalize numR x.data.toList=a at *
       generalize numR y.data.toList=b at *
       go_wp2_with (first
         | (go_at_call 110;(with_reducible refine (HA.out _).mono ?_);rintro e w' ⟨rfl,rfl⟩)
         | (go_at_call 110;(with_reducible refine (HB.out _).mono ?_);rintro e w' ⟨rfl,rfl⟩))
       all_goals
         go_ret3
         refine ⟨ret_three (Eq.trans ?_ HE.out.symm),hbel.alloc hbel.size _⟩
         unfold endR
         simp only [beq_iff_eq,beq_eq_false_iff_ne] at *
         split<;>(try split)<;>first|rfl|omega
end
section
open Go.RowKit
theorem rbegins_zero (s:ByteArray) (W:World) (h1:0<s.size) (hr:sizeR s[0].toNat=0) :
   Calls Tryz.prog 85 #[.string s] W fun e w'=>e=.returned (.tuple #[.bool false,.bool false,.int .i64 0])∧W=w':=by
 have hs1:=fun w=>rsize_any s[0].toNat w
 rw[hr] at hs1
 have HS:=hid hs1
 clear hs1 hr
 go_enter Tryz.func85,Tryz.ntmps85
 go_wp2_with (first|(go_at_call 109;refine (HS.out _).mono ?_;rintro e w' ⟨rfl,rfl⟩))
 go_ret3
 exact ⟨rfl,rfl⟩
theorem rbegins_step (t:ByteArray) (l:List UInt8) (c:UInt8) (sg lf:Int) (ht:t.data.toList=l++[c]) (h:InvL l sg lf) (W:World) {x y:Bool} {z:Int} (hv:ansU sg lf c.toNat=(x,y,z)) :
   Calls Tryz.prog 85 #[.string t] W fun e w'=>e=.returned (.tuple #[.bool x,.bool y,.int .i64 z])∧Below W.heap.size W w':=by
 have hs:t.size=(l++[c]).length:=by rw[← ht];rfl
 have h1:0<t.size:=by rw[hs];simp
 obtain ⟨r,hr⟩:=cons_of t h1
 have hb:=beg_any l c sg lf h
 rw[← ht,hv] at hb
 rcases invL_size h t[0] r (by rw[← ht,hr]) with ⟨n,hn,hl,hz⟩|hz
 ·have:=rbegins_core t W n hn h1 (by rw[hs];exact hl) hz
  rw[hb] at this
  exact this
 ·have e:=begR_zero t[0] r hz
  rw[← hr,hb] at e
  simp only [Prod.mk.injEq] at e
  obtain ⟨rfl,rfl,rfl⟩:=e
  exact (rbegins_zero t W h1 hz).mono fun e w' ⟨he,hw⟩=>⟨he,hw▸Below.refl _ _⟩
theorem part_snoc (s:ByteArray) (j k:Nat) (hjk:j≤k) (hk:k<s.size):(s.extract j (k+1)).data.toList=(s.data.toList.take k).drop j++[s[k]]:=by
 have hl:k<s.data.toList.length:=hk
 rw[ByteArray.data_extract,Array.toList_extract,List.extract_eq_take_drop]
 rw[show s[k]=s.data.toList[k] from rfl,← List.drop_append_of_le_length (by simp;omega),← List.take_succ_eq_append_getElem hl,List.drop_take]
def RelRBad (s:ByteArray) (W wr:World) (fr i:Value):Prop :=
 ∃ (j k:Nat) (sg lf:Int),j≤k∧k≤s.size∧(j=k↔lf=0)∧fr=.int .i64 j∧i=.int .i64 k∧StU sg lf∧InvL ((s.data.toList.take k).drop j) sg lf∧Below W.heap.size W wr∧badU s.data.toList=runU sg lf (s.data.toList.drop k) k
theorem rbad_any (s:ByteArray) (W:World) (hs:s.size≤maxLen) :
   Calls Tryz.prog 57 #[.string s] W fun e w'=>e=.returned (.int .i64 (badU s.data.toList))∧Below W.heap.size W w':=by
 unfold maxLen at hs
 go_enter Tryz.func57,Tryz.ntmps57
 go_wp2
 go_loopw [3,4] (fun f i wr=>RelRBad s W wr f i) (fun _ i _=>s.size-(intOf i).toNat)
 case atStart=>exact ⟨0,0,0,0,by omega,by omega,by simp,rfl,rfl,stU_zero,rfl,Below.refl _ _,rfl⟩
 case round =>
   obtain ⟨j,k,sg,lf,hjk,hk,hjl,rfl,rfl,hst,hinv,hbel,hrun⟩:=hrel
   by_cases hlt:k<s.size
   ·have hl:k<s.data.toList.length:=hlt
    have hp:=part_snoc s j k hjk hlt
    rw[runU_cons _ _ _ _ hl,show s.data.toList[k]=s[k] from rfl] at hrun
    have hkj:j≤k+1:=by omega
    have hks:k+1≤s.size:=by omega
    by_cases hok:okU sg lf s[k].toNat=true
    ·have hst':=hid (stU_step hst (Int.natCast_nonneg _) hok)
     have hinv':=invL_step hinv hok
     rw[if_pos hok] at hrun
     by_cases hz:lfU lf s[k].toNat=0
     ·have HB:=hid (fun w=>rbegins_step _ _ _ _ _ hp hinv w (x:=true) (y:=true) (z:=sgU sg lf s[k].toNat) (by unfold ansU;rw[if_pos hok,if_pos hz]))
      rw[if_pos hz] at hinv'
      have HI:=hid hinv'
      have HRun:=hid hrun
      have HZ:=hid hz
      clear hinv' hinv hrun hjl hp hok hz
      go_wp2_with (go_at_call 85;refine (HB.out _).mono ?_;rintro e w' ⟨rfl,hb⟩)
      go_roundw
      case rel=>exact ⟨k+1,k+1,_,_,Nat.le_refl _,hlt,by simp;exact HZ.out,by go_num,by go_num,hst'.out,(by rw[List.drop_of_length_le (by simp;omega)];exact HI.out),hbel.trans (hb.mono hbel.size),HRun.out⟩
      case measure=>simp[intOf];omega
     ·have HB:=hid (fun w=>rbegins_step _ _ _ _ _ hp hinv w (x:=true) (y:=false) (z:=0) (by unfold ansU;rw[if_pos hok,if_neg hz]))
      rw[if_neg hz] at hinv'
      have HI:=hid hinv'
      have HRun:=hid hrun
      have HZ:=hid hz
      clear hinv' hinv hrun hjl hp hok hz
      go_wp2_with (go_at_call 85;refine (HB.out _).mono ?_;rintro e w' ⟨rfl,hb⟩)
      go_roundw
      case rel=>exact ⟨j,k+1,_,_,hkj,hlt,⟨fun e=>by omega,fun e=>absurd e HZ.out⟩,rfl,by go_num,hst'.out,(by rw[List.take_succ_eq_append_getElem hl,List.drop_append_of_le_length (by simp;omega)];exact HI.out),hbel.trans (hb.mono hbel.size),HRun.out⟩
      case measure=>simp[intOf];omega
    ·have HB:=hid (fun w=>rbegins_step _ _ _ _ _ hp hinv w (x:=false) (y:=false) (z:=0) (by unfold ansU;rw[if_neg hok]))
     rw[if_neg hok] at hrun
     have HRun:=hid hrun
     clear hinv hrun hjl hp hok
     go_wp2_with (go_at_call 85;refine (HB.out _).mono ?_;rintro e w' ⟨rfl,hb⟩)
     go_ret
     exact ⟨ret_i HRun.out.symm,hbel.trans (hb.mono hbel.size)⟩
   ·obtain rfl:k=s.size:=by omega
    rw[show s.data.toList.drop s.size=[] from List.drop_of_length_le (Nat.le_refl _)] at hrun
    have HR:=hid hrun
    have hlf:0≤lf:=by unfold StU at hst;omega
    have HJ:=hid hjl
    clear hrun hinv hjl
    by_cases hj:j<s.size
    all_goals
      go_wp2
      go_ret
      exact ⟨ret_i (by rw[HR.out];have:=HJ.out;first|(rw[show runU sg lf [] s.size=if 0<lf then (s.size:Int) else -1 from rfl,if_pos (by omega)])|(rw[show runU sg lf [] s.size=if 0<lf then (s.size:Int) else -1 from rfl,if_neg (by omega)])),hbel⟩
end
end Go.Proofs.YtnokhgfifbkflaaGreat
