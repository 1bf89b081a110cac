/- Lemmas. -/
import Derived.Test.YtmgdjlkndbejkaaDoorJ06
import Derived.Lib.AppendStr
set_option maxRecDepth 100000
set_option maxHeartbeats 8000000
set_option linter.unusedVariables false
namespace Go.Proofs.YtmgdjlkndbejkaaDoor
section
open Go.RowKit
theorem below1 (w:World)(a:Obj):Below w.heap.size w (w.alloc a):=(Below.refl w.heap.size w).alloc (Nat.le_refl _) a
theorem below2 (w:World) (a b:Obj):Below w.heap.size w ((w.alloc a).alloc b) :=
 have h:=(Below.refl w.heap.size w).alloc (Nat.le_refl _) a
 h.alloc h.size b
theorem below_drewN {B:Nat}{a w:World}(h:Below B a w)(n:Nat):Below B a (w.drewN n):=⟨h.os,h.tape,h.output,h.size,h.block⟩
def byteCells (l:List UInt8):List Value:=l.map fun c=>Value.int .u8 c.toNat
theorem byteCells_nums (l:List UInt8):byteCells l=(nums l).map (Value.int .u8):=by simp[byteCells,nums]
theorem byteCells_length (l:List UInt8):(byteCells l).length=l.length:=by simp[byteCells]
theorem byteCells_append (l m:List UInt8):byteCells (l++m)=byteCells l++byteCells m:=by simp[byteCells]
theorem byteCells_one (l:List UInt8):∀ u∈byteCells l,u.oneCell'=true:=by rw[byteCells_nums];exact ints_one _ _
theorem strOf_nums (l:List UInt8):strOfNums (nums l)=⟨l.toArray⟩:=by
 have e:(strOfNums (nums l)).data.toList=l:=by
   rw[strOfNums_data]
   unfold nums
   rw[List.map_map]
   conv=>rhs;rw[← List.map_id l]
   exact List.map_congr_left fun c _=>by simp
 generalize strOfNums (nums l)=s at *
 cases s with|mk x =>
 have e:x.toList=l:=e
 rw[← e]
theorem IsRow.bytes {w:World} {A:Option Addr} {len cap:Nat} {zs:List Int} (h:IsRow .u8 w A len cap zs):∃ l:List UInt8,Rd w w.heap.size A len (byteCells l):=by
 refine ⟨(zs.take len).map fun z=>UInt8.ofNat z.toNat,?_⟩
 have e:byteCells ((zs.take len).map fun z=>UInt8.ofNat z.toNat)=(zs.take len).map (Value.int .u8):=by
   unfold byteCells
   rw[List.map_map]
   refine List.map_congr_left fun z hz => ?_
   have hw:=h.wf z (List.mem_of_mem_take hz)
   simp[Lit.wf,IntKind.min,IntKind.max,IntKind.signed,IntKind.bits] at hw
   simp
   omega
 rw[e]
 exact Rd.of_row h
def Buf (w:World) (base:Nat) (v:Value) (l:List UInt8):Prop :=
 ∃ g c:Nat,v=.slice (some ⟨g,0,none⟩) l.length c∧w.ownsRow base 5 1 v l.length (byteCells l)
section
variable {w w':World} {base:Nat} {v:Value} {l:List UInt8}
theorem Buf.form (h:Buf w base v l):∃ g c:Nat,v=.slice (some ⟨g,0,none⟩) l.length c∧base≤g∧g<w.heap.size:=by
 obtain ⟨g,c,rfl,ho⟩:=h
 obtain ⟨g',c',e,h1,h2,_⟩:=own_form ho (by intro e;cases e)
 injection e with e1 _ _
 injection e1 with e1
 injection e1 with e1
 exact ⟨g,c,rfl,by omega,by omega⟩
theorem Buf.stay (h:Buf w base v l) {B:Nat} (hb:Below B w w') (hB:w.heap.size≤B):Buf w' base v l:=by
 obtain ⟨g0,c0,e,_,hlt⟩:=h.form
 obtain ⟨g,c,rfl,ho⟩:=h
 refine ⟨g,c,rfl,own_stay ho hb fun k hk => ?_⟩
 injection e with e1 _ _
 injection e1 with e1
 injection e1 with e1
 rw[ownBlock_is hk]
 omega
theorem Buf.rd (h:Buf w base v l) {g c n:Nat} (hv:v=.slice (some ⟨g,0,none⟩) n c):Rd w w.heap.size (some ⟨g,0,none⟩) l.length (byteCells l):=by
 obtain ⟨g',c',rfl,ho⟩:=h
 injection hv with e1 e2 e3
 injection e1 with e1
 injection e1 with e1
 subst e1
 exact Rd.of_owned ho
theorem Buf.conv (h:Buf w base v l):(convert 52 9 v).run Tryd.prog w=.ok (.string ⟨l.toArray⟩) w:=by
 obtain ⟨g,c,rfl,ho⟩:=h
 have:=Rd.of_owned ho
 rw[byteCells_nums] at this
 rw[conv_rd this,strOf_nums]
theorem Buf.made (w:World) (cs:Array Value) (l:List UInt8) (hc:cs=(byteCells l).toArray) (hl:l.length≤maxLen) (hb:base≤w.heap.size):Buf (w.alloc (.cells cs 5)) base (.slice (some ⟨w.heap.size,0,none⟩) l.length l.length) l:=by
 subst hc
 refine ⟨_,_,rfl,⟨by simp[byteCells_length],.inr ⟨w.heap.size,l.length,_,rfl,hb,heap_alloc_new w _,Nat.le_refl _,hl,by simp[byteCells_length],?_⟩⟩⟩
 simp[List.take_of_length_le,byteCells_length]
end
section
variable {ops:Array Oper} {rest:List Oper} {o:Oper} {a:Act} {Q:Exit→Act→World→Prop}
theorem buf_append (w:World) (hgd:o.guard=none) (s x:Operand) (ho:o.op=.call { callee:=.builtin .append,args:=#[s,x],argTypes:=#[52,52] })
   (base:Nat) (v:Value) (l:List UInt8) (hs:a.eval s=v) (hown:Buf w base v l) (B:Nat) (A:Option Addr) (m c:Nat) (news:List UInt8) (hx:a.eval x=.slice A m c) (hr:Rd w B A m (byteCells news))
   (h63:l.length+m≤140737488355328-4096) (hbase:base≤w.heap.size)
   (h:∀ v' w',Buf w' base v' (l++news)→Below base w w'→wpList Tryd.prog ops Q rest (a.put o.dst v') w'):wpList Tryd.prog ops Q (o :: rest) a w:=by
 obtain ⟨i0,hi,hz0,hz1,hz2⟩:=info_parts byte_info
 have hm:news.length=m:=by have:=hr.1;rwa [byteCells_length] at this
 obtain ⟨g0,c0,ev,hg0,_⟩:=hown.form
 obtain ⟨g,c',rfl,hown⟩:=hown
 refine wpList_append_rd w hgd s x _ ho base 5 i0 _ 1 Tryd.underlying52 hi hz0 hz1 hz2 rfl _ l.length (byteCells l) hs hown B A m c (byteCells news) hx hr (byteCells_one _) (by unfold maxLen;omega) (by omega) hbase ?_
 intro v' w' h2 hg hnil hat
 have hne:v'≠.slice none 0 0:=fun e=>by have:=hnil.1 e;simp at this
 obtain ⟨g2,c2,e2,_⟩:=own_form h2 hne
 refine h v' w' ⟨g2,c2,by rw[e2,List.length_append,hm],?_⟩ ((Below.refl base w).grown hg hbase fun k hk => ?_)
 ·rw[List.length_append,hm,byteCells_append]
  exact h2
 ·injection ev with e1 _ _
  injection e1 with e1
  injection e1 with e1
  rw[ownBlock_is hk]
  omega
end
end
section
open Go.RowKit
def sgnGo:Int→Int→List UInt8→Nat→Nat
 | _,_,[],_=>0
 | sg,lf,c :: t,k=>if okU sg lf c.toNat then (if lfU lf c.toNat=0 then k+1 else sgnGo (sgU sg lf c.toNat) (lfU lf c.toNat) t (k+1)) else 0
def sgnL (l:List UInt8):Nat:=sgnGo 0 0 l 0
def escB (c:UInt8):UInt8:=if c=34 then 34 else if c=92 then 92 else if c=8 then 98 else if c=12 then 102 else if c=10 then 110 else if c=13 then 114 else if c=9 then 116 else 0
def lowB (n:Nat):UInt8:=if n<10 then UInt8.ofNat (48+n) else if n<16 then UInt8.ofNat (87+n) else 48
def stranger:List UInt8:=[239,191,189]
def pieceP (l:List UInt8) (n:Nat):List UInt8:=match l with
 | []=>[]
 | c :: t=>if n=0 then stranger else if escB c≠0 then [92,escB c] else if c.toNat<32 then [92,117,48,48,lowB (c.toNat/16),lowB (c.toNat%16)] else (c :: t).take n
def goOn (n:Nat):Nat:=if n=0 then 1 else n
def hexB (c:UInt8):Option Int :=
 if 48≤c.toNat∧c.toNat≤57 then some (c.toNat-48) else if 97≤c.toNat∧c.toNat≤102 then some (c.toNat-87) else if 65≤c.toNat∧c.toNat≤70 then some (c.toNat-55) else none
def ofB (v:Int):List UInt8:=(ofI v).map fun x=>UInt8.ofNat x.toNat
theorem sgn_split (l:List UInt8):∀ (sg lf:Int) (k j:Nat),sgnGo sg lf l k=j→j≠0→k<j∧j≤k+l.length:=by
 induction l with
 | nil=>intro sg lf k j h hj;exact absurd h.symm hj
 | cons c t ih =>
   intro sg lf k j h hj
   unfold sgnGo at h
   split at h
   ·split at h
    ·simp;omega
    ·have:=ih _ _ _ _ h hj
     simp
     omega
   ·exact absurd h.symm hj
theorem sgn_cons (c:UInt8)(t:List UInt8):sgnL (c :: t)=if okU 0 0 c.toNat then (if lfU 0 c.toNat=0 then 1 else sgnGo (sgU 0 0 c.toNat) (lfU 0 c.toNat) t 1) else 0:=rfl
theorem sgn_small (c:UInt8) (t:List UInt8) (h:c.toNat<128):sgnL (c :: t)=1:=by
 rw[sgn_cons,if_pos (okU_0 _ (by omega) 0),if_pos (by unfold lfU;(repeat' split)<;>omega)]
end
section
open Go.RowKit
theorem hexB_in {c:UInt8} {d:Int} (h:hexB c=some d):0≤d∧d≤15:=by
 unfold hexB at h
 split at h
 ·have:=Option.some.inj h;omega
 ·split at h
  ·have:=Option.some.inj h;omega
  ·split at h
   ·have:=Option.some.inj h;omega
   ·cases h
end
end Go.Proofs.YtmgdjlkndbejkaaDoor
