/- Lemmas. -/
import Derived.Test.YtbpilcklglhloaaGreatDoorJ06
import Derived.Lib.AppendStr
set_option maxRecDepth 100000
set_option maxHeartbeats 8000000
set_option linter.unusedVariables false
namespace Go.Proofs.YtbpilcklglhloaaGreatDoor
open Go.Lib (hid)
section
open Go.RowKit
theorem below1 (w:World)(a:Obj):Below w.heap.size w (w.alloc a):=(Below.refl w.heap.size w).alloc (Nat.le_refl _) a
theorem below2 (w:World) (a b:Obj):Below w.heap.size w ((w.alloc a).alloc b) :=
 have h:=(Below.refl w.heap.size w).alloc (Nat.le_refl _) a
 h.alloc h.size b
theorem below_drewN {B:Nat}{a w:World}(h:Below B a w)(n:Nat):Below B a (w.drewN n):=⟨h.os,h.tape,h.output,h.size,h.block⟩
def byteCells (l:List UInt8):List Value:=l.map fun c=>Value.int .u8 c.toNat
theorem byteCells_nums (l:List UInt8):byteCells l=(nums l).map (Value.int .u8):=by simp[byteCells,nums]
theorem byteCells_length (l:List UInt8):(byteCells l).length=l.length:=by simp[byteCells]
theorem byteCells_append (l m:List UInt8):byteCells (l++m)=byteCells l++byteCells m:=by simp[byteCells]
theorem byteCells_one (l:List UInt8):∀ u∈byteCells l,u.oneCell'=true:=by rw[byteCells_nums];exact ints_one _ _
theorem strOf_nums (l:List UInt8):strOfNums (nums l)=⟨l.toArray⟩:=by
 have e:(strOfNums (nums l)).data.toList=l:=by
   rw[strOfNums_data]
   unfold nums
   rw[List.map_map]
   conv=>rhs;rw[← List.map_id l]
   exact List.map_congr_left fun c _=>by simp
 generalize strOfNums (nums l)=s at *
 cases s with|mk x =>
 have e:x.toList=l:=e
 rw[← e]
theorem IsRow.bytes {w:World} {A:Option Addr} {len cap:Nat} {zs:List Int} (h:IsRow .u8 w A len cap zs):∃ l:List UInt8,Rd w w.heap.size A len (byteCells l):=by
 refine ⟨(zs.take len).map fun z=>UInt8.ofNat z.toNat,?_⟩
 have e:byteCells ((zs.take len).map fun z=>UInt8.ofNat z.toNat)=(zs.take len).map (Value.int .u8):=by
   unfold byteCells
   rw[List.map_map]
   refine List.map_congr_left fun z hz => ?_
   have hw:=h.wf z (List.mem_of_mem_take hz)
   simp[Lit.wf,IntKind.min,IntKind.max,IntKind.signed,IntKind.bits] at hw
   simp
   omega
 rw[e]
 exact Rd.of_row h
def Buf (w:World) (base:Nat) (v:Value) (l:List UInt8):Prop :=
 ∃ g c:Nat,v=.slice (some ⟨g,0,none⟩) l.length c∧w.ownsRow base 5 1 v l.length (byteCells l)
section
variable {w w':World} {base:Nat} {v:Value} {l:List UInt8}
theorem Buf.form (h:Buf w base v l):∃ g c:Nat,v=.slice (some ⟨g,0,none⟩) l.length c∧base≤g∧g<w.heap.size:=by
 obtain ⟨g,c,rfl,ho⟩:=h
 obtain ⟨g',c',e,h1,h2,_⟩:=own_form ho (by intro e;cases e)
 injection e with e1 _ _
 injection e1 with e1
 injection e1 with e1
 exact ⟨g,c,rfl,by omega,by omega⟩
theorem Buf.stay (h:Buf w base v l) {B:Nat} (hb:Below B w w') (hB:w.heap.size≤B):Buf w' base v l:=by
 obtain ⟨g0,c0,e,_,hlt⟩:=h.form
 obtain ⟨g,c,rfl,ho⟩:=h
 refine ⟨g,c,rfl,own_stay ho hb fun k hk => ?_⟩
 injection e with e1 _ _
 injection e1 with e1
 injection e1 with e1
 rw[ownBlock_is hk]
 omega
theorem Buf.rd (h:Buf w base v l) {g c n:Nat} (hv:v=.slice (some ⟨g,0,none⟩) n c):Rd w w.heap.size (some ⟨g,0,none⟩) l.length (byteCells l):=by
 obtain ⟨g',c',rfl,ho⟩:=h
 injection hv with e1 e2 e3
 injection e1 with e1
 injection e1 with e1
 subst e1
 exact Rd.of_owned ho
theorem Buf.conv (h:Buf w base v l):(convert 22 9 v).run Tryz.prog w=.ok (.string ⟨l.toArray⟩) w:=by
 obtain ⟨g,c,rfl,ho⟩:=h
 have:=Rd.of_owned ho
 rw[byteCells_nums] at this
 rw[conv_rd this,strOf_nums]
theorem Buf.made (w:World) (cs:Array Value) (l:List UInt8) (hc:cs=(byteCells l).toArray) (hl:l.length≤maxLen) (hb:base≤w.heap.size):Buf (w.alloc (.cells cs 5)) base (.slice (some ⟨w.heap.size,0,none⟩) l.length l.length) l:=by
 subst hc
 refine ⟨_,_,rfl,⟨by simp[byteCells_length],.inr ⟨w.heap.size,l.length,_,rfl,hb,heap_alloc_new w _,Nat.le_refl _,hl,by simp[byteCells_length],?_⟩⟩⟩
 simp[List.take_of_length_le,byteCells_length]
end
section
variable {ops:Array Oper} {rest:List Oper} {o:Oper} {a:Act} {Q:Exit→Act→World→Prop}
theorem buf_append (w:World) (hgd:o.guard=none) (s x:Operand) (ho:o.op=.call { callee:=.builtin .append,args:=#[s,x],argTypes:=#[22,22] })
   (base:Nat) (v:Value) (l:List UInt8) (hs:a.eval s=v) (hown:Buf w base v l) (B:Nat) (A:Option Addr) (m c:Nat) (news:List UInt8) (hx:a.eval x=.slice A m c) (hr:Rd w B A m (byteCells news))
   (h63:l.length+m≤140737488355328-4096) (hbase:base≤w.heap.size)
   (h:∀ v' w',Buf w' base v' (l++news)→Below base w w'→wpList Tryz.prog ops Q rest (a.put o.dst v') w'):wpList Tryz.prog ops Q (o :: rest) a w:=by
 obtain ⟨i0,hi,hz0,hz1,hz2⟩:=info_parts byte_info
 have hm:news.length=m:=by have:=hr.1;rwa [byteCells_length] at this
 obtain ⟨g0,c0,ev,hg0,_⟩:=hown.form
 obtain ⟨g,c',rfl,hown⟩:=hown
 refine wpList_append_rd w hgd s x _ ho base 5 i0 _ 1 Tryz.underlying22 hi hz0 hz1 hz2 rfl _ l.length (byteCells l) hs hown B A m c (byteCells news) hx hr (byteCells_one _) (by unfold maxLen;omega) (by omega) hbase ?_
 intro v' w' h2 hg hnil hat
 have hne:v'≠.slice none 0 0:=fun e=>by have:=hnil.1 e;simp at this
 obtain ⟨g2,c2,e2,_⟩:=own_form h2 hne
 refine h v' w' ⟨g2,c2,by rw[e2,List.length_append,hm],?_⟩ ((Below.refl base w).grown hg hbase fun k hk => ?_)
 ·rw[List.length_append,hm,byteCells_append]
  exact h2
 ·injection ev with e1 _ _
  injection e1 with e1
  injection e1 with e1
  rw[ownBlock_is hk]
  omega
end
end
section
def dgI (a c:Int):Int :=
 if a=0∨a=1 then (if c=48 then 2 else 3) else if a=3 then 3 else if a=4∨a=5 then 5 else if a=6∨a=7∨a=8 then 8 else 0
def sgI (a c:Int):Int:=if a=6 then 7 else if a=0∧c=45 then 1 else 0
def nxI (a c:Int):Int :=
 if c=43∨c=45 then sgI a c else if c=46∧(a=2∨a=3) then 4 else
 if (c=101∨c=69)∧(a=2∨a=3∨a=5) then 6 else if isDigitI c then dgI a c else 0
def whI (a:Int):Bool:=decide (a=2∨a=3∨a=5∨a=8)
def stickI (c:Int):Bool:=isDigitI c||isAlphaI c||decide (c=46)||decide (c=43)||decide (c=45)
def anI (a c:Int):Int:=if nxI a c≠0 then 0 else if whI a && !stickI c then 1 else 2
def StA (a:Int):Prop:=0≤a∧a≤8
theorem stA_cases {a:Int}(h:StA a):a=0∨a=1∨a=2∨a=3∨a=4∨a=5∨a=6∨a=7∨a=8:=by unfold StA at h;omega
theorem stA_next (a c:Int):StA (nxI a c):=by
 unfold nxI sgI dgI StA
 (repeat' split)<;>omega
def acc (a:Int):List UInt8→Bool
 | []=>whI a
 | c :: t=>if nxI a c.toNat=0 then false else acc (nxI a c.toNat) t
def digL:List UInt8→Nat
 | []=>0
 | c :: t=>if isDigitI c.toNat then digL t+1 else 0
def hdIs (l:List UInt8)(c:Int):Bool:=match l with | []=>false|x :: _=>decide ((x.toNat:Int)=c)
def expR (l:List UInt8):Bool:=decide (0<l.length∧digL l=l.length)
def signR (l:List UInt8):Bool:=if hdIs l 43||hdIs l 45 then expR (l.drop 1) else expR l
def tailR (l:List UInt8):Bool:=if l.length=0 then true else if hdIs l 101||hdIs l 69 then signR (l.drop 1) else false
def fracR (l:List UInt8):Bool:=if digL l=0 then false else tailR (l.drop (digL l))
def pointR (l:List UInt8):Bool:=if hdIs l 46 then fracR (l.drop 1) else tailR l
def intR (l:List UInt8):Bool:=if digL l=0∨1<digL l∧hdIs l 48=true then false else pointR (l.drop (digL l))
def isR (l:List UInt8):Bool:=if hdIs l 45 then intR (l.drop 1) else intR l
theorem acc_cons (a:Int)(c:UInt8)(t:List UInt8):acc a (c :: t)=if nxI a c.toNat=0 then false else acc (nxI a c.toNat) t:=rfl
theorem digL_cons (c:UInt8)(t:List UInt8):digL (c :: t)=if isDigitI c.toNat then digL t+1 else 0:=rfl
theorem digL_le (l:List UInt8):digL l≤l.length:=by
 induction l with
 | nil=>exact Nat.le_refl _
 | cons c t ih=>rw[digL_cons];split<;>simp<;>omega
theorem hd_cons (x:UInt8)(t:List UInt8)(c:Int):hdIs (x :: t) c=decide ((x.toNat:Int)=c):=rfl
theorem dig_iff (c:Int):isDigitI c=true↔48≤c∧c≤57:=by simp[isDigitI]
theorem nx_dig {a c:Int} (h:isDigitI c=true):nxI a c=dgI a c:=by
 rw[dig_iff] at h
 unfold nxI
 rw[if_neg (by omega),if_neg (by omega),if_neg (by omega),if_pos ((dig_iff c).2 h)]
theorem acc8 (l:List UInt8):acc 8 l=decide (digL l=l.length):=by
 induction l with
 | nil=>rfl
 | cons c t ih =>
   rw[acc_cons,digL_cons]
   by_cases hd:isDigitI c.toNat=true
   ·rw[nx_dig hd,show dgI 8 c.toNat=8 from rfl,if_neg (by decide),ih,if_pos hd]
    simp
   ·rw[if_neg hd,show nxI 8 c.toNat=0 by unfold nxI sgI;simp only [hd];(repeat' split)<;>simp_all,if_pos rfl]
    simp
theorem acc7 (l:List UInt8):acc 7 l=expR l:=by
 cases l with
 | nil=>rfl
 | cons c t =>
   unfold expR
   rw[acc_cons,digL_cons]
   by_cases hd:isDigitI c.toNat=true
   ·rw[nx_dig hd,show dgI 7 c.toNat=8 from rfl,if_neg (by decide),acc8,if_pos hd]
    simp
   ·rw[if_neg hd,show nxI 7 c.toNat=0 by unfold nxI sgI;simp only [hd];(repeat' split)<;>simp_all,if_pos rfl]
    simp
theorem acc6 (l:List UInt8):acc 6 l=signR l:=by
 unfold signR
 cases l with
 | nil=>rfl
 | cons c t =>
   rw[acc_cons,hd_cons,hd_cons]
   by_cases hs:(c.toNat:Int)=43∨(c.toNat:Int)=45
   ·rw[show nxI 6 c.toNat=7 by unfold nxI;rw[if_pos hs];rfl,if_neg (by decide),acc7,if_pos (by simpa using hs)]
    rfl
   ·have hr:¬ (decide ((c.toNat:Int)=43)||decide ((c.toNat:Int)=45))=true:=by simpa using hs
    by_cases hd:isDigitI c.toNat=true
    ·rw[if_neg hr,nx_dig hd,show dgI 6 c.toNat=8 from rfl,if_neg (by decide),acc8]
     unfold expR
     rw[digL_cons,if_pos hd]
     simp
    ·rw[if_neg hr,show nxI 6 c.toNat=0 by unfold nxI;simp only [hd,hs];simp,if_pos rfl]
     unfold expR
     rw[digL_cons,if_neg hd]
     simp
theorem drop_dig (c:UInt8) (t:List UInt8) (h:isDigitI c.toNat=true):(c :: t).drop (digL (c :: t))=t.drop (digL t):=by
 rw[digL_cons,if_pos h];rfl
theorem drop_nodig (c:UInt8) (t:List UInt8) (h:¬ isDigitI c.toNat=true):(c :: t).drop (digL (c :: t))=c :: t:=by
 rw[digL_cons,if_neg h];rfl
theorem acc_e (a:Int) (ha:a=2∨a=3∨a=5) (c:UInt8) (t:List UInt8) (h:¬ isDigitI c.toNat=true) (hp:(c.toNat:Int)=46→a=5):acc a (c :: t)=tailR (c :: t):=by
 unfold tailR
 rw[acc_cons,hd_cons,hd_cons,if_neg (show ¬ (c :: t).length=0 by simp)]
 by_cases he:(c.toNat:Int)=101∨(c.toNat:Int)=69
 ·rw[show nxI a c.toNat=6 by unfold nxI;rw[if_neg (by omega),if_neg (by omega),if_pos (by omega)],if_neg (by decide),acc6,if_pos (by simpa using he)]
  rfl
 ·rw[show nxI a c.toNat=0 by unfold nxI sgI;(repeat' split)<;>first|omega|simp_all,if_pos rfl,if_neg (by simpa using he)]
theorem acc5 (l:List UInt8):acc 5 l=tailR (l.drop (digL l)):=by
 induction l with
 | nil=>rfl
 | cons c t ih =>
   by_cases hd:isDigitI c.toNat=true
   ·rw[acc_cons,nx_dig hd,show dgI 5 c.toNat=5 from rfl,if_neg (by decide),ih,drop_dig c t hd]
   ·rw[drop_nodig c t hd,acc_e 5 (by omega) c t hd (fun _=>rfl)]
theorem acc4 (l:List UInt8):acc 4 l=fracR l:=by
 unfold fracR
 cases l with
 | nil=>rfl
 | cons c t =>
   by_cases hd:isDigitI c.toNat=true
   ·rw[acc_cons,nx_dig hd,show dgI 4 c.toNat=5 from rfl,if_neg (by decide),acc5,drop_dig c t hd,if_neg (by rw[digL_cons,if_pos hd];omega)]
   ·rw[if_pos (by rw[digL_cons,if_neg hd]),acc_cons,show nxI 4 c.toNat=0 by unfold nxI sgI;simp only [hd];(repeat' split)<;>simp_all,if_pos rfl]
theorem acc_p (a:Int) (ha:a=2∨a=3) (c:UInt8) (t:List UInt8) (h:¬ isDigitI c.toNat=true):acc a (c :: t)=pointR (c :: t):=by
 unfold pointR
 rw[hd_cons]
 by_cases hp:(c.toNat:Int)=46
 ·rw[acc_cons,show nxI a c.toNat=4 by unfold nxI;rw[if_neg (by omega),if_pos ⟨hp,ha⟩],if_neg (by decide),acc4,if_pos (by simpa using hp)]
  rfl
 ·rw[if_neg (by simpa using hp)]
  exact acc_e a (by omega) c t h (fun e=>absurd e hp)
theorem acc3 (l:List UInt8):acc 3 l=pointR (l.drop (digL l)):=by
 induction l with
 | nil=>rfl
 | cons c t ih =>
   by_cases hd:isDigitI c.toNat=true
   ·rw[acc_cons,nx_dig hd,show dgI 3 c.toNat=3 from rfl,if_neg (by decide),ih,drop_dig c t hd]
   ·rw[drop_nodig c t hd,acc_p 3 (by omega) c t hd]
theorem acc2 (l:List UInt8):acc 2 l=if digL l=0 then pointR l else false:=by
 cases l with
 | nil=>rfl
 | cons c t =>
   by_cases hd:isDigitI c.toNat=true
   ·rw[acc_cons,nx_dig hd,show dgI 2 c.toNat=0 from rfl,if_pos rfl,if_neg (by rw[digL_cons,if_pos hd];omega)]
   ·rw[if_pos (by rw[digL_cons,if_neg hd]),acc_p 2 (by omega) c t hd]
theorem acc01 (a:Int) (ha:a=0∨a=1) (l:List UInt8) (hm:a=0→hdIs l 45=false):acc a l=intR l:=by
 unfold intR
 cases l with
 | nil=>rcases ha with rfl|rfl<;>rfl
 | cons c t =>
   rw[acc_cons,hd_cons]
   by_cases hd:isDigitI c.toNat=true
   ·have hdd:dgI a c.toNat=if (c.toNat:Int)=48 then 2 else 3:=by unfold dgI;rw[if_pos ha]
    rw[nx_dig hd,hdd,drop_dig c t hd,digL_cons,if_pos hd]
    by_cases h0:(c.toNat:Int)=48
    ·rw [if_pos h0,if_neg (by decide),acc2]
     by_cases hz:digL t=0
     ·rw[if_pos hz,if_neg (by rw[hz];simp),hz]
      rfl
     ·rw[if_neg hz,if_pos (by simp[h0];omega)]
    ·rw[if_neg h0,if_neg (by decide),acc3,if_neg (by simp[h0])]
   ·rw [digL_cons,if_neg hd,if_pos (Or.inl rfl),show nxI a c.toNat=0 by
      unfold nxI sgI
      have hm':a=0→¬ (c.toNat:Int)=45:=fun e=>by have:=hm e;rw[hd_cons] at this;simpa using this
      (repeat' split)<;>first|omega|simp_all,if_pos rfl]
theorem acc0 (l:List UInt8):acc 0 l=isR l:=by
 unfold isR
 by_cases hm:hdIs l 45=true
 ·cases l with
  | nil=>cases hm
  | cons c t =>
    rw[if_pos hm]
    rw[hd_cons] at hm
    have hc:(c.toNat:Int)=45:=of_decide_eq_true hm
    rw[acc_cons,hc,show nxI 0 45=1 from rfl,if_neg (by decide),acc01 1 (Or.inr rfl) t (fun e=>by omega)]
    rfl
 ·rw[if_neg hm,acc01 0 (Or.inl rfl) l (fun _=>by simpa using hm)]
def At (a:Int)(l:List UInt8):Prop:=StA a ∧ ∀ r,acc 0 (l++r)=acc a r
theorem at_nil:At 0 []:=⟨by unfold StA;omega,fun r=>rfl⟩
theorem at_step {a:Int} {l:List UInt8} (h:At a l) (c:UInt8) (hc:nxI a c.toNat≠0):At (nxI a c.toNat) (l++[c]) :=
 ⟨stA_next _ _,fun r=>by rw[List.append_assoc,h.2];show acc a (c :: r)=_;rw[acc_cons,if_neg hc]⟩
theorem at_is {a:Int} {l:List UInt8} (h:At a l):isR l=whI a:=by
 have:=h.2 []
 rw[List.append_nil] at this
 rw[← acc0,this];rfl
theorem at_dead {a:Int} {l:List UInt8} (h:At a l) (c:UInt8) (hc:nxI a c.toNat=0) (r:List UInt8):isR (l++c :: r)=false:=by
 rw[← acc0,h.2,acc_cons,if_pos hc]
theorem wh_one (a:Int) (h:StA a):(whI a||acc a [49])=true:=by
 rcases stA_cases h with rfl|rfl|rfl|rfl|rfl|rfl|rfl|rfl|rfl<;>decide +kernel
theorem at_goes {a:Int} {l:List UInt8} (h:At a l) (c:UInt8):(isR (l++[c])||isR (l++[c]++[49]))=decide (nxI a c.toNat≠0):=by
 by_cases hc:nxI a c.toNat=0
 ·rw[at_dead h c hc [],show l++[c]++[49]=l++c :: [49] by simp,at_dead h c hc [49]]
  simp[hc]
 ·have h':=at_step h c hc
  rw[at_is h',← acc0,h'.2,wh_one _ h'.1]
  simp[hc]
end
section
open Go.RowKit
theorem whole_in (a:Int) (ha:StA a) (w:World) :
   Calls Tryz.prog 64 #[.int .i64 a] w fun e w'=>e=.returned (.bool (whI a))∧w=w':=by
 rcases stA_cases ha with rfl|rfl|rfl|rfl|rfl|rfl|rfl|rfl|rfl
 all_goals
   go_enter Tryz.func64,Tryz.ntmps64
   go_wp2
   go_ret
   exact ⟨rfl,rfl⟩
theorem bdigit_in (a c:Int) (ha:StA a) (w:World) :
   Calls Tryz.prog 135 #[.int .i64 a,.int .u8 c] w fun e w'=>e=.returned (.int .i64 (dgI a c))∧w=w':=by
 rcases stA_cases ha with rfl|rfl|rfl|rfl|rfl|rfl|rfl|rfl|rfl
 all_goals
   by_cases h0:c=48
   ·subst h0
    go_enter Tryz.func135,Tryz.ntmps135
    go_wp2
    go_ret
    exact ⟨rfl,rfl⟩
   ·have h0':(c==48)=false:=beq_eq_false_iff_ne.2 h0
    go_enter Tryz.func135,Tryz.ntmps135
    go_wp2
    go_ret
    exact ⟨ret_i (by simp[dgI,h0]),rfl⟩
theorem bsign_in (a c:Int) (ha:StA a) (hc:c=43∨c=45) (w:World) :
   Calls Tryz.prog 134 #[.int .i64 a,.int .u8 c] w fun e w'=>e=.returned (.int .i64 (sgI a c))∧w=w':=by
 rcases stA_cases ha with rfl|rfl|rfl|rfl|rfl|rfl|rfl|rfl|rfl<;>rcases hc with rfl|rfl
 all_goals
   go_enter Tryz.func134,Tryz.ntmps134
   go_wp2
   go_ret
   exact ⟨rfl,rfl⟩
theorem behind_in (a c:Int) (ha:StA a) (w:World) :
   Calls Tryz.prog 113 #[.int .i64 a,.int .u8 c] w fun e w'=>e=.returned (.int .i64 (nxI a c))∧w=w':=by
 have HD:=hid (bdigit_in a c ha)
 have HW:=hid (whole_in a ha)
 by_cases h43:c=43
 ·subst h43
  have HS:=hid (bsign_in a 43 ha (Or.inl rfl))
  go_enter Tryz.func113,Tryz.ntmps113
  go_wp2_with (go_at_call 134;refine (HS.out _).mono ?_;rintro e w' ⟨rfl,rfl⟩)
  go_ret
  exact ⟨rfl,rfl⟩
 by_cases h45:c=45
 ·subst h45
  have HS:=hid (bsign_in a 45 ha (Or.inr rfl))
  go_enter Tryz.func113,Tryz.ntmps113
  go_wp2_with (go_at_call 134;refine (HS.out _).mono ?_;rintro e w' ⟨rfl,rfl⟩)
  go_ret
  exact ⟨rfl,rfl⟩
 have g1:(c==43)=false:=beq_eq_false_iff_ne.2 h43
 have g2:(c==45)=false:=beq_eq_false_iff_ne.2 h45
 have hn:¬ (c=43∨c=45):=by omega
 by_cases h46:c=46
 ·subst h46
  rcases stA_cases ha with rfl|rfl|rfl|rfl|rfl|rfl|rfl|rfl|rfl
  all_goals
    go_enter Tryz.func113,Tryz.ntmps113
    go_wp2_with (first
      | (go_at_call 116;refine (digit_any _ _).mono ?_;rintro e w' ⟨rfl,rfl⟩))
    go_ret
    exact ⟨rfl,rfl⟩
 have g3:(c==46)=false:=beq_eq_false_iff_ne.2 h46
 by_cases h101:c=101
 ·subst h101
  rcases stA_cases ha with rfl|rfl|rfl|rfl|rfl|rfl|rfl|rfl|rfl
  all_goals
    go_enter Tryz.func113,Tryz.ntmps113
    go_wp2_with (first
      | (go_at_call 64;refine (HW.out _).mono ?_;rintro e w' ⟨rfl,rfl⟩)
      | (go_at_call 116;refine (digit_any _ _).mono ?_;rintro e w' ⟨rfl,rfl⟩))
    go_ret
    exact ⟨rfl,rfl⟩
 have g4:(c==101)=false:=beq_eq_false_iff_ne.2 h101
 by_cases h69:c=69
 ·subst h69
  rcases stA_cases ha with rfl|rfl|rfl|rfl|rfl|rfl|rfl|rfl|rfl
  all_goals
    go_enter Tryz.func113,Tryz.ntmps113
    go_wp2_with (first
      | (go_at_call 64;refine (HW.out _).mono ?_;rintro e w' ⟨rfl,rfl⟩)
      | (go_at_call 116;refine (digit_any _ _).mono ?_;rintro e w' ⟨rfl,rfl⟩))
    go_ret
    exact ⟨rfl,rfl⟩
 have g5:(c==69)=false:=beq_eq_false_iff_ne.2 h69
 have HA:=hid (show nxI a c=if isDigitI c=true then dgI a c else 0 by unfold nxI;rw[if_neg (by omega),if_neg (by omega),if_neg (by omega)])
 have HG:=hid (digit_any c)
 clear h43 h45 h46 h101 h69 hn
 generalize isDigitI c=d at *
 cases d
 all_goals
   go_enter Tryz.func113,Tryz.ntmps113
   go_wp2_with (first
     | (go_at_call 116;refine (HG.out _).mono ?_;rintro e w' ⟨rfl,rfl⟩)
     | (go_at_call 135;refine (HD.out _).mono ?_;rintro e w' ⟨rfl,rfl⟩))
   go_ret
   exact ⟨ret_i (by rw[HA.out];rfl),rfl⟩
theorem sticks_any (c:Int) (w:World) :
   Calls Tryz.prog 114 #[.int .u8 c] w fun e w'=>e=.returned (.bool (stickI c))∧w=w':=by
 have HG:=hid (digit_any c)
 have HL:=hid (alpha_any c)
 have HV:=hid (show stickI c=(isDigitI c||isAlphaI c||decide (c=46)||decide (c=43)||decide (c=45)) from rfl)
 generalize isDigitI c=d at *
 generalize isAlphaI c=b at *
 by_cases h1:c=46
 ·subst h1
  cases d<;>cases b
  all_goals
    go_enter Tryz.func114,Tryz.ntmps114
    go_wp2_with (first
      | (go_at_call 116;refine (HG.out _).mono ?_;rintro e w' ⟨rfl,rfl⟩)
      | (go_at_call 136;refine (HL.out _).mono ?_;rintro e w' ⟨rfl,rfl⟩))
    go_ret
    exact ⟨ret_b (by rw[HV.out];rfl),rfl⟩
 have g1:(c==46)=false:=beq_eq_false_iff_ne.2 h1
 by_cases h2:c=43
 ·subst h2
  cases d<;>cases b
  all_goals
    go_enter Tryz.func114,Tryz.ntmps114
    go_wp2_with (first
      | (go_at_call 116;refine (HG.out _).mono ?_;rintro e w' ⟨rfl,rfl⟩)
      | (go_at_call 136;refine (HL.out _).mono ?_;rintro e w' ⟨rfl,rfl⟩))
    go_ret
    exact ⟨ret_b (by rw[HV.out];rfl),rfl⟩
 have g2:(c==43)=false:=beq_eq_false_iff_ne.2 h2
 have g3:(c==45)=decide (c=45):=by by_cases h:c=45<;>simp[h]
 cases d<;>cases b
 all_goals
   go_enter Tryz.func114,Tryz.ntmps114
   go_wp2_with (first
     | (go_at_call 116;refine (HG.out _).mono ?_;rintro e w' ⟨rfl,rfl⟩)
     | (go_at_call 136;refine (HL.out _).mono ?_;rintro e w' ⟨rfl,rfl⟩))
   go_ret
   exact ⟨ret_b (by rw[HV.out];simp[h1,h2]),rfl⟩
end
section
open Go.RowKit
theorem stA_zero:StA 0:=by unfold StA;omega
end
section
open Go.RowKit
def sgnGo:Int→Int→List UInt8→Nat→Nat
 | _,_,[],_=>0
 | sg,lf,c :: t,k=>if okU sg lf c.toNat then (if lfU lf c.toNat=0 then k+1 else sgnGo (sgU sg lf c.toNat) (lfU lf c.toNat) t (k+1)) else 0
def sgnL (l:List UInt8):Nat:=sgnGo 0 0 l 0
def escB (c:UInt8):UInt8:=if c=34 then 34 else if c=92 then 92 else if c=8 then 98 else if c=12 then 102 else if c=10 then 110 else if c=13 then 114 else if c=9 then 116 else 0
def lowB (n:Nat):UInt8:=if n<10 then UInt8.ofNat (48+n) else if n<16 then UInt8.ofNat (87+n) else 48
def stranger:List UInt8:=[239,191,189]
def pieceP (l:List UInt8) (n:Nat):List UInt8:=match l with
 | []=>[]
 | c :: t=>if n=0 then stranger else if escB c≠0 then [92,escB c] else if c.toNat<32 then [92,117,48,48,lowB (c.toNat/16),lowB (c.toNat%16)] else (c :: t).take n
def pieceN (l:List UInt8)(n:Nat):List UInt8:=if n=0 then stranger else l.take n
def goOn (n:Nat):Nat:=if n=0 then 1 else n
def putGo:Nat→List UInt8→List UInt8
 | 0,_=>[]
 | f+1,l=>if l=[] then [] else pieceP l (sgnL l)++putGo f (l.drop (goOn (sgnL l)))
def normGo:Nat→List UInt8→List UInt8
 | 0,_=>[]
 | f+1,l=>if l=[] then [] else pieceN l (sgnL l)++normGo f (l.drop (goOn (sgnL l)))
def putL (l:List UInt8):List UInt8:=putGo l.length l
def normL (l:List UInt8):List UInt8:=normGo l.length l
inductive QSt where
 | plain
 | sign (sg lf:Int) (p:List UInt8)
 | esc
 | hex (k:Nat) (v:Int)
 | half (h:Int)
 | hesc (h:Int)
 | hhex (h:Int) (k:Nat) (v:Int)
 | done
def hexB (c:UInt8):Option Int :=
 if 48≤c.toNat∧c.toNat≤57 then some (c.toNat-48) else if 97≤c.toNat∧c.toNat≤102 then some (c.toNat-87) else if 65≤c.toNat∧c.toNat≤70 then some (c.toNat-55) else none
def letB (c:UInt8):UInt8:=if c=34 then 34 else if c=92 then 92 else if c=47 then 47 else if c=98 then 8 else if c=102 then 12 else if c=110 then 10 else if c=114 then 13 else if c=116 then 9 else 0
def ofB (v:Int):List UInt8:=(ofI v).map fun x=>UInt8.ofNat x.toNat
def stepQ:QSt→UInt8→Option (QSt×List UInt8)
 | .plain,c=>if c=34 then some (.done,[]) else if c=92 then some (.esc,[]) else if c.toNat<32 then none else
     if okU 0 0 c.toNat then (if lfU 0 c.toNat=0 then some (.plain,[c]) else some (.sign (sgU 0 0 c.toNat) (lfU 0 c.toNat) [c],[])) else none
 | .sign sg lf p,c=>if okU sg lf c.toNat then (if lfU lf c.toNat=0 then some (.plain,p++[c]) else some (.sign (sgU sg lf c.toNat) (lfU lf c.toNat) (p++[c]),[])) else none
 | .esc,c=>if c=117 then some (.hex 0 0,[]) else if letB c=0 then none else some (.plain,[letB c])
 | .hex k v,c=>match hexB c with
   | none=>none
   | some d=>if k=1∧220≤v*16+d∧v*16+d≤223 then none else
       if k=3 then (if 55296≤v*16+d∧v*16+d≤56319 then some (.half (v*16+d),[]) else some (.plain,ofB (v*16+d))) else some (.hex (k+1) (v*16+d),[])
 | .half h,c=>if c=92 then some (.hesc h,[]) else none
 | .hesc h,c=>if c=117 then some (.hhex h 0 0,[]) else none
 | .hhex h k v,c=>match hexB c with
   | none=>none
   | some d=>if k=0∧d≠13 then none else if k=1∧(v*16+d<220∨223<v*16+d) then none else
       if k=3 then some (.plain,ofB (65536+(h-55296)*1024+(v*16+d-56320))) else some (.hhex h (k+1) (v*16+d),[])
 | .done,_=>none
def readQ:QSt→List UInt8→List UInt8→Nat→Option (List UInt8×Nat)
 | _,[],_,_=>none
 | st,c :: t,acc,n=>match stepQ st c with
   | none=>none
   | some (.done,e)=>some (acc++e,n+1)
   | some (st',e)=>readQ st' t (acc++e) (n+1)
theorem readQ_on {st st':QSt} {c:UInt8} {e:List UInt8} (h:stepQ st c=some (st',e)) (hd:st'≠.done) (t acc:List UInt8) (n:Nat):readQ st (c :: t) acc n=readQ st' t (acc++e) (n+1):=by
 conv=>lhs;unfold readQ
 rw[h]
 cases st'
 case done=>exact absurd rfl hd
 all_goals rfl
theorem step_sign (sg lf:Int)(p:List UInt8)(c:UInt8):stepQ (.sign sg lf p) c=if okU sg lf c.toNat then (if lfU lf c.toNat=0 then some (.plain,p++[c]) else some (.sign (sgU sg lf c.toNat) (lfU lf c.toNat) (p++[c]),[])) else none:=rfl
theorem step_plain (c:UInt8):stepQ .plain c=if c=34 then some (.done,[]) else if c=92 then some (.esc,[]) else if c.toNat<32 then none else
     if okU 0 0 c.toNat then (if lfU 0 c.toNat=0 then some (.plain,[c]) else some (.sign (sgU 0 0 c.toNat) (lfU 0 c.toNat) [c],[])) else none:=rfl
def Reach (p:List UInt8)(sg lf:Int):Prop:=StU sg lf ∧ ∀ rest,runU 0 0 (p++rest) 0=runU sg lf rest p.length
theorem reach_nil:Reach [] 0 0:=⟨stU_zero,fun _=>rfl⟩
theorem reach_step {p:List UInt8} {sg lf:Int} (h:Reach p sg lf) {c:UInt8} (hk:okU sg lf c.toNat=true):Reach (p++[c]) (sgU sg lf c.toNat) (lfU lf c.toNat) :=
 ⟨stU_step h.1 (Int.natCast_nonneg _) hk,fun rest=>by
   rw[List.append_assoc,h.2]
   show (if okU sg lf c.toNat then runU _ _ rest (p.length+1) else _)=_
   rw[if_pos hk]
   simp⟩
theorem reach_whole {p:List UInt8} {sg:Int} (h:Reach p sg 0):badU p = -1:=by
 have:=h.2 []
 rw[List.append_nil] at this
 exact this
theorem bad_cat {l m:List UInt8} (hl:badU l = -1) (hm:badU m = -1):badU (l++m) = -1:=by
 rw[(badU_append l m).1 hl,if_pos hm]
theorem bad_ofB (v:Int) (h0:0≤v) (h9:v≤1114111) (hs:v<55296∨57343<v):badU (ofB v) = -1:=by
 have:=badU_of v h0 h9 hs
 rw[strOfNums_data] at this
 exact this
theorem sgn_split (l:List UInt8):∀ (sg lf:Int) (k j:Nat),sgnGo sg lf l k=j→j≠0→k<j∧j≤k+l.length:=by
 induction l with
 | nil=>intro sg lf k j h hj;exact absurd h.symm hj
 | cons c t ih =>
   intro sg lf k j h hj
   unfold sgnGo at h
   split at h
   ·split at h
    ·simp;omega
    ·have:=ih _ _ _ _ h hj
     simp
     omega
   ·exact absurd h.symm hj
theorem read_sign (l:List UInt8):∀ (sg lf:Int) (p:List UInt8) (k j:Nat),sgnGo sg lf l k=j→j≠0 → ∀ rest acc n,
   readQ (.sign sg lf p) (l.take (j-k)++rest) acc n=readQ .plain rest (acc++p++l.take (j-k)) (n+(j-k)):=by
 induction l with
 | nil=>intro sg lf p k j h hj;exact absurd h.symm hj
 | cons c t ih =>
   intro sg lf p k j h hj rest acc n
   have hs:=sgn_split _ _ _ _ _ h hj
   have e:j-k=(j-(k+1))+1:=by omega
   rw[e,List.take_succ_cons,List.cons_append]
   unfold sgnGo at h
   split at h
   ·rename_i hok
    split at h
    ·rename_i hz
     subst h
     rw[show k+1-(k+1)=0 by omega,List.take_zero,List.nil_append]
     rw[readQ_on (st':=.plain) (e:=p++[c]) (by rw[step_sign,if_pos hok,if_pos hz]) (by intro e;cases e)]
     simp
    ·rename_i hz
     have:=ih _ _ (p++[c]) _ _ h hj rest (acc++[]) (n+1)
     rw[readQ_on (st':=.sign (sgU sg lf c.toNat) (lfU lf c.toNat) (p++[c])) (e:=[]) (by rw[step_sign,if_pos hok,if_neg hz]) (by intro e;cases e),this]
     simp
     congr 1
     omega
   ·exact absurd h.symm hj
theorem sgn_cons (c:UInt8)(t:List UInt8):sgnL (c :: t)=if okU 0 0 c.toNat then (if lfU 0 c.toNat=0 then 1 else sgnGo (sgU 0 0 c.toNat) (lfU 0 c.toNat) t 1) else 0:=rfl
theorem sgn_small (c:UInt8) (t:List UInt8) (h:c.toNat<128):sgnL (c :: t)=1:=by
 rw[sgn_cons,if_pos (okU_0 _ (by omega) 0),if_pos (by unfold lfU;(repeat' split)<;>omega)]
theorem esc_cases {c:UInt8} (h:escB c≠0):c=34∨c=92∨c=8∨c=12∨c=10∨c=13∨c=9:=by
 unfold escB at h
 (repeat' split at h)<;>first|(exfalso;exact h rfl)|simp_all
theorem hex_low (d:Nat) (h:d<16):hexB (lowB d)=some (d:Int):=by
 have:d=0∨d=1∨d=2∨d=3∨d=4∨d=5∨d=6∨d=7∨d=8∨d=9∨d=10∨d=11∨d=12∨d=13∨d=14∨d=15:=by omega
 rcases this with rfl|rfl|rfl|rfl|rfl|rfl|rfl|rfl|rfl|rfl|rfl|rfl|rfl|rfl|rfl|rfl<;>rfl
theorem step_hex (k:Nat) (v d:Int) (c:UInt8) (h:hexB c=some d):stepQ (.hex k v) c=if k=1∧220≤v*16+d∧v*16+d≤223 then none else
       if k=3 then (if 55296≤v*16+d∧v*16+d≤56319 then some (QSt.half (v*16+d),[]) else some (QSt.plain,ofB (v*16+d))) else some (QSt.hex (k+1) (v*16+d),[]):=by
 show (match hexB c with
   | none=>none
   | some d=>if k=1∧220≤v*16+d∧v*16+d≤223 then none else
       if k=3 then (if 55296≤v*16+d∧v*16+d≤56319 then some (QSt.half (v*16+d),[]) else some (QSt.plain,ofB (v*16+d))) else some (QSt.hex (k+1) (v*16+d),[]))=_
 rw[h]
theorem step_hex_none (k:Nat)(v:Int)(c:UInt8)(h:hexB c=none):stepQ (.hex k v) c=none:=by simp only [stepQ,h]
theorem step_hhex (g:Int) (k:Nat) (v d:Int) (c:UInt8) (h:hexB c=some d):stepQ (.hhex g k v) c=if k=0∧d≠13 then none else if k=1∧(v*16+d<220∨223<v*16+d) then none else
       if k=3 then some (QSt.plain,ofB (65536+(g-55296)*1024+(v*16+d-56320))) else some (QSt.hhex g (k+1) (v*16+d),[]):=by simp only [stepQ,h]
theorem step_hhex_none (g:Int)(k:Nat)(v:Int)(c:UInt8)(h:hexB c=none):stepQ (.hhex g k v) c=none:=by simp only [stepQ,h]
theorem ofB_small (c:UInt8) (h:c.toNat<128):ofB (c.toNat:Int)=[c]:=by
 unfold ofB ofI
 rw[if_pos (by omega)]
 simp
theorem read_piece (c:UInt8) (t rest acc:List UInt8) (m:Nat) :
   readQ .plain (pieceP (c :: t) (sgnL (c :: t))++rest) acc m=readQ .plain rest (acc++pieceN (c :: t) (sgnL (c :: t))) (m+(pieceP (c :: t) (sgnL (c :: t))).length):=by
 generalize hn:sgnL (c :: t)=n
 unfold pieceP pieceN
 by_cases h0:n=0
 ·simp only [h0,if_true]
  show readQ .plain (239 :: 191 :: 189 :: rest) acc m=_
  rw[readQ_on (st':=.sign 15 2 [239]) (e:=[]) rfl (by intro e;cases e),readQ_on (st':=.sign 1023 1 [239,191]) (e:=[]) rfl (by intro e;cases e),readQ_on (st':=.plain) (e:=[239,191,189]) rfl (by intro e;cases e)]
  simp[stranger]
 simp only [h0,if_false]
 by_cases h1:escB c≠0
 ·rw [if_pos h1]
  have hc:=esc_cases h1
  have hn1:n=1:=by
    rw[← hn]
    exact sgn_small c t (by rcases hc with rfl|rfl|rfl|rfl|rfl|rfl|rfl<;>decide)
  subst hn1
  show readQ .plain (92 :: escB c :: rest) acc m=_
  rw[readQ_on (st':=.esc) (e:=[]) rfl (by intro e;cases e),readQ_on (st':=.plain) (e:=[c]) (by rcases hc with rfl|rfl|rfl|rfl|rfl|rfl|rfl<;>rfl) (by intro e;cases e)]
  simp
 rw[if_neg h1]
 by_cases h2:c.toNat<32
 ·rw [if_pos h2]
  have hn1:n=1:=by rw[← hn];exact sgn_small c t (by omega)
  subst hn1
  show readQ .plain (92 :: 117 :: 48 :: 48 :: lowB (c.toNat/16) :: lowB (c.toNat%16) :: rest) acc m=_
  have e1:=hex_low (c.toNat/16) (by omega)
  have e2:=hex_low (c.toNat%16) (by omega)
  have ev:(((c.toNat/16:Nat):Int))*16+((c.toNat%16:Nat):Int)=c.toNat:=by omega
  rw [readQ_on (st':=.esc) (e:=[]) rfl (by intro e;cases e),readQ_on (st':=.hex 0 0) (e:=[]) rfl (by intro e;cases e),readQ_on (st':=.hex 1 0) (e:=[]) rfl (by intro e;cases e),readQ_on (st':=.hex 2 0) (e:=[]) rfl (by intro e;cases e),
    readQ_on (st':=.hex 3 ((c.toNat/16:Nat):Int)) (e:=[]) (by rw[step_hex _ _ _ _ e1,if_neg (by omega),if_neg (by omega)];simp) (by intro e;cases e),
    readQ_on (st':=.plain) (e:=[c]) (by rw[step_hex _ _ _ _ e2,ev,if_neg (by omega),if_pos rfl,if_neg (by omega),ofB_small c (by omega)]) (by intro e;cases e)]
  simp
 rw[if_neg h2]
 have hq:c≠34:=fun e=>by subst e;exact h1 (by decide)
 have hb:c≠92:=fun e=>by subst e;exact h1 (by decide)
 rw[sgn_cons] at hn
 split at hn
 ·rename_i hok
  split at hn
  ·rename_i hz
   subst hn
   show readQ .plain (c :: rest) acc m=_
   rw[readQ_on (st':=.plain) (e:=[c]) (by rw[step_plain,if_neg hq,if_neg hb,if_neg h2,if_pos hok,if_pos hz]) (by intro e;cases e)]
   simp
  ·rename_i hz
   have hs:=sgn_split _ _ _ _ _ hn h0
   have e:n=(n-1)+1:=by omega
   have hr:=read_sign t _ _ [c] _ _ hn h0 rest (acc++[]) (m+1)
   rw[e,List.take_succ_cons,List.cons_append,readQ_on (st':=.sign (sgU 0 0 c.toNat) (lfU 0 c.toNat) [c]) (e:=[]) (by rw[step_plain,if_neg hq,if_neg hb,if_neg h2,if_pos hok,if_neg hz]) (by intro e;cases e),hr]
   simp
   congr 1
   rw[Nat.min_eq_left (by omega)]
   omega
 ·exact absurd hn.symm h0
theorem read_put (f:Nat):∀ (l:List UInt8),l.length≤f → ∀ acc m,readQ .plain (putGo f l++[34]) acc m=some (acc++normGo f l,m+(putGo f l).length+1):=by
 induction f with
 | zero =>
   intro l hl acc m
   show readQ .plain [34] acc m=_
   simp[readQ,stepQ,normGo,putGo]
 | succ f ih =>
   intro l hl acc m
   unfold putGo normGo
   cases l with
   | nil=>simp[readQ,stepQ]
   | cons c t =>
     simp only [reduceCtorEq,if_false]
     have hd:1≤goOn (sgnL (c :: t)):=by unfold goOn;split<;>omega
     rw[List.append_assoc,read_piece,ih _ (by simp at hl ⊢;omega)]
     simp
     omega
theorem read_back (l:List UInt8):readQ .plain (putL l++[34]) [] 0=some (normL l,(putL l).length+1):=by
 have:=read_put l.length l (Nat.le_refl _) [] 0
 simpa [putL,normL] using this
end
section
open Go.RowKit
theorem sgn_good (l:List UInt8):∀ (sg lf:Int) (k:Nat),StU sg lf→runU sg lf l 0 = -1→(l≠[]∨lf≠0)→sgnGo sg lf l k≠0∧runU 0 0 (l.drop (sgnGo sg lf l k-k)) 0 = -1:=by
 induction l with
 | nil =>
   intro sg lf k hst h hn
   have h:(if 0<lf then 0 else -1:Int) = -1:=h
   exfalso
   unfold StU at hst
   rcases hn with hn|hn
   ·exact hn rfl
   ·rw[if_pos (by omega)] at h
    cases h
 | cons c t ih =>
   intro sg lf k hst h _
   have h:(if okU sg lf c.toNat then runU (sgU sg lf c.toNat) (lfU lf c.toNat) t (0+1) else 0) = -1:=h
   unfold sgnGo
   by_cases hok:okU sg lf c.toNat=true
   ·rw [if_pos hok] at h ⊢
    have hst':=stU_step hst (Int.natCast_nonneg _) hok
    have h':runU (sgU sg lf c.toNat) (lfU lf c.toNat) t 0 = -1:=by
      rw[runU_shift] at h
      split at h
      ·assumption
      ·have:=(runU_ge t (sgU sg lf c.toNat) (lfU lf c.toNat)).1
       omega
    by_cases hz:lfU lf c.toNat=0
    ·rw[if_pos hz,show k+1-k=1 by omega]
     rw[hz] at h'
     exact ⟨by omega,by rw[runU_zero _ 0 (sgU sg lf c.toNat)];exact h'⟩
    ·rw[if_neg hz]
     obtain ⟨i1,i2⟩:=ih _ _ (k+1) hst' h' (.inr hz)
     refine ⟨i1,?_⟩
     have hs:=sgn_split t _ _ (k+1) _ rfl i1
     rw[show sgnGo (sgU sg lf c.toNat) (lfU lf c.toNat) t (k+1)-k=(sgnGo (sgU sg lf c.toNat) (lfU lf c.toNat) t (k+1)-(k+1))+1 by omega,List.drop_succ_cons]
     exact i2
   ·rw[if_neg hok] at h
    cases h
theorem norm_id_go (f:Nat):∀ l,l.length≤f→badU l = -1→normGo f l=l:=by
 induction f with
 | zero =>
   intro l hl _
   obtain rfl:l=[]:=List.eq_nil_of_length_eq_zero (by omega)
   rfl
 | succ f ih =>
   intro l hl hb
   unfold normGo
   split
   ·rename_i h;rw[h]
   ·rename_i hne
    obtain ⟨h1,h2⟩:=sgn_good l 0 0 0 stU_zero hb (.inl hne)
    have hs:=sgn_split l 0 0 0 _ rfl h1
    have e1:goOn (sgnL l)=sgnL l:=if_neg h1
    have e2:pieceN l (sgnL l)=l.take (sgnL l):=if_neg h1
    rw[e1,e2,ih _ (by simp;have:0<sgnL l:=hs.1;omega) (by simpa [sgnL,badU] using h2),List.take_append_drop]
theorem norm_id {l:List UInt8}(h:badU l = -1):normL l=l:=norm_id_go _ l (Nat.le_refl _) h
theorem hexB_in {c:UInt8} {d:Int} (h:hexB c=some d):0≤d∧d≤15:=by
 unfold hexB at h
 split at h
 ·have:=Option.some.inj h;omega
 ·split at h
  ·have:=Option.some.inj h;omega
  ·split at h
   ·have:=Option.some.inj h;omega
   ·cases h
def WQ:QSt→Prop
 | .sign sg lf p=>Reach p sg lf
 | .hex k v=>(k=0∧v=0)∨(k=1∧0≤v∧v≤15)∨(k=2∧0≤v∧v≤255∧(v<220∨223<v))∨(k=3∧0≤v∧v≤4095∧(v<3520∨3583<v))
 | .half h=>55296≤h∧h≤56319
 | .hesc h=>55296≤h∧h≤56319
 | .hhex h k v=>55296≤h∧h≤56319∧((k=0∧v=0)∨(k=1∧v=13)∨(k=2∧220≤v∧v≤223)∨(k=3∧3520≤v∧v≤3583))
 | _=>True
theorem bad_one (c:UInt8) (h:c.toNat<128):badU [c] = -1:=by
 have:=reach_step reach_nil (c:=c) (okU_0 _ (by omega) 0)
 rw[show lfU 0 c.toNat=0 by unfold lfU;(repeat' split)<;>omega] at this
 exact reach_whole this
theorem letB_small (c:UInt8):(letB c).toNat<128:=by
 unfold letB
 (repeat' split)<;>decide
theorem stepQ_ok {st st':QSt} {c:UInt8} {e:List UInt8} (hw:WQ st) (h:stepQ st c=some (st',e)):WQ st'∧badU e = -1:=by
 cases st with
 | done=>cases h
 | plain =>
   rw[step_plain] at h
   split at h
   ·cases h;exact ⟨trivial,rfl⟩
   split at h
   ·cases h;exact ⟨trivial,rfl⟩
   split at h
   ·cases h
   split at h
   ·rename_i hok
    have hr:=reach_step reach_nil hok
    split at h
    ·rename_i hz
     cases h
     rw[hz] at hr
     exact ⟨trivial,reach_whole hr⟩
    ·cases h;exact ⟨hr,rfl⟩
   ·cases h
 | sign sg lf p =>
   rw[step_sign] at h
   split at h
   ·rename_i hok
    have hr:=reach_step hw hok
    split at h
    ·rename_i hz
     cases h
     rw[hz] at hr
     exact ⟨trivial,reach_whole hr⟩
    ·cases h;exact ⟨hr,rfl⟩
   ·cases h
 | esc =>
   have h:(if c=117 then some (QSt.hex 0 0,[]) else if letB c=0 then none else some (QSt.plain,[letB c]))=some (st',e):=h
   split at h
   ·cases h;exact ⟨.inl ⟨rfl,rfl⟩,rfl⟩
   split at h
   ·cases h
   ·cases h;exact ⟨trivial,bad_one _ (letB_small c)⟩
 | hex k v =>
   cases hd:hexB c with
   | none =>
     rw[step_hex_none _ _ _ hd] at h
     cases h
   | some d =>
     have hin:=hexB_in hd
     rw[step_hex _ _ _ _ hd] at h
     unfold WQ at hw
     split at h
     ·cases h
     split at h
     ·split at h
      ·cases h;exact ⟨by unfold WQ;omega,rfl⟩
      ·cases h;exact ⟨trivial,bad_ofB _ (by omega) (by omega) (by omega)⟩
     ·cases h;exact ⟨by unfold WQ;omega,rfl⟩
 | half g =>
   have h:(if c=92 then some (QSt.hesc g,[]) else none)=some (st',e):=h
   split at h
   ·cases h;exact ⟨hw,rfl⟩
   ·cases h
 | hesc g =>
   have h:(if c=117 then some (QSt.hhex g 0 0,[]) else none)=some (st',e):=h
   split at h
   ·cases h;exact ⟨⟨hw.1,hw.2,.inl ⟨rfl,rfl⟩⟩,rfl⟩
   ·cases h
 | hhex g k v =>
   cases hd:hexB c with
   | none =>
     rw[step_hhex_none _ _ _ _ hd] at h
     cases h
   | some d =>
     have hin:=hexB_in hd
     rw[step_hhex _ _ _ _ _ hd] at h
     obtain ⟨g1,g2,hw⟩:=hw
     split at h
     ·cases h
     split at h
     ·cases h
     split at h
     ·cases h;exact ⟨trivial,bad_ofB _ (by omega) (by omega) (by omega)⟩
     ·cases h;exact ⟨⟨g1,g2,by omega⟩,rfl⟩
end
section
open Go.RowKit
def faultQ:QSt→UInt8→Int
 | .plain,c=>if c.toNat<32 then 7 else 2
 | .sign _ _ _,_=>2
 | .esc,_=>3
 | .hex _ _,c=>if (hexB c).isSome then 4 else 3
 | .half _,_=>4
 | .hesc _,_=>4
 | .hhex _ k _,_=>if k≤1 then 4 else 3
 | .done,_=>14
theorem readQ_no {st:QSt} {c:UInt8} (h:stepQ st c=none) (t acc:List UInt8) (n:Nat):readQ st (c :: t) acc n=none:=by
 conv=>lhs;unfold readQ
 rw[h]
theorem readQ_done {st:QSt} {c:UInt8} {e:List UInt8} (h:stepQ st c=some (.done,e)) (t acc:List UInt8) (n:Nat):readQ st (c :: t) acc n=some (acc++e,n+1):=by
 conv=>lhs;unfold readQ
 rw[h]
theorem faultQ_ne (st:QSt) (c:UInt8):faultQ st c≠1∧faultQ st c≠0:=by
 unfold faultQ
 (repeat' split)<;>decide
def pendQ:QSt→Nat
 | .sign _ _ p=>p.length
 | _=>0
theorem ofB_len (v:Int):(ofB v).length≤4:=by
 unfold ofB ofI
 (repeat' split)<;>simp
theorem stepQ_len {st st':QSt} {c:UInt8} {e:List UInt8} (h:stepQ st c=some (st',e)):e.length+pendQ st'≤pendQ st+4:=by
 cases st with
 | done=>cases h
 | plain =>
   rw[step_plain] at h
   (repeat' split at h)<;>cases h<;>simp[pendQ]
 | sign sg lf p =>
   rw[step_sign] at h
   (repeat' split at h)<;>cases h<;>simp[pendQ]<;>omega
 | esc =>
   have h:(if c=117 then some (QSt.hex 0 0,[]) else if letB c=0 then none else some (QSt.plain,[letB c]))=some (st',e):=h
   (repeat' split at h)<;>cases h<;>simp[pendQ]
 | hex k v =>
   cases hd:hexB c with
   | none=>rw[step_hex_none _ _ _ hd] at h;cases h
   | some d =>
     rw[step_hex _ _ _ _ hd] at h
     have:=ofB_len (v*16+d)
     (repeat' split at h)<;>cases h<;>simp[pendQ]<;>omega
 | half g =>
   have h:(if c=92 then some (QSt.hesc g,[]) else none)=some (st',e):=h
   (repeat' split at h)<;>cases h<;>simp[pendQ]
 | hesc g =>
   have h:(if c=117 then some (QSt.hhex g 0 0,[]) else none)=some (st',e):=h
   (repeat' split at h)<;>cases h<;>simp[pendQ]
 | hhex g k v =>
   cases hd:hexB c with
   | none=>rw[step_hhex_none _ _ _ _ hd] at h;cases h
   | some d =>
     rw[step_hhex _ _ _ _ _ hd] at h
     have:=ofB_len (65536+(g-55296)*1024+(v*16+d-56320))
     (repeat' split at h)<;>cases h<;>simp[pendQ]<;>omega
theorem piece_len (c:UInt8) (t:List UInt8):(pieceP (c :: t) (sgnL (c :: t))).length≤6*goOn (sgnL (c :: t))∧goOn (sgnL (c :: t))≤(c :: t).length∧1≤goOn (sgnL (c :: t)):=by
 have hs:=sgn_split (c :: t) 0 0 0 _ rfl
 generalize hn:sgnL (c :: t)=n
 have hs:n≠0→0<n∧n≤0+(c :: t).length:=fun h=>by rw[← hn] at h ⊢;exact hs h
 unfold pieceP goOn
 by_cases h0:n=0
 ·subst h0
  simp[stranger]
 ·have:=hs h0
  simp only [if_neg h0]
  refine ⟨?_,by omega,by omega⟩
  (repeat' split)<;>simp<;>omega
theorem putGo_len (f:Nat):∀ l,(putGo f l).length≤6*l.length:=by
 induction f with
 | zero=>intro l;simp[putGo]
 | succ f ih =>
   intro l
   unfold putGo
   split
   ·simp
   ·cases l with
    | nil=>contradiction
    | cons c t =>
      obtain ⟨h1,h2,h3⟩:=piece_len c t
      have:=ih ((c :: t).drop (goOn (sgnL (c :: t))))
      rw[List.length_append]
      rw[List.length_drop] at this
      omega
theorem putL_len (l:List UInt8):(putL l).length≤6*l.length:=putGo_len _ l
end
end Go.Proofs.YtbpilcklglhloaaGreatDoor
