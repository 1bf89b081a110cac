/- Lemmas. -/
import Derived.Test.YtnokhgfifbkflaaGreatJ09
import Derived.Deep.CutBlock
import Derived.Lib.ConvBytes
set_option maxRecDepth 100000
set_option maxHeartbeats 8000000
set_option linter.unusedVariables false
set_option linter.unusedSimpArgs false
namespace Go.Proofs.YtnokhgfifbkflaaGreat
open Go.Lib (hid)
section
open Go.RowKit
theorem tail13 (s:ByteArray) (k:Nat) (hk:k≤s.size):(s.extract k s.size).data.toList=s.data.toList.drop k:=by
 rw[ByteArray.data_extract,Array.toList_extract,List.extract_eq_take_drop]
 refine List.take_of_length_le ?_
 rw[List.length_drop]
 exact Nat.le_refl _
end
section
open Go.RowKit
def stpK:RowK Pst where
 T:=86
 S:=47
 n:=3
 bytes:=32
 zero:=.agg #[.bool false,.string ⟨#[]⟩,.int .i64 0]
 enc:=fun s=>[.bool s.named,.string ⟨s.name.toArray⟩,.int .i64 s.index]
 pos:=by decide
 len:=fun _=>rfl
 one:=fun s u h=>by simp at h;rcases h with rfl|rfl|rfl<;>rfl
 under:=Tryz.underlying47
 info:=by kernel_rfl
 zlen:=rfl
 small:=by decide
def RdP (w:World) (A:Option Addr) (m:Nat) (l:List Pst):Prop :=
 l.length=m∧(0<m → ∃ a:Addr,A=some a∧a.block<w.heap.size ∧ ∀ i s,l[i]?=some s→w.cell? (a.add (i*3))=some (.bool s.named)∧w.cell? ⟨(a.add (i*3)).block,(a.add (i*3)).off+1,none⟩=some (.string ⟨s.name.toArray⟩)∧w.cell? ⟨(a.add (i*3)).block,(a.add (i*3)).off+2,none⟩=some (.int .i64 s.index))
theorem add_block13 (a:Addr)(j:Nat):(a.add j).block=a.block:=by unfold Addr.add;split<;>rfl
theorem RdP.stay {w w':World} {A:Option Addr} {m:Nat} {l:List Pst} (h:RdP w A m l) (hb:Below w.heap.size w w'):RdP w' A m l:=by
 refine ⟨h.1,fun hm => ?_⟩
 obtain ⟨a,e,ha,hc⟩:=h.2 hm
 refine ⟨a,e,Nat.lt_of_lt_of_le ha hb.size,fun i s hs => ?_⟩
 obtain ⟨h0,h1,h2⟩:=hc i s hs
 have ha':(a.add (i*3)).block<w.heap.size:=by rw[add_block13];exact ha
 exact ⟨(hb.cell ha').trans h0,(hb.cell (p:=⟨(a.add (i*3)).block,(a.add (i*3)).off+1,none⟩) ha').trans h1,(hb.cell (p:=⟨(a.add (i*3)).block,(a.add (i*3)).off+2,none⟩) ha').trans h2⟩
end
section
open Go.RowKit
structure Sel where
 kind:Int
 name:ByteArray
 index:Int
 start:Int
 en:Int
 hs:Bool
 he:Bool
 stride:Int
def blkB (c:UInt8):Bool:=decide (c.toNat=32∨c.toNat=9∨c.toNat=10∨c.toNat=13)
def runB:List UInt8→Nat
 | []=>0
 | c :: t=>if blkB c then runB t+1 else 0
def minB (l:List UInt8):Nat:=if l.head?=some 45 then 1 else 0
def intD (m:Nat) (d:List UInt8) (n:Nat):Option (Int×Nat) :=
 if n=0∨16<n then none else if 9007199254740991<valD (d.take n) 0 then none else some (if m=1 then -((valD (d.take n) 0:Nat):Int) else ((valD (d.take n) 0:Nat):Int),m+n)
def nrQ (l:List UInt8):Option (Int×Nat) :=
 if (l.drop (minB l)).head?=some 48 then (if minB l=1 then none else some (0,1)) else intD (minB l) (l.drop (minB l)) (runD (l.drop (minB l)))
def hexG4:Nat→List UInt8→Int→Option Int
 | 0,_,v=>some v
 | _+1,[],_=>none
 | k+1,c :: t,v=>match hexB c with
   | some d=>hexG4 k t (v*16+d)
   | none=>none
def hex4 (l:List UInt8):Option Int:=hexG4 4 l 0
def letE (c:UInt8):UInt8:=if c=92 then 92 else if c=47 then 47 else if c=98 then 8 else if c=102 then 12 else if c=110 then 10 else if c=114 then 13 else if c=116 then 9 else 0
def escP (v:Int) (l:List UInt8):Option (List UInt8×Nat) :=
 if l[5]?=some 92∧l[6]?=some 117 then (match hex4 (l.drop 7) with
   | none=>none
   | some w=>if w<56320∨57343<w then none else some (ofB (65536+(v-55296)*1024+w-56320),11)) else none
def escU (l t:List UInt8):Option (List UInt8×Nat):=match hex4 t with
 | none=>none
 | some v=>if 56320≤v∧v≤57343 then none else if v<55296∨57343<v then some (ofB v,5) else escP v l
def escQ (m:UInt8) (l:List UInt8):Option (List UInt8×Nat):=match l with
 | []=>none
 | c :: t=>if c=m then some ([m],1) else if letE c≠0 then some ([letE c],1) else if c≠117 then none else escU (c :: t) t
def quoGo (m:UInt8):Nat→List UInt8→List UInt8→Nat→Option (List UInt8×Nat)
 | 0,_,_,_=>none
 | _+1,[],_,_=>none
 | f+1,c :: t,acc,k=>if c=m then some (acc,k+1) else if c.toNat<32 then none else if c≠92 then quoGo m f t (acc++[c]) (k+1) else match escQ m t with
   | none=>none
   | some (b,n)=>quoGo m f (t.drop n) (acc++b) (k+1+n)
def quoQ (l:List UInt8):Option (List UInt8×Nat):=match l with
 | []=>none
 | m :: t=>quoGo m (t.length+1) t [] 1
def firstB (c:UInt8):Bool:=decide (97≤c.toNat∧c.toNat≤122)||decide (65≤c.toNat∧c.toNat≤90)||decide (c.toNat=95)||decide (128≤c.toNat)
def plnN:Bool→List UInt8→Nat
 | _,[]=>0
 | b,c :: t=>if firstB c||(b&&digB c) then plnN true t+1 else 0
def optI (l:List UInt8):Option (Option (Int×Nat)):=match nrQ l with
 | some p=>some (some p)
 | none=>if l.head?=some 45∨0<runD l then none else some none
def sqA:Sel:=⟨1,⟨#[]⟩,0,0,0,false,false,0⟩
def sqN (m:List UInt8):Sel:=⟨0,⟨m.toArray⟩,0,0,0,false,false,0⟩
def sqI (v:Int):Sel:=⟨2,⟨#[]⟩,v,0,0,false,false,0⟩
def sqS (a b:Option Int)(c:Int):Sel:=⟨3,⟨#[]⟩,0,a.getD 0,b.getD 0,a.isSome,b.isSome,c⟩
def slcC (a b:Option Int) (l:List UInt8) (k:Nat):Option (Sel×Nat) :=
 match optI (l.drop (k+1+runB (l.drop (k+1)))) with
 | none=>none
 | some none=>some (sqS a b 1,k+1)
 | some (some (v,n))=>some (sqS a b v,k+1+runB (l.drop (k+1))+n)
def slcB (a:Option Int) (l:List UInt8) (k:Nat):Option (Sel×Nat) :=
 match optI (l.drop (k+runB (l.drop k))) with
 | none=>none
 | some none=>if (l.drop (k+runB (l.drop k))).head?=some 58 then slcC a none l (k+runB (l.drop k)) else some (sqS a none 1,k)
 | some (some (v,n)) =>
   if (l.drop (k+runB (l.drop k)+n+runB (l.drop (k+runB (l.drop k)+n)))).head?=some 58 then slcC a (some v) l (k+runB (l.drop k)+n+runB (l.drop (k+runB (l.drop k)+n))) else some (sqS a (some v) 1,k+runB (l.drop k)+n)
def slcQ (l:List UInt8):Option (Sel×Nat) :=
 match optI l with
 | none=>none
 | some none=>if l.head?=some 58 then slcB none l 1 else none
 | some (some (v,n))=>if (l.drop (n+runB (l.drop n))).head?=some 58 then slcB (some v) l (n+runB (l.drop n)+1) else none
def selQ (l:List UInt8):Option (Sel×Nat) :=
 if l.head?=some 42 then some (sqA,1)
 else if l.head?=some 34∨l.head?=some 39 then (quoQ l).map fun p=>(sqN p.1,p.2)
 else match slcQ l with
   | some p=>some p
   | none=>(nrQ l).map fun p=>(sqI p.1,p.2)
def brkGo (l:List UInt8):Nat→Nat→List Sel→Option (List Sel×Nat)
 | 0,_,_=>none
 | f + 1,k,acc=>match selQ (l.drop (k+runB (l.drop k))) with
   | none=>none
   | some (x,n) =>
     if (l.drop (k+runB (l.drop k)+n+runB (l.drop (k+runB (l.drop k)+n)))).head?=some 93 then some (acc++[x],k+runB (l.drop k)+n+runB (l.drop (k+runB (l.drop k)+n))+1)
     else if (l.drop (k+runB (l.drop k)+n+runB (l.drop (k+runB (l.drop k)+n)))).head?=some 44 then brkGo l f (k+runB (l.drop k)+n+runB (l.drop (k+runB (l.drop k)+n))+1) (acc++[x])
     else none
def brkQ (l:List UInt8):Option (List Sel×Nat):=brkGo l (l.length+1) 1 []
structure Sgm where
 deep:Bool
 sels:List Sel
def dotsN (l:List UInt8):Nat:=if l.head?=some 46 then (if l.tail.head?=some 46 then 2 else 1) else 0
def sgmR (p:Nat) (r:List UInt8):Option (List Sel×Nat) :=
 if r.head?=some 91∧p≠1 then brkQ r
 else if p=0 then none
 else if r.head?=some 42 then some ([sqA],1)
 else if plnN false r=0 then none else some ([sqN (r.take (plnN false r))],plnN false r)
def sgmQ (l:List UInt8):Option (Sgm×Nat):=(sgmR (dotsN l) (l.drop (dotsN l))).map fun p=>(⟨decide (dotsN l=2),p.1⟩,dotsN l+p.2)
def queGo:Nat→List UInt8→List Sgm→Option (List Sgm)
 | 0,_,_=>none
 | f+1,l,acc=>if l=[] then some acc else match sgmQ (l.drop (runB l)) with
   | none=>none
   | some (x,n)=>queGo f (l.drop (runB l+n)) (acc++[x])
def queQ (l:List UInt8):Option (List Sgm):=if badU l ≠ -1∨l.head?≠some 36 then none else queGo (l.length+1) l.tail []
theorem runB_le:∀ l,runB l≤l.length
 | []=>Nat.le_refl _
 | c :: t=>by
   have:=runB_le t
   unfold runB
   split
   ·simpa using this
   ·simp
theorem minB_le (l:List UInt8):minB l≤1:=by unfold minB;split<;>omega
theorem intD_in {m n v k:Nat} {d:List UInt8} {x:Int} (h:intD m d n=some (x,k)):n≠0∧n≤16∧k=m+n:=by
 unfold intD at h
 split at h
 ·cases h
 split at h
 ·cases h
 ·injection h with h
  injection h with h1 h2
  omega
end
section
open Go.RowKit
theorem digB_is (c:UInt8):isDigitI c.toNat=digB c:=by
 unfold isDigitI digB
 by_cases h:48≤c.toNat∧c.toNat≤57
 ·rw[decide_eq_true h,decide_eq_true (by omega)]
 ·rw[decide_eq_false h,decide_eq_false (by omega)]
end
section
open Go.RowKit
theorem has_any (n:Int) (w:World) :
   Calls Tryz.prog 145 #[.int .i64 n] w fun e w'=>e=.returned (.bool (hasI n))∧w=w':=by
 have hh:n<0∨1114111<n∨(0≤n∧n<55296)∨(55296≤n∧n≤57343)∨(57343<n∧n≤1114111):=by omega
 rcases hh with h|h|⟨h,h'⟩|⟨h,h'⟩|⟨h,h'⟩
 all_goals
   go_enter Tryz.func145,Tryz.ntmps145
   go_wp2
   go_ret
   exact ⟨ret_b (by rw[Bool.eq_iff_iff];simp[hasI]<;>omega),rfl⟩
theorem of_core (n m:Int) (w:World) (hm:fixI n=m) :
   Calls Tryz.prog 135 #[.int .i64 n] w fun e w'=>e=.returned (.slice (some ⟨w.heap.size,0,none⟩) (ofI m).length (ofI m).length)∧Own w' w.heap.size 5 ((ofI m).map (Value.int .u8)).toArray∧Below w.heap.size w w':=by
 have hin:=fixI_in n
 rw[hm] at hin
 obtain ⟨g0,g9,_⟩:=hin
 have HH:=hid (has_any n)
 by_cases hb:hasI n=true
 ·obtain rfl:n=m:=by rw[← hm];unfold fixI;rw[if_pos hb]
  rw[hb] at HH
  clear hb hm
  have hh:=@ofI_is n
  rcases hh with ⟨h,e⟩|⟨h,h',e⟩|⟨h,h',e⟩|⟨h,e⟩
  all_goals
    rw[e]
    clear e
    go_enter Tryz.func135,Tryz.ntmps135
    go_wp2_with (go_at_call 145;refine (HH.out _).mono ?_;rintro e w' ⟨rfl,rfl⟩)
    go_ret
    exact ⟨rfl,Own.fresh _ _ _,(Below.refl _ _).alloc (Nat.le_refl _) _⟩
 ·obtain rfl:m=65533:=by rw[← hm];unfold fixI;rw[if_neg hb]
  rw[(by simpa using hb:hasI n=false)] at HH
  clear hb hm
  go_enter Tryz.func135,Tryz.ntmps135
  go_wp2_with (go_at_call 145;refine (HH.out _).mono ?_;rintro e w' ⟨rfl,rfl⟩)
  go_ret
  exact ⟨rfl,Own.fresh _ _ _,(Below.refl _ _).alloc (Nat.le_refl _) _⟩
end
section
open Go.RowKit
def stepM (m:UInt8):QSt→UInt8→Option (QSt×List UInt8)
 | .plain,c=>if c=m then some (.done,[]) else if c=92 then some (.esc,[]) else if c.toNat<32 then none else
     if okU 0 0 c.toNat then (if lfU 0 c.toNat=0 then some (.plain,[c]) else some (.sign (sgU 0 0 c.toNat) (lfU 0 c.toNat) [c],[])) else none
 | .esc,c=>if c=117 then some (.hex 0 0,[]) else if c=m then some (.plain,[m]) else if letE c=0 then none else some (.plain,[letE c])
 | .sign sg lf p,c=>stepQ (.sign sg lf p) c
 | .hex k v,c=>stepQ (.hex k v) c
 | .half h,c=>stepQ (.half h) c
 | .hesc h,c=>stepQ (.hesc h) c
 | .hhex h k v,c=>stepQ (.hhex h k v) c
 | .done,_=>none
def readM (m:UInt8):QSt→List UInt8→List UInt8→Nat→Option (List UInt8×Nat)
 | _,[],_,_=>none
 | st,c :: t,acc,n=>match stepM m st c with
   | none=>none
   | some (.done,e)=>some (acc++e,n+1)
   | some (st',e)=>readM m st' t (acc++e) (n+1)
theorem readM_on {m:UInt8} {st st':QSt} {c:UInt8} {e:List UInt8} (h:stepM m st c=some (st',e)) (hd:st'≠.done) (t acc:List UInt8) (n:Nat):readM m st (c :: t) acc n=readM m st' t (acc++e) (n+1):=by
 conv=>lhs;unfold readM
 rw[h]
 cases st'
 case done=>exact absurd rfl hd
 all_goals rfl
theorem readM_no {m:UInt8} {st:QSt} {c:UInt8} (h:stepM m st c=none) (t acc:List UInt8) (n:Nat):readM m st (c :: t) acc n=none:=by
 conv=>lhs;unfold readM
 rw[h]
theorem readM_done {m:UInt8} {st:QSt} {c:UInt8} {e:List UInt8} (h:stepM m st c=some (.done,e)) (t acc:List UInt8) (n:Nat):readM m st (c :: t) acc n=some (acc++e,n+1):=by
 conv=>lhs;unfold readM
 rw[h]
theorem stepM_plain (m c:UInt8):stepM m .plain c=if c=m then some (.done,[]) else if c=92 then some (.esc,[]) else if c.toNat<32 then none else
     if okU 0 0 c.toNat then (if lfU 0 c.toNat=0 then some (.plain,[c]) else some (.sign (sgU 0 0 c.toNat) (lfU 0 c.toNat) [c],[])) else none:=rfl
theorem stepM_esc (m c:UInt8):stepM m .esc c=if c=117 then some (.hex 0 0,[]) else if c=m then some (.plain,[m]) else if letE c=0 then none else some (.plain,[letE c]):=rfl
theorem stepQ_esc (c:UInt8):stepQ .esc c=if c=117 then some (.hex 0 0,[]) else if letB c=0 then none else some (.plain,[letB c]):=rfl
theorem letB_is (c:UInt8):letB c=if c=34 then 34 else letE c:=rfl
theorem stepM_34 (st:QSt) (c:UInt8):stepM 34 st c=stepQ st c:=by
 cases st
 case esc =>
   rw[stepM_esc,stepQ_esc,letB_is]
   by_cases h:c=117
   ·rw[if_pos h,if_pos h]
   ·rw[if_neg h,if_neg h]
    by_cases h2:c=34
    ·rw[if_pos h2,if_pos h2];rfl
    ·rw[if_neg h2,if_neg h2]
 all_goals rfl
theorem readM_34:∀ (l:List UInt8) (st:QSt) (acc:List UInt8) (n:Nat),readM 34 st l acc n=readQ st l acc n
 | [],st,acc,n=>rfl
 | c :: t,st,acc,n=>by
   cases hs:stepM 34 st c with
   | none=>rw[readM_no hs,readQ_no (by rw[← stepM_34];exact hs)]
   | some x =>
     obtain ⟨st',e⟩:=x
     have hq:stepQ st c=some (st',e):=by rw[← stepM_34];exact hs
     by_cases hd:st'=.done
     ·subst hd;rw[readM_done hs,readQ_done hq]
     ·rw[readM_on hs hd,readQ_on hq hd,readM_34 t]
theorem run_cut (b:List UInt8) (hb:∀ c t,b=c :: t→c.toNat<128):∀ (a:List UInt8) (sg lf:Int),runU sg lf (a++b) 0 = -1→badU b = -1
 | [], sg,lf,h=>by
   cases b with
   | nil=>rfl
   | cons c t =>
     have hc:=hb c t rfl
     have h:(if okU sg lf c.toNat then runU (sgU sg lf c.toNat) (lfU lf c.toNat) t (0+1) else 0) = -1:=h
     by_cases hl:lf=0
     ·subst hl
      exact (runU_zero (c :: t) 0 sg 0).trans (show runU sg 0 (c :: t) 0 = -1 from h)
     ·exfalso
      by_cases hok:okU sg lf c.toNat=true
      ·have:=okU_bd hl hok;omega
      ·rw[if_neg hok] at h;cases h
 | c :: t,sg,lf,h=>by
   have h:(if okU sg lf c.toNat then runU (sgU sg lf c.toNat) (lfU lf c.toNat) (t++b) (0+1) else 0) = -1:=h
   by_cases hok:okU sg lf c.toNat=true
   ·rw [if_pos hok,runU_shift] at h
    split at h
    ·exact run_cut b hb t _ _ (by assumption)
    ·have:=(runU_ge (t++b) (sgU sg lf c.toNat) (lfU lf c.toNat)).1
     omega
   ·rw[if_neg hok] at h;cases h
theorem bad_cut {l:List UInt8} (h:badU l = -1) (k:Nat) (hk:∀ c,(l.drop k).head?=some c→c.toNat<128):badU (l.drop k) = -1:=by
 rw[← List.take_append_drop k l] at h
 exact run_cut _ (fun c t e=>hk c (by rw[e];rfl)) _ _ _ h
theorem bad_cons {c:UInt8} {t:List UInt8} (h:badU (c :: t) = -1):okU 0 0 c.toNat=true∧runU (sgU 0 0 c.toNat) (lfU 0 c.toNat) t 0 = -1∧(lfU 0 c.toNat=0→badU t = -1):=by
 have h:(if okU 0 0 c.toNat then runU (sgU 0 0 c.toNat) (lfU 0 c.toNat) t (0+1) else 0) = -1:=h
 by_cases hok:okU 0 0 c.toNat=true
 ·rw [if_pos hok,runU_shift] at h
  split at h
  ·rename_i h2
   refine ⟨hok,h2,fun hz => ?_⟩
   rw[hz,runU_zero _ _ 0] at h2
   exact h2
  ·have:=(runU_ge t (sgU 0 0 c.toNat) (lfU 0 c.toNat)).1
   omega
 ·rw[if_neg hok] at h;cases h
theorem lfU_small {c:UInt8}(h:c.toNat<128):lfU 0 c.toNat=0:=by unfold lfU;(repeat' split)<;>omega
theorem bad_tail {c:UInt8}{t:List UInt8}(h:badU (c :: t) = -1)(hc:c.toNat<128):badU t = -1:=(bad_cons h).2.2 (lfU_small hc)
theorem run_more {sg lf:Int} {c:UInt8} {t:List UInt8} (hl:lf≠0) (h:runU sg lf (c :: t) 0 = -1):okU sg lf c.toNat=true∧runU (sgU sg lf c.toNat) (lfU lf c.toNat) t 0 = -1:=by
 have h:(if okU sg lf c.toNat then runU (sgU sg lf c.toNat) (lfU lf c.toNat) t (0+1) else 0) = -1:=h
 by_cases hok:okU sg lf c.toNat=true
 ·rw [if_pos hok,runU_shift] at h
  split at h
  ·exact ⟨hok,by assumption⟩
  ·have:=(runU_ge t (sgU sg lf c.toNat) (lfU lf c.toNat)).1
   omega
 ·rw[if_neg hok] at h;cases h
theorem hexB_small {c:UInt8} {d:Int} (h:hexB c=some d):c.toNat<128:=by
 unfold hexB at h
 (repeat' split at h)<;>first|omega|cases h
theorem letE_small {c:UInt8} (h:letE c≠0):c.toNat<128∧c≠117:=by
 unfold letE at h
 (repeat' split at h)<;>first|exact absurd rfl h|(subst_vars;decide)
theorem stepM_hex_none (m:UInt8)(k:Nat)(v:Int)(c:UInt8)(h:hexB c=none):stepM m (.hex k v) c=none:=step_hex_none k v c h
theorem stepM_hhex_none (m:UInt8)(g:Int)(k:Nat)(v:Int)(c:UInt8)(h:hexB c=none):stepM m (.hhex g k v) c=none:=step_hhex_none g k v c h
theorem hexM (m : UInt8) (l acc:List UInt8) (n:Nat) (hv:badU l = -1) :
   readM m (.hex 0 0) l acc n=(match hex4 l with
     | none=>none
     | some v=>if 56320≤v∧v≤57343 then none else if 55296≤v∧v≤56319 then readM m (.half v) (l.drop 4) acc (n+4) else readM m .plain (l.drop 4) (acc++ofB v) (n+4))∧(∀ v,hex4 l=some v→badU (l.drop 4) = -1∧4≤l.length):=by
 cases l with
 | nil=>exact ⟨rfl,fun v h=>by cases h⟩
 | cons a l =>
   cases ha:hexB a with
   | none=>exact ⟨by rw[readM_no (stepM_hex_none _ _ _ _ ha)];simp[hex4,hexG4,ha],fun v h=>by simp[hex4,hexG4,ha] at h⟩
   | some va =>
     have a9:=hexB_in ha
     have hv:=bad_tail hv (hexB_small ha)
     rw[readM_on (st':=.hex 1 (0*16+va)) (e:=[]) (by show stepQ (.hex 0 0) a=_;rw[step_hex _ _ _ _ ha,if_neg (by omega),if_neg (by omega)]) (by intro e;cases e)]
     cases l with
     | nil=>exact ⟨by simp[hex4,hexG4,ha,readM],fun v h=>by simp[hex4,hexG4,ha] at h⟩
     | cons b l =>
       cases hb:hexB b with
       | none=>exact ⟨by rw[readM_no (stepM_hex_none _ _ _ _ hb)];simp[hex4,hexG4,ha,hb],fun v h=>by simp[hex4,hexG4,ha,hb] at h⟩
       | some vb =>
         have b9:=hexB_in hb
         have hv:=bad_tail hv (hexB_small hb)
         by_cases hf:220≤(0*16+va)*16+vb∧(0*16+va)*16+vb≤223
         ·rw [readM_no (by show stepQ (.hex 1 _) b=_;rw[step_hex _ _ _ _ hb,if_pos ⟨rfl,hf⟩])]
          cases l with
          | nil=>exact ⟨by simp[hex4,hexG4,ha,hb],fun v h=>by simp[hex4,hexG4,ha,hb] at h⟩
          | cons c l =>
            cases hc:hexB c with
            | none=>exact ⟨by simp[hex4,hexG4,ha,hb,hc],fun v h=>by simp[hex4,hexG4,ha,hb,hc] at h⟩
            | some vc =>
              have c9:=hexB_in hc
              have hv:=bad_tail hv (hexB_small hc)
              cases l with
              | nil=>exact ⟨by simp[hex4,hexG4,ha,hb,hc],fun v h=>by simp[hex4,hexG4,ha,hb,hc] at h⟩
              | cons d l =>
                cases hd:hexB d with
                | none=>exact ⟨by simp[hex4,hexG4,ha,hb,hc,hd],fun v h=>by simp[hex4,hexG4,ha,hb,hc,hd] at h⟩
                | some vd =>
                  have d9:=hexB_in hd
                  have hv:=bad_tail hv (hexB_small hd)
                  have hx:hex4 (a :: b :: c :: d :: l)=some ((((0*16+va)*16+vb)*16+vc)*16+vd):=by simp[hex4,hexG4,ha,hb,hc,hd]
                  refine ⟨?_,fun v _=>⟨hv,by simp⟩⟩
                  rw[hx]
                  exact (if_pos (by omega)).symm
         ·rw [readM_on (st':=.hex 2 ((0*16+va)*16+vb)) (e:=[]) (by show stepQ (.hex 1 _) b=_;rw[step_hex _ _ _ _ hb,if_neg (by omega),if_neg (by omega)]) (by intro e;cases e)]
          cases l with
          | nil=>exact ⟨by simp[hex4,hexG4,ha,hb,readM],fun v h=>by simp[hex4,hexG4,ha,hb] at h⟩
          | cons c l =>
            cases hc:hexB c with
            | none=>exact ⟨by rw[readM_no (stepM_hex_none _ _ _ _ hc)];simp[hex4,hexG4,ha,hb,hc],fun v h=>by simp[hex4,hexG4,ha,hb,hc] at h⟩
            | some vc =>
              have c9:=hexB_in hc
              have hv:=bad_tail hv (hexB_small hc)
              rw[readM_on (st':=.hex 3 (((0*16+va)*16+vb)*16+vc)) (e:=[]) (by show stepQ (.hex 2 _) c=_;rw[step_hex _ _ _ _ hc,if_neg (by omega),if_neg (by omega)]) (by intro e;cases e)]
              cases l with
              | nil=>exact ⟨by simp[hex4,hexG4,ha,hb,hc,readM],fun v h=>by simp[hex4,hexG4,ha,hb,hc] at h⟩
              | cons d l =>
                cases hd:hexB d with
                | none=>exact ⟨by rw[readM_no (stepM_hex_none _ _ _ _ hd)];simp[hex4,hexG4,ha,hb,hc,hd],fun v h=>by simp[hex4,hexG4,ha,hb,hc,hd] at h⟩
                | some vd =>
                  have d9:=hexB_in hd
                  have hv:=bad_tail hv (hexB_small hd)
                  have hx:hex4 (a :: b :: c :: d :: l)=some ((((0*16+va)*16+vb)*16+vc)*16+vd):=by simp[hex4,hexG4,ha,hb,hc,hd]
                  refine ⟨?_,fun v _=>⟨hv,by simp⟩⟩
                  rw[hx]
                  generalize hw:(((0*16+va)*16+vb)*16+vc)*16+vd=v
                  show _=if 56320≤v∧v≤57343 then none else if 55296≤v∧v≤56319 then readM m (.half v) l acc (n+4) else readM m .plain l (acc++ofB v) (n+4)
                  rw[if_neg (by omega)]
                  by_cases hh:55296≤v∧v≤56319
                  ·rw[if_pos hh,readM_on (st':=.half v) (e:=[]) (by show stepQ (.hex 3 _) d=_;rw[step_hex _ _ _ _ hd,hw,if_neg (by omega),if_pos rfl,if_pos hh]) (by intro e;cases e)]
                   simp
                  ·rw[if_neg hh,readM_on (st':=.plain) (e:=ofB v) (by show stepQ (.hex 3 _) d=_;rw[step_hex _ _ _ _ hd,hw,if_neg (by omega),if_pos rfl,if_neg hh]) (by intro e;cases e)]
                   simp
theorem hhexM (m : UInt8) (g:Int) (l acc:List UInt8) (n:Nat) (hv:badU l = -1) :
   readM m (.hhex g 0 0) l acc n=(match hex4 l with
     | none=>none
     | some v=>if v<56320∨57343<v then none else readM m .plain (l.drop 4) (acc++ofB (65536+(g-55296)*1024+v-56320)) (n+4))∧(∀ v,hex4 l=some v→badU (l.drop 4) = -1∧4≤l.length):=by
 refine ⟨?_,(hexM m l acc n hv).2⟩
 cases l with
 | nil=>rfl
 | cons a l =>
   cases ha:hexB a with
   | none=>rw[readM_no (stepM_hhex_none _ _ _ _ _ ha)];simp[hex4,hexG4,ha]
   | some va =>
     have a9:=hexB_in ha
     have hv:=bad_tail hv (hexB_small ha)
     have late : va ≠ 13→(match hex4 (a :: l) with
       | none=>none
       | some v=>if v<56320∨57343<v then none else readM m .plain ((a :: l).drop 4) (acc++ofB (65536+(g-55296)*1024+v-56320)) (n+4))=none:=by
       intro hne
       cases l with
       | nil=>simp[hex4,hexG4,ha]
       | cons b l =>
         cases hb:hexB b with
         | none=>simp[hex4,hexG4,ha,hb]
         | some vb =>
           have b9:=hexB_in hb
           cases l with
           | nil=>simp[hex4,hexG4,ha,hb]
           | cons c l =>
             cases hc:hexB c with
             | none=>simp[hex4,hexG4,ha,hb,hc]
             | some vc =>
               have c9:=hexB_in hc
               cases l with
               | nil=>simp[hex4,hexG4,ha,hb,hc]
               | cons d l =>
                 cases hd:hexB d with
                 | none=>simp[hex4,hexG4,ha,hb,hc,hd]
                 | some vd =>
                   have d9:=hexB_in hd
                   have hx:hex4 (a :: b :: c :: d :: l)=some ((((0*16+va)*16+vb)*16+vc)*16+vd):=by simp[hex4,hexG4,ha,hb,hc,hd]
                   rw[hx]
                   exact if_pos (by omega)
     by_cases h13:va=13
     rotate_left
     ·rw[readM_no (by show stepQ (.hhex g 0 0) a=_;rw[step_hhex _ _ _ _ _ ha,if_pos ⟨rfl,h13⟩]),late h13]
     subst h13
     clear late
     rw[readM_on (st':=.hhex g 1 (0*16+13)) (e:=[]) (by show stepQ (.hhex g 0 0) a=_;rw[step_hhex _ _ _ _ _ ha,if_neg (by simp),if_neg (by simp),if_neg (by simp)]) (by intro e;cases e)]
     cases l with
     | nil=>simp[hex4,hexG4,ha,readM]
     | cons b l =>
       cases hb:hexB b with
       | none=>rw[readM_no (stepM_hhex_none _ _ _ _ _ hb)];simp[hex4,hexG4,ha,hb]
       | some vb =>
         have b9:=hexB_in hb
         have hv:=bad_tail hv (hexB_small hb)
         by_cases hf:(0*16+13)*16+vb<220∨223<(0*16+13)*16+vb
         ·rw [readM_no (by show stepQ (.hhex g 1 _) b=_;rw[step_hhex _ _ _ _ _ hb,if_neg (by simp),if_pos ⟨rfl,hf⟩])]
          cases l with
          | nil=>simp[hex4,hexG4,ha,hb]
          | cons c l =>
            cases hc:hexB c with
            | none=>simp[hex4,hexG4,ha,hb,hc]
            | some vc =>
              have c9:=hexB_in hc
              cases l with
              | nil=>simp[hex4,hexG4,ha,hb,hc]
              | cons d l =>
                cases hd:hexB d with
                | none=>simp[hex4,hexG4,ha,hb,hc,hd]
                | some vd =>
                  have d9:=hexB_in hd
                  have hx:hex4 (a :: b :: c :: d :: l)=some ((((0*16+13)*16+vb)*16+vc)*16+vd):=by simp[hex4,hexG4,ha,hb,hc,hd]
                  rw[hx]
                  exact (if_pos (by omega)).symm
         ·rw [readM_on (st':=.hhex g 2 ((0*16+13)*16+vb)) (e:=[]) (by show stepQ (.hhex g 1 _) b=_;rw[step_hhex _ _ _ _ _ hb,if_neg (by simp),if_neg (fun h=>hf h.2),if_neg (by simp)]) (by intro e;cases e)]
          cases l with
          | nil=>simp[hex4,hexG4,ha,hb,readM]
          | cons c l =>
            cases hc:hexB c with
            | none=>rw[readM_no (stepM_hhex_none _ _ _ _ _ hc)];simp[hex4,hexG4,ha,hb,hc]
            | some vc =>
              have c9:=hexB_in hc
              have hv:=bad_tail hv (hexB_small hc)
              rw[readM_on (st':=.hhex g 3 (((0*16+13)*16+vb)*16+vc)) (e:=[]) (by show stepQ (.hhex g 2 _) c=_;rw[step_hhex _ _ _ _ _ hc,if_neg (by simp),if_neg (by simp),if_neg (by simp)]) (by intro e;cases e)]
              cases l with
              | nil=>simp[hex4,hexG4,ha,hb,hc,readM]
              | cons d l =>
                cases hd:hexB d with
                | none=>rw[readM_no (stepM_hhex_none _ _ _ _ _ hd)];simp[hex4,hexG4,ha,hb,hc,hd]
                | some vd =>
                  have d9:=hexB_in hd
                  have hx:hex4 (a :: b :: c :: d :: l)=some ((((0*16+13)*16+vb)*16+vc)*16+vd):=by simp[hex4,hexG4,ha,hb,hc,hd]
                  rw[hx]
                  generalize hw:(((0*16+13)*16+vb)*16+vc)*16+vd=v
                  show _=if v<56320∨57343<v then none else readM m .plain l (acc++ofB (65536+(g-55296)*1024+v-56320)) (n+4)
                  rw[if_neg (by omega),readM_on (st':=.plain) (e:=ofB (65536+(g-55296)*1024+(v-56320))) (by show stepQ (.hhex g 3 _) d=_;rw[step_hhex _ _ _ _ _ hd,hw,if_neg (by simp),if_neg (by simp),if_pos rfl]) (by intro e;cases e)]
                  rw[show 65536+(g-55296)*1024+(v-56320)=65536+(g-55296)*1024+v-56320 by omega]
                  simp
theorem step_half (m:UInt8)(g:Int)(c:UInt8):stepM m (.half g) c=if c=92 then some (.hesc g,[]) else none:=rfl
theorem step_hesc (m:UInt8)(g:Int)(c:UInt8):stepM m (.hesc g) c=if c=117 then some (.hhex g 0 0,[]) else none:=rfl
theorem escU_is (l t:List UInt8) (v:Int) (h:hex4 t=some v):escU l t=if 56320≤v∧v≤57343 then none else if v<55296∨57343<v then some (ofB v,5) else escP v l:=by
 unfold escU
 rw[h]
theorem escM (m:UInt8) (hm:m≠117) (hm9:m.toNat<128) (t acc:List UInt8) (n:Nat) (hv:badU t = -1) :
   (escQ m t=none∧readM m .esc t acc n=none) ∨ ∃ b j,escQ m t=some (b,j)∧badU (t.drop j) = -1∧1≤j∧j≤t.length∧readM m .esc t acc n=readM m .plain (t.drop j) (acc++b) (n+j):=by
 cases t with
 | nil=>exact .inl ⟨rfl,rfl⟩
 | cons c u =>
   have hq:escQ m (c :: u)=if c=m then some ([m],1) else if letE c≠0 then some ([letE c],1) else if c≠117 then none else escU (c :: u) u:=rfl
   by_cases h1:c=m
   ·refine .inr ⟨[m],1,by rw[hq,if_pos h1],bad_tail hv (by rw[h1];exact hm9),by omega,by simp,?_⟩
    rw[readM_on (st':=.plain) (e:=[m]) (by rw[stepM_esc,if_neg (by rw[h1];exact hm),if_pos h1]) (by intro e;cases e)]
    rfl
   by_cases h2:letE c≠0
   ·obtain ⟨c9,c117⟩:=letE_small h2
    refine .inr ⟨[letE c],1,by rw[hq,if_neg h1,if_pos h2],bad_tail hv c9,by omega,by simp,?_⟩
    rw[readM_on (st':=.plain) (e:=[letE c]) (by rw[stepM_esc,if_neg c117,if_neg h1,if_neg h2]) (by intro e;cases e)]
    rfl
   by_cases h3:c=117
   rotate_left
   ·refine .inl ⟨by rw[hq,if_neg h1,if_neg h2,if_pos h3],?_⟩
    rw[readM_no (by rw[stepM_esc,if_neg h3,if_neg h1,if_pos (by simpa using h2)])]
   rw[if_neg h1,if_neg h2,if_neg (by simp[h3])] at hq
   subst h3
   have hv:=bad_tail hv (by decide)
   rw[readM_on (st':=.hex 0 0) (e:=[]) (by rw[stepM_esc,if_pos rfl]) (by intro e;cases e),List.append_nil]
   obtain ⟨e1,e2⟩:=hexM m u acc (n+1) hv
   cases hx:hex4 u with
   | none =>
     rw[hx] at e1
     exact .inl ⟨by rw[hq];unfold escU;rw[hx],e1⟩
   | some v =>
     rw[hx] at e1
     rw[escU_is _ _ v hx] at hq
     obtain ⟨hv4,hl4⟩:=e2 v hx
     by_cases g1:56320≤v∧v≤57343
     ·rw[if_pos g1] at hq
      exact .inl ⟨hq,by rw[e1];exact if_pos g1⟩
     have e1:readM m (.hex 0 0) u acc (n+1)=if 55296≤v∧v≤56319 then readM m (.half v) (u.drop 4) acc (n+1+4) else readM m .plain (u.drop 4) (acc++ofB v) (n+1+4):=by rw[e1];exact if_neg g1
     rw[if_neg g1] at hq
     by_cases g2:v<55296∨57343<v
     ·rw[if_pos g2] at hq
      refine .inr ⟨ofB v,5,hq,hv4,by omega,by simp;omega,?_⟩
      rw[e1,if_neg (by omega)]
      rfl
     rw[if_neg g2] at hq
     rw[if_pos (by omega)] at e1
     rw[e1]
     unfold escP at hq
     have i5:(117 :: u)[5]?=(u.drop 4)[0]?:=by simp
     have i6:(117 :: u)[6]?=(u.drop 4)[1]?:=by simp
     have i7:(117 :: u).drop 7=(u.drop 4).drop 2:=by simp
     rw[i5,i6,i7] at hq
     have hdl:(u.drop 4).length+4=u.length:=by rw[List.length_drop];omega
     have hd5:∀ k,(117 :: u).drop (5+k)=(u.drop 4).drop k:=fun k=>by rw[show 5+k=(4+k)+1 by omega,List.drop_succ_cons,List.drop_drop]
     generalize u.drop 4=x at *
     cases x with
     | nil=>exact .inl ⟨by rw[hq];rfl,rfl⟩
     | cons a x =>
       by_cases ha:a=92
       rotate_left
       ·refine .inl ⟨by rw[hq,if_neg (by simp[ha])],?_⟩
        rw[readM_no (by rw[step_half,if_neg ha])]
       subst ha
       have hv5:=bad_tail hv4 (by decide)
       rw[readM_on (st':=.hesc v) (e:=[]) (by rw[step_half,if_pos rfl]) (by intro e;cases e)]
       cases x with
       | nil=>exact .inl ⟨by rw[hq];simp,rfl⟩
       | cons b x =>
         by_cases hb:b=117
         rotate_left
         ·refine .inl ⟨by rw[hq,if_neg (by simp[hb])],?_⟩
          rw[readM_no (by rw[step_hesc,if_neg hb])]
         subst hb
         have hv6:=bad_tail hv5 (by decide)
         rw[readM_on (st':=.hhex v 0 0) (e:=[]) (by rw[step_hesc,if_pos rfl]) (by intro e;cases e),List.append_nil,List.append_nil]
         obtain ⟨f1,f2⟩:=hhexM m v x acc (n+1+4+1+1) hv6
         rw[if_pos (by simp)] at hq
         have hq:escQ m (117 :: u)=(match hex4 x with
           | none=>none
           | some w=>if w<56320∨57343<w then none else some (ofB (65536+(v-55296)*1024+w-56320),11)):=hq
         cases hy:hex4 x with
         | none =>
           rw[hy] at hq f1
           exact .inl ⟨hq,f1⟩
         | some y =>
           rw[hy] at hq f1
           obtain ⟨hv7,hl7⟩:=f2 y hy
           by_cases g3:y<56320∨57343<y
           ·exact .inl ⟨by rw[hq];exact if_pos g3,by rw[f1];exact if_pos g3⟩
           ·have hd:(117 :: u).drop 11=x.drop 4:=by rw[hd5 6];rfl
            refine .inr ⟨ofB (65536+(v-55296)*1024+y-56320),11,by rw[hq];exact if_neg g3,by rw[hd];exact hv7,by omega,by simp at hdl ⊢;omega,?_⟩
            rw[hd,f1]
            exact if_neg g3
theorem quoM_on (m:UInt8) (f:Nat) (c:UInt8) (t acc:List UInt8) (k:Nat):quoGo m (f+1) (c :: t) acc k=if c=m then some (acc,k+1) else if c.toNat<32 then none else if c≠92 then quoGo m f t (acc++[c]) (k+1) else match escQ m t with
   | none=>none
   | some (b,n)=>quoGo m f (t.drop n) (acc++b) (k+1+n):=rfl
theorem quo_read (m:UInt8) (hm:m≠117) (hm9:m.toNat<128) (hmb:m≠92):∀ (f:Nat),
   (∀ (l acc:List UInt8) (k:Nat),l.length<f→badU l = -1→quoGo m f l acc k=readM m .plain l acc k) ∧
   (∀ (l acc p:List UInt8) (k:Nat) (sg lf:Int),l.length<f→lf≠0→runU sg lf l 0 = -1→quoGo m f l (acc++p) k=readM m (.sign sg lf p) l acc k)
 | 0=>⟨fun l acc k h=>by omega,fun l acc p k sg lf h=>by omega⟩
 | f + 1 => by
   obtain ⟨ih1,ih2⟩:=quo_read m hm hm9 hmb f
   refine ⟨fun l acc k hl hv => ?_,fun l acc p k sg lf hl hlf hv => ?_⟩
   ·cases l with
    | nil=>rfl
    | cons c t =>
      have hl:t.length<f:=by simp at hl;omega
      obtain ⟨h1,h2,h3⟩:=bad_cons hv
      rw[quoM_on]
      by_cases c1:c=m
      ·rw[if_pos c1,readM_done (by rw[stepM_plain,if_pos c1]),List.append_nil]
      rw[if_neg c1]
      by_cases c2:c=92
      ·subst c2
       rw[if_neg (by decide),if_neg (by decide),readM_on (st':=.esc) (e:=[]) (by rw[stepM_plain,if_neg c1,if_pos rfl]) (by intro e;cases e),List.append_nil]
       rcases escM m hm hm9 t acc (k+1) (h3 (by decide)) with ⟨e1,e2⟩|⟨b,j,e1,e2,e3,e4,e5⟩
       ·rw[e1,e2]
       ·rw[e1,e5]
        exact ih1 _ _ _ (by rw[List.length_drop];omega) e2
      by_cases c3:c.toNat<32
      ·rw[if_pos c3,readM_no (by rw[stepM_plain,if_neg c1,if_neg c2,if_pos c3])]
      rw[if_neg c3,if_pos c2]
      by_cases c4:lfU 0 c.toNat=0
      ·rw[readM_on (st':=.plain) (e:=[c]) (by rw[stepM_plain,if_neg c1,if_neg c2,if_neg c3,if_pos h1,if_pos c4]) (by intro e;cases e)]
       exact ih1 _ _ _ hl (h3 c4)
      ·rw[readM_on (st':=.sign (sgU 0 0 c.toNat) (lfU 0 c.toNat) [c]) (e:=[]) (by rw[stepM_plain,if_neg c1,if_neg c2,if_neg c3,if_pos h1,if_neg c4]) (by intro e;cases e),List.append_nil]
       exact ih2 _ _ _ _ _ _ hl c4 h2
   ·cases l with
    | nil=>rfl
    | cons c t =>
      have hl:t.length<f:=by simp at hl;omega
      obtain ⟨h1,h2⟩:=run_more hlf hv
      have hbd:=okU_bd hlf h1
      have c1:c≠m:=fun e=>by rw[e] at hbd;omega
      have c2:c≠92:=fun e=>by rw[e] at hbd;exact absurd hbd.1 (by decide)
      rw[quoM_on,if_neg c1,if_neg (by omega),if_pos c2]
      by_cases c4:lfU lf c.toNat=0
      ·rw[readM_on (st':=.plain) (e:=p++[c]) (by show stepQ (.sign sg lf p) c=_;rw[step_sign,if_pos h1,if_pos c4]) (by intro e;cases e),List.append_assoc]
       rw[c4] at h2
       exact ih1 _ _ _ hl (by rw[runU_zero _ _ 0] at h2;exact h2)
      ·rw[readM_on (st':=.sign (sgU sg lf c.toNat) (lfU lf c.toNat) (p++[c])) (e:=[]) (by show stepQ (.sign sg lf p) c=_;rw[step_sign,if_pos h1,if_neg c4]) (by intro e;cases e),List.append_assoc,List.append_nil]
       exact ih2 _ _ _ _ _ _ hl c4 h2
theorem quoQ_read (m:UInt8) (hm:m=34∨m=39) (t:List UInt8) (hv:badU t = -1):quoQ (m :: t)=readM m .plain t [] 1 :=
 (quo_read m (by rcases hm with rfl|rfl<;>decide) (by rcases hm with rfl|rfl<;>decide) (by rcases hm with rfl|rfl<;>decide) (t.length+1)).1 t [] 1 (Nat.lt_succ_self _) hv
end
section
open Go.RowKit
def trL : Nat→List UInt8→Option (List UInt8×List UInt8)
 | 0,_=>none
 | _+1,[]=>none
 | f + 1,c :: t=>if c=39 then some ([],t) else if c=34 then (trL f t).map fun p=>(92 :: 34 :: p.1,p.2)
     else if c=92 then (if t.head?=some 34 then none else if t.head?=some 39 then (trL f t.tail).map fun p=>(39 :: p.1,p.2)
       else if t.head?=some 92 then (trL f t.tail).map fun p=>(92 :: 92 :: p.1,p.2) else (trL f t).map fun p=>(92 :: p.1,p.2))
     else (trL f t).map fun p=>(c :: p.1,p.2)
theorem trL_on (f:Nat) (c:UInt8) (t:List UInt8):trL (f+1) (c :: t)=if c=39 then some ([],t) else if c=34 then (trL f t).map fun p=>(92 :: 34 :: p.1,p.2)
     else if c=92 then (if t.head?=some 34 then none else if t.head?=some 39 then (trL f t.tail).map fun p=>(39 :: p.1,p.2)
       else if t.head?=some 92 then (trL f t.tail).map fun p=>(92 :: 92 :: p.1,p.2) else (trL f t).map fun p=>(92 :: p.1,p.2))
     else (trL f t).map fun p=>(c :: p.1,p.2):=rfl
theorem trL_end:∀ (f:Nat) (l:List UInt8) (p:List UInt8×List UInt8),trL f l=some p→p.2.length<l.length∧p.2=l.drop (l.length-p.2.length)∧p.1.length≤2*l.length
 | 0,l,p,h=>by cases h
 | f+1,[],p,h=>by cases h
 | f + 1,c :: t,p,h=>by
   have one:∀ (u:List UInt8) (g:List UInt8→List UInt8),(∀ x,(g x).length≤x.length+2)→t.length+1-u.length≤2→1≤t.length+1-u.length→u=(c :: t).drop (t.length+1-u.length)→((trL f u).map fun p=>(g p.1,p.2))=some p →
       p.2.length<(c :: t).length∧p.2=(c :: t).drop ((c :: t).length-p.2.length)∧p.1.length≤2*(c :: t).length:=by
     intro u g hg h2 h1 hu h
     cases hq:trL f u with
     | none=>rw[hq] at h;cases h
     | some q =>
       rw[hq] at h
       have e:p=(g q.1,q.2):=(Option.some.inj h).symm
       subst e
       obtain ⟨i1,i2,i3⟩:=trL_end f u q hq
       have hul:u.length≤t.length:=by omega
       have hg1:=hg q.1
       refine ⟨by simp;omega,?_,by simp;omega⟩
       show q.2=_
       conv=>lhs;rw[i2,hu]
       rw[List.drop_drop]
       congr 1
       have:((c :: t).drop (t.length+1-u.length)).length=u.length:=by rw[← hu]
       rw[this]
       simp
       omega
   rw[trL_on] at h
   split at h
   ·have e:p=([],t):=(Option.some.inj h).symm
    subst e
    refine ⟨by simp,?_,by simp⟩
    show t=(c :: t).drop ((c :: t).length-t.length)
    rw[show (c :: t).length-t.length=1 by simp]
    rfl
   split at h
   ·exact one t (fun x=>92 :: 34 :: x) (fun x=>by simp) (by omega) (by omega) (by rw[show t.length+1-t.length=1 by omega];rfl) h
   split at h
   ·split at h
    ·cases h
    split at h
    ·rename_i hh
     cases t with
     | nil=>cases hh
     | cons a u=>exact one u (fun x=>39 :: x) (fun x=>by simp) (by simp;omega) (by simp;omega) (by rw[show (a :: u).length+1-u.length=2 by simp;omega];rfl) h
    split at h
    ·rename_i hh
     cases t with
     | nil=>cases hh
     | cons a u=>exact one u (fun x=>92 :: 92 :: x) (fun x=>by simp) (by simp;omega) (by simp;omega) (by rw[show (a :: u).length+1-u.length=2 by simp;omega];rfl) h
    ·exact one t (fun x=>92 :: x) (fun x=>by simp) (by omega) (by omega) (by rw[show t.length+1-t.length=1 by omega];rfl) h
   ·exact one t (fun x=>c :: x) (fun x=>by simp) (by omega) (by omega) (by rw[show t.length+1-t.length=1 by omega];rfl) h
theorem readQ_count:∀ (l:List UInt8) (st:QSt) (acc:List UInt8) (n k:Nat),(readQ st l acc n).map (·.1)=(readQ st l acc k).map (·.1)
 | [],st,acc,n,k=>rfl
 | c :: t,st,acc,n,k=>by
   cases hs:stepQ st c with
   | none=>rw[readQ_no hs,readQ_no hs]
   | some x =>
     obtain ⟨st',e⟩:=x
     by_cases hd:st'=.done
     ·subst hd;rw[readQ_done hs,readQ_done hs];rfl
     ·rw[readQ_on hs hd,readQ_on hs hd];exact readQ_count t _ _ _ _
def sngT (st:QSt) (acc:List UInt8) (n len:Nat):Option (List UInt8×List UInt8)→Option (List UInt8×Nat)
 | none=>none
 | some (bt,r)=>((readQ st (bt++[34]) acc 0).map (·.1)).map fun u=>(u,n+(len-r.length))
theorem sngT_map (st st':QSt) (acc acc':List UInt8) (n n' len len':Nat) (g:List UInt8→List UInt8) (o:Option (List UInt8×List UInt8)) (ho:∀ p,o=some p→p.2.length≤len')
   (hg:∀ x k,(readQ st (g x) acc k).map (·.1)=(readQ st' x acc' k).map (·.1)) (hgs:∀ x y,g x++y=g (x++y)) (hn:n+len=n'+len') (hle:len'≤len) :
   sngT st acc n len (o.map fun p=>(g p.1,p.2))=sngT st' acc' n' len' o:=by
 cases o with
 | none=>rfl
 | some p =>
   have hp:=ho p rfl
   show ((readQ st (g p.1++[34]) acc 0).map (·.1)).map (fun u=>(u,n+(len-p.2.length)))=((readQ st' (p.1++[34]) acc' 0).map (·.1)).map (fun u=>(u,n'+(len'-p.2.length)))
   rw[hgs,hg,show n+(len-p.2.length)=n'+(len'-p.2.length) by omega]
theorem sngT_none (st:QSt) (acc:List UInt8) (n len:Nat) (g:List UInt8→List UInt8) (o:Option (List UInt8×List UInt8))
   (hg:∀ x k,readQ st (g x) acc k=none) (hgs:∀ x y,g x++y=g (x++y)):sngT st acc n len (o.map fun p=>(g p.1,p.2))=none:=by
 cases o with
 | none=>rfl
 | some p =>
   show ((readQ st (g p.1++[34]) acc 0).map (·.1)).map _=none
   rw[hgs,hg]
   rfl
def SgOk (st:QSt):Prop:=∀ sg lf p,st=.sign sg lf p→lf≠0
theorem no_mark {st:QSt} (h1:st≠.plain) (h2:st≠.esc) (hs:SgOk st) (c:UInt8) (hc:c=34∨c=39∨c=92) (hh:c≠92 ∨ ∀ g,st≠.half g):stepQ st c=none∧stepM 39 st c=none:=by
 have hx:hexB c=none:=by rcases hc with rfl|rfl|rfl<;>rfl
 have h117:c≠117:=by rcases hc with rfl|rfl|rfl<;>decide
 cases st with
 | plain=>exact absurd rfl h1
 | esc=>exact absurd rfl h2
 | sign sg lf p =>
   have hl:=hs sg lf p rfl
   have:okU sg lf c.toNat=false:=by
     cases hk:okU sg lf c.toNat with
     | false=>rfl
     | true=>have:=okU_bd hl hk;rcases hc with rfl|rfl|rfl<;>exact absurd this.1 (by decide)
   exact ⟨by rw[step_sign,this];rfl,by show stepQ (.sign sg lf p) c=_;rw[step_sign,this];rfl⟩
 | hex k v=>exact ⟨step_hex_none _ _ _ hx,step_hex_none _ _ _ hx⟩
 | half g =>
   have:c≠92:=hh.elim id (fun h=>absurd rfl (h g))
   exact ⟨if_neg this,if_neg this⟩
 | hesc g=>exact ⟨if_neg h117,if_neg h117⟩
 | hhex g k v=>exact ⟨step_hhex_none _ _ _ _ hx,step_hhex_none _ _ _ _ hx⟩
 | done=>exact ⟨rfl,rfl⟩
theorem no_slash {st:QSt} (h1:st≠.plain) (h2:st≠.esc) (hs:SgOk st) (d:UInt8) (hd:d≠117) (x acc:List UInt8) (n:Nat):readQ st (92 :: d :: x) acc n=none∧readM 39 st (92 :: d :: x) acc n=none:=by
 by_cases hh:∃ g,st=.half g
 ·obtain ⟨g,rfl⟩:=hh
  rw[readQ_on (st':=.hesc g) (e:=[]) rfl (by intro e;cases e),readM_on (st':=.hesc g) (e:=[]) rfl (by intro e;cases e)]
  exact ⟨readQ_no (show stepQ (.hesc g) d=none from if_neg hd) _ _ _,readM_no (show stepM 39 (.hesc g) d=none from if_neg hd) _ _ _⟩
 ·obtain ⟨e1,e2⟩:=no_mark h1 h2 hs 92 (.inr (.inr rfl)) (.inr fun g e=>hh ⟨g,e⟩)
  exact ⟨readQ_no e1 _ _ _,readM_no e2 _ _ _⟩
theorem sgOk_sign {sg lf:Int}{p:List UInt8}(h:lf≠0):SgOk (.sign sg lf p):=fun _ _ _ e=>by injection e with _ e2 _;exact fun h0=>h (e2.trans h0)
theorem step_next {st st':QSt} {c:UInt8} {e:List UInt8} (h:stepQ st c=some (st',e)) (hs:SgOk st):SgOk st'∧(st'=.esc→c=92)∧(st'=.done→c=34):=by
 cases st with
 | done=>cases h
 | plain =>
   rw[step_plain] at h
   split at h
   ·cases h;exact ⟨(fun _ _ _ e=>by cases e),(fun e=>by cases e),(fun _=>by assumption)⟩
   split at h
   ·cases h;exact ⟨(fun _ _ _ e=>by cases e),(fun _=>by assumption),(fun e=>by cases e)⟩
   split at h
   ·cases h
   split at h
   ·split at h
    ·cases h;exact ⟨(fun _ _ _ e=>by cases e),(fun e=>by cases e),(fun e=>by cases e)⟩
    ·rename_i hz
     cases h;exact ⟨(sgOk_sign hz),(fun e=>by cases e),(fun e=>by cases e)⟩
   ·cases h
 | sign sg lf p =>
   rw[step_sign] at h
   split at h
   ·split at h
    ·cases h;exact ⟨(fun _ _ _ e=>by cases e),(fun e=>by cases e),(fun e=>by cases e)⟩
    ·rename_i hz
     cases h;exact ⟨(sgOk_sign hz),(fun e=>by cases e),(fun e=>by cases e)⟩
   ·cases h
 | esc =>
   rw[stepQ_esc] at h
   (repeat' split at h)<;>first|cases h|skip
   all_goals exact ⟨(fun _ _ _ e=>by cases e),(fun e=>by cases e),(fun e=>by cases e)⟩
 | hex k v =>
   cases hd:hexB c with
   | none=>rw[step_hex_none _ _ _ hd] at h;cases h
   | some d =>
     rw[step_hex _ _ _ _ hd] at h
     split at h
     ·cases h
     split at h
     ·split at h<;>(cases h;exact ⟨(fun _ _ _ e=>by cases e),(fun e=>by cases e),(fun e=>by cases e)⟩)
     ·cases h;exact ⟨(fun _ _ _ e=>by cases e),(fun e=>by cases e),(fun e=>by cases e)⟩
 | half g =>
   have h:(if c=92 then some (QSt.hesc g,[]) else none)=some (st',e):=h
   split at h
   ·cases h;exact ⟨(fun _ _ _ e=>by cases e),(fun e=>by cases e),(fun e=>by cases e)⟩
   ·cases h
 | hesc g =>
   have h:(if c=117 then some (QSt.hhex g 0 0,[]) else none)=some (st',e):=h
   split at h
   ·cases h;exact ⟨(fun _ _ _ e=>by cases e),(fun e=>by cases e),(fun e=>by cases e)⟩
   ·cases h
 | hhex g k v =>
   cases hd:hexB c with
   | none=>rw[step_hhex_none _ _ _ _ hd] at h;cases h
   | some d =>
     rw[step_hhex _ _ _ _ _ hd] at h
     split at h
     ·cases h
     split at h
     ·cases h
     split at h<;>(cases h;exact ⟨(fun _ _ _ e=>by cases e),(fun e=>by cases e),(fun e=>by cases e)⟩)
theorem step_same (st:QSt) (c:UInt8) (h39:c≠39) (h34:c≠34):stepM 39 st c=stepQ st c:=by
 cases st with
 | plain=>rw[stepM_plain,step_plain,if_neg h39,if_neg h34]
 | esc=>rw[stepM_esc,stepQ_esc,letB_is,if_neg h39,if_neg h34]
 | _=>rfl
theorem trL_le {f:Nat}{l:List UInt8}(p:List UInt8×List UInt8)(h:trL f l=some p):p.2.length≤l.length:=Nat.le_of_lt (trL_end f l p h).1
theorem step_34:stepM 39 .plain 34=some (.plain,[34]):=by rw[stepM_plain,if_neg (by decide),if_neg (by decide),if_neg (by decide),if_pos (by decide),if_pos (by decide)]
theorem step_39:stepQ .plain 39=some (.plain,[39]):=by rw[step_plain,if_neg (by decide),if_neg (by decide),if_neg (by decide),if_pos (by decide),if_pos (by decide)]
theorem tr_read:∀ (f:Nat) (l:List UInt8) (st:QSt) (acc:List UInt8) (n:Nat),l.length<f→SgOk st→st≠.done→(st=.esc → ∀ c,l.head?=some c→c≠39∧c≠34∧c≠92) →
   readM 39 st l acc n=sngT st acc n l.length (trL f l)
 | 0,l,st,acc,n,hl,_,_,_=>by omega
 | f+1,[],st,acc,n,hl,_,_,_=>rfl
 | f + 1, c :: t,st,acc,n,hl,hs,hd,he=>by
   have htl:t.length<f:=by simp at hl;omega
   clear hl
   have hcl:(c :: t).length=t.length+1:=rfl
   rw[trL_on]
   -- one byte that both take alike
   have alike:c≠39→c≠34→(c=92 → ∀ d,t.head?=some d→d≠39∧d≠34∧d≠92)→readM 39 st (c :: t) acc n=sngT st acc n (c :: t).length ((trL f t).map fun p=>(c :: p.1,p.2)):=by
     intro n39 n34 h92
     have hsm:=step_same st c n39 n34
     cases hq:stepQ st c with
     | none =>
       rw[readM_no (hsm.trans hq),sngT_none st acc n _ (fun x=>c :: x) _ (fun x k=>readQ_no hq _ _ _) (fun x y=>rfl)]
     | some x =>
       obtain ⟨st',e⟩:=x
       obtain ⟨g1,g2,g3⟩:=step_next hq hs
       have hnd:st'≠.done:=fun e=>n34 (g3 e)
       rw[readM_on (hsm.trans hq) hnd,tr_read f t st' (acc++e) (n+1) htl g1 hnd (fun e=>h92 (g2 e))]
       refine (sngT_map st st' acc (acc++e) n (n+1) _ _ (fun x=>c :: x) _ (fun p hp=>trL_le p hp) (fun x k => ?_) (fun x y=>rfl) (by rw[hcl];omega) (by rw[hcl];omega)).symm
       rw[readQ_on hq hnd]
       exact readQ_count _ _ _ _ _
   by_cases c39:c=39
   ·subst c39
    rw[if_pos rfl]
    by_cases hp:st=.plain
    ·subst hp
     rw[readM_done (by rw[stepM_plain,if_pos rfl])]
     show _=((readQ .plain ([34]:List UInt8) acc 0).map (·.1)).map (fun u=>(u,n+((39 :: t).length-t.length)))
     rw[readQ_done (e:=[]) (by rfl),hcl,show t.length+1-t.length=1 by omega]
     rfl
    ·have hne:st≠.esc:=fun e=>(he e 39 rfl).1 rfl
     rw[readM_no (no_mark hp hne hs 39 (.inr (.inl rfl)) (.inl (by decide))).2]
     show _=((readQ st ([34]:List UInt8) acc 0).map (·.1)).map _
     rw[readQ_no (no_mark hp hne hs 34 (.inl rfl) (.inl (by decide))).1]
     rfl
   rw[if_neg c39]
   by_cases c34:c=34
   ·subst c34
    rw[if_pos rfl]
    by_cases hp:st=.plain
    ·subst hp
     rw[readM_on (st':=.plain) (e:=[34]) step_34 (by intro e;cases e),tr_read f t .plain (acc++[34]) (n+1) htl (fun _ _ _ e=>by cases e) (by intro e;cases e) (fun e=>by cases e)]
     refine (sngT_map .plain .plain acc (acc++[34]) n (n+1) _ _ (fun x=>92 :: 34 :: x) _ (fun p hp=>trL_le p hp) (fun x k => ?_) (fun x y=>rfl) (by rw[hcl];omega) (by rw[hcl];omega)).symm
     rw[readQ_on (st':=.esc) (e:=[]) (by rfl) (by intro e;cases e),readQ_on (st':=.plain) (e:=[34]) (by rfl) (by intro e;cases e),List.append_nil]
     exact readQ_count _ _ _ _ _
    ·have hne:st≠.esc:=fun e=>(he e 34 rfl).2.1 rfl
     rw[readM_no (no_mark hp hne hs 34 (.inl rfl) (.inl (by decide))).2]
     exact (sngT_none st acc n _ (fun x=>92 :: 34 :: x) _ (fun x k=>(no_slash hp hne hs 34 (by decide) x acc k).1) (fun x y=>rfl)).symm
   rw[if_neg c34]
   by_cases c92:c=92
   rotate_left
   ·rw[if_neg c92]
    exact alike c39 c34 (fun e=>absurd e c92)
   rw[if_pos c92]
   by_cases t34:t.head?=some 34
   ·rw [if_pos t34]
    subst c92
    cases t with
    | nil=>cases t34
    | cons d u =>
      obtain rfl:d=34:=Option.some.inj t34
      by_cases hp:st=.plain
      ·subst hp
       rw[readM_on (st':=.esc) (e:=[]) (by rfl) (by intro e;cases e),readM_no (by rfl)]
       rfl
      ·have hne:st≠.esc:=fun e=>(he e 92 rfl).2.2 rfl
       rw[(no_slash hp hne hs 34 (by decide) u acc n).2]
       rfl
   rw[if_neg t34]
   by_cases t39:t.head?=some 39
   ·rw [if_pos t39]
    subst c92
    cases t with
    | nil=>cases t39
    | cons d u =>
      obtain rfl:d=39:=Option.some.inj t39
      have hul:(39 :: u).length=u.length+1:=rfl
      show readM 39 st (92 :: 39 :: u) acc n=sngT st acc n (92 :: 39 :: u).length ((trL f u).map fun p=>(39 :: p.1,p.2))
      by_cases hp:st=.plain
      ·subst hp
       rw [readM_on (st':=.esc) (e:=[]) (by rfl) (by intro e;cases e),readM_on (st':=.plain) (e:=[39]) (by rfl) (by intro e;cases e),List.append_nil,
         tr_read f u .plain (acc++[39]) (n+1+1) (by omega) (fun _ _ _ e=>by cases e) (by intro e;cases e) (fun e=>by cases e)]
       refine (sngT_map .plain .plain acc (acc++[39]) n (n+1+1) _ _ (fun x=>39 :: x) _ (fun p hp=>trL_le p hp) (fun x k => ?_) (fun x y=>rfl) (by rw[hcl,hul];omega) (by rw[hcl,hul];omega)).symm
       rw[readQ_on (st':=.plain) (e:=[39]) step_39 (by intro e;cases e)]
       exact readQ_count _ _ _ _ _
      ·have hne:st≠.esc:=fun e=>(he e 92 rfl).2.2 rfl
       rw[(no_slash hp hne hs 39 (by decide) u acc n).2]
       exact (sngT_none st acc n _ (fun x=>39 :: x) _ (fun x k=>readQ_no (no_mark hp hne hs 39 (.inr (.inl rfl)) (.inl (by decide))).1 _ _ _) (fun x y=>rfl)).symm
   rw[if_neg t39]
   by_cases t92:t.head?=some 92
   ·rw [if_pos t92]
    subst c92
    cases t with
    | nil=>cases t92
    | cons d u =>
      obtain rfl:d=92:=Option.some.inj t92
      have hul:(92 :: u).length=u.length+1:=rfl
      show readM 39 st (92 :: 92 :: u) acc n=sngT st acc n (92 :: 92 :: u).length ((trL f u).map fun p=>(92 :: 92 :: p.1,p.2))
      by_cases hp:st=.plain
      ·subst hp
       rw [readM_on (st':=.esc) (e:=[]) (by rfl) (by intro e;cases e),readM_on (st':=.plain) (e:=[92]) (by rfl) (by intro e;cases e),List.append_nil,
         tr_read f u .plain (acc++[92]) (n+1+1) (by omega) (fun _ _ _ e=>by cases e) (by intro e;cases e) (fun e=>by cases e)]
       refine (sngT_map .plain .plain acc (acc++[92]) n (n+1+1) _ _ (fun x=>92 :: 92 :: x) _ (fun p hp=>trL_le p hp) (fun x k => ?_) (fun x y=>rfl) (by rw[hcl,hul];omega) (by rw[hcl,hul];omega)).symm
       rw[readQ_on (st':=.esc) (e:=[]) (by rfl) (by intro e;cases e),readQ_on (st':=.plain) (e:=[92]) (by rfl) (by intro e;cases e),List.append_nil]
       exact readQ_count _ _ _ _ _
      ·have hne:st≠.esc:=fun e=>(he e 92 rfl).2.2 rfl
       rw[(no_slash hp hne hs 92 (by decide) u acc n).2]
       exact (sngT_none st acc n _ (fun x=>92 :: 92 :: x) _ (fun x k=>(no_slash hp hne hs 92 (by decide) x acc k).1) (fun x y=>rfl)).symm
   rw[if_neg t92]
   have:=alike c39 c34 (fun _ d hd=>⟨fun e=>t39 (by rw[hd,e]),fun e=>t34 (by rw[hd,e]),fun e=>t92 (by rw[hd,e])⟩)
   rw[this,c92]
theorem readQ_shift:∀ (l:List UInt8) (st:QSt) (acc:List UInt8) (n:Nat),readQ st l acc (n+1)=(readQ st l acc n).map fun p=>(p.1,p.2+1)
 | [],st,acc,n=>rfl
 | c :: t,st,acc,n=>by
   cases hs:stepQ st c with
   | none=>rw[readQ_no hs,readQ_no hs];rfl
   | some x =>
     obtain ⟨st',e⟩:=x
     by_cases hd:st'=.done
     ·subst hd;rw[readQ_done hs,readQ_done hs];rfl
     ·rw[readQ_on hs hd,readQ_on hs hd];exact readQ_shift t _ _ _
def dblR (t:List UInt8):Option (List UInt8×List UInt8):=(readQ .plain t [] 0).map fun u=>(u.1,t.drop u.2)
def sngR (t:List UInt8):Option (List UInt8×List UInt8):=(trL (t.length+1) t).bind fun p=>(readQ .plain (p.1++[34]) [] 0).map fun u=>(u.1,p.2)
theorem dbl_is (t:List UInt8) (hv:badU t = -1):(quoQ (34 :: t)).map (fun p=>(p.1,(34 :: t).drop p.2))=dblR t:=by
 rw[quoQ_read 34 (.inl rfl) t hv,readM_34,readQ_shift]
 unfold dblR
 cases readQ .plain t [] 0<;>rfl
theorem sng_is (t:List UInt8) (hv:badU t = -1):(quoQ (39 :: t)).map (fun p=>(p.1,(39 :: t).drop p.2))=sngR t:=by
 rw[quoQ_read 39 (.inr rfl) t hv,tr_read (t.length+1) t .plain [] 1 (Nat.lt_succ_self _) (fun _ _ _ e=>by cases e) (by intro e;cases e) (fun e=>by cases e)]
 unfold sngR
 cases hq:trL (t.length+1) t with
 | none=>rfl
 | some p =>
   have he:=(trL_end _ t p hq).2.1
   show (((readQ .plain (p.1++[34]) [] 0).map (·.1)).map fun u=>(u,1+(t.length-p.2.length))).map _=(readQ .plain (p.1++[34]) [] 0).map _
   cases readQ .plain (p.1++[34]) [] 0 with
   | none=>rfl
   | some u =>
     show some (u.1,(39 :: t).drop (1+(t.length-p.2.length)))=some (u.1,p.2)
     rw[Nat.add_comm,List.drop_succ_cons,← he]
end
section
open Go.RowKit
def skB (l:List UInt8):List UInt8:=l.drop (runB l)
theorem skB_at (l:List UInt8)(k:Nat):l.drop (k+runB (l.drop k))=skB (l.drop k):=by unfold skB;rw[List.drop_drop]
theorem blk_small {c:UInt8} (h:blkB c=true):c.toNat<128:=by
 have:=of_decide_eq_true h
 omega
theorem runB_skB:∀ l,runB (skB l)=0
 | []=>rfl
 | c :: t=>by
   by_cases h:blkB c=true
   ·have:skB (c :: t)=skB t:=by
      unfold skB
      rw[show runB (c :: t)=runB t+1 from if_pos h]
      rfl
    rw[this]
    exact runB_skB t
   ·have e:runB (c :: t)=0:=if_neg h
    unfold skB
    rw[e]
    exact e
theorem skB_id {l:List UInt8}(h:runB l=0):skB l=l:=by unfold skB;rw[h];rfl
theorem skB_skB (l:List UInt8):skB (skB l)=skB l:=skB_id (runB_skB l)
theorem bad_skB (l:List UInt8):badU l = -1→badU (skB l) = -1:=by
 induction l with
 | nil=>exact id
 | cons c t ih =>
   intro h
   by_cases hb:blkB c=true
   ·have:skB (c :: t)=skB t:=by
      unfold skB
      rw[show runB (c :: t)=runB t+1 from if_pos hb]
      rfl
    rw[this]
    exact ih (bad_tail h (blk_small hb))
   ·rw[skB_id (show runB (c :: t)=0 from if_neg hb)]
    exact h
theorem runB_head {l:List UInt8} {c:UInt8} (h:l.head?=some c) (hc:blkB c=false):runB l=0:=by
 cases l with
 | nil=>cases h
 | cons a t =>
   obtain rfl:=Option.some.inj h
   exact if_neg (by rw[hc];decide)
def NumH (l:List UInt8):Prop:=∃ c,l.head?=some c∧(c=45∨digB c=true)
theorem NumH.run {l:List UInt8} (h:NumH l):runB l=0:=by
 obtain ⟨c,h1,h2⟩:=h
 refine runB_head h1 ?_
 rcases h2 with rfl|h2
 ·decide
 ·have h2:=of_decide_eq_true h2
  exact decide_eq_false (by omega)
theorem NumH.ne {l:List UInt8} (h:NumH l) (d:UInt8) (hd:d≠45) (hdd:digB d=false):l.head?≠some d:=by
 obtain ⟨c,h1,h2⟩:=h
 rw[h1]
 intro e
 obtain rfl:=Option.some.inj e
 rcases h2 with h2|h2
 ·exact hd h2
 ·rw[hdd] at h2;cases h2
theorem optI_bad14 {l:List UInt8} (h:optI l=none):nrQ l=none∧NumH l:=by
 unfold optI at h
 split at h
 ·cases h
 ·rename_i hn
  refine ⟨hn,?_⟩
  split at h
  ·rename_i hc
   rcases hc with hc|hc
   ·exact ⟨45,hc,.inl rfl⟩
   ·cases l with
    | nil=>exact absurd hc (by decide)
    | cons a t =>
      refine ⟨a,rfl,.inr ?_⟩
      unfold runD at hc
      split at hc
      ·assumption
      ·omega
  ·cases h
theorem optI_no14 {l:List UInt8} (h:optI l=some none):nrQ l=none:=by
 unfold optI at h
 split at h
 ·cases h
 ·assumption
theorem optI_yes14 {l:List UInt8} {p:Int×Nat} (h:optI l=some (some p)):nrQ l=some p:=by
 unfold optI at h
 split at h
 ·rename_i q hq
  rw[hq]
  exact congrArg some (Option.some.inj (Option.some.inj h))
 ·split at h<;>cases h
def intA (l:List UInt8):Option Int×List UInt8:=match nrQ l with
 | some (v,n)=>(some v,l.drop n)
 | none=>(none,l)
theorem intA_no {l:List UInt8}(h:nrQ l=none):intA l=(none,l):=by unfold intA;rw[h]
theorem intA_yes {l:List UInt8}{v:Int}{n:Nat}(h:nrQ l=some (v,n)):intA l=(some v,l.drop n):=by unfold intA;rw[h]
def slcE (a e:Option Int) (l:List UInt8):Sel×List UInt8 :=
 if l.head?=some 58 then (match nrQ (skB l.tail) with
   | some (v,n)=>(sqS a e v,(skB l.tail).drop n)
   | none=>(sqS a e 1,skB l.tail)) else (sqS a e 1,l)
def slcR (a:Option Int)(l:List UInt8):Sel×List UInt8:=slcE a (intA (skB l)).1 (skB (intA (skB l)).2)
def EndS (l:List UInt8):Prop:=l.head?=some 93∨l.head?=some 44
instance (l:List UInt8):Decidable (EndS l):=inferInstanceAs (Decidable (_∨_))
theorem NumH.no_end {l:List UInt8} (h:NumH l):¬ EndS (skB l):=by
 rw[skB_id h.run]
 rintro (e|e)
 ·exact h.ne 93 (by decide) (by decide) e
 ·exact h.ne 44 (by decide) (by decide) e
theorem slcE_is (a e:Option Int) (l r:List UInt8) (k:Nat) (hr:l.drop k=r) (h58:r.head?=some 58):match slcC a e l k with
   | none=>¬ EndS (skB (slcE a e r).2)
   | some (x,j)=>x=(slcE a e r).1∧skB (l.drop j)=skB (slcE a e r).2:=by
 subst hr
 have ht:l.drop (k+1)=(l.drop k).tail:=by rw[List.tail_drop]
 have hp:l.drop (k+1+runB (l.drop (k+1)))=skB (l.drop k).tail:=by rw[skB_at,ht]
 unfold slcC slcE
 rw[if_pos h58,hp]
 cases ho:optI (skB (l.drop k).tail) with
 | none =>
   obtain ⟨h1,h2⟩:=optI_bad14 ho
   rw[h1]
   exact h2.no_end
 | some o =>
   cases o with
   | none =>
     rw[optI_no14 ho]
     exact ⟨rfl,by show skB (l.drop (k+1))=_;rw[ht];exact (skB_skB _).symm⟩
   | some p =>
     obtain ⟨v,n⟩:=p
     rw[optI_yes14 ho]
     refine ⟨rfl,?_⟩
     show skB (l.drop (k+1+runB (l.drop (k+1))+n))=_
     rw[← List.drop_drop,hp]
theorem slcR_is (a:Option Int) (l:List UInt8) (k:Nat):match slcB a l k with
   | none=>¬ EndS (skB (slcR a (l.drop k)).2)
   | some (x,j)=>x=(slcR a (l.drop k)).1∧skB (l.drop j)=skB (slcR a (l.drop k)).2:=by
 unfold slcB slcR
 have hq:=skB_at l k
 rw[hq]
 cases ho:optI (skB (l.drop k)) with
 | none =>
   obtain ⟨h1,h2⟩:=optI_bad14 ho
   rw[intA_no h1]
   unfold slcE
   show ¬ EndS (skB (if (skB (skB (l.drop k))).head?=some 58 then _ else _:Sel×List UInt8).2)
   rw[skB_skB,if_neg (h2.ne 58 (by decide) (by decide))]
   exact h2.no_end
 | some o =>
   cases o with
   | none =>
     rw[intA_no (optI_no14 ho)]
     show match (if (skB (l.drop k)).head?=some 58 then slcC a none l (k+runB (l.drop k)) else some (sqS a none 1,k)) with
       | none=>¬ EndS (skB (slcE a none (skB (skB (l.drop k)))).2)
       | some (x,j)=>x=(slcE a none (skB (skB (l.drop k)))).1∧skB (l.drop j)=skB (slcE a none (skB (skB (l.drop k)))).2
     rw[skB_skB]
     by_cases h58:(skB (l.drop k)).head?=some 58
     ·rw[if_pos h58]
      exact slcE_is a none l _ _ hq h58
     ·rw[if_neg h58]
      unfold slcE
      rw[if_neg h58]
      exact ⟨rfl,(skB_skB _).symm⟩
   | some p =>
     obtain ⟨v,n⟩:=p
     rw[intA_yes (optI_yes14 ho)]
     have hn:l.drop (k+runB (l.drop k)+n)=(skB (l.drop k)).drop n:=by rw[← List.drop_drop,hq]
     have hp:=skB_at l (k+runB (l.drop k)+n)
     rw[hn] at hp
     show match (if (l.drop (k+runB (l.drop k)+n+runB (l.drop (k+runB (l.drop k)+n)))).head?=some 58 then slcC a (some v) l (k+runB (l.drop k)+n+runB (l.drop (k+runB (l.drop k)+n))) else some (sqS a (some v) 1,k+runB (l.drop k)+n)) with
       | none=>¬ EndS (skB (slcE a (some v) (skB ((skB (l.drop k)).drop n))).2)
       | some (x,j)=>x=(slcE a (some v) (skB ((skB (l.drop k)).drop n))).1∧skB (l.drop j)=skB (slcE a (some v) (skB ((skB (l.drop k)).drop n))).2
     rw[hn,hp]
     by_cases h58:(skB ((skB (l.drop k)).drop n)).head?=some 58
     ·rw[if_pos h58]
      exact slcE_is a (some v) l _ _ hp h58
     ·rw[if_neg h58]
      unfold slcE
      rw[if_neg h58]
      refine ⟨rfl,?_⟩
      show skB (l.drop (k+runB (l.drop k)+n))=_
      rw[hn]
      exact (skB_skB _).symm
def selR (l:List UInt8):Option (Sel×List UInt8) :=
 if l.head?=some 42 then some (sqA,l.tail)
 else if l.head?=some 39 then (sngR l.tail).map fun p=>(sqN p.1,p.2)
 else if l.head?=some 34 then (dblR l.tail).map fun p=>(sqN p.1,p.2)
 else if (skB (intA l).2).head?=some 58 then some (slcR (intA l).1 (skB (intA l).2).tail)
 else (intA l).1.map fun v=>(sqI v,skB (intA l).2)
def endP (p:Sel×List UInt8):Option (Sel×List UInt8):=if EndS (skB p.2) then some (p.1,skB p.2) else none
def nxR (l:List UInt8):Option (Sel×List UInt8):=(selR l).bind endP
def nxQ (l:List UInt8):Option (Sel×List UInt8):=(selQ l).bind fun p=>endP (p.1,l.drop p.2)
theorem nx_eq (l:List UInt8) (hv:badU l = -1) (hb:runB l=0):nxQ l=nxR l:=by
 unfold nxQ nxR selQ selR
 by_cases h42:l.head?=some 42
 ·rw[if_pos h42,if_pos h42]
  show endP (sqA,l.drop 1)=endP (sqA,l.tail)
  rw[List.drop_one]
 rw[if_neg h42,if_neg h42]
 by_cases h39:l.head?=some 39
 ·rw [if_pos (.inr h39),if_pos h39]
  cases l with
  | nil=>cases h39
  | cons c t =>
    obtain rfl:c=39:=Option.some.inj h39
    have:=sng_is t (bad_tail hv (by decide))
    show ((quoQ (39 :: t)).map _).bind _=((sngR t).map _).bind endP
    rw[← this]
    cases quoQ (39 :: t)<;>rfl
 by_cases h34:l.head?=some 34
 ·rw [if_pos (.inl h34),if_neg h39,if_pos h34]
  cases l with
  | nil=>cases h34
  | cons c t =>
    obtain rfl:c=34:=Option.some.inj h34
    have:=dbl_is t (bad_tail hv (by decide))
    show ((quoQ (34 :: t)).map _).bind _=((dblR t).map _).bind endP
    rw[← this]
    cases quoQ (34 :: t)<;>rfl
 rw[if_neg (fun h=>h.elim h34 h39),if_neg h39,if_neg h34]
 unfold slcQ
 cases ho:optI l with
 | none =>
   obtain ⟨h1,h2⟩:=optI_bad14 ho
   rw[h1,intA_no h1]
   show none=(if (skB l).head?=some 58 then _ else none:Option _).bind endP
   rw[skB_id hb,if_neg (h2.ne 58 (by decide) (by decide))]
   rfl
 | some o =>
   cases o with
   | none =>
     have h1:=optI_no14 ho
     rw[h1,intA_no h1]
     show (match (if l.head?=some 58 then slcB none l 1 else none) with|some p=>some p|none=>none).bind _=(if (skB l).head?=some 58 then some (slcR none (skB l).tail) else none).bind endP
     rw[skB_id hb]
     by_cases h58:l.head?=some 58
     ·rw [if_pos h58,if_pos h58]
      have hs:=slcR_is none l 1
      rw[List.drop_one] at hs
      cases hc:slcB none l 1 with
      | none =>
        rw[hc] at hs
        show none=endP _
        unfold endP
        rw[if_neg hs]
      | some p =>
        obtain ⟨x,j⟩:=p
        rw[hc] at hs
        obtain ⟨e1,e2⟩:=hs
        show endP (x,l.drop j)=endP (slcR none l.tail)
        unfold endP
        rw[← e1,← e2]
     ·rw[if_neg h58,if_neg h58]
      rfl
   | some p =>
     obtain ⟨v,n⟩:=p
     have h1:=optI_yes14 ho
     rw[h1,intA_yes h1]
     have hn:=skB_at l n
     show (match (if (l.drop (n+runB (l.drop n))).head?=some 58 then slcB (some v) l (n+runB (l.drop n)+1) else none) with|some p=>some p|none=>some (sqI v,n)).bind _=(if (skB (l.drop n)).head?=some 58 then some (slcR (some v) (skB (l.drop n)).tail) else some (sqI v,skB (l.drop n))).bind endP
     rw[hn]
     by_cases h58:(skB (l.drop n)).head?=some 58
     ·rw [if_pos h58,if_pos h58]
      have hs:=slcR_is (some v) l (n+runB (l.drop n)+1)
      have ht:l.drop (n+runB (l.drop n)+1)=(skB (l.drop n)).tail:=by rw[← List.tail_drop,hn]
      rw[ht] at hs
      cases hc:slcB (some v) l (n+runB (l.drop n)+1) with
      | none =>
        rw[hc] at hs
        show endP (sqI v,l.drop n)=endP _
        unfold endP
        rw[if_neg hs,if_neg]
        rintro (e|e)<;>(rw[h58] at e;cases e)
      | some p =>
        obtain ⟨x,j⟩:=p
        rw[hc] at hs
        obtain ⟨e1,e2⟩:=hs
        show endP (x,l.drop j)=endP (slcR (some v) (skB (l.drop n)).tail)
        unfold endP
        rw[← e1,← e2]
     ·rw[if_neg h58,if_neg h58]
      show endP (sqI v,l.drop n)=endP (sqI v,skB (l.drop n))
      unfold endP
      rw[skB_skB]
theorem nx_bad {l:List UInt8} {x:Sel} {t:List UInt8} (hv:badU l = -1) (h:nxQ l=some (x,t)):badU t = -1∧EndS t:=by
 unfold nxQ at h
 cases hs:selQ l with
 | none=>rw[hs] at h;cases h
 | some p =>
   rw[hs] at h
   have h:(if EndS (skB (l.drop p.2)) then some (p.1,skB (l.drop p.2)) else none)=some (x,t):=h
   split at h
   ·rename_i he
    injection h with h
    injection h with h1 h2
    rw[← h2]
    refine ⟨?_,he⟩
    rw[← skB_at]
    refine bad_cut hv _ (fun c hc => ?_)
    rw[skB_at] at hc
    rcases he with he|he<;>(rw[he] at hc;obtain rfl:=Option.some.inj hc;decide)
   ·cases h
def brkR:Nat→List UInt8→List Sel→Option (List Sel×List UInt8)
 | 0,_,_=>none
 | f+1,r,acc=>match nxR (skB r) with
   | none=>none
   | some (x,t)=>if t.head?=some 44 then brkR f t.tail (acc++[x]) else some (acc++[x],t.tail)
theorem brkR_on (f:Nat) (r:List UInt8) (acc:List Sel):brkR (f+1) r acc=match nxR (skB r) with
   | none=>none
   | some (x,t)=>if t.head?=some 44 then brkR f t.tail (acc++[x]) else some (acc++[x],t.tail):=rfl
theorem bad_tail_end {t:List UInt8} (h:badU t = -1) (he:EndS t):badU t.tail = -1:=by
 cases t with
 | nil=>exact h
 | cons c u =>
   refine bad_tail h ?_
   rcases he with he|he<;>(obtain rfl:=Option.some.inj he;decide)
theorem brk_eq (l:List UInt8):∀ (f k:Nat) (acc:List Sel),badU (l.drop k) = -1→(brkGo l f k acc).map (fun p=>(p.1,l.drop p.2))=brkR f (l.drop k) acc
 | 0,k,acc,hv=>rfl
 | f + 1,k,acc,hv=>by
   have hs:=skB_at l k
   have hb:=nx_eq (skB (l.drop k)) (bad_skB _ hv) (runB_skB _)
   have hvn:=fun x t=>nx_bad (x:=x) (t:=t) (bad_skB _ hv)
   rw[brkR_on,← hb]
   unfold brkGo
   rw[hs]
   unfold nxQ at hvn ⊢
   cases hq:selQ (skB (l.drop k)) with
   | none=>rfl
   | some p =>
     obtain ⟨x,n⟩:=p
     rw[hq] at hvn
     have hd:(skB (l.drop k)).drop n=l.drop (k+runB (l.drop k)+n):=by rw[← hs,List.drop_drop]
     have ht:=skB_at l (k+runB (l.drop k)+n)
     have ht1:l.drop (k+runB (l.drop k)+n+runB (l.drop (k+runB (l.drop k)+n))+1)=(skB (l.drop (k+runB (l.drop k)+n))).tail:=by rw[← List.tail_drop,ht]
     show Option.map _ (if (l.drop (k+runB (l.drop k)+n+runB (l.drop (k+runB (l.drop k)+n)))).head?=some 93 then _ else if (l.drop (k+runB (l.drop k)+n+runB (l.drop (k+runB (l.drop k)+n)))).head?=some 44 then _ else none)=(match endP (x,(skB (l.drop k)).drop n) with
       | none=>none
       | some (x,t)=>if t.head?=some 44 then brkR f t.tail (acc++[x]) else some (acc++[x],t.tail))
     have hvn:∀ y t,endP (x,(skB (l.drop k)).drop n)=some (y,t)→badU t = -1∧EndS t:=hvn
     unfold endP at hvn ⊢
     rw[hd] at hvn ⊢
     rw[ht]
     generalize skB (l.drop (k+runB (l.drop k)+n))=t at *
     by_cases h93:t.head?=some 93
     ·rw[if_pos h93,if_pos (.inl h93)]
      show some (acc++[x],l.drop _)=if t.head?=some 44 then _ else _
      rw[if_neg (by rw[h93];decide),ht1]
     rw[if_neg h93]
     by_cases h44:t.head?=some 44
     ·rw[if_pos h44,if_pos (.inr h44)]
      obtain ⟨v1,v2⟩:=hvn x t (if_pos (.inr h44))
      have:=brk_eq l f (k+runB (l.drop k)+n+runB (l.drop (k+runB (l.drop k)+n))+1) (acc++[x]) (by rw[ht1];exact bad_tail_end v1 v2)
      rw[ht1] at this
      show _=if t.head?=some 44 then _ else _
      rw[if_pos h44]
      exact this
     ·rw[if_neg h44,if_neg (fun e=>e.elim h93 h44)]
      rfl
theorem brk_bad:∀ (f:Nat) (r:List UInt8) (acc xs:List Sel) (r':List UInt8),badU r = -1→brkR f r acc=some (xs,r')→badU r' = -1
 | 0,r,acc,xs,r',hv,h=>by cases h
 | f + 1,r,acc,xs,r',hv,h=>by
   rw[brkR_on,← nx_eq (skB r) (bad_skB _ hv) (runB_skB _)] at h
   cases hq:nxQ (skB r) with
   | none=>rw[hq] at h;cases h
   | some p =>
     obtain ⟨x,t⟩:=p
     obtain ⟨v1,v2⟩:=nx_bad (bad_skB _ hv) hq
     rw[hq] at h
     have h:(if t.head?=some 44 then brkR f t.tail (acc++[x]) else some (acc++[x],t.tail))=some (xs,r'):=h
     split at h
     ·exact brk_bad f _ _ _ _ (bad_tail_end v1 v2) h
     ·injection h with h
      injection h with h1 h2
      rw[← h2]
      exact bad_tail_end v1 v2
def shtR (l:List UInt8):Option (List Sel×List UInt8) :=
 if l.head?=some 42 then some ([sqA],l.tail) else if plnN false l=0 then none else some ([sqN (l.take (plnN false l))],l.drop (plnN false l))
def brkS (r:List UInt8):Option (List Sel×List UInt8):=brkR (r.length+2) r []
def sgmP (l:List UInt8):Option (Sgm×List UInt8) :=
 if l.take 2=[46,46] then (if (l.drop 2).head?=some 91 then brkS (l.drop 2).tail else shtR (l.drop 2)).map fun p=>(⟨true,p.1⟩,p.2)
 else if l.head?=some 91 then (brkS l.tail).map fun p=>(⟨false,p.1⟩,p.2)
 else if l.head?=some 46 then (shtR l.tail).map fun p=>(⟨false,p.1⟩,p.2)
 else none
theorem brkQ_is (c:UInt8)(r:List UInt8)(hv:badU r = -1):(brkQ (c :: r)).map (fun p=>(p.1,(c :: r).drop p.2))=brkS r:=brk_eq (c :: r) (r.length+2) 1 [] hv
theorem sht_is (l:List UInt8):(if l.head?=some 42 then some ([sqA],1) else if plnN false l=0 then none else some ([sqN (l.take (plnN false l))],plnN false l)).map (fun p=>(p.1,l.drop p.2))=shtR l:=by
 unfold shtR
 by_cases h42:l.head?=some 42
 ·rw[if_pos h42,if_pos h42]
  show some ([sqA],l.drop 1)=_
  rw[List.drop_one]
 rw[if_neg h42,if_neg h42]
 by_cases h0:plnN false l=0
 ·rw[if_pos h0,if_pos h0];rfl
 ·rw[if_neg h0,if_neg h0];rfl
theorem two_dots {l:List UInt8} (h:l.take 2=[46,46]):∃ r,l=46 :: 46 :: r:=by
 cases l with
 | nil=>cases h
 | cons a l =>
   cases l with
   | nil=>cases h
   | cons b r =>
     have h:[a,b]=[46,46]:=h
     injection h with h1 h2
     injection h2 with h2 _
     exact ⟨r,by rw[h1,h2]⟩
theorem sgmq_eq (l:List UInt8) (hv:badU l = -1):(sgmQ l).map (fun p=>(p.1,l.drop p.2))=sgmP l:=by
 have step:∀ (p:Nat) (d:Bool) (o:Option (List Sel×Nat)),((o.map fun q=>((⟨d,q.1⟩:Sgm),p+q.2)).map fun q=>(q.1,l.drop q.2))=(o.map fun q=>(q.1,(l.drop p).drop q.2)).map fun q=>(⟨d,q.1⟩,q.2):=by
   intro p d o
   cases o with
   | none=>rfl
   | some q=>show some (_,l.drop (p+q.2))=some (_,(l.drop p).drop q.2);rw[List.drop_drop]
 unfold sgmQ
 by_cases hd2:l.take 2=[46,46]
 ·obtain ⟨r,rfl⟩:=two_dots hd2
  have hdots:dotsN (46 :: 46 :: r)=2:=rfl
  have hv2:=bad_tail (bad_tail hv (by decide)) (by decide)
  rw[hdots,step 2 (decide (2=2))]
  unfold sgmP
  rw[if_pos hd2]
  show Option.map _ (Option.map _ (sgmR 2 r))=Option.map _ (if r.head?=some 91 then brkS r.tail else shtR r)
  unfold sgmR
  by_cases h91:r.head?=some 91
  ·rw [if_pos ⟨h91,by decide⟩,if_pos h91]
   cases r with
   | nil=>cases h91
   | cons c r =>
     obtain rfl:c=91:=Option.some.inj h91
     have:=brkQ_is 91 r (bad_tail hv2 (by decide))
     show Option.map _ (Option.map (fun (q:List Sel×Nat)=>(q.1,(91 :: r).drop q.2)) (brkQ (91 :: r)))=Option.map _ (brkS r)
     rw[this]
     rfl
  ·rw[if_neg (fun h=>h91 h.1),if_neg (by decide),if_neg h91]
   have:=sht_is r
   show Option.map _ (Option.map (fun (q:List Sel×Nat)=>(q.1,r.drop q.2)) _)=_
   rw[this]
   rfl
 by_cases h46:l.head?=some 46
 ·obtain ⟨r,rfl⟩:∃ r,l=46 :: r:=by
    cases l with
    | nil=>cases h46
    | cons a r=>exact ⟨r,by rw[Option.some.inj h46]⟩
  have hne:r.head?≠some 46:=by
    intro e
    cases r with
    | nil=>cases e
    | cons b r=>obtain rfl:=Option.some.inj e;exact hd2 rfl
  have hdots:dotsN (46 :: r)=1:=by unfold dotsN;rw[if_pos (show (46 :: r).head?=some 46 from rfl)];exact if_neg hne
  rw[hdots,step 1 (decide (1=2))]
  unfold sgmP
  have h91:¬ (46 :: r).head?=some 91:=fun e=>absurd (Option.some.inj e) (by decide)
  rw[if_neg hd2,if_neg h91,if_pos (show (46 :: r).head?=some 46 from rfl)]
  show Option.map _ (Option.map _ (sgmR 1 r))=Option.map _ (shtR r)
  unfold sgmR
  rw[if_neg (fun h=>h.2 rfl),if_neg (by decide)]
  have:=sht_is r
  show Option.map _ (Option.map (fun (q:List Sel×Nat)=>(q.1,r.drop q.2)) _)=_
  rw[this]
  rfl
 have hdots:dotsN l=0:=if_neg h46
 rw[hdots,step 0 (decide (0=2)),List.drop_zero]
 unfold sgmP sgmR
 rw[if_neg hd2,if_neg h46]
 by_cases h91:l.head?=some 91
 ·rw [if_pos (show l.head?=some 91∧0≠1 from ⟨h91,by decide⟩),if_pos h91]
  cases l with
  | nil=>cases h91
  | cons c r =>
    obtain rfl:c=91:=Option.some.inj h91
    have:=brkQ_is 91 r (bad_tail hv (by decide))
    show Option.map _ (Option.map (fun (q:List Sel×Nat)=>(q.1,(91 :: r).drop q.2)) (brkQ (91 :: r)))=Option.map _ (brkS r)
    rw[this]
    rfl
 ·rw[if_neg (show ¬ (l.head?=some 91∧0≠1) from fun h=>h91 h.1),if_neg h91]
  rfl
theorem pln_next:∀ (b:Bool) (l:List UInt8) (c:UInt8),(l.drop (plnN b l)).head?=some c→c.toNat<128
 | b,[],c,h=>by cases h
 | b, a :: t,c,h=>by
   unfold plnN at h
   split at h
   ·exact pln_next true t c h
   ·rename_i hn
    obtain rfl:a=c:=Option.some.inj h
    by_cases h9:128≤a.toNat
    ·exfalso
     refine hn ?_
     unfold firstB
     simp[h9]
    ·omega
theorem sht_bad {l:List UInt8} {xs:List Sel} {r:List UInt8} (hv:badU l = -1) (h:shtR l=some (xs,r)):badU r = -1:=by
 unfold shtR at h
 split at h
 ·rename_i h42
  injection h with h
  injection h with h1 h2
  rw[← h2]
  cases l with
  | nil=>cases h42
  | cons c t=>obtain rfl:=Option.some.inj h42;exact bad_tail hv (by decide)
 split at h
 ·cases h
 ·injection h with h
  injection h with h1 h2
  rw[← h2]
  exact bad_cut hv _ (fun c hc=>pln_next false l c hc)
theorem map_in {α β γ:Type} {o:Option (α×β)} {f:α→γ} {x:γ} {r:β} (h:(o.map fun p=>(f p.1,p.2))=some (x,r)):∃ a,o=some (a,r)∧f a=x:=by
 cases o with
 | none=>cases h
 | some p=>injection h with h;injection h with h1 h2;exact ⟨p.1,by rw[← h2],h1⟩
theorem tail_head {l:List UInt8} {c:UInt8} (hv:badU l = -1) (h:l.head?=some c) (hc:c.toNat<128):badU l.tail = -1:=by
 cases l with
 | nil=>cases h
 | cons d t=>obtain rfl:=Option.some.inj h;exact bad_tail hv hc
theorem sgm_bad {l:List UInt8} {x:Sgm} {r:List UInt8} (hv:badU l = -1) (h:sgmP l=some (x,r)):badU r = -1:=by
 unfold sgmP at h
 split at h
 ·rename_i hd2
  obtain ⟨u,rfl⟩:=two_dots hd2
  have hv2:badU u = -1:=bad_tail (bad_tail hv (by decide)) (by decide)
  obtain ⟨a,h,_⟩:=map_in (f:=fun a=>(⟨true,a⟩:Sgm)) h
  have h:(if u.head?=some 91 then brkS u.tail else shtR u)=some (a,r):=h
  split at h
  ·rename_i h91
   exact brk_bad _ _ _ _ _ (tail_head hv2 h91 (by decide)) h
  ·exact sht_bad hv2 h
 split at h
 ·rename_i h91
  obtain ⟨a,h,_⟩:=map_in (f:=fun a=>(⟨false,a⟩:Sgm)) h
  exact brk_bad _ _ _ _ _ (tail_head hv h91 (by decide)) h
 split at h
 ·rename_i h46
  obtain ⟨a,h,_⟩:=map_in (f:=fun a=>(⟨false,a⟩:Sgm)) h
  exact sht_bad (tail_head hv h46 (by decide)) h
 ·cases h
def queR:Nat→List UInt8→List Sgm→Option (List Sgm)
 | 0,_,_=>none
 | f+1,l,acc=>if l=[] then some acc else match sgmP (skB l) with
   | none=>none
   | some (x,r)=>queR f r (acc++[x])
theorem queR_on (f:Nat) (l:List UInt8) (acc:List Sgm):queR (f+1) l acc=if l=[] then some acc else match sgmP (skB l) with
   | none=>none
   | some (x,r)=>queR f r (acc++[x]):=rfl
theorem que_eq:∀ (f:Nat) (l:List UInt8) (acc:List Sgm),badU l = -1→queGo f l acc=queR f l acc
 | 0,l,acc,hv=>rfl
 | f + 1,l,acc,hv=>by
   have hs:=sgmq_eq (skB l) (bad_skB _ hv)
   have hb:=fun x r=>sgm_bad (x:=x) (r:=r) (bad_skB _ hv)
   rw[queR_on]
   unfold queGo
   split
   ·rfl
   show (match sgmQ (skB l) with
     | none=>none
     | some (x,n)=>queGo f (l.drop (runB l+n)) (acc++[x]))=_
   rw[← hs] at hb ⊢
   cases hq:sgmQ (skB l) with
   | none=>rfl
   | some p =>
     rw[hq] at hb
     have e:l.drop (runB l+p.2)=(skB l).drop p.2:=by unfold skB;rw[List.drop_drop]
     show queGo f (l.drop (runB l+p.2)) (acc++[p.1])=queR f ((skB l).drop p.2) (acc++[p.1])
     rw[e]
     exact que_eq f _ _ (hb p.1 _ rfl)
theorem queQ_is (l:List UInt8):queQ l=if badU l = -1∧l.head?=some 36 then queR (l.length+1) l.tail [] else none:=by
 unfold queQ
 by_cases h:badU l = -1∧l.head?=some 36
 ·rw[if_pos h,if_neg (fun e=>e.elim (fun e=>e h.1) (fun e=>e h.2))]
  exact que_eq _ _ _ (tail_head h.1 h.2 (by decide))
 ·rw[if_neg h,if_pos]
  by_cases h1:badU l = -1
  ·exact .inr (fun e=>h ⟨h1,e⟩)
  ·exact .inl h1
end
section
open Go.RowKit
def fitsB (v:Int):Bool:=decide (-9007199254740991≤v∧v≤9007199254740991)
def goodB (y:Sel):Bool :=
 if y.kind<0∨3<y.kind then false
 else if (y.kind≠0∧y.name.data.toList≠[])∨(y.kind≠2∧y.index≠0) then false
 else if y.kind≠3∧(y.start≠0∨y.en≠0∨y.stride≠0∨y.hs=true∨y.he=true) then false
 else if (y.hs=false∧y.start≠0)∨(y.he=false∧y.en≠0) then false
 else fitsB y.index&&fitsB y.start&&fitsB y.en&&fitsB y.stride&&decide (badU y.name.data.toList = -1)
def rightQ (xs:List Sgm):Bool:=xs.all fun x => !x.sels.isEmpty&&x.sels.all goodB
theorem fits_zero:fitsB 0=true:=by decide
end
section
open Go.RowKit
theorem fits15_any (n:Int) (w:World) :
   Calls Tryz.prog 61 #[.int .i64 n] w fun e w'=>e=.returned (.bool (fitsB n))∧w=w':=by
 unfold fitsB
 by_cases h1:n≤9007199254740991
 ·by_cases h2 : -9007199254740991≤n
  ·rw[decide_eq_true ⟨h2,h1⟩]
   go_enter Tryz.func61,Tryz.ntmps61
   go_wp2
   go_ret
   exact ⟨ret_b (by simp<;>omega),rfl⟩
  ·rw[decide_eq_false (fun h=>h2 h.1)]
   go_enter Tryz.func61,Tryz.ntmps61
   go_wp2
   go_ret
   exact ⟨ret_b (by simp<;>omega),rfl⟩
 ·rw[decide_eq_false (fun h=>h1 h.2)]
  go_enter Tryz.func61,Tryz.ntmps61
  go_wp2
  go_ret
  exact ⟨ret_b (by simp),rfl⟩
end
end Go.Proofs.YtnokhgfifbkflaaGreat
