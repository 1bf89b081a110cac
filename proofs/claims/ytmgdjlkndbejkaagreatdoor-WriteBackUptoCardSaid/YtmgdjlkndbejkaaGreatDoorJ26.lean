/- Lemmas. -/
import Derived.Test.YtmgdjlkndbejkaaGreatDoorJ12
import Derived.Test.YtmgdjlkndbejkaaGreatDoorJ24
import Derived.Test.YtmgdjlkndbejkaaGreatDoorJ15
import Derived.Shelf.Abstract
set_option maxRecDepth 100000
set_option maxHeartbeats 8000000
set_option linter.unusedVariables false
set_option linter.unusedSimpArgs false
namespace Go.Proofs.YtmgdjlkndbejkaaGreatDoor
open Go.Lib (hid)
section
open Go.RowKit Go.Shelf
theorem notSel_any (y:Sel) (w:World) (hz:y.name.size≤maxLen) :
   Calls Tryz.prog 20 #[.agg #[.int .i64 y.kind,.string y.name,.int .i64 y.index,.int .i64 y.start,.int .i64 y.en,.bool y.hs,.bool y.he,.int .i64 y.stride]] w fun e w'=>e=.returned (.bool (!goodB y))∧Below w.heap.size w w':=by
 have K:=hid (fun w=>wright_any y w hz)
 clear hz
 generalize goodB y=g at *
 go_enter Tryz.func20,Tryz.ntmps20
 go_wp2_with (go_at_call 21;refine (K.out _).mono ?_;rintro e w1 ⟨rfl,hb⟩;have HB1:=hid ((below1 w _).trans (hb.mono (by simp)));clear hb)
 go_ret
 exact ⟨ret_b (by simp),HB1.out⟩
def IxEnd {α:Type}(p:α→Bool)(l:List α)(W:World)(e:Ending)(w':World):Prop:=∃ r:Int,e=.returned (.int .i64 r)∧(0≤r↔l.all p=false)∧Below W.heap.size W w'
def RelIx {α:Type}(p:α→Bool)(l:List α)(W:World)(i:Value)(wr:World):Prop:=∃ k:Nat,k≤l.length∧i=.int .i64 k∧(l.take k).all p=true∧Below W.heap.size W wr
theorem ixSel_any (ys:List Sel) (B:Option Addr) (m c:Nat) (W:World) (hx:SRd W B m ys) (h9:ys.length≤1000) (hz:∀ y∈ys,y.name.size≤1000) :
   Calls Tryz.prog 40 #[.slice B m c,.func (.func 20) #[] #[]] W (IxEnd goodB ys W):=by
 have hl:ys.length=m:=hx.1
 have HX:=hid hx
 have HZ:=hid hz
 clear hx hz
 have eg:∀ args w,(callFunc 20 args).run Tryz.prog w=.ok (.enter 20 args) w:=enters_of Tryz.func20 (by kernel_rfl) rfl
 go_enter Tryz.func40,Tryz.ntmps40
 go_wp2
 go_loopw [8] (fun i wr=>RelIx goodB ys W i wr) (fun i _=>ys.length-(intOf i).toNat)
 case atStart=>exact ⟨0,Nat.zero_le _,rfl,rfl,Below.refl _ _⟩
 case round =>
   obtain ⟨k,hk,rfl,ht,hb⟩:=hrel
   have hk9:(k:Int)≤1000:=by omega
   by_cases hlt:k<ys.length
   rotate_left
   ·have q2:¬ (k:Int)<m:=by omega
    have HE:=hid (show ys.all goodB=true by rw[List.take_of_length_le (by omega)] at ht;exact ht)
    clear ht
    go_wp2
    go_ret
    exact ⟨-1,rfl,⟨fun h=>by omega,fun h=>by rw[HE.out] at h;cases h⟩,hb⟩
   have q2:(k:Int)<m:=by omega
   have hX2:=HX.out.stay hb
   obtain ⟨a,rfl,ha,hc⟩:=hX2.2 (by omega)
   obtain ⟨c0,c1,c2,c3,c4,c5,c6,c7⟩:=hc k ys[k] (List.getElem?_eq_getElem hlt)
   have HON:=hid (fun h=>all_snoc hlt ht h)
   have HNO:=hid (fun h=>all_no (p:=goodB) hlt h)
   have KN:=hid (fun w=>notSel_any ys[k] w (Nat.le_trans (HZ.out _ (List.getElem_mem hlt)) (by unfold maxLen;omega)))
   clear hX2 hc ht
   generalize ys[k]=y at *
   cases hg:goodB y
   ·rw[hg] at KN HNO
    have HF:=hid (HNO.out rfl)
    clear HON HNO hg
    go_wp2_with (go_at_fn 20;refine (KN.out _).mono ?_;rintro e w1 ⟨rfl,hb1⟩;have HB1:=hid (hb.trans (hb1.mono hb.size));clear hb1)
    go_ret
    exact ⟨k,rfl,⟨fun _=>HF.out,fun _=>by omega⟩,HB1.out⟩
   ·rw[hg] at KN HON
    have HT:=hid (HON.out rfl)
    clear HON HNO hg
    go_wp2_with (go_at_fn 20;refine (KN.out _).mono ?_;rintro e w1 ⟨rfl,hb1⟩;have HB1:=hid (hb.trans (hb1.mono hb.size));clear hb1)
    go_roundw
    case rel=>exact ⟨k+1,hlt,by go_num,HT.out,HB1.out⟩
    case measure=>simp[intOf];omega
theorem hasSel_any (ys:List Sel) (B:Option Addr) (m c:Nat) (W:World) (hx:SRd W B m ys) (h9:ys.length≤1000) (hz:∀ y∈ys,y.name.size≤1000) :
   Calls Tryz.prog 19 #[.slice B m c,.func (.func 20) #[] #[]] W fun e w'=>e=.returned (.bool (!ys.all goodB))∧Below W.heap.size W w':=by
 have K:=hid (ixSel_any ys B m c W hx h9 hz)
 unfold IxEnd at K
 clear hx h9 hz
 generalize ys.all goodB=g at *
 go_enter Tryz.func19,Tryz.ntmps19
 go_wp2_with (go_at_call 40;refine K.out.mono ?_;rintro e w1 ⟨r,rfl,hr,hb⟩;have HB1:=hid hb;have HR:=hid hr;clear hb hr)
 go_ret
 refine ⟨ret_b ?_,HB1.out⟩
 have:=HR.out
 cases g<;>simp_all
theorem notSgm_any (x:Sgm) (B:Option Addr) (m c:Nat) (w:World) (hx:SRd w B m x.sels) (h9:x.sels.length≤1000) (hz:∀ y∈x.sels,y.name.size≤1000) :
   Calls Tryz.prog 18 #[.agg #[.bool x.deep,.slice B m c]] w fun e w'=>e=.returned (.bool (!okG x))∧Below w.heap.size w w':=by
 have hl:x.sels.length=m:=hx.1
 have hm9:(m:Int)≤1000:=by omega
 have K:=hid (fun o=>hasSel_any x.sels B m c (w.alloc o) (hx.stay (below1 w o)) h9 hz)
 have HE:okG x=(!decide (m=0)&&x.sels.all goodB):=by
   unfold okG
   rw[← hl]
   cases x.sels<;>simp
 rw[HE]
 clear HE hx hz h9
 generalize x.sels.all goodB=g at *
 generalize x.deep=dp at *
 clear hl
 by_cases h0:m=0
 ·subst h0
  clear K
  go_enter Tryz.func18,Tryz.ntmps18
  go_wp2
  go_ret
  exact ⟨ret_b (by simp),below1 _ _⟩
 ·rw[decide_eq_false h0]
  have q:((m:Int)==0)=false:=beq_eq_false_iff_ne.2 (by omega)
  go_enter Tryz.func18,Tryz.ntmps18
  go_wp2_with (go_at_call 19;refine (K.out _).mono ?_;rintro e w1 ⟨rfl,hb⟩;have HB1:=hid ((below1 w _).trans (hb.mono (by simp)));clear hb)
  go_ret
  exact ⟨ret_b (by simp),HB1.out⟩
theorem ixSgm_any (xs:List Sgm) (A:Option Addr) (n c:Nat) (W:World) (hx:QRd W A n xs) (hs:SmQ xs) :
   Calls Tryz.prog 39 #[.slice A n c,.func (.func 18) #[] #[]] W (IxEnd okG xs W):=by
 have hl:xs.length=n:=hx.1
 have h9:=hs.1
 have HX:=hid hx
 have HS:=hid hs.2
 clear hx hs
 have eg:∀ args w,(callFunc 18 args).run Tryz.prog w=.ok (.enter 18 args) w:=enters_of Tryz.func18 (by kernel_rfl) rfl
 go_enter Tryz.func39,Tryz.ntmps39
 go_wp2
 go_loopw [8] (fun i wr=>RelIx okG xs W i wr) (fun i _=>xs.length-(intOf i).toNat)
 case atStart=>exact ⟨0,Nat.zero_le _,rfl,rfl,Below.refl _ _⟩
 case round =>
   obtain ⟨k,hk,rfl,ht,hb⟩:=hrel
   have hk9:(k:Int)≤1000:=by omega
   by_cases hlt:k<xs.length
   rotate_left
   ·have q2:¬ (k:Int)<n:=by omega
    have HE:=hid (show xs.all okG=true by rw[List.take_of_length_le (by omega)] at ht;exact ht)
    clear ht
    go_wp2
    go_ret
    exact ⟨-1,rfl,⟨fun h=>by omega,fun h=>by rw[HE.out] at h;cases h⟩,hb⟩
   have q2:(k:Int)<n:=by omega
   have hX2:=HX.out.stay hb
   obtain ⟨a,rfl,ha,hc⟩:=hX2.2 (by omega)
   obtain ⟨B,m,cc,c0,c1,sr⟩:=hc k xs[k] (List.getElem?_eq_getElem hlt)
   have HON:=hid (fun h=>all_snoc hlt ht h)
   have HNO:=hid (fun h=>all_no (p:=okG) hlt h)
   obtain ⟨z1,z2⟩:=HS.out _ (List.getElem_mem hlt)
   have KN:=hid (notSgm_any xs[k] B m cc wr sr z1 z2)
   clear hX2 hc ht sr z1 z2
   generalize xs[k]=x at *
   cases hg:okG x
   ·rw[hg] at KN HNO
    have HF:=hid (HNO.out rfl)
    clear HON HNO hg
    go_wp2_with (go_at_fn 18;refine KN.out.mono ?_;rintro e w1 ⟨rfl,hb1⟩;have HB1:=hid (hb.trans (hb1.mono hb.size));clear hb1)
    go_ret
    exact ⟨k,rfl,⟨fun _=>HF.out,fun _=>by omega⟩,HB1.out⟩
   ·rw[hg] at KN HON
    have HT:=hid (HON.out rfl)
    clear HON HNO hg
    go_wp2_with (go_at_fn 18;refine KN.out.mono ?_;rintro e w1 ⟨rfl,hb1⟩;have HB1:=hid (hb.trans (hb1.mono hb.size));clear hb1)
    go_roundw
    case rel=>exact ⟨k+1,hlt,by go_num,HT.out,HB1.out⟩
    case measure=>simp[intOf];omega
theorem hasSgm_any (xs:List Sgm) (A:Option Addr) (n c:Nat) (W:World) (hx:QRd W A n xs) (hs:SmQ xs) :
   Calls Tryz.prog 17 #[.slice A n c,.func (.func 18) #[] #[]] W fun e w'=>e=.returned (.bool (!rightQ xs))∧Below W.heap.size W w':=by
 have K:=hid (ixSgm_any xs A n c W hx hs)
 unfold IxEnd at K
 rw[rightQ_is]
 clear hx hs
 generalize xs.all okG=g at *
 go_enter Tryz.func17,Tryz.ntmps17
 go_wp2_with (go_at_call 39;refine K.out.mono ?_;rintro e w1 ⟨r,rfl,hr,hb⟩;have HB1:=hid hb;have HR:=hid hr;clear hb hr)
 go_ret
 refine ⟨ret_b ?_,HB1.out⟩
 have:=HR.out
 cases g<;>simp_all
theorem wright15_any (xs:List Sgm) (A:Option Addr) (n c:Nat) (W:World) (hx:QRd W A n xs) (hs:SmQ xs) :
   Calls Tryz.prog 8 #[.slice A n c] W fun e w'=>e=.returned (.bool (rightQ xs))∧Below W.heap.size W w':=by
 have K:=hid (hasSgm_any xs A n c W hx hs)
 clear hx hs
 generalize rightQ xs=g at *
 go_enter Tryz.func8,Tryz.ntmps8
 go_wp2_with (go_at_call 17;refine K.out.mono ?_;rintro e w1 ⟨rfl,hb⟩;have HB1:=hid hb;clear hb)
 go_ret
 exact ⟨ret_b (by simp),HB1.out⟩
end
section
open Go.RowKit Go.Shelf
def OneEnd {α:Type}(ys zs:List α)(W:World)(e:Ending)(w':World):Prop:=∃ b,e=.returned (.bool b)∧(b=true↔ys=zs)∧Below W.heap.size W w'
theorem eqSel_any (ys zs:List Sel) (B B':Option Addr) (m m' c c':Nat) (W:World) (hx:SRd W B m ys) (hx':SRd W B' m' zs) (h9:ys.length≤1000000) (h9':zs.length≤1000000) :
   Calls Tryz.prog 24 #[.slice B m c,.slice B' m' c'] W (OneEnd ys zs W):=by
 have hl:ys.length=m:=hx.1
 have hl':zs.length=m':=hx'.1
 have HX:=hid hx
 have HX':=hid hx'
 clear hx hx'
 have mI:(m:Int)≤1000000:=by omega
 have mI':(m':Int)≤1000000:=by omega
 by_cases hn:m=m'
 rotate_left
 ·have q:((m:Int) != m')=true:=bne_iff_ne.2 (by omega)
  have HF:=hid (show ¬ ys=zs from fun e=>hn (by rw[← hl,← hl',e]))
  clear hl hl'
  go_enter Tryz.func24,Tryz.ntmps24
  go_wp2
  go_ret
  exact ⟨false,rfl,⟨fun h=>(by cases h),fun h=>absurd h HF.out⟩,Below.refl _ _⟩
 subst hn
 have q:((m:Int) != m)=false:=by simp
 go_enter Tryz.func24,Tryz.ntmps24
 go_wp2
 go_loopw [13] (fun i wr=>RelSi W ys zs i wr) (fun i _=>ys.length-(intOf i).toNat)
 case atStart=>exact ⟨0,Nat.zero_le _,rfl,rfl,Below.refl _ _⟩
 case round =>
   obtain ⟨j,hj,rfl,htj,hbj⟩:=hrel
   by_cases hjl:j<ys.length
   rotate_left
   ·have q3:¬ (j:Int)<m:=by omega
    have HE:=hid (show ys=zs by rw[← List.take_of_length_le (l:=ys) (i:=j) (by omega),htj,List.take_of_length_le (by omega)])
    clear htj
    go_wp2
    go_ret
    exact ⟨true,rfl,⟨fun _=>HE.out,fun _=>rfl⟩,hbj⟩
   have q3:(j:Int)<m:=by omega
   have hk9:(j:Int)≤1000000:=by omega
   have hjl':j<zs.length:=by omega
   have hXj:=HX.out.stay hbj
   have hYj:=HX'.out.stay hbj
   obtain ⟨b2,rfl,hb2',d2⟩:=hXj.2 (by omega)
   obtain ⟨b3,rfl,hb3',d3⟩:=hYj.2 (by omega)
   obtain ⟨w0,w1,w2,w3,w4,w5,w6,w7⟩:=d2 j ys[j] (List.getElem?_eq_getElem hjl)
   obtain ⟨z0,z1,z2,z3,z4,z5,z6,z7⟩:=d3 j zs[j] (List.getElem?_eq_getElem hjl')
   have HJ:=hid (fun h=>take_on hjl hjl' htj h)
   have HJN:=hid (fun h=>at_not hjl hjl' h)
   clear hXj hYj d2 d3 htj
   generalize ys[j]=p at *
   generalize zs[j]=r at *
   by_cases f0:p.kind=r.kind
   rotate_left
   ·have HF:=hid (HJN.out (fun e=>f0 (by rw[e])))
    go_wp2_with fail
    go_region
    all_goals
      go_wp2
      go_ret
      exact ⟨false,rfl,⟨fun h=>(by cases h),fun h=>absurd h HF.out⟩,below_drewN (n:=1) hbj⟩
   by_cases f1:p.name=r.name
   rotate_left
   ·have HF:=hid (HJN.out (fun e=>f1 (by rw[e])))
    have hne:¬ p.name.toList=r.name.toList:=fun e=>f1 (by rw[ByteArray.toList_eq,ByteArray.toList_eq] at e;rw[← ba_list p.name,← ba_list r.name,e])
    go_wp2_with fail
    go_region
    all_goals
      go_wp2
      go_ret
      exact ⟨false,rfl,⟨fun h=>(by cases h),fun h=>absurd h HF.out⟩,below_drewN (n:=1) hbj⟩
   by_cases f2:p.index=r.index
   rotate_left
   ·have HF:=hid (HJN.out (fun e=>f2 (by rw[e])))
    go_wp2_with fail
    go_region
    all_goals
      go_wp2
      go_ret
      exact ⟨false,rfl,⟨fun h=>(by cases h),fun h=>absurd h HF.out⟩,below_drewN (n:=1) hbj⟩
   by_cases f3:p.start=r.start
   rotate_left
   ·have HF:=hid (HJN.out (fun e=>f3 (by rw[e])))
    go_wp2_with fail
    go_region
    all_goals
      go_wp2
      go_ret
      exact ⟨false,rfl,⟨fun h=>(by cases h),fun h=>absurd h HF.out⟩,below_drewN (n:=1) hbj⟩
   by_cases f4:p.en=r.en
   rotate_left
   ·have HF:=hid (HJN.out (fun e=>f4 (by rw[e])))
    go_wp2_with fail
    go_region
    all_goals
      go_wp2
      go_ret
      exact ⟨false,rfl,⟨fun h=>(by cases h),fun h=>absurd h HF.out⟩,below_drewN (n:=1) hbj⟩
   by_cases f5:p.hs=r.hs
   rotate_left
   ·have HF:=hid (HJN.out (fun e=>f5 (by rw[e])))
    go_wp2_with fail
    go_region
    all_goals
      go_wp2
      go_ret
      exact ⟨false,rfl,⟨fun h=>(by cases h),fun h=>absurd h HF.out⟩,below_drewN (n:=1) hbj⟩
   by_cases f6:p.he=r.he
   rotate_left
   ·have HF:=hid (HJN.out (fun e=>f6 (by rw[e])))
    go_wp2_with fail
    go_region
    all_goals
      go_wp2
      go_ret
      exact ⟨false,rfl,⟨fun h=>(by cases h),fun h=>absurd h HF.out⟩,below_drewN (n:=1) hbj⟩
   by_cases f7:p.stride=r.stride
   rotate_left
   ·have HF:=hid (HJN.out (fun e=>f7 (by rw[e])))
    go_wp2_with fail
    go_region
    all_goals
      go_wp2
      go_ret
      exact ⟨false,rfl,⟨fun h=>(by cases h),fun h=>absurd h HF.out⟩,below_drewN (n:=1) hbj⟩
   have HT2:=hid (HJ.out (sel_eq f0 f1 f2 f3 f4 f5 f6 f7))
   go_wp2_with fail
   go_region
   all_goals
     go_wp2
     go_roundw
     case rel=>exact ⟨j+1,hjl,by go_num,HT2.out,below_drewN (n:=1) hbj⟩
     case measure=>simp[intOf];omega
theorem oneSgm_any (x y:Sgm) (B B':Option Addr) (m m' c c':Nat) (w:World) (hx:SRd w B m x.sels) (hy:SRd w B' m' y.sels) (h9:x.sels.length≤1000000) (h9':y.sels.length≤1000000) :
   Calls Tryz.prog 23 #[.agg #[.bool x.deep,.slice B m c],.agg #[.bool y.deep,.slice B' m' c']] w fun e w' => ∃ b,e=.returned (.bool b)∧(b=true↔x=y)∧Below w.heap.size w w':=by
 have K:=hid (fun w2 (hb:Below w.heap.size w w2)=>eqSel_any x.sels y.sels B B' m m' c c' w2 (hx.stay hb) (hy.stay hb) h9 h9')
 unfold OneEnd at K
 clear hx hy h9 h9'
 by_cases h1:x.deep=y.deep
 ·have HY:=hid (show x.sels=y.sels↔x=y from ⟨fun h=>sgm_eq h1 h,fun h=>by rw[h]⟩)
  rw[h1]
  clear h1
  generalize y.deep=d at *
  have q:(d==d)=true:=by simp
  go_enter Tryz.func23,Tryz.ntmps23
  go_wp2_with (go_at_call 24;refine (K.out _ ((below1 w _).alloc (by simp<;>omega) _)).mono ?_;rintro e w1 ⟨b,rfl,hiff,hb⟩;have HB1:=hid (((below1 w _).alloc (by simp<;>omega) _).trans (hb.mono (by simp<;>omega)));have HI:=hid hiff;clear hb hiff)
  all_goals
    go_ret
    exact ⟨_,rfl,HI.out.trans HY.out,HB1.out⟩
 ·have HF:=hid (show ¬ x=y from fun e=>h1 (by rw[e]))
  have q:(x.deep==y.deep)=false:=beq_eq_false_iff_ne.2 h1
  clear h1 K
  generalize x.deep=d1 at *
  generalize y.deep=d2 at *
  go_enter Tryz.func23,Tryz.ntmps23
  go_wp2
  go_ret
  exact ⟨false,by simp[q],⟨fun h=>(by cases h),fun h=>absurd h HF.out⟩,(below1 w _).alloc (by simp) _⟩
theorem eqSgm_any (xs ys:List Sgm) (A A':Option Addr) (n n' c c':Nat) (W:World) (hx:QRd W A n xs) (hx':QRd W A' n' ys) (h9:n≤1000000) (h9':n'≤1000000) (hs9:∀ x∈xs,x.sels.length≤1000000) (ht9:∀ x∈ys,x.sels.length≤1000000) :
   Calls Tryz.prog 22 #[.slice A n c,.slice A' n' c',.func (.func 23) #[] #[]] W (SqEnd xs ys W):=by
 have hl:xs.length=n:=hx.1
 have hl':ys.length=n':=hx'.1
 have HX:=hid hx
 have HX':=hid hx'
 clear hx hx'
 by_cases hn:n=n'
 rotate_left
 ·have q:((n:Int) != n')=true:=bne_iff_ne.2 (by omega)
  have HF:=hid (show ¬ xs=ys from fun e=>hn (by rw[← hl,← hl',e]))
  clear hl hl' hs9 ht9
  go_enter Tryz.func22,Tryz.ntmps22
  go_wp2
  go_ret
  exact ⟨false,rfl,⟨fun h=>(by cases h),fun h=>absurd h HF.out⟩,Below.refl _ _⟩
 subst hn
 have q:((n:Int) != n)=false:=by simp
 have HS:=hid hs9
 have HT:=hid ht9
 clear hs9 ht9
 have eg:∀ args w,(callFunc 23 args).run Tryz.prog w=.ok (.enter 23 args) w:=enters_of Tryz.func23 (by kernel_rfl) rfl
 go_enter Tryz.func22,Tryz.ntmps22
 go_wp2
 go_loopw [17] (fun i wr=>RelSo W xs ys i wr) (fun i _=>xs.length-(intOf i).toNat)
 case atStart=>exact ⟨0,Nat.zero_le _,rfl,rfl,Below.refl _ _⟩
 case round =>
   obtain ⟨k,hk,rfl,ht,hb⟩:=hrel
   by_cases hlt:k<xs.length
   rotate_left
   ·have q2:¬ (k:Int)<n:=by omega
    have HE:=hid (show xs=ys by rw[← List.take_of_length_le (l:=xs) (i:=k) (by omega),ht,List.take_of_length_le (by omega)])
    clear ht
    go_wp2
    go_ret
    exact ⟨true,rfl,⟨fun _=>HE.out,fun _=>rfl⟩,hb⟩
   have q2:(k:Int)<n:=by omega
   have hk9:(k:Int)≤1000000:=by omega
   have hlt':k<ys.length:=by omega
   have hX2:=HX.out.stay hb
   have hX2':=HX'.out.stay hb
   obtain ⟨a,rfl,ha,hc⟩:=hX2.2 (by omega)
   obtain ⟨a',rfl,ha',hc'⟩:=hX2'.2 (by omega)
   obtain ⟨B,m,cc,s0,s1,sr⟩:=hc k xs[k] (List.getElem?_eq_getElem hlt)
   obtain ⟨B',m',cc',t0,t1,tr⟩:=hc' k ys[k] (List.getElem?_eq_getElem hlt')
   have HON:=hid (fun h=>take_on hlt hlt' ht h)
   have HNO:=hid (fun h=>at_not hlt hlt' h)
   have m9:=HS.out _ (List.getElem_mem hlt)
   have m9':=HT.out _ (List.getElem_mem hlt')
   have hbA:∀ o o',Below wr.heap.size wr ((wr.alloc o).alloc o'):=fun o o'=>(below1 wr o).alloc (by simp) o'
   have K:=hid (fun o o'=>oneSgm_any xs[k] ys[k] B B' m m' cc cc' ((wr.alloc o).alloc o') (sr.stay (hbA o o')) (tr.stay (hbA o o')) m9 m9')
   have HBA:=hid hbA
   clear hX2 hX2' hc hc' ht sr tr m9 m9' hbA
   generalize xs[k]=x at *
   generalize ys[k]=y at *
   have t0':∀ o,(wr.alloc o).cell? (a'.add (k*2))=some (.bool y.deep):=fun o=>((below1 wr o).cell (by rw[add_block14];exact ha')).trans t0
   have t1':∀ o,(wr.alloc o).cell? ⟨(a'.add (k*2)).block,(a'.add (k*2)).off+1,none⟩=some (.slice B' m' cc'):=fun o=>((below1 wr o).cell (p:=⟨(a'.add (k*2)).block,(a'.add (k*2)).off+1,none⟩) (by show (a'.add (k*2)).block<_;rw[add_block14];exact ha')).trans t1
   have u0:=t0' (.cells #[.bool x.deep,.slice B m cc] 33)
   have u1:=t1' (.cells #[.bool x.deep,.slice B m cc] 33)
   clear t0' t1' t0 t1
   by_cases hxy:x=y
   ·have HE:=hid (HON.out hxy)
    have HXY:=hid hxy
    clear hxy HON HNO
    go_wp2_with (
      (go_at_fn 23
       go_must (
         refine (K.out _ _).mono ?_
         rintro e w1 ⟨b,rfl,hiff,hb1⟩
         obtain rfl:b=true:=hiff.2 HXY.out
         have HB1:=hid (hb.trans (((HBA.out _ _).trans (hb1.mono (by simp<;>omega))).mono hb.size))
         clear hb1 hiff)))
    go_roundw
    case rel=>exact ⟨k+1,hlt,by go_num,HE.out,HB1.out⟩
    case measure=>simp[intOf];omega
   ·have HF:=hid (HNO.out hxy)
    have HXY:=hid hxy
    clear hxy HON HNO
    go_wp2_with (
      (go_at_fn 23
       go_must (
         refine (K.out _ _).mono ?_
         rintro e w1 ⟨b,rfl,hiff,hb1⟩
         obtain rfl:b=false:=by cases b;rfl;exact absurd (hiff.1 rfl) HXY.out
         have HB1:=hid (hb.trans (((HBA.out _ _).trans (hb1.mono (by simp<;>omega))).mono hb.size))
         clear hb1 hiff)))
    go_ret
    exact ⟨false,rfl,⟨fun h=>(by cases h),fun h=>absurd h HF.out⟩,HB1.out⟩
theorem wsame15_any (xs ys:List Sgm) (A A':Option Addr) (n n' c c':Nat) (W:World) (hx:QRd W A n xs) (hx':QRd W A' n' ys) (h9:n≤1000000) (h9':n'≤1000000) (hs9:∀ x∈xs,x.sels.length≤1000000) (ht9:∀ x∈ys,x.sels.length≤1000000) :
   Calls Tryz.prog 9 #[.slice A n c,.slice A' n' c'] W (SqEnd xs ys W):=by
 have K:=hid (eqSgm_any xs ys A A' n n' c c' W hx hx' h9 h9' hs9 ht9)
 unfold SqEnd at K ⊢
 clear hx hx' h9 h9' hs9 ht9
 go_enter Tryz.func9,Tryz.ntmps9
 go_wp2_with (go_at_call 22;refine K.out.mono ?_;rintro e w1 ⟨b,rfl,hiff,hb⟩;have HB1:=hid hb;have HI:=hid hiff;clear hb hiff)
 all_goals
   go_ret
   exact ⟨_,rfl,HI.out,HB1.out⟩
end
end Go.Proofs.YtmgdjlkndbejkaaGreatDoor
