/- Lemmas. -/
import Derived.Test.YtnokhgfifbkflaaGreatJ52
import Derived.Deep.CutRange
import Derived.Lib.AtoiAll
set_option maxRecDepth 100000
set_option maxHeartbeats 8000000
set_option linter.unusedVariables false
namespace Go.Proofs.YtnokhgfifbkflaaGreat
open Go.Lib (hid)
section
open Go.RowKit
theorem rbegins_long (s:ByteArray) (W:World) (n:Nat) (h1:0<s.size) (hr:sizeR s[0].toNat=n) (hn:n<s.size) (hn9:n≤4) :
   Calls Tryz.prog 85 #[.string s] W fun e w'=>e=.returned (.tuple #[.bool false,.bool false,.int .i64 0])∧W=w':=by
 have hs1:=fun w=>rsize_any s[0].toNat w
 rw[hr] at hs1
 have HS:=hid hs1
 have g1:(s.size:Int)>n:=by omega
 clear hs1 hr
 by_cases h0:n=0
 ·subst h0
  go_enter Tryz.func85,Tryz.ntmps85
  go_wp2_with (first|(go_at_call 109;refine (HS.out _).mono ?_;rintro e w' ⟨rfl,rfl⟩))
  go_ret3
  exact ⟨rfl,rfl⟩
 ·have g0:((n:Int)==0)=false:=beq_eq_false_iff_ne.2 (by omega)
  go_enter Tryz.func85,Tryz.ntmps85
  go_wp2_with (first|(go_at_call 109;refine (HS.out _).mono ?_;rintro e w' ⟨rfl,rfl⟩))
  go_ret3
  exact ⟨rfl,rfl⟩
theorem sizeR_is (c:Int):sizeR c=0 ∨ ∃ n:Nat,(n=1∨n=2∨n=3∨n=4)∧sizeR c=n:=by
 unfold sizeR
 split
 ·exact .inr ⟨1,.inl rfl,rfl⟩
 split
 ·exact .inr ⟨2,.inr (.inl rfl),rfl⟩
 split
 ·exact .inr ⟨3,.inr (.inr (.inl rfl)),rfl⟩
 split
 ·exact .inr ⟨4,.inr (.inr (.inr rfl)),rfl⟩
 ·exact .inl rfl
theorem rbegins_any (s:ByteArray) (W:World) (h1:0<s.size) :
   Calls Tryz.prog 85 #[.string s] W fun e w'=>e=.returned (.tuple #[.bool (begR s.data.toList).1,.bool (begR s.data.toList).2.1,.int .i64 (begR s.data.toList).2.2])∧Below W.heap.size W w':=by
 obtain ⟨r,hr⟩:=cons_of s h1
 rcases sizeR_is s[0].toNat with hz|⟨n,hn,hz⟩
 ·have e:=begR_zero s[0] r hz
  rw[← hr] at e
  rw[e]
  exact (rbegins_zero s W h1 hz).mono fun e w' ⟨he,hw⟩=>⟨he,hw▸Below.refl _ _⟩
 ·by_cases hl:s.size≤n
  ·exact rbegins_core s W n hn h1 hl hz
  ·have e:begR s.data.toList=(false,false,0):=by
     have hsz:s.data.toList.length=s.size:=rfl
     rw[hr] at hsz ⊢
     show (if sizeR s[0].toNat=0∨sizeR s[0].toNat<(s[0] :: r).length then ((false,false,0):Bool×Bool×Int) else _)=_
     rw[if_pos (.inr (by rw[hz,hsz];omega))]
   rw[e]
   exact (rbegins_long s W n h1 hz (by omega) (by omega)).mono fun e w' ⟨he,hw⟩=>⟨he,hw▸Below.refl _ _⟩
def stpV (s:Pst):Array Value:=#[.bool s.named,.string ⟨s.name.toArray⟩,.int .i64 s.index]
theorem name_eq (l:List UInt8):((⟨l.toArray⟩:ByteArray).toList==(⟨#[]⟩:ByteArray).toList)=decide (l=[]):=by
 have h1:(⟨l.toArray⟩:ByteArray).toList=l:=by simp
 have h2:(⟨#[]⟩:ByteArray).toList=[]:=by simp
 rw[h1,h2]
 cases l<;>rfl
theorem rright13_any (s:Pst) (W:World) (hs:s.name.length≤maxLen) :
   Calls Tryz.prog 36 #[.agg (stpV s)] W fun e w'=>e=.returned (.bool (rightB s))∧Below W.heap.size W w':=by
 obtain ⟨nd,nm,ix⟩:=s
 have HB:=hid (fun w=>rbad_any ⟨nm.toArray⟩ w (by exact hs))
 rw[show (⟨nm.toArray⟩:ByteArray).data.toList=nm from rfl] at HB
 have HE:=hid (name_eq nm)
 have hr:rightB ⟨nd,nm,ix⟩=if nd then decide (ix=0)&&decide (badU nm = -1) else decide (nm=[])&&decide (0≤ix∧ix≤9007199254740991):=rfl
 rw[hr]
 clear hr
 unfold stpV
 cases nd
 ·show Calls _ _ _ _ fun e w'=>e=.returned (.bool (decide (nm=[])&&decide (0≤ix∧ix≤9007199254740991)))∧_
  by_cases h0:nm=[]
  ·have e1:=HE.out
   rw[decide_eq_true h0] at e1 ⊢
   have hd:(true&&decide (0≤ix∧ix≤9007199254740991))=(decide (0≤ix)&&decide (ix≤9007199254740991)):=by
     by_cases a:0≤ix<;>by_cases b:ix≤9007199254740991<;>simp[a,b]
   rw[hd]
   clear hd HE h0 HB
   generalize (⟨nm.toArray⟩:ByteArray)=nb at *
   go_enter Tryz.func36,Tryz.ntmps36
   go_wp2
   all_goals
     go_ret
     exact ⟨ret_b (by first|(simp_all;done)|(simp_all;omega)),below1 _ _⟩
  ·have e1:=HE.out
   rw[decide_eq_false h0] at e1 ⊢
   clear HE h0 HB
   generalize (⟨nm.toArray⟩:ByteArray)=nb at *
   go_enter Tryz.func36,Tryz.ntmps36
   go_wp2
   all_goals
     go_ret
     exact ⟨ret_b (by first|(simp_all;done)|(simp_all;omega)),below1 _ _⟩
 ·show Calls _ _ _ _ fun e w'=>e=.returned (.bool (decide (ix=0)&&decide (badU nm = -1)))∧_
  clear HE
  generalize badU nm=bu at *
  generalize (⟨nm.toArray⟩:ByteArray)=nb at *
  by_cases h0:ix=0
  ·subst h0
   have hd:(decide ((0:Int)=0)&&decide (bu = -1))=(bu == -1):=by
     by_cases a:bu = -1<;>simp[a]
   rw[hd]
   clear hd
   go_enter Tryz.func36,Tryz.ntmps36
   go_wp2_with (go_at_call 57;refine (HB.out _).mono ?_;rintro e w' ⟨rfl,hb⟩;have HW:=hid ((below1 W _).trans (hb.mono (by simp)));clear hb)
   go_ret
   exact ⟨ret_b (by simp),HW.out⟩
  ·rw[decide_eq_false h0]
   have g0:(ix==0)=false:=beq_eq_false_iff_ne.2 h0
   go_enter Tryz.func36,Tryz.ntmps36
   go_wp2
   go_ret
   exact ⟨ret_b (by simp),below1 _ _⟩
def fromL:List UInt8:=[8,9,10,12,13,39,92]
def toL:List UInt8:=[98,116,110,102,114,39,92]
theorem letters13_any (W:World):Calls Tryz.prog 86 #[] W fun e w'=>e=.returned (.tuple #[.slice (some ⟨W.heap.size,0,none⟩) 7 7,.slice (some ⟨W.heap.size+1,0,none⟩) 7 7]) ∧
   Own w' W.heap.size 5 (byteCells fromL).toArray∧Own w' (W.heap.size+1) 5 (byteCells toL).toArray∧Below W.heap.size W w'∧W.heap.size+1<w'.heap.size:=by
 have o1:=(Own.fresh W 5 (byteCells fromL).toArray).over (.cells (byteCells toL).toArray 5)
 have o2:=Own.fresh (W.alloc (.cells (byteCells fromL).toArray 5)) 5 (byteCells toL).toArray
 have z1:(W.alloc (.cells (byteCells fromL).toArray 5)).heap.size=W.heap.size+1:=by simp
 rw[z1] at o2
 clear z1
 have hb:=below2 W (.cells (byteCells fromL).toArray 5) (.cells (byteCells toL).toArray 5)
 have H:=hid (And.intro o1 (And.intro o2 hb))
 clear o1 o2 hb
 go_enter Tryz.func86,Tryz.ntmps86
 go_wp2
 go_ret2
 exact ⟨rfl,H.out.1,H.out.2.1,H.out.2.2,H.out.2.1.inside⟩
theorem digN_join (n:Nat):(⟨(digN n).toArray⟩:ByteArray)=if n<10 then ⟨#[UInt8.ofNat (48+n)]⟩ else (⟨(digN (n/10)).toArray⟩:ByteArray)++(⟨(digN (n%10)).toArray⟩:ByteArray):=by
 by_cases h:n<10
 ·rw[if_pos h,digN_one n h]
 ·rw[if_neg h,digN_more n h,digN_one (n%10) (by omega)]
  apply ByteArray.ext
  simp
theorem digits13_any:∀ (n:Nat),n≤9007199254740991 → ∀ (W:World),Calls Tryz.prog 38 #[.int .i64 n] W fun e w'=>e=.returned (.string ⟨(digN n).toArray⟩)∧Below W.heap.size W w':=by
 intro n
 induction n using Nat.strongRecOn with
 | ind n ih =>
   intro hn W
   by_cases h:n<10
   ·rw [digN_one n h]
    have hI:(n:Int)<10:=by omega
    have e48:((48+n:Nat):Int)=48+(n:Int):=by omega
    have hcv:(convert 22 9 (.slice (some ⟨W.heap.size,0,none⟩) 1 1)).run Tryz.prog (W.alloc (.cells #[.int .u8 (48+(n:Int))] 5))=.ok (.string ⟨#[UInt8.ofNat (48+n)]⟩) (W.alloc (.cells #[.int .u8 (48+(n:Int))] 5)):=by
      rw[← e48]
      exact Buf.conv (Buf.made W #[.int .u8 ((48+n:Nat):Int)] [UInt8.ofNat (48+n)] (by unfold byteCells;simp only [List.map_cons,List.map_nil];rw[dig_toNat n h]) (by simp[maxLen]) (Nat.le_refl _))
    have hwr:IntKind.u8.wrap (48+(n:Int))=48+(n:Int):=by rw[IntKind.wrap_u8];omega
    generalize (⟨#[UInt8.ofNat (48+n)]⟩:ByteArray)=db at hcv ⊢
    go_enter Tryz.func38,Tryz.ntmps38
    go_wp2
    go_ret
    exact ⟨rfl,below1 _ _⟩
   ·have K1:=hid (fun w=>ih (n/10) (by omega) (by omega) w)
    have K2:=hid (fun w=>ih (n%10) (by omega) (by omega) w)
    have HJ:=hid (digN_join n)
    rw[if_neg h] at HJ
    have hI:¬ (n:Int)<10:=by omega
    rw[show ((n/10:Nat):Int)=(n:Int)/10 by omega] at K1
    rw[show ((n%10:Nat):Int)=(n:Int)%10 by omega] at K2
    rw[HJ.out]
    clear HJ
    have z1:(⟨(digN (n/10)).toArray⟩:ByteArray).size≤16:=digN_len 15 (n/10) (by simp;omega)
    have z2:(⟨(digN (n%10)).toArray⟩:ByteArray).size≤16:=digN_len 15 (n%10) (by simp;omega)
    generalize (⟨(digN (n/10)).toArray⟩:ByteArray)=d1 at *
    generalize (⟨(digN (n%10)).toArray⟩:ByteArray)=d2 at *
    have tok:True:=trivial
    go_enter Tryz.func38,Tryz.ntmps38
    go_wp2_with (first
      | (go_at_call 38;with_reducible refine (K1.out _).mono ?_;rintro e w1 ⟨rfl,hb1⟩)
      | (go_at_call 38;with_reducible refine (K2.out _).mono ?_;rintro e w2 ⟨rfl,hb2⟩))
    go_ret
    exact ⟨rfl,hb1.trans (hb2.mono hb1.size)⟩
end
end Go.Proofs.YtnokhgfifbkflaaGreat
