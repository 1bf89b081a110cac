/- Lemmas. -/
import Derived.Test.YtnokhgfifbkflaaGreatJ08
import Derived.Deep.CutBlock
import Derived.Deep.RegionHeld3
import Derived.Handy
import Derived.Lib.AtoiAll
import Derived.Lib.AtoiErrMem
set_option maxRecDepth 100000
set_option maxHeartbeats 8000000
set_option linter.unusedVariables false
namespace Go.Proofs.YtnokhgfifbkflaaGreat
open Go.Lib (hid)
section
open Go.RowKit
theorem digL_at (l:List UInt8) (k:Nat) (h:k<l.length):digL (l.drop k)=if isDigitI l[k].toNat then digL (l.drop (k+1))+1 else 0:=by
 rw[List.drop_eq_getElem_cons h];rfl
def RelDig (s:ByteArray) (W wr:World) (i:Value):Prop :=
 ∃ k:Nat,k≤s.size∧i=.int .i64 k∧W=wr∧digL s.data.toList=k+digL (s.data.toList.drop k)
theorem rdigits_any (s:ByteArray) (W:World) (hs:s.size≤100000) :
   Calls Tryz.prog 127 #[.string s] W fun e w'=>e=.returned (.int .i64 (digL s.data.toList))∧W=w':=by
 go_enter Tryz.func127,Tryz.ntmps127
 go_wp2
 go_loopw [3] (fun i wr=>RelDig s W wr i) (fun i _=>s.size-(intOf i).toNat)
 case atStart=>exact ⟨0,Nat.zero_le _,rfl,rfl,by simp⟩
 case round =>
   obtain ⟨k,hk,rfl,rfl,hrun⟩:=hrel
   by_cases hlt:k<s.size
   ·have hl:k<s.data.toList.length:=hlt
    rw[digL_at _ _ hl,show s.data.toList[k]=s[k] from rfl] at hrun
    have HG:=hid (rdigit_any s[k].toNat)
    have HR:=hid hrun
    clear hrun
    generalize isDigitI s[k].toNat=d at *
    cases d
    ·go_wp2_with (go_at_call 111;refine (HG.out _).mono ?_;rintro e w' ⟨rfl,rfl⟩)
     go_ret
     exact ⟨ret_i (by have:=HR.out;simp at this;omega),rfl⟩
    ·go_wp2_with (go_at_call 111;refine (HG.out _).mono ?_;rintro e w' ⟨rfl,rfl⟩)
     go_roundw
     case rel=>exact ⟨k+1,hlt,by go_num,rfl,by have:=HR.out;simp at this;omega⟩
     case measure=>simp[intOf];omega
   ·obtain rfl:k=s.size:=by omega
    rw[show s.data.toList.drop s.size=[] from List.drop_of_length_le (Nat.le_refl _)] at hrun
    have HR:=hid hrun
    clear hrun
    go_wp2
    go_ret
    exact ⟨ret_i (by rw[HR.out];simp[digL]),rfl⟩
theorem hd_some (s:ByteArray) (h:0<s.size) (c:Int):hdIs s.data.toList c=decide ((s[0].toNat:Int)=c):=by
 have hl:0<s.data.toList.length:=h
 have e:s.data.toList=s[0] :: s.data.toList.drop 1:=by
   have:=List.drop_eq_getElem_cons hl
   rw[List.drop_zero] at this
   exact this
 rw[e];rfl
theorem hd_none (s:ByteArray) (h:s.size=0) (c:Int):hdIs s.data.toList c=false:=by
 have e:s.data.toList=[]:=List.eq_nil_of_length_eq_zero h
 rw[e];rfl
theorem tail_is (s:ByteArray) (k:Nat):(s.extract k s.size).data.toList=s.data.toList.drop k∧(s.extract k s.size).size=s.size-k:=by
 refine ⟨?_,by simp⟩
 rw[ByteArray.data_extract,Array.toList_extract,List.extract_eq_take_drop]
 exact List.take_of_length_le (by simp)
theorem rdigits_tail (s:ByteArray) (k:Nat) (hs:s.size≤100000) (w:World) :
   Calls Tryz.prog 127 #[.string (s.extract k s.size)] w fun e w'=>e=.returned (.int .i64 (digL (s.data.toList.drop k)))∧w=w':=by
 have h:=rdigits_any (s.extract k s.size) w (by simp;omega)
 rw[(tail_is s k).1] at h
 exact h
theorem intR_is (l:List UInt8) {n:Nat} (hn:digL l=n) {b:Bool} (hb:decide (n=0∨1<n∧hdIs l 48=true)=b):intR l=if b then false else pointR (l.drop n):=by
 unfold intR
 rw[hn]
 cases b
 ·rw[if_neg (of_decide_eq_false hb),if_neg (by decide)]
 ·rw[if_pos (of_decide_eq_true hb),if_pos rfl]
theorem ris_any (s:ByteArray) (W:World) (hs:s.size≤100000) :
   Calls Tryz.prog 115 #[.string s] W fun e w'=>e=.returned (.bool (isR s.data.toList))∧W=w':=by
 obtain ⟨v,hv⟩:∃ v,isR s.data.toList=v:=⟨_,rfl⟩
 rw[hv]
 have hsl:s.data.toList.length=s.size:=rfl
 go_enter Tryz.func115,Tryz.ntmps115
 go_upto_region 1 with fail
 go_cut [11] from 4 (fun x w=>x=.bool (hdIs s.data.toList 45)∧w=W)
 case first =>
   by_cases h0:0<s.size
   ·have hh:=hd_some s h0 45
    by_cases h45:(s[0].toNat:Int)=45
    all_goals
      go_wp2
      go_meet
      case rel=>exact ⟨by rw[hh];simp[h45],rfl⟩
   ·have hh:=hd_none s (by omega) 45
    go_wp2
    go_meet
    case rel=>exact ⟨by rw[hh],rfl⟩
 case rest =>
 obtain ⟨rfl,rfl⟩:=hcut
 unfold isR at hv
 have hpos:hdIs s.data.toList 45=true→0<s.size:=fun e=>by
   by_cases h0:0<s.size
   ·exact h0
   ·rw[hd_none s (by omega) 45] at e;cases e
 generalize hdIs s.data.toList 45=m at *
 go_upto_if 11 with fail
 go_cut [0] from 4 (fun x w => ∃ t:ByteArray,x=.string t∧t.size≤100000∧intR t.data.toList=v∧w=wc)
 case first =>
   cases m
   ·go_wp2
    go_meet
    case rel=>exact ⟨s,rfl,hs,hv,rfl⟩
   ·have h1:0<s.size:=hpos rfl
    have hv':intR (s.data.toList.drop 1)=v:=hv
    clear hv hpos
    go_wp2
    go_meet
    case rel=>exact ⟨_,rfl,by simp;omega,by rw[(tail_is s 1).1];exact hv',rfl⟩
 case rest =>
 clear hv hpos hs hsl
 obtain ⟨t,rfl,hs,hv,rfl⟩:=hcut
 have hnl:digL t.data.toList≤t.size:=digL_le _
 obtain ⟨n,hn⟩:∃ n,digL t.data.toList=n:=⟨_,rfl⟩
 have HD:=rdigits_any t wc hs
 rw[hn] at HD hnl
 have HD:=hid HD
 go_upto_region 4 with (go_at_call 127;refine HD.out.mono ?_;rintro e w' ⟨rfl,rfl⟩)
 go_cut [26] from 4 (fun x w=>x=.bool (decide (n=0∨1<n∧hdIs t.data.toList 48=true))∧w=wc)
 case first =>
   clear hn hv HD
   by_cases hz:n=0
   ·subst hz
    go_wp2
    go_meet
    case rel=>exact ⟨by simp,rfl⟩
   ·have h0:0<t.size:=by omega
    have hh:=hd_some t h0 48
    by_cases h1:n=1
    ·subst h1
     go_wp2
     go_meet
     case rel=>exact ⟨by simp,rfl⟩
    ·have h2:1<n:=by omega
     have h2':(1:Int)<n:=by omega
     by_cases h48:(t[0].toNat:Int)=48
     all_goals
       go_wp2
       go_meet
       case rel=>exact ⟨by rw[hh];simp[h48,hz,h2],rfl⟩
 case rest =>
 obtain ⟨rfl,rfl⟩:=hcut
 obtain ⟨b,hb⟩:∃ b,decide (n=0∨1<n∧hdIs t.data.toList 48=true)=b:=⟨_,rfl⟩
 rw[intR_is _ hn hb] at hv
 rw[hb]
 clear hb hn HD
 cases b
 case true =>
   subst hv
   go_wp2
   go_ret
   exact ⟨rfl,rfl⟩
 rw[if_neg (by decide)] at hv
 go_upto_region 7 with fail
 obtain ⟨hu1,hu2⟩:=tail_is t n
 rw[← hu1] at hv
 generalize t.extract n t.size=u at *
 have hus:u.size≤100000:=by omega
 clear hu1 hu2 hnl hs
 go_cut [37] from 4 (fun x w=>x=.bool (hdIs u.data.toList 46)∧w=wc)
 case first =>
   by_cases h0:0<u.size
   ·have hh:=hd_some u h0 46
    by_cases h46:(u[0].toNat:Int)=46
    all_goals
      go_wp2
      go_meet
      case rel=>exact ⟨by rw[hh];simp[h46],rfl⟩
   ·have hh:=hd_none u (by omega) 46
    go_wp2
    go_meet
    case rel=>exact ⟨by rw[hh],rfl⟩
 case rest =>
 obtain ⟨rfl,rfl⟩:=hcut
 unfold pointR at hv
 have hpos:hdIs u.data.toList 46=true→0<u.size:=fun e=>by
   by_cases h0:0<u.size
   ·exact h0
   ·rw[hd_none u (by omega) 46] at e;cases e
 generalize hdIs u.data.toList 46=m at *
 go_upto_if 37 with fail
 go_cut [0] from 4 (fun x w => ∃ y:ByteArray,x=.string y∧y.size≤100000∧tailR y.data.toList=v∧w=wc)
 case first =>
   cases m
   ·go_wp2
    go_meet
    case rel=>exact ⟨u,rfl,hus,hv,rfl⟩
   ·have h1:0<u.size:=hpos rfl
    have hv':fracR (u.data.toList.drop 1)=v:=hv
    have HD:=rdigits_tail u 1 hus wc
    have hkl:digL (u.data.toList.drop 1)≤u.size-1:=by
      have:=digL_le (u.data.toList.drop 1)
      simpa using this
    unfold fracR at hv'
    obtain ⟨k,hk⟩:∃ k,digL (u.data.toList.drop 1)=k:=⟨_,rfl⟩
    rw[hk] at HD hkl hv'
    have HD:=hid HD
    have HV:=hid hv'
    clear hv hpos hv' hk
    by_cases hz:k=0
    ·subst hz
     go_wp2_with (go_at_call 127;refine HD.out.mono ?_;rintro e w' ⟨rfl,rfl⟩)
     go_ret
     exact ⟨ret_b HV.out,rfl⟩
    ·have hz':((k:Int)==0)=false:=beq_eq_false_iff_ne.2 (by omega)
     have hk1:1+k≤u.size:=by omega
     go_wp2_with (go_at_call 127;refine HD.out.mono ?_;rintro e w' ⟨rfl,rfl⟩)
     go_meet
     case rel=>exact ⟨_,rfl,by simp;omega,by have:=HV.out;rw[if_neg hz,List.drop_drop] at this;rw[(tail_is u (1+k)).1];exact this,rfl⟩
 case rest =>
 clear hv hpos hus
 obtain ⟨y,rfl,hs,hv,rfl⟩:=hcut
 unfold tailR at hv
 by_cases h0:0<y.size
 case neg =>
   have hz:y.size=0:=by omega
   have HV:=hid (show true=v by rw[if_pos (show y.data.toList.length=0 from hz)] at hv;exact hv)
   clear hv
   go_wp2
   go_ret
   exact ⟨ret_b HV.out,rfl⟩
 rw[if_neg (show ¬ y.data.toList.length=0 from by have:y.data.toList.length=y.size:=rfl;omega)] at hv
 have h0':((y.size:Int)==0)=false:=beq_eq_false_iff_ne.2 (by omega)
 go_upto_region 14 with fail
 go_cut [57] from 4 (fun x w=>x=.bool (!(hdIs y.data.toList 101||hdIs y.data.toList 69))∧w=wc)
 case first =>
   have hh1:=hd_some y h0 101
   have hh2:=hd_some y h0 69
   by_cases h1:(y[0].toNat:Int)=101
   ·go_wp2
    go_meet
    case rel=>exact ⟨by rw[hh1];simp[h1],rfl⟩
   ·by_cases h2:(y[0].toNat:Int)=69
    all_goals
      go_wp2
      go_meet
      case rel=>exact ⟨by rw[hh1,hh2];simp[h1,h2],rfl⟩
 case rest =>
 obtain ⟨rfl,rfl⟩:=hcut
 generalize (hdIs y.data.toList 101||hdIs y.data.toList 69)=b at *
 cases b
 case false =>
   have HV:=hid (show false=v from hv)
   clear hv
   go_wp2
   go_ret
   exact ⟨ret_b HV.out,rfl⟩
 have hv1:signR (y.data.toList.drop 1)=v:=hv
 clear hv
 go_upto_region 17 with fail
 obtain ⟨hu1,hu2⟩:=tail_is y 1
 rw[← hu1] at hv1
 generalize y.extract 1 y.size=z at *
 have hzs:z.size≤100000:=by omega
 clear hu1 hu2 hs h0 h0'
 go_cut [72] from 4 (fun x w=>x=.bool (hdIs z.data.toList 43||hdIs z.data.toList 45)∧w=wc)
 case first =>
   by_cases h0:0<z.size
   ·have hh1:=hd_some z h0 43
    have hh2:=hd_some z h0 45
    by_cases h1:(z[0].toNat:Int)=43
    ·go_wp2
     go_meet
     case rel=>exact ⟨by rw[hh1];simp[h1],rfl⟩
    ·by_cases h2:(z[0].toNat:Int)=45
     all_goals
       go_wp2
       go_meet
       case rel=>exact ⟨by rw[hh1,hh2];simp[h1,h2],rfl⟩
   ·have hh1:=hd_none z (by omega) 43
    have hh2:=hd_none z (by omega) 45
    go_wp2
    go_meet
    case rel=>exact ⟨by rw[hh1,hh2];rfl,rfl⟩
 case rest =>
 obtain ⟨rfl,rfl⟩:=hcut
 unfold signR at hv1
 have hpos:(hdIs z.data.toList 43||hdIs z.data.toList 45)=true→0<z.size:=fun e=>by
   by_cases h0:0<z.size
   ·exact h0
   ·rw[hd_none z (by omega) 43,hd_none z (by omega) 45] at e;cases e
 generalize (hdIs z.data.toList 43||hdIs z.data.toList 45)=m at *
 go_upto_if 72 with fail
 go_cut [0] from 4 (fun x w => ∃ t:ByteArray,x=.string t∧t.size≤100000∧expR t.data.toList=v∧w=wc)
 case first =>
   cases m
   ·go_wp2
    go_meet
    case rel=>exact ⟨z,rfl,hzs,hv1,rfl⟩
   ·have h1:0<z.size:=hpos rfl
    have hv':expR (z.data.toList.drop 1)=v:=hv1
    clear hv1 hpos
    go_wp2
    go_meet
    case rel=>exact ⟨_,rfl,by simp;omega,by rw[(tail_is z 1).1];exact hv',rfl⟩
 case rest =>
 clear hv1 hpos hzs
 obtain ⟨t,rfl,hs,hv,rfl⟩:=hcut
 have HD:=hid (rdigits_any t wc hs)
 have HV:=hid (show decide (0<t.size∧digL t.data.toList=t.size)=v from hv)
 have hle:digL t.data.toList≤t.size:=digL_le _
 clear hv
 generalize digL t.data.toList=k at *
 by_cases h0:0<t.size
 ·go_wp2_with (go_at_call 127;refine HD.out.mono ?_;rintro e w' ⟨rfl,rfl⟩)
  go_ret
  exact ⟨ret_b (by rw[← HV.out,Bool.eq_iff_iff];simp;omega),rfl⟩
 ·go_wp2
  go_ret
  exact ⟨ret_b (by rw[← HV.out];simp[h0]),rfl⟩
end
end Go.Proofs.YtnokhgfifbkflaaGreat
