/- Lemmas. -/
import Derived.Test.YtmgdjlkndbejkaaGreatDoorJ18
set_option maxRecDepth 100000
set_option maxHeartbeats 8000000
set_option linter.unusedVariables false
set_option linter.unusedSimpArgs false
namespace Go.Proofs.YtmgdjlkndbejkaaGreatDoor
open Go.Lib (hid)
section
open Go.RowKit
theorem rsl_none_y_some_y_bad (s:ByteArray) (W:World) (hs:s.size≤1000000) (hA:optI s.data.toList=some none) (hc1:(s.data.toList.drop 0).head?=some 58) (r2 t:Nat) (hr2:runB (s.data.toList.drop 1)=r2) (ht:1+r2=t) (v2:Int) (n2 x r3 u:Nat) (hB:optI (s.data.toList.drop t)=some (some (v2,n2))) (hx:t+n2=x) (hr3:runB (s.data.toList.drop x)=r3) (hu:x+r3=u) (hc2:(s.data.toList.drop u).head?=some 58) (q2 r4 t2:Nat) (hq2':u+1=q2) (hr4:runB (s.data.toList.drop q2)=r4) (ht2:q2+r4=t2) (hC:optI (s.data.toList.drop t2)=none) :
   Calls Tryz.prog 72 #[.string s] W (SlEnd s.data.toList W):=by
 have HQ:=hid (show slcQ s.data.toList=none by
   unfold slcQ
   rw[hA]
   show (if (s.data.toList.drop 0).head?=some 58 then slcB none s.data.toList 1 else none)=_
   rw[if_pos hc1]
   unfold slcB
   rw[hr2,ht,hB]
   show (if (s.data.toList.drop (t+n2+runB (s.data.toList.drop (t+n2)))).head?=some 58 then slcC none (some v2) s.data.toList (t+n2+runB (s.data.toList.drop (t+n2))) else some (sqS none (some v2) 1,t+n2))=_
   rw[hx,hr3,hu,if_pos hc2]
   unfold slcC
   rw[hq2',hr4,ht2,hC])
 have S0:=hid (SlB.start W)
 obtain ⟨hq1,hh1,hd1⟩:=optI_none hA
 have I1:=hid (fun w=>rint_no (s:=s) (by exact hq1) hs w)
 rw[show s.data.toList=s.data.toList.drop 0 from rfl] at hh1 hd1
 have C1:=hid (fun w=>(show Calls Tryz.prog 26 #[.string s,.int .u8 58] w fun e w'=>e=.returned (.bool true)∧w=w' by have h:=begins_any s 58 w hs;rw[show s.data.toList=s.data.toList.drop 0 from rfl,decide_eq_true hc1] at h;exact h))
 have hlt_p:=head_lt hc1
 have hle_1:1≤s.size:=by omega
 have hle_t:t≤s.size:=by have:=runB_in s 1 r2 hle_1 hr2;omega
 have K2:=hid (fun w=>blk_at hle_1 hs hr2 w)
 have sC:(1:Int)≤s.size:=by omega
 have sD:(t:Int)≤s.size:=by omega
 have eC:(1:Int)+r2=t:=by omega
 have hq2:=optI_some hB
 have I2:=hid (fun w=>rint_yes (s:=(s.extract t s.size)) (by rw[tail13 s t hle_t];exact hq2) (by rw[ByteArray.size_extract];omega) w)
 have hn2:=nrQ_in hq2
 rw[List.length_drop] at hn2
 have hn2':n2≤s.size-t:=hn2.2
 have hle_x:x≤s.size:=by omega
 have hle_u:u≤s.size:=by have:=runB_in s x r3 hle_x hr3;omega
 have K3:=hid (fun w=>blk_at hle_x hs hr3 w)
 have sE:(x:Int)≤s.size:=by omega
 have sF:(u:Int)≤s.size:=by omega
 have eD:(t:Int)+n2=x:=by omega
 have eE:(x:Int)+r3=u:=by omega
 have C2:=hid (fun w=>beg_at (s:=s) (p:=u) 58 58 rfl true hle_u hs (decide_eq_true hc2) w)
 have hlt_u:=head_lt hc2
 have hle_q2:q2≤s.size:=by omega
 have hle_t2:t2≤s.size:=by have:=runB_in s q2 r4 hle_q2 hr4;omega
 have K4:=hid (fun w=>blk_at hle_q2 hs hr4 w)
 have sG:(q2:Int)≤s.size:=by omega
 have sH:(t2:Int)≤s.size:=by omega
 have eF:(u:Int)+1=q2:=by omega
 have eG:(q2:Int)+r4=t2:=by omega
 obtain ⟨hq3,hh3⟩:=optI_bad hC
 have I3:=hid (fun w=>rint_no (s:=(s.extract t2 s.size)) (by rw[tail13 s t2 hle_t2];exact hq3) (by rw[ByteArray.size_extract];omega) w)
 have hin1:0<s.size:=hlt_p
 have in1:(0:Int)<s.size:=by omega
 have D1:=hid (fun w=>digit_at hin1 w)
 rw[dig_zero hin1 hd1] at D1
 have g45:((s[0].toNat:Int)==45)=false:=byteI_ne (d:=45) (fun e=>hh1 ((head_at hin1).trans (congrArg some e)))
 rcases hh3 with hh3|hh3
 ·have hin3:=head_lt hh3
  have in3:(t2:Int)<s.size:=by omega
  have B3:=hid (fun w=>beg_at (s:=s) (p:=t2) 45 45 rfl true hle_t2 hs (decide_eq_true hh3) w)
  go_enter Tryz.func72,Tryz.ntmps72
  go_wp2_with (first
    | (go_at_call 26;with_reducible refine (B3.out _).mono ?_;rintro e w' ⟨rfl,rfl⟩)
    | (go_at_call 60;with_reducible refine (D1.out _).mono ?_;rintro e w' ⟨rfl,rfl⟩)
    | (go_at_call 73;with_reducible refine (I3.out _).mono ?_;rintro e w3 ⟨rfl,hb3⟩;have h3:=S2.out.on hb3;clear x34 p34 x36 p36;have x50:=h3.x 0;have p50:=h3.fx 0;have z50:=h3.z 0;have y50:=h3.fz 0;have x51:=h3.x 1;have p51:=h3.fx 1;have z51:=h3.z 1;have y51:=h3.fz 1;have x52:=h3.x 2;have p52:=h3.fx 2;have z52:=h3.z 2;have y52:=h3.fz 2;have x53:=h3.x 3;have p53:=h3.fx 3;have z53:=h3.z 3;have y53:=h3.fz 3;have x54:=h3.x 4;have p54:=h3.fx 4;have z54:=h3.z 4;have y54:=h3.fz 4;have x55:=h3.x 5;have p55:=h3.fx 5;have z55:=h3.z 5;have y55:=h3.fz 5;have x56:=h3.x 6;have p56:=h3.fx 6;have z56:=h3.z 6;have y56:=h3.fz 6;have x57:=h3.x 7;have p57:=h3.fx 7;have z57:=h3.z 7;have y57:=h3.fz 7;simp at x50 z50 x51 z51 x52 z52 x53 z53 x54 z54 x55 z55 x56 z56 x57 z57;have S3:=hid h3;clear h3 hb3)
    | (go_at_call 27;with_reducible refine (K4.out _).mono ?_;rintro e w' ⟨rfl,rfl⟩)
    | (go_at_call 26;with_reducible refine (C2.out _).mono ?_;rintro e w' ⟨rfl,rfl⟩)
    | (go_at_call 27;with_reducible refine (K3.out _).mono ?_;rintro e w' ⟨rfl,rfl⟩)
    | (go_at_call 73;with_reducible refine (I2.out _).mono ?_;rintro e w2 ⟨rfl,hb2⟩;have h2:=S1.out.on hb2;have x34:=h2.x 4;have p34:=h2.fx 4;have x36:=h2.x 6;have p36:=h2.fx 6;simp at x34 x36;have g2:=((h2.put 4 (.int .i64 v2)).put 6 (.bool true));simp at g2;have S2:=hid g2;clear h2 g2 hb2)
    | (go_at_call 27;with_reducible refine (K2.out _).mono ?_;rintro e w' ⟨rfl,rfl⟩)
    | (go_at_call 26;with_reducible refine (C1.out _).mono ?_;rintro e w' ⟨rfl,rfl⟩)
    | (go_at_call 73;with_reducible refine (I1.out _).mono ?_;rintro e w1 ⟨rfl,hb1⟩;have h1:=S0.out.on hb1;have S1:=hid h1;clear h1 hb1))
  have HF:=S3.out.fin (.int .i64 3) (.string ⟨#[]⟩) (.int .i64 0) (.int .i64 0) (.int .i64 v2) (.bool false) (.bool true) (.int .i64 1)
  have m0:=HF.1.at 0
  have m1:=HF.1.at 1
  have m2:=HF.1.at 2
  have m3:=HF.1.at 3
  have m4:=HF.1.at 4
  have m5:=HF.1.at 5
  have m6:=HF.1.at 6
  have m7:=HF.1.at 7
  simp at m0 m1 m2 m3 m4 m5 m6 m7
  refine bodyPost_ret (by simp[results,Tryz.results72,go_sem,m0,m1,m2,m3,m4,m5,m6,m7];try rfl) rfl ?_
  exact SlEnd.no HQ.out HF.2
 ·obtain ⟨hin3,hdg3⟩:=dig_pos hh3
  have in3:(t2:Int)<s.size:=by omega
  have D3:=hid (fun w=>digit_at hin3 w)
  rw[hdg3] at D3
  have B3:=hid (fun w=>beg_at (s:=s) (p:=t2) 45 45 rfl false hle_t2 hs (decide_eq_false (fun e=>by have e2:s[t2]=45:=Option.some.inj ((head_at hin3).symm.trans e);rw[e2] at hdg3;exact absurd hdg3 (by decide))) w)
  go_enter Tryz.func72,Tryz.ntmps72
  go_wp2_with (first
    | (go_at_call 60;with_reducible refine (D3.out _).mono ?_;rintro e w' ⟨rfl,rfl⟩)
    | (go_at_call 26;with_reducible refine (B3.out _).mono ?_;rintro e w' ⟨rfl,rfl⟩)
    | (go_at_call 60;with_reducible refine (D1.out _).mono ?_;rintro e w' ⟨rfl,rfl⟩)
    | (go_at_call 73;with_reducible refine (I3.out _).mono ?_;rintro e w3 ⟨rfl,hb3⟩;have h3:=S2.out.on hb3;clear x34 p34 x36 p36;have x50:=h3.x 0;have p50:=h3.fx 0;have z50:=h3.z 0;have y50:=h3.fz 0;have x51:=h3.x 1;have p51:=h3.fx 1;have z51:=h3.z 1;have y51:=h3.fz 1;have x52:=h3.x 2;have p52:=h3.fx 2;have z52:=h3.z 2;have y52:=h3.fz 2;have x53:=h3.x 3;have p53:=h3.fx 3;have z53:=h3.z 3;have y53:=h3.fz 3;have x54:=h3.x 4;have p54:=h3.fx 4;have z54:=h3.z 4;have y54:=h3.fz 4;have x55:=h3.x 5;have p55:=h3.fx 5;have z55:=h3.z 5;have y55:=h3.fz 5;have x56:=h3.x 6;have p56:=h3.fx 6;have z56:=h3.z 6;have y56:=h3.fz 6;have x57:=h3.x 7;have p57:=h3.fx 7;have z57:=h3.z 7;have y57:=h3.fz 7;simp at x50 z50 x51 z51 x52 z52 x53 z53 x54 z54 x55 z55 x56 z56 x57 z57;have S3:=hid h3;clear h3 hb3)
    | (go_at_call 27;with_reducible refine (K4.out _).mono ?_;rintro e w' ⟨rfl,rfl⟩)
    | (go_at_call 26;with_reducible refine (C2.out _).mono ?_;rintro e w' ⟨rfl,rfl⟩)
    | (go_at_call 27;with_reducible refine (K3.out _).mono ?_;rintro e w' ⟨rfl,rfl⟩)
    | (go_at_call 73;with_reducible refine (I2.out _).mono ?_;rintro e w2 ⟨rfl,hb2⟩;have h2:=S1.out.on hb2;have x34:=h2.x 4;have p34:=h2.fx 4;have x36:=h2.x 6;have p36:=h2.fx 6;simp at x34 x36;have g2:=((h2.put 4 (.int .i64 v2)).put 6 (.bool true));simp at g2;have S2:=hid g2;clear h2 g2 hb2)
    | (go_at_call 27;with_reducible refine (K2.out _).mono ?_;rintro e w' ⟨rfl,rfl⟩)
    | (go_at_call 26;with_reducible refine (C1.out _).mono ?_;rintro e w' ⟨rfl,rfl⟩)
    | (go_at_call 73;with_reducible refine (I1.out _).mono ?_;rintro e w1 ⟨rfl,hb1⟩;have h1:=S0.out.on hb1;have S1:=hid h1;clear h1 hb1))
  have HF:=S3.out.fin (.int .i64 3) (.string ⟨#[]⟩) (.int .i64 0) (.int .i64 0) (.int .i64 v2) (.bool false) (.bool true) (.int .i64 1)
  have m0:=HF.1.at 0
  have m1:=HF.1.at 1
  have m2:=HF.1.at 2
  have m3:=HF.1.at 3
  have m4:=HF.1.at 4
  have m5:=HF.1.at 5
  have m6:=HF.1.at 6
  have m7:=HF.1.at 7
  simp at m0 m1 m2 m3 m4 m5 m6 m7
  refine bodyPost_ret (by simp[results,Tryz.results72,go_sem,m0,m1,m2,m3,m4,m5,m6,m7];try rfl) rfl ?_
  exact SlEnd.no HQ.out HF.2
theorem rsl_none_y_some_y_none (s:ByteArray) (W:World) (hs:s.size≤1000000) (hA:optI s.data.toList=some none) (hc1:(s.data.toList.drop 0).head?=some 58) (r2 t:Nat) (hr2:runB (s.data.toList.drop 1)=r2) (ht:1+r2=t) (v2:Int) (n2 x r3 u:Nat) (hB:optI (s.data.toList.drop t)=some (some (v2,n2))) (hx:t+n2=x) (hr3:runB (s.data.toList.drop x)=r3) (hu:x+r3=u) (hc2:(s.data.toList.drop u).head?=some 58) (q2 r4 t2:Nat) (hq2':u+1=q2) (hr4:runB (s.data.toList.drop q2)=r4) (ht2:q2+r4=t2) (hC:optI (s.data.toList.drop t2)=some none) :
   Calls Tryz.prog 72 #[.string s] W (SlEnd s.data.toList W):=by
 have HQ:=hid (show slcQ s.data.toList=some (sqS none (some v2) 1,q2) by
   unfold slcQ
   rw[hA]
   show (if (s.data.toList.drop 0).head?=some 58 then slcB none s.data.toList 1 else none)=_
   rw[if_pos hc1]
   unfold slcB
   rw[hr2,ht,hB]
   show (if (s.data.toList.drop (t+n2+runB (s.data.toList.drop (t+n2)))).head?=some 58 then slcC none (some v2) s.data.toList (t+n2+runB (s.data.toList.drop (t+n2))) else some (sqS none (some v2) 1,t+n2))=_
   rw[hx,hr3,hu,if_pos hc2]
   unfold slcC
   rw[hq2',hr4,ht2,hC])
 have S0:=hid (SlB.start W)
 obtain ⟨hq1,hh1,hd1⟩:=optI_none hA
 have I1:=hid (fun w=>rint_no (s:=s) (by exact hq1) hs w)
 rw[show s.data.toList=s.data.toList.drop 0 from rfl] at hh1 hd1
 have C1:=hid (fun w=>(show Calls Tryz.prog 26 #[.string s,.int .u8 58] w fun e w'=>e=.returned (.bool true)∧w=w' by have h:=begins_any s 58 w hs;rw[show s.data.toList=s.data.toList.drop 0 from rfl,decide_eq_true hc1] at h;exact h))
 have hlt_p:=head_lt hc1
 have hle_1:1≤s.size:=by omega
 have hle_t:t≤s.size:=by have:=runB_in s 1 r2 hle_1 hr2;omega
 have K2:=hid (fun w=>blk_at hle_1 hs hr2 w)
 have sC:(1:Int)≤s.size:=by omega
 have sD:(t:Int)≤s.size:=by omega
 have eC:(1:Int)+r2=t:=by omega
 have hq2:=optI_some hB
 have I2:=hid (fun w=>rint_yes (s:=(s.extract t s.size)) (by rw[tail13 s t hle_t];exact hq2) (by rw[ByteArray.size_extract];omega) w)
 have hn2:=nrQ_in hq2
 rw[List.length_drop] at hn2
 have hn2':n2≤s.size-t:=hn2.2
 have hle_x:x≤s.size:=by omega
 have hle_u:u≤s.size:=by have:=runB_in s x r3 hle_x hr3;omega
 have K3:=hid (fun w=>blk_at hle_x hs hr3 w)
 have sE:(x:Int)≤s.size:=by omega
 have sF:(u:Int)≤s.size:=by omega
 have eD:(t:Int)+n2=x:=by omega
 have eE:(x:Int)+r3=u:=by omega
 have C2:=hid (fun w=>beg_at (s:=s) (p:=u) 58 58 rfl true hle_u hs (decide_eq_true hc2) w)
 have hlt_u:=head_lt hc2
 have hle_q2:q2≤s.size:=by omega
 have hle_t2:t2≤s.size:=by have:=runB_in s q2 r4 hle_q2 hr4;omega
 have K4:=hid (fun w=>blk_at hle_q2 hs hr4 w)
 have sG:(q2:Int)≤s.size:=by omega
 have sH:(t2:Int)≤s.size:=by omega
 have eF:(u:Int)+1=q2:=by omega
 have eG:(q2:Int)+r4=t2:=by omega
 obtain ⟨hq3,hh3,hd3⟩:=optI_none hC
 have I3:=hid (fun w=>rint_no (s:=(s.extract t2 s.size)) (by rw[tail13 s t2 hle_t2];exact hq3) (by rw[ByteArray.size_extract];omega) w)
 have B3:=hid (fun w=>beg_at (s:=s) (p:=t2) 45 45 rfl false hle_t2 hs (decide_eq_false hh3) w)
 have hin1:0<s.size:=hlt_p
 have in1:(0:Int)<s.size:=by omega
 have D1:=hid (fun w=>digit_at hin1 w)
 rw[dig_zero hin1 hd1] at D1
 have g45:((s[0].toNat:Int)==45)=false:=byteI_ne (d:=45) (fun e=>hh1 ((head_at hin1).trans (congrArg some e)))
 by_cases hin3:t2<s.size
 ·have in3:(t2:Int)<s.size:=by omega
  have D3:=hid (fun w=>digit_at hin3 w)
  rw[dig_zero hin3 hd3] at D3
  go_enter Tryz.func72,Tryz.ntmps72
  go_wp2_with (first
    | (go_at_call 60;with_reducible refine (D3.out _).mono ?_;rintro e w' ⟨rfl,rfl⟩)
    | (go_at_call 60;with_reducible refine (D1.out _).mono ?_;rintro e w' ⟨rfl,rfl⟩)
    | (go_at_call 26;with_reducible refine (B3.out _).mono ?_;rintro e w' ⟨rfl,rfl⟩)
    | (go_at_call 73;with_reducible refine (I3.out _).mono ?_;rintro e w3 ⟨rfl,hb3⟩;have h3:=S2.out.on hb3;clear x34 p34 x36 p36;have x50:=h3.x 0;have p50:=h3.fx 0;have z50:=h3.z 0;have y50:=h3.fz 0;have x51:=h3.x 1;have p51:=h3.fx 1;have z51:=h3.z 1;have y51:=h3.fz 1;have x52:=h3.x 2;have p52:=h3.fx 2;have z52:=h3.z 2;have y52:=h3.fz 2;have x53:=h3.x 3;have p53:=h3.fx 3;have z53:=h3.z 3;have y53:=h3.fz 3;have x54:=h3.x 4;have p54:=h3.fx 4;have z54:=h3.z 4;have y54:=h3.fz 4;have x55:=h3.x 5;have p55:=h3.fx 5;have z55:=h3.z 5;have y55:=h3.fz 5;have x56:=h3.x 6;have p56:=h3.fx 6;have z56:=h3.z 6;have y56:=h3.fz 6;have x57:=h3.x 7;have p57:=h3.fx 7;have z57:=h3.z 7;have y57:=h3.fz 7;simp at x50 z50 x51 z51 x52 z52 x53 z53 x54 z54 x55 z55 x56 z56 x57 z57;have S3:=hid h3;clear h3 hb3)
    | (go_at_call 27;with_reducible refine (K4.out _).mono ?_;rintro e w' ⟨rfl,rfl⟩)
    | (go_at_call 26;with_reducible refine (C2.out _).mono ?_;rintro e w' ⟨rfl,rfl⟩)
    | (go_at_call 27;with_reducible refine (K3.out _).mono ?_;rintro e w' ⟨rfl,rfl⟩)
    | (go_at_call 73;with_reducible refine (I2.out _).mono ?_;rintro e w2 ⟨rfl,hb2⟩;have h2:=S1.out.on hb2;have x34:=h2.x 4;have p34:=h2.fx 4;have x36:=h2.x 6;have p36:=h2.fx 6;simp at x34 x36;have g2:=((h2.put 4 (.int .i64 v2)).put 6 (.bool true));simp at g2;have S2:=hid g2;clear h2 g2 hb2)
    | (go_at_call 27;with_reducible refine (K2.out _).mono ?_;rintro e w' ⟨rfl,rfl⟩)
    | (go_at_call 26;with_reducible refine (C1.out _).mono ?_;rintro e w' ⟨rfl,rfl⟩)
    | (go_at_call 73;with_reducible refine (I1.out _).mono ?_;rintro e w1 ⟨rfl,hb1⟩;have h1:=S0.out.on hb1;have S1:=hid h1;clear h1 hb1))
  have HF:=S3.out.fin (.int .i64 3) (.string ⟨#[]⟩) (.int .i64 0) (.int .i64 0) (.int .i64 v2) (.bool false) (.bool true) (.int .i64 1)
  have m0:=HF.1.at 0
  have m1:=HF.1.at 1
  have m2:=HF.1.at 2
  have m3:=HF.1.at 3
  have m4:=HF.1.at 4
  have m5:=HF.1.at 5
  have m6:=HF.1.at 6
  have m7:=HF.1.at 7
  simp at m0 m1 m2 m3 m4 m5 m6 m7
  refine bodyPost_ret (by simp[results,Tryz.results72,go_sem,m0,m1,m2,m3,m4,m5,m6,m7];try rfl) rfl ?_
  exact SlEnd.yes HQ.out rfl (by omega) HF.2
 ·have in3:¬ (t2:Int)<s.size:=by omega
  go_enter Tryz.func72,Tryz.ntmps72
  go_wp2_with (first
    | (go_at_call 60;with_reducible refine (D1.out _).mono ?_;rintro e w' ⟨rfl,rfl⟩)
    | (go_at_call 26;with_reducible refine (B3.out _).mono ?_;rintro e w' ⟨rfl,rfl⟩)
    | (go_at_call 73;with_reducible refine (I3.out _).mono ?_;rintro e w3 ⟨rfl,hb3⟩;have h3:=S2.out.on hb3;clear x34 p34 x36 p36;have x50:=h3.x 0;have p50:=h3.fx 0;have z50:=h3.z 0;have y50:=h3.fz 0;have x51:=h3.x 1;have p51:=h3.fx 1;have z51:=h3.z 1;have y51:=h3.fz 1;have x52:=h3.x 2;have p52:=h3.fx 2;have z52:=h3.z 2;have y52:=h3.fz 2;have x53:=h3.x 3;have p53:=h3.fx 3;have z53:=h3.z 3;have y53:=h3.fz 3;have x54:=h3.x 4;have p54:=h3.fx 4;have z54:=h3.z 4;have y54:=h3.fz 4;have x55:=h3.x 5;have p55:=h3.fx 5;have z55:=h3.z 5;have y55:=h3.fz 5;have x56:=h3.x 6;have p56:=h3.fx 6;have z56:=h3.z 6;have y56:=h3.fz 6;have x57:=h3.x 7;have p57:=h3.fx 7;have z57:=h3.z 7;have y57:=h3.fz 7;simp at x50 z50 x51 z51 x52 z52 x53 z53 x54 z54 x55 z55 x56 z56 x57 z57;have S3:=hid h3;clear h3 hb3)
    | (go_at_call 27;with_reducible refine (K4.out _).mono ?_;rintro e w' ⟨rfl,rfl⟩)
    | (go_at_call 26;with_reducible refine (C2.out _).mono ?_;rintro e w' ⟨rfl,rfl⟩)
    | (go_at_call 27;with_reducible refine (K3.out _).mono ?_;rintro e w' ⟨rfl,rfl⟩)
    | (go_at_call 73;with_reducible refine (I2.out _).mono ?_;rintro e w2 ⟨rfl,hb2⟩;have h2:=S1.out.on hb2;have x34:=h2.x 4;have p34:=h2.fx 4;have x36:=h2.x 6;have p36:=h2.fx 6;simp at x34 x36;have g2:=((h2.put 4 (.int .i64 v2)).put 6 (.bool true));simp at g2;have S2:=hid g2;clear h2 g2 hb2)
    | (go_at_call 27;with_reducible refine (K2.out _).mono ?_;rintro e w' ⟨rfl,rfl⟩)
    | (go_at_call 26;with_reducible refine (C1.out _).mono ?_;rintro e w' ⟨rfl,rfl⟩)
    | (go_at_call 73;with_reducible refine (I1.out _).mono ?_;rintro e w1 ⟨rfl,hb1⟩;have h1:=S0.out.on hb1;have S1:=hid h1;clear h1 hb1))
  have HF:=S3.out.fin (.int .i64 3) (.string ⟨#[]⟩) (.int .i64 0) (.int .i64 0) (.int .i64 v2) (.bool false) (.bool true) (.int .i64 1)
  have m0:=HF.1.at 0
  have m1:=HF.1.at 1
  have m2:=HF.1.at 2
  have m3:=HF.1.at 3
  have m4:=HF.1.at 4
  have m5:=HF.1.at 5
  have m6:=HF.1.at 6
  have m7:=HF.1.at 7
  simp at m0 m1 m2 m3 m4 m5 m6 m7
  refine bodyPost_ret (by simp[results,Tryz.results72,go_sem,m0,m1,m2,m3,m4,m5,m6,m7];try rfl) rfl ?_
  exact SlEnd.yes HQ.out rfl (by omega) HF.2
theorem rsl_none_y_some_y_some (s:ByteArray) (W:World) (hs:s.size≤1000000) (hA:optI s.data.toList=some none) (hc1:(s.data.toList.drop 0).head?=some 58) (r2 t:Nat) (hr2:runB (s.data.toList.drop 1)=r2) (ht:1+r2=t) (v2:Int) (n2 x r3 u:Nat) (hB:optI (s.data.toList.drop t)=some (some (v2,n2))) (hx:t+n2=x) (hr3:runB (s.data.toList.drop x)=r3) (hu:x+r3=u) (hc2:(s.data.toList.drop u).head?=some 58) (q2 r4 t2:Nat) (hq2':u+1=q2) (hr4:runB (s.data.toList.drop q2)=r4) (ht2:q2+r4=t2) (v3:Int) (n3:Nat) (hC:optI (s.data.toList.drop t2)=some (some (v3,n3))) :
   Calls Tryz.prog 72 #[.string s] W (SlEnd s.data.toList W):=by
 have HQ:=hid (show slcQ s.data.toList=some (sqS none (some v2) v3,t2+n3) by
   unfold slcQ
   rw[hA]
   show (if (s.data.toList.drop 0).head?=some 58 then slcB none s.data.toList 1 else none)=_
   rw[if_pos hc1]
   unfold slcB
   rw[hr2,ht,hB]
   show (if (s.data.toList.drop (t+n2+runB (s.data.toList.drop (t+n2)))).head?=some 58 then slcC none (some v2) s.data.toList (t+n2+runB (s.data.toList.drop (t+n2))) else some (sqS none (some v2) 1,t+n2))=_
   rw[hx,hr3,hu,if_pos hc2]
   unfold slcC
   rw[hq2',hr4,ht2,hC])
 have S0:=hid (SlB.start W)
 obtain ⟨hq1,hh1,hd1⟩:=optI_none hA
 have I1:=hid (fun w=>rint_no (s:=s) (by exact hq1) hs w)
 rw[show s.data.toList=s.data.toList.drop 0 from rfl] at hh1 hd1
 have C1:=hid (fun w=>(show Calls Tryz.prog 26 #[.string s,.int .u8 58] w fun e w'=>e=.returned (.bool true)∧w=w' by have h:=begins_any s 58 w hs;rw[show s.data.toList=s.data.toList.drop 0 from rfl,decide_eq_true hc1] at h;exact h))
 have hlt_p:=head_lt hc1
 have hle_1:1≤s.size:=by omega
 have hle_t:t≤s.size:=by have:=runB_in s 1 r2 hle_1 hr2;omega
 have K2:=hid (fun w=>blk_at hle_1 hs hr2 w)
 have sC:(1:Int)≤s.size:=by omega
 have sD:(t:Int)≤s.size:=by omega
 have eC:(1:Int)+r2=t:=by omega
 have hq2:=optI_some hB
 have I2:=hid (fun w=>rint_yes (s:=(s.extract t s.size)) (by rw[tail13 s t hle_t];exact hq2) (by rw[ByteArray.size_extract];omega) w)
 have hn2:=nrQ_in hq2
 rw[List.length_drop] at hn2
 have hn2':n2≤s.size-t:=hn2.2
 have hle_x:x≤s.size:=by omega
 have hle_u:u≤s.size:=by have:=runB_in s x r3 hle_x hr3;omega
 have K3:=hid (fun w=>blk_at hle_x hs hr3 w)
 have sE:(x:Int)≤s.size:=by omega
 have sF:(u:Int)≤s.size:=by omega
 have eD:(t:Int)+n2=x:=by omega
 have eE:(x:Int)+r3=u:=by omega
 have C2:=hid (fun w=>beg_at (s:=s) (p:=u) 58 58 rfl true hle_u hs (decide_eq_true hc2) w)
 have hlt_u:=head_lt hc2
 have hle_q2:q2≤s.size:=by omega
 have hle_t2:t2≤s.size:=by have:=runB_in s q2 r4 hle_q2 hr4;omega
 have K4:=hid (fun w=>blk_at hle_q2 hs hr4 w)
 have sG:(q2:Int)≤s.size:=by omega
 have sH:(t2:Int)≤s.size:=by omega
 have eF:(u:Int)+1=q2:=by omega
 have eG:(q2:Int)+r4=t2:=by omega
 have hq3:=optI_some hC
 have I3:=hid (fun w=>rint_yes (s:=(s.extract t2 s.size)) (by rw[tail13 s t2 hle_t2];exact hq3) (by rw[ByteArray.size_extract];omega) w)
 have hn3:=nrQ_in hq3
 rw[List.length_drop] at hn3
 have hn3':n3≤s.size-t2:=hn3.2
 have sI:(t2:Int)+n3≤s.size:=by omega
 have hin1:0<s.size:=hlt_p
 have in1:(0:Int)<s.size:=by omega
 have D1:=hid (fun w=>digit_at hin1 w)
 rw[dig_zero hin1 hd1] at D1
 have g45:((s[0].toNat:Int)==45)=false:=byteI_ne (d:=45) (fun e=>hh1 ((head_at hin1).trans (congrArg some e)))
 go_enter Tryz.func72,Tryz.ntmps72
 go_wp2_with (first
   | (go_at_call 60;with_reducible refine (D1.out _).mono ?_;rintro e w' ⟨rfl,rfl⟩)
   | (go_at_call 73;with_reducible refine (I3.out _).mono ?_;rintro e w3 ⟨rfl,hb3⟩;have h3:=S2.out.on hb3;clear x34 p34 x36 p36;have x57:=h3.x 7;have p57:=h3.fx 7;simp at x57;have g3:=(h3.put 7 (.int .i64 v3));simp at g3;have x60:=g3.x 0;have p60:=g3.fx 0;have z60:=g3.z 0;have y60:=g3.fz 0;have x61:=g3.x 1;have p61:=g3.fx 1;have z61:=g3.z 1;have y61:=g3.fz 1;have x62:=g3.x 2;have p62:=g3.fx 2;have z62:=g3.z 2;have y62:=g3.fz 2;have x63:=g3.x 3;have p63:=g3.fx 3;have z63:=g3.z 3;have y63:=g3.fz 3;have x64:=g3.x 4;have p64:=g3.fx 4;have z64:=g3.z 4;have y64:=g3.fz 4;have x65:=g3.x 5;have p65:=g3.fx 5;have z65:=g3.z 5;have y65:=g3.fz 5;have x66:=g3.x 6;have p66:=g3.fx 6;have z66:=g3.z 6;have y66:=g3.fz 6;have x67:=g3.x 7;have p67:=g3.fx 7;have z67:=g3.z 7;have y67:=g3.fz 7;simp at x60 z60 x61 z61 x62 z62 x63 z63 x64 z64 x65 z65 x66 z66 x67 z67;have S3:=hid g3;clear h3 g3 hb3)
   | (go_at_call 27;with_reducible refine (K4.out _).mono ?_;rintro e w' ⟨rfl,rfl⟩)
   | (go_at_call 26;with_reducible refine (C2.out _).mono ?_;rintro e w' ⟨rfl,rfl⟩)
   | (go_at_call 27;with_reducible refine (K3.out _).mono ?_;rintro e w' ⟨rfl,rfl⟩)
   | (go_at_call 73;with_reducible refine (I2.out _).mono ?_;rintro e w2 ⟨rfl,hb2⟩;have h2:=S1.out.on hb2;have x34:=h2.x 4;have p34:=h2.fx 4;have x36:=h2.x 6;have p36:=h2.fx 6;simp at x34 x36;have g2:=((h2.put 4 (.int .i64 v2)).put 6 (.bool true));simp at g2;have S2:=hid g2;clear h2 g2 hb2)
   | (go_at_call 27;with_reducible refine (K2.out _).mono ?_;rintro e w' ⟨rfl,rfl⟩)
   | (go_at_call 26;with_reducible refine (C1.out _).mono ?_;rintro e w' ⟨rfl,rfl⟩)
   | (go_at_call 73;with_reducible refine (I1.out _).mono ?_;rintro e w1 ⟨rfl,hb1⟩;have h1:=S0.out.on hb1;have S1:=hid h1;clear h1 hb1))
 have HF:=S3.out.fin (.int .i64 3) (.string ⟨#[]⟩) (.int .i64 0) (.int .i64 0) (.int .i64 v2) (.bool false) (.bool true) (.int .i64 v3)
 have m0:=HF.1.at 0
 have m1:=HF.1.at 1
 have m2:=HF.1.at 2
 have m3:=HF.1.at 3
 have m4:=HF.1.at 4
 have m5:=HF.1.at 5
 have m6:=HF.1.at 6
 have m7:=HF.1.at 7
 simp at m0 m1 m2 m3 m4 m5 m6 m7
 refine bodyPost_ret (by simp[results,Tryz.results72,go_sem,m0,m1,m2,m3,m4,m5,m6,m7];try rfl) rfl ?_
 exact SlEnd.yes HQ.out rfl (by omega) HF.2
end
end Go.Proofs.YtmgdjlkndbejkaaGreatDoor
