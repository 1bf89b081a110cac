/- Lemmas. -/
import Derived.Test.YtmgdjlkndbejkaaGreatDoorJ18
set_option maxRecDepth 100000
set_option maxHeartbeats 8000000
set_option linter.unusedVariables false
set_option linter.unusedSimpArgs false
namespace Go.Proofs.YtmgdjlkndbejkaaGreatDoor
open Go.Lib (hid)
section
open Go.RowKit
theorem rsl_some_y_none_y_bad (s:ByteArray) (W:World) (hs:s.size≤1000000) (v1:Int) (n1 r1 p:Nat) (hA:optI s.data.toList=some (some (v1,n1))) (hr1:runB (s.data.toList.drop n1)=r1) (hp:n1+r1=p) (hc1:(s.data.toList.drop p).head?=some 58) (q r2 t:Nat) (hq:p+1=q) (hr2:runB (s.data.toList.drop q)=r2) (ht:q+r2=t) (hB:optI (s.data.toList.drop t)=some none) (hc2:(s.data.toList.drop t).head?=some 58) (q2 r4 t2:Nat) (hq2':t+1=q2) (hr4:runB (s.data.toList.drop q2)=r4) (ht2:q2+r4=t2) (hC:optI (s.data.toList.drop t2)=none) :
   Calls Tryz.prog 72 #[.string s] W (SlEnd s.data.toList W):=by
 have HQ:=hid (show slcQ s.data.toList=none by
   unfold slcQ
   rw[hA]
   show (if (s.data.toList.drop (n1+runB (s.data.toList.drop n1))).head?=some 58 then slcB (some v1) s.data.toList (n1+runB (s.data.toList.drop n1)+1) else none)=_
   rw[hr1,hp,if_pos hc1]
   rw[hq]
   unfold slcB
   rw[hr2,ht,hB]
   show (if (s.data.toList.drop t).head?=some 58 then slcC (some v1) none s.data.toList t else some (sqS (some v1) none 1,q))=_
   rw[if_pos hc2]
   unfold slcC
   rw[hq2',hr4,ht2,hC])
 have S0:=hid (SlB.start W)
 have hq1:=optI_some hA
 have I1:=hid (fun w=>rint_yes (s:=s) (by exact hq1) hs w)
 have hn1:=nrQ_in hq1
 have hle_n1:n1≤s.size:=hn1.2
 have hle_p:p≤s.size:=by have:=runB_in s n1 r1 hle_n1 hr1;omega
 have K1:=hid (fun w=>blk_at hle_n1 hs hr1 w)
 have sA:(n1:Int)≤s.size:=by omega
 have sB:(p:Int)≤s.size:=by omega
 have eA:(n1:Int)+r1=p:=by omega
 have C1:=hid (fun w=>beg_at (s:=s) (p:=p) 58 58 rfl true hle_p hs (decide_eq_true hc1) w)
 have hlt_p:=head_lt hc1
 have hle_q:q≤s.size:=by omega
 have hle_t:t≤s.size:=by have:=runB_in s q r2 hle_q hr2;omega
 have K2:=hid (fun w=>blk_at hle_q hs hr2 w)
 have sC:(q:Int)≤s.size:=by omega
 have sD:(t:Int)≤s.size:=by omega
 have eC:(q:Int)+r2=t:=by omega
 have eB:(p:Int)+1=q:=by omega
 obtain ⟨hq2,hh2,hd2⟩:=optI_none hB
 have I2:=hid (fun w=>rint_no (s:=(s.extract t s.size)) (by rw[tail13 s t hle_t];exact hq2) (by rw[ByteArray.size_extract];omega) w)
 have B2:=hid (fun w=>beg_at (s:=s) (p:=t) 45 45 rfl false hle_t hs (decide_eq_false hh2) w)
 have C2:=hid (fun w=>beg_at (s:=s) (p:=t) 58 58 rfl true hle_t hs (decide_eq_true hc2) w)
 have hlt_u:=head_lt hc2
 have hle_q2:q2≤s.size:=by omega
 have hle_t2:t2≤s.size:=by have:=runB_in s q2 r4 hle_q2 hr4;omega
 have K4:=hid (fun w=>blk_at hle_q2 hs hr4 w)
 have sG:(q2:Int)≤s.size:=by omega
 have sH:(t2:Int)≤s.size:=by omega
 have eF:(t:Int)+1=q2:=by omega
 have eG:(q2:Int)+r4=t2:=by omega
 obtain ⟨hq3,hh3⟩:=optI_bad hC
 have I3:=hid (fun w=>rint_no (s:=(s.extract t2 s.size)) (by rw[tail13 s t2 hle_t2];exact hq3) (by rw[ByteArray.size_extract];omega) w)
 have hin2:t<s.size:=hlt_u
 have in2:(t:Int)<s.size:=by omega
 have D2:=hid (fun w=>digit_at hin2 w)
 rw[dig_zero hin2 hd2] at D2
 rcases hh3 with hh3|hh3
 ·have hin3:=head_lt hh3
  have in3:(t2:Int)<s.size:=by omega
  have B3:=hid (fun w=>beg_at (s:=s) (p:=t2) 45 45 rfl true hle_t2 hs (decide_eq_true hh3) w)
  go_enter Tryz.func72,Tryz.ntmps72
  go_wp2_with (first
    | (go_at_call 26;with_reducible refine (B3.out _).mono ?_;rintro e w' ⟨rfl,rfl⟩)
    | (go_at_call 60;with_reducible refine (D2.out _).mono ?_;rintro e w' ⟨rfl,rfl⟩)
    | (go_at_call 73;with_reducible refine (I3.out _).mono ?_;rintro e w3 ⟨rfl,hb3⟩;have h3:=S2.out.on hb3;have x50:=h3.x 0;have p50:=h3.fx 0;have z50:=h3.z 0;have y50:=h3.fz 0;have x51:=h3.x 1;have p51:=h3.fx 1;have z51:=h3.z 1;have y51:=h3.fz 1;have x52:=h3.x 2;have p52:=h3.fx 2;have z52:=h3.z 2;have y52:=h3.fz 2;have x53:=h3.x 3;have p53:=h3.fx 3;have z53:=h3.z 3;have y53:=h3.fz 3;have x54:=h3.x 4;have p54:=h3.fx 4;have z54:=h3.z 4;have y54:=h3.fz 4;have x55:=h3.x 5;have p55:=h3.fx 5;have z55:=h3.z 5;have y55:=h3.fz 5;have x56:=h3.x 6;have p56:=h3.fx 6;have z56:=h3.z 6;have y56:=h3.fz 6;have x57:=h3.x 7;have p57:=h3.fx 7;have z57:=h3.z 7;have y57:=h3.fz 7;simp at x50 z50 x51 z51 x52 z52 x53 z53 x54 z54 x55 z55 x56 z56 x57 z57;have S3:=hid h3;clear h3 hb3)
    | (go_at_call 27;with_reducible refine (K4.out _).mono ?_;rintro e w' ⟨rfl,rfl⟩)
    | (go_at_call 26;with_reducible refine (C2.out _).mono ?_;rintro e w' ⟨rfl,rfl⟩)
    | (go_at_call 26;with_reducible refine (B2.out _).mono ?_;rintro e w' ⟨rfl,rfl⟩)
    | (go_at_call 73;with_reducible refine (I2.out _).mono ?_;rintro e w2 ⟨rfl,hb2⟩;have h2:=S1.out.on hb2;clear x13 p13 x15 p15;have S2:=hid h2;clear h2 hb2)
    | (go_at_call 27;with_reducible refine (K2.out _).mono ?_;rintro e w' ⟨rfl,rfl⟩)
    | (go_at_call 26;with_reducible refine (C1.out _).mono ?_;rintro e w' ⟨rfl,rfl⟩)
    | (go_at_call 27;with_reducible refine (K1.out _).mono ?_;rintro e w' ⟨rfl,rfl⟩)
    | (go_at_call 73;with_reducible refine (I1.out _).mono ?_;rintro e w1 ⟨rfl,hb1⟩;have h1:=S0.out.on hb1;have x13:=h1.x 3;have p13:=h1.fx 3;have x15:=h1.x 5;have p15:=h1.fx 5;simp at x13 x15;have g1:=((h1.put 3 (.int .i64 v1)).put 5 (.bool true));simp at g1;have S1:=hid g1;clear h1 g1 hb1))
  have HF:=S3.out.fin (.int .i64 3) (.string ⟨#[]⟩) (.int .i64 0) (.int .i64 v1) (.int .i64 0) (.bool true) (.bool false) (.int .i64 1)
  have m0:=HF.1.at 0
  have m1:=HF.1.at 1
  have m2:=HF.1.at 2
  have m3:=HF.1.at 3
  have m4:=HF.1.at 4
  have m5:=HF.1.at 5
  have m6:=HF.1.at 6
  have m7:=HF.1.at 7
  simp at m0 m1 m2 m3 m4 m5 m6 m7
  refine bodyPost_ret (by simp[results,Tryz.results72,go_sem,m0,m1,m2,m3,m4,m5,m6,m7];try rfl) rfl ?_
  exact SlEnd.no HQ.out HF.2
 ·obtain ⟨hin3,hdg3⟩:=dig_pos hh3
  have in3:(t2:Int)<s.size:=by omega
  have D3:=hid (fun w=>digit_at hin3 w)
  rw[hdg3] at D3
  have B3:=hid (fun w=>beg_at (s:=s) (p:=t2) 45 45 rfl false hle_t2 hs (decide_eq_false (fun e=>by have e2:s[t2]=45:=Option.some.inj ((head_at hin3).symm.trans e);rw[e2] at hdg3;exact absurd hdg3 (by decide))) w)
  go_enter Tryz.func72,Tryz.ntmps72
  go_wp2_with (first
    | (go_at_call 60;with_reducible refine (D3.out _).mono ?_;rintro e w' ⟨rfl,rfl⟩)
    | (go_at_call 26;with_reducible refine (B3.out _).mono ?_;rintro e w' ⟨rfl,rfl⟩)
    | (go_at_call 60;with_reducible refine (D2.out _).mono ?_;rintro e w' ⟨rfl,rfl⟩)
    | (go_at_call 73;with_reducible refine (I3.out _).mono ?_;rintro e w3 ⟨rfl,hb3⟩;have h3:=S2.out.on hb3;have x50:=h3.x 0;have p50:=h3.fx 0;have z50:=h3.z 0;have y50:=h3.fz 0;have x51:=h3.x 1;have p51:=h3.fx 1;have z51:=h3.z 1;have y51:=h3.fz 1;have x52:=h3.x 2;have p52:=h3.fx 2;have z52:=h3.z 2;have y52:=h3.fz 2;have x53:=h3.x 3;have p53:=h3.fx 3;have z53:=h3.z 3;have y53:=h3.fz 3;have x54:=h3.x 4;have p54:=h3.fx 4;have z54:=h3.z 4;have y54:=h3.fz 4;have x55:=h3.x 5;have p55:=h3.fx 5;have z55:=h3.z 5;have y55:=h3.fz 5;have x56:=h3.x 6;have p56:=h3.fx 6;have z56:=h3.z 6;have y56:=h3.fz 6;have x57:=h3.x 7;have p57:=h3.fx 7;have z57:=h3.z 7;have y57:=h3.fz 7;simp at x50 z50 x51 z51 x52 z52 x53 z53 x54 z54 x55 z55 x56 z56 x57 z57;have S3:=hid h3;clear h3 hb3)
    | (go_at_call 27;with_reducible refine (K4.out _).mono ?_;rintro e w' ⟨rfl,rfl⟩)
    | (go_at_call 26;with_reducible refine (C2.out _).mono ?_;rintro e w' ⟨rfl,rfl⟩)
    | (go_at_call 26;with_reducible refine (B2.out _).mono ?_;rintro e w' ⟨rfl,rfl⟩)
    | (go_at_call 73;with_reducible refine (I2.out _).mono ?_;rintro e w2 ⟨rfl,hb2⟩;have h2:=S1.out.on hb2;clear x13 p13 x15 p15;have S2:=hid h2;clear h2 hb2)
    | (go_at_call 27;with_reducible refine (K2.out _).mono ?_;rintro e w' ⟨rfl,rfl⟩)
    | (go_at_call 26;with_reducible refine (C1.out _).mono ?_;rintro e w' ⟨rfl,rfl⟩)
    | (go_at_call 27;with_reducible refine (K1.out _).mono ?_;rintro e w' ⟨rfl,rfl⟩)
    | (go_at_call 73;with_reducible refine (I1.out _).mono ?_;rintro e w1 ⟨rfl,hb1⟩;have h1:=S0.out.on hb1;have x13:=h1.x 3;have p13:=h1.fx 3;have x15:=h1.x 5;have p15:=h1.fx 5;simp at x13 x15;have g1:=((h1.put 3 (.int .i64 v1)).put 5 (.bool true));simp at g1;have S1:=hid g1;clear h1 g1 hb1))
  have HF:=S3.out.fin (.int .i64 3) (.string ⟨#[]⟩) (.int .i64 0) (.int .i64 v1) (.int .i64 0) (.bool true) (.bool false) (.int .i64 1)
  have m0:=HF.1.at 0
  have m1:=HF.1.at 1
  have m2:=HF.1.at 2
  have m3:=HF.1.at 3
  have m4:=HF.1.at 4
  have m5:=HF.1.at 5
  have m6:=HF.1.at 6
  have m7:=HF.1.at 7
  simp at m0 m1 m2 m3 m4 m5 m6 m7
  refine bodyPost_ret (by simp[results,Tryz.results72,go_sem,m0,m1,m2,m3,m4,m5,m6,m7];try rfl) rfl ?_
  exact SlEnd.no HQ.out HF.2
theorem rsl_some_y_none_y_none (s:ByteArray) (W:World) (hs:s.size≤1000000) (v1:Int) (n1 r1 p:Nat) (hA:optI s.data.toList=some (some (v1,n1))) (hr1:runB (s.data.toList.drop n1)=r1) (hp:n1+r1=p) (hc1:(s.data.toList.drop p).head?=some 58) (q r2 t:Nat) (hq:p+1=q) (hr2:runB (s.data.toList.drop q)=r2) (ht:q+r2=t) (hB:optI (s.data.toList.drop t)=some none) (hc2:(s.data.toList.drop t).head?=some 58) (q2 r4 t2:Nat) (hq2':t+1=q2) (hr4:runB (s.data.toList.drop q2)=r4) (ht2:q2+r4=t2) (hC:optI (s.data.toList.drop t2)=some none) :
   Calls Tryz.prog 72 #[.string s] W (SlEnd s.data.toList W):=by
 have HQ:=hid (show slcQ s.data.toList=some (sqS (some v1) none 1,q2) by
   unfold slcQ
   rw[hA]
   show (if (s.data.toList.drop (n1+runB (s.data.toList.drop n1))).head?=some 58 then slcB (some v1) s.data.toList (n1+runB (s.data.toList.drop n1)+1) else none)=_
   rw[hr1,hp,if_pos hc1]
   rw[hq]
   unfold slcB
   rw[hr2,ht,hB]
   show (if (s.data.toList.drop t).head?=some 58 then slcC (some v1) none s.data.toList t else some (sqS (some v1) none 1,q))=_
   rw[if_pos hc2]
   unfold slcC
   rw[hq2',hr4,ht2,hC])
 have S0:=hid (SlB.start W)
 have hq1:=optI_some hA
 have I1:=hid (fun w=>rint_yes (s:=s) (by exact hq1) hs w)
 have hn1:=nrQ_in hq1
 have hle_n1:n1≤s.size:=hn1.2
 have hle_p:p≤s.size:=by have:=runB_in s n1 r1 hle_n1 hr1;omega
 have K1:=hid (fun w=>blk_at hle_n1 hs hr1 w)
 have sA:(n1:Int)≤s.size:=by omega
 have sB:(p:Int)≤s.size:=by omega
 have eA:(n1:Int)+r1=p:=by omega
 have C1:=hid (fun w=>beg_at (s:=s) (p:=p) 58 58 rfl true hle_p hs (decide_eq_true hc1) w)
 have hlt_p:=head_lt hc1
 have hle_q:q≤s.size:=by omega
 have hle_t:t≤s.size:=by have:=runB_in s q r2 hle_q hr2;omega
 have K2:=hid (fun w=>blk_at hle_q hs hr2 w)
 have sC:(q:Int)≤s.size:=by omega
 have sD:(t:Int)≤s.size:=by omega
 have eC:(q:Int)+r2=t:=by omega
 have eB:(p:Int)+1=q:=by omega
 obtain ⟨hq2,hh2,hd2⟩:=optI_none hB
 have I2:=hid (fun w=>rint_no (s:=(s.extract t s.size)) (by rw[tail13 s t hle_t];exact hq2) (by rw[ByteArray.size_extract];omega) w)
 have B2:=hid (fun w=>beg_at (s:=s) (p:=t) 45 45 rfl false hle_t hs (decide_eq_false hh2) w)
 have C2:=hid (fun w=>beg_at (s:=s) (p:=t) 58 58 rfl true hle_t hs (decide_eq_true hc2) w)
 have hlt_u:=head_lt hc2
 have hle_q2:q2≤s.size:=by omega
 have hle_t2:t2≤s.size:=by have:=runB_in s q2 r4 hle_q2 hr4;omega
 have K4:=hid (fun w=>blk_at hle_q2 hs hr4 w)
 have sG:(q2:Int)≤s.size:=by omega
 have sH:(t2:Int)≤s.size:=by omega
 have eF:(t:Int)+1=q2:=by omega
 have eG:(q2:Int)+r4=t2:=by omega
 obtain ⟨hq3,hh3,hd3⟩:=optI_none hC
 have I3:=hid (fun w=>rint_no (s:=(s.extract t2 s.size)) (by rw[tail13 s t2 hle_t2];exact hq3) (by rw[ByteArray.size_extract];omega) w)
 have B3:=hid (fun w=>beg_at (s:=s) (p:=t2) 45 45 rfl false hle_t2 hs (decide_eq_false hh3) w)
 have hin2:t<s.size:=hlt_u
 have in2:(t:Int)<s.size:=by omega
 have D2:=hid (fun w=>digit_at hin2 w)
 rw[dig_zero hin2 hd2] at D2
 by_cases hin3:t2<s.size
 ·have in3:(t2:Int)<s.size:=by omega
  have D3:=hid (fun w=>digit_at hin3 w)
  rw[dig_zero hin3 hd3] at D3
  go_enter Tryz.func72,Tryz.ntmps72
  go_wp2_with (first
    | (go_at_call 60;with_reducible refine (D3.out _).mono ?_;rintro e w' ⟨rfl,rfl⟩)
    | (go_at_call 60;with_reducible refine (D2.out _).mono ?_;rintro e w' ⟨rfl,rfl⟩)
    | (go_at_call 26;with_reducible refine (B3.out _).mono ?_;rintro e w' ⟨rfl,rfl⟩)
    | (go_at_call 73;with_reducible refine (I3.out _).mono ?_;rintro e w3 ⟨rfl,hb3⟩;have h3:=S2.out.on hb3;have x50:=h3.x 0;have p50:=h3.fx 0;have z50:=h3.z 0;have y50:=h3.fz 0;have x51:=h3.x 1;have p51:=h3.fx 1;have z51:=h3.z 1;have y51:=h3.fz 1;have x52:=h3.x 2;have p52:=h3.fx 2;have z52:=h3.z 2;have y52:=h3.fz 2;have x53:=h3.x 3;have p53:=h3.fx 3;have z53:=h3.z 3;have y53:=h3.fz 3;have x54:=h3.x 4;have p54:=h3.fx 4;have z54:=h3.z 4;have y54:=h3.fz 4;have x55:=h3.x 5;have p55:=h3.fx 5;have z55:=h3.z 5;have y55:=h3.fz 5;have x56:=h3.x 6;have p56:=h3.fx 6;have z56:=h3.z 6;have y56:=h3.fz 6;have x57:=h3.x 7;have p57:=h3.fx 7;have z57:=h3.z 7;have y57:=h3.fz 7;simp at x50 z50 x51 z51 x52 z52 x53 z53 x54 z54 x55 z55 x56 z56 x57 z57;have S3:=hid h3;clear h3 hb3)
    | (go_at_call 27;with_reducible refine (K4.out _).mono ?_;rintro e w' ⟨rfl,rfl⟩)
    | (go_at_call 26;with_reducible refine (C2.out _).mono ?_;rintro e w' ⟨rfl,rfl⟩)
    | (go_at_call 26;with_reducible refine (B2.out _).mono ?_;rintro e w' ⟨rfl,rfl⟩)
    | (go_at_call 73;with_reducible refine (I2.out _).mono ?_;rintro e w2 ⟨rfl,hb2⟩;have h2:=S1.out.on hb2;clear x13 p13 x15 p15;have S2:=hid h2;clear h2 hb2)
    | (go_at_call 27;with_reducible refine (K2.out _).mono ?_;rintro e w' ⟨rfl,rfl⟩)
    | (go_at_call 26;with_reducible refine (C1.out _).mono ?_;rintro e w' ⟨rfl,rfl⟩)
    | (go_at_call 27;with_reducible refine (K1.out _).mono ?_;rintro e w' ⟨rfl,rfl⟩)
    | (go_at_call 73;with_reducible refine (I1.out _).mono ?_;rintro e w1 ⟨rfl,hb1⟩;have h1:=S0.out.on hb1;have x13:=h1.x 3;have p13:=h1.fx 3;have x15:=h1.x 5;have p15:=h1.fx 5;simp at x13 x15;have g1:=((h1.put 3 (.int .i64 v1)).put 5 (.bool true));simp at g1;have S1:=hid g1;clear h1 g1 hb1))
  have HF:=S3.out.fin (.int .i64 3) (.string ⟨#[]⟩) (.int .i64 0) (.int .i64 v1) (.int .i64 0) (.bool true) (.bool false) (.int .i64 1)
  have m0:=HF.1.at 0
  have m1:=HF.1.at 1
  have m2:=HF.1.at 2
  have m3:=HF.1.at 3
  have m4:=HF.1.at 4
  have m5:=HF.1.at 5
  have m6:=HF.1.at 6
  have m7:=HF.1.at 7
  simp at m0 m1 m2 m3 m4 m5 m6 m7
  refine bodyPost_ret (by simp[results,Tryz.results72,go_sem,m0,m1,m2,m3,m4,m5,m6,m7];try rfl) rfl ?_
  exact SlEnd.yes HQ.out rfl (by omega) HF.2
 ·have in3:¬ (t2:Int)<s.size:=by omega
  go_enter Tryz.func72,Tryz.ntmps72
  go_wp2_with (first
    | (go_at_call 60;with_reducible refine (D2.out _).mono ?_;rintro e w' ⟨rfl,rfl⟩)
    | (go_at_call 26;with_reducible refine (B3.out _).mono ?_;rintro e w' ⟨rfl,rfl⟩)
    | (go_at_call 73;with_reducible refine (I3.out _).mono ?_;rintro e w3 ⟨rfl,hb3⟩;have h3:=S2.out.on hb3;have x50:=h3.x 0;have p50:=h3.fx 0;have z50:=h3.z 0;have y50:=h3.fz 0;have x51:=h3.x 1;have p51:=h3.fx 1;have z51:=h3.z 1;have y51:=h3.fz 1;have x52:=h3.x 2;have p52:=h3.fx 2;have z52:=h3.z 2;have y52:=h3.fz 2;have x53:=h3.x 3;have p53:=h3.fx 3;have z53:=h3.z 3;have y53:=h3.fz 3;have x54:=h3.x 4;have p54:=h3.fx 4;have z54:=h3.z 4;have y54:=h3.fz 4;have x55:=h3.x 5;have p55:=h3.fx 5;have z55:=h3.z 5;have y55:=h3.fz 5;have x56:=h3.x 6;have p56:=h3.fx 6;have z56:=h3.z 6;have y56:=h3.fz 6;have x57:=h3.x 7;have p57:=h3.fx 7;have z57:=h3.z 7;have y57:=h3.fz 7;simp at x50 z50 x51 z51 x52 z52 x53 z53 x54 z54 x55 z55 x56 z56 x57 z57;have S3:=hid h3;clear h3 hb3)
    | (go_at_call 27;with_reducible refine (K4.out _).mono ?_;rintro e w' ⟨rfl,rfl⟩)
    | (go_at_call 26;with_reducible refine (C2.out _).mono ?_;rintro e w' ⟨rfl,rfl⟩)
    | (go_at_call 26;with_reducible refine (B2.out _).mono ?_;rintro e w' ⟨rfl,rfl⟩)
    | (go_at_call 73;with_reducible refine (I2.out _).mono ?_;rintro e w2 ⟨rfl,hb2⟩;have h2:=S1.out.on hb2;clear x13 p13 x15 p15;have S2:=hid h2;clear h2 hb2)
    | (go_at_call 27;with_reducible refine (K2.out _).mono ?_;rintro e w' ⟨rfl,rfl⟩)
    | (go_at_call 26;with_reducible refine (C1.out _).mono ?_;rintro e w' ⟨rfl,rfl⟩)
    | (go_at_call 27;with_reducible refine (K1.out _).mono ?_;rintro e w' ⟨rfl,rfl⟩)
    | (go_at_call 73;with_reducible refine (I1.out _).mono ?_;rintro e w1 ⟨rfl,hb1⟩;have h1:=S0.out.on hb1;have x13:=h1.x 3;have p13:=h1.fx 3;have x15:=h1.x 5;have p15:=h1.fx 5;simp at x13 x15;have g1:=((h1.put 3 (.int .i64 v1)).put 5 (.bool true));simp at g1;have S1:=hid g1;clear h1 g1 hb1))
  have HF:=S3.out.fin (.int .i64 3) (.string ⟨#[]⟩) (.int .i64 0) (.int .i64 v1) (.int .i64 0) (.bool true) (.bool false) (.int .i64 1)
  have m0:=HF.1.at 0
  have m1:=HF.1.at 1
  have m2:=HF.1.at 2
  have m3:=HF.1.at 3
  have m4:=HF.1.at 4
  have m5:=HF.1.at 5
  have m6:=HF.1.at 6
  have m7:=HF.1.at 7
  simp at m0 m1 m2 m3 m4 m5 m6 m7
  refine bodyPost_ret (by simp[results,Tryz.results72,go_sem,m0,m1,m2,m3,m4,m5,m6,m7];try rfl) rfl ?_
  exact SlEnd.yes HQ.out rfl (by omega) HF.2
theorem rsl_some_y_none_y_some (s:ByteArray) (W:World) (hs:s.size≤1000000) (v1:Int) (n1 r1 p:Nat) (hA:optI s.data.toList=some (some (v1,n1))) (hr1:runB (s.data.toList.drop n1)=r1) (hp:n1+r1=p) (hc1:(s.data.toList.drop p).head?=some 58) (q r2 t:Nat) (hq:p+1=q) (hr2:runB (s.data.toList.drop q)=r2) (ht:q+r2=t) (hB:optI (s.data.toList.drop t)=some none) (hc2:(s.data.toList.drop t).head?=some 58) (q2 r4 t2:Nat) (hq2':t+1=q2) (hr4:runB (s.data.toList.drop q2)=r4) (ht2:q2+r4=t2) (v3:Int) (n3:Nat) (hC:optI (s.data.toList.drop t2)=some (some (v3,n3))) :
   Calls Tryz.prog 72 #[.string s] W (SlEnd s.data.toList W):=by
 have HQ:=hid (show slcQ s.data.toList=some (sqS (some v1) none v3,t2+n3) by
   unfold slcQ
   rw[hA]
   show (if (s.data.toList.drop (n1+runB (s.data.toList.drop n1))).head?=some 58 then slcB (some v1) s.data.toList (n1+runB (s.data.toList.drop n1)+1) else none)=_
   rw[hr1,hp,if_pos hc1]
   rw[hq]
   unfold slcB
   rw[hr2,ht,hB]
   show (if (s.data.toList.drop t).head?=some 58 then slcC (some v1) none s.data.toList t else some (sqS (some v1) none 1,q))=_
   rw[if_pos hc2]
   unfold slcC
   rw[hq2',hr4,ht2,hC])
 have S0:=hid (SlB.start W)
 have hq1:=optI_some hA
 have I1:=hid (fun w=>rint_yes (s:=s) (by exact hq1) hs w)
 have hn1:=nrQ_in hq1
 have hle_n1:n1≤s.size:=hn1.2
 have hle_p:p≤s.size:=by have:=runB_in s n1 r1 hle_n1 hr1;omega
 have K1:=hid (fun w=>blk_at hle_n1 hs hr1 w)
 have sA:(n1:Int)≤s.size:=by omega
 have sB:(p:Int)≤s.size:=by omega
 have eA:(n1:Int)+r1=p:=by omega
 have C1:=hid (fun w=>beg_at (s:=s) (p:=p) 58 58 rfl true hle_p hs (decide_eq_true hc1) w)
 have hlt_p:=head_lt hc1
 have hle_q:q≤s.size:=by omega
 have hle_t:t≤s.size:=by have:=runB_in s q r2 hle_q hr2;omega
 have K2:=hid (fun w=>blk_at hle_q hs hr2 w)
 have sC:(q:Int)≤s.size:=by omega
 have sD:(t:Int)≤s.size:=by omega
 have eC:(q:Int)+r2=t:=by omega
 have eB:(p:Int)+1=q:=by omega
 obtain ⟨hq2,hh2,hd2⟩:=optI_none hB
 have I2:=hid (fun w=>rint_no (s:=(s.extract t s.size)) (by rw[tail13 s t hle_t];exact hq2) (by rw[ByteArray.size_extract];omega) w)
 have B2:=hid (fun w=>beg_at (s:=s) (p:=t) 45 45 rfl false hle_t hs (decide_eq_false hh2) w)
 have C2:=hid (fun w=>beg_at (s:=s) (p:=t) 58 58 rfl true hle_t hs (decide_eq_true hc2) w)
 have hlt_u:=head_lt hc2
 have hle_q2:q2≤s.size:=by omega
 have hle_t2:t2≤s.size:=by have:=runB_in s q2 r4 hle_q2 hr4;omega
 have K4:=hid (fun w=>blk_at hle_q2 hs hr4 w)
 have sG:(q2:Int)≤s.size:=by omega
 have sH:(t2:Int)≤s.size:=by omega
 have eF:(t:Int)+1=q2:=by omega
 have eG:(q2:Int)+r4=t2:=by omega
 have hq3:=optI_some hC
 have I3:=hid (fun w=>rint_yes (s:=(s.extract t2 s.size)) (by rw[tail13 s t2 hle_t2];exact hq3) (by rw[ByteArray.size_extract];omega) w)
 have hn3:=nrQ_in hq3
 rw[List.length_drop] at hn3
 have hn3':n3≤s.size-t2:=hn3.2
 have sI:(t2:Int)+n3≤s.size:=by omega
 have hin2:t<s.size:=hlt_u
 have in2:(t:Int)<s.size:=by omega
 have D2:=hid (fun w=>digit_at hin2 w)
 rw[dig_zero hin2 hd2] at D2
 go_enter Tryz.func72,Tryz.ntmps72
 go_wp2_with (first
   | (go_at_call 60;with_reducible refine (D2.out _).mono ?_;rintro e w' ⟨rfl,rfl⟩)
   | (go_at_call 73;with_reducible refine (I3.out _).mono ?_;rintro e w3 ⟨rfl,hb3⟩;have h3:=S2.out.on hb3;have x57:=h3.x 7;have p57:=h3.fx 7;simp at x57;have g3:=(h3.put 7 (.int .i64 v3));simp at g3;have x60:=g3.x 0;have p60:=g3.fx 0;have z60:=g3.z 0;have y60:=g3.fz 0;have x61:=g3.x 1;have p61:=g3.fx 1;have z61:=g3.z 1;have y61:=g3.fz 1;have x62:=g3.x 2;have p62:=g3.fx 2;have z62:=g3.z 2;have y62:=g3.fz 2;have x63:=g3.x 3;have p63:=g3.fx 3;have z63:=g3.z 3;have y63:=g3.fz 3;have x64:=g3.x 4;have p64:=g3.fx 4;have z64:=g3.z 4;have y64:=g3.fz 4;have x65:=g3.x 5;have p65:=g3.fx 5;have z65:=g3.z 5;have y65:=g3.fz 5;have x66:=g3.x 6;have p66:=g3.fx 6;have z66:=g3.z 6;have y66:=g3.fz 6;have x67:=g3.x 7;have p67:=g3.fx 7;have z67:=g3.z 7;have y67:=g3.fz 7;simp at x60 z60 x61 z61 x62 z62 x63 z63 x64 z64 x65 z65 x66 z66 x67 z67;have S3:=hid g3;clear h3 g3 hb3)
   | (go_at_call 27;with_reducible refine (K4.out _).mono ?_;rintro e w' ⟨rfl,rfl⟩)
   | (go_at_call 26;with_reducible refine (C2.out _).mono ?_;rintro e w' ⟨rfl,rfl⟩)
   | (go_at_call 26;with_reducible refine (B2.out _).mono ?_;rintro e w' ⟨rfl,rfl⟩)
   | (go_at_call 73;with_reducible refine (I2.out _).mono ?_;rintro e w2 ⟨rfl,hb2⟩;have h2:=S1.out.on hb2;clear x13 p13 x15 p15;have S2:=hid h2;clear h2 hb2)
   | (go_at_call 27;with_reducible refine (K2.out _).mono ?_;rintro e w' ⟨rfl,rfl⟩)
   | (go_at_call 26;with_reducible refine (C1.out _).mono ?_;rintro e w' ⟨rfl,rfl⟩)
   | (go_at_call 27;with_reducible refine (K1.out _).mono ?_;rintro e w' ⟨rfl,rfl⟩)
   | (go_at_call 73;with_reducible refine (I1.out _).mono ?_;rintro e w1 ⟨rfl,hb1⟩;have h1:=S0.out.on hb1;have x13:=h1.x 3;have p13:=h1.fx 3;have x15:=h1.x 5;have p15:=h1.fx 5;simp at x13 x15;have g1:=((h1.put 3 (.int .i64 v1)).put 5 (.bool true));simp at g1;have S1:=hid g1;clear h1 g1 hb1))
 have HF:=S3.out.fin (.int .i64 3) (.string ⟨#[]⟩) (.int .i64 0) (.int .i64 v1) (.int .i64 0) (.bool true) (.bool false) (.int .i64 v3)
 have m0:=HF.1.at 0
 have m1:=HF.1.at 1
 have m2:=HF.1.at 2
 have m3:=HF.1.at 3
 have m4:=HF.1.at 4
 have m5:=HF.1.at 5
 have m6:=HF.1.at 6
 have m7:=HF.1.at 7
 simp at m0 m1 m2 m3 m4 m5 m6 m7
 refine bodyPost_ret (by simp[results,Tryz.results72,go_sem,m0,m1,m2,m3,m4,m5,m6,m7];try rfl) rfl ?_
 exact SlEnd.yes HQ.out rfl (by omega) HF.2
end
end Go.Proofs.YtmgdjlkndbejkaaGreatDoor
