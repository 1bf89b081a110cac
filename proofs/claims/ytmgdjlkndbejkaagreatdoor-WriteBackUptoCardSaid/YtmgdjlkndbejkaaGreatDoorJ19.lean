/- Lemmas. -/
import Derived.Test.YtmgdjlkndbejkaaGreatDoorJ18
set_option maxRecDepth 100000
set_option maxHeartbeats 8000000
set_option linter.unusedVariables false
set_option linter.unusedSimpArgs false
namespace Go.Proofs.YtmgdjlkndbejkaaGreatDoor
open Go.Lib (hid)
section
open Go.RowKit
theorem rsl_some_y_none_n (s:ByteArray) (W:World) (hs:s.size≤1000000) (v1:Int) (n1 r1 p:Nat) (hA:optI s.data.toList=some (some (v1,n1))) (hr1:runB (s.data.toList.drop n1)=r1) (hp:n1+r1=p) (hc1:(s.data.toList.drop p).head?=some 58) (q r2 t:Nat) (hq:p+1=q) (hr2:runB (s.data.toList.drop q)=r2) (ht:q+r2=t) (hB:optI (s.data.toList.drop t)=some none) (hc2:(s.data.toList.drop t).head?≠some 58) :
   Calls Tryz.prog 72 #[.string s] W (SlEnd s.data.toList W):=by
 have HQ:=hid (show slcQ s.data.toList=some (sqS (some v1) none 1,q) by
   unfold slcQ
   rw[hA]
   show (if (s.data.toList.drop (n1+runB (s.data.toList.drop n1))).head?=some 58 then slcB (some v1) s.data.toList (n1+runB (s.data.toList.drop n1)+1) else none)=_
   rw[hr1,hp,if_pos hc1]
   rw[hq]
   unfold slcB
   rw[hr2,ht,hB]
   show (if (s.data.toList.drop t).head?=some 58 then slcC (some v1) none s.data.toList t else some (sqS (some v1) none 1,q))=_
   rw[if_neg hc2])
 have S0:=hid (SlB.start W)
 have hq1:=optI_some hA
 have I1:=hid (fun w=>rint_yes (s:=s) (by exact hq1) hs w)
 have hn1:=nrQ_in hq1
 have hle_n1:n1≤s.size:=hn1.2
 have hle_p:p≤s.size:=by have:=runB_in s n1 r1 hle_n1 hr1;omega
 have K1:=hid (fun w=>blk_at hle_n1 hs hr1 w)
 have sA:(n1:Int)≤s.size:=by omega
 have sB:(p:Int)≤s.size:=by omega
 have eA:(n1:Int)+r1=p:=by omega
 have C1:=hid (fun w=>beg_at (s:=s) (p:=p) 58 58 rfl true hle_p hs (decide_eq_true hc1) w)
 have hlt_p:=head_lt hc1
 have hle_q:q≤s.size:=by omega
 have hle_t:t≤s.size:=by have:=runB_in s q r2 hle_q hr2;omega
 have K2:=hid (fun w=>blk_at hle_q hs hr2 w)
 have sC:(q:Int)≤s.size:=by omega
 have sD:(t:Int)≤s.size:=by omega
 have eC:(q:Int)+r2=t:=by omega
 have eB:(p:Int)+1=q:=by omega
 obtain ⟨hq2,hh2,hd2⟩:=optI_none hB
 have I2:=hid (fun w=>rint_no (s:=(s.extract t s.size)) (by rw[tail13 s t hle_t];exact hq2) (by rw[ByteArray.size_extract];omega) w)
 have B2:=hid (fun w=>beg_at (s:=s) (p:=t) 45 45 rfl false hle_t hs (decide_eq_false hh2) w)
 have C2:=hid (fun w=>beg_at (s:=s) (p:=t) 58 58 rfl false hle_t hs (decide_eq_false hc2) w)
 by_cases hin2:t<s.size
 ·have in2:(t:Int)<s.size:=by omega
  have D2:=hid (fun w=>digit_at hin2 w)
  rw[dig_zero hin2 hd2] at D2
  go_enter Tryz.func72,Tryz.ntmps72
  go_wp2_with (first
    | (go_at_call 60;with_reducible refine (D2.out _).mono ?_;rintro e w' ⟨rfl,rfl⟩)
    | (go_at_call 26;with_reducible refine (C2.out _).mono ?_;rintro e w' ⟨rfl,rfl⟩)
    | (go_at_call 26;with_reducible refine (B2.out _).mono ?_;rintro e w' ⟨rfl,rfl⟩)
    | (go_at_call 73;with_reducible refine (I2.out _).mono ?_;rintro e w2 ⟨rfl,hb2⟩;have h2:=S1.out.on hb2;clear x13 p13 x15 p15;have x30:=h2.x 0;have p30:=h2.fx 0;have z30:=h2.z 0;have y30:=h2.fz 0;have x31:=h2.x 1;have p31:=h2.fx 1;have z31:=h2.z 1;have y31:=h2.fz 1;have x32:=h2.x 2;have p32:=h2.fx 2;have z32:=h2.z 2;have y32:=h2.fz 2;have x33:=h2.x 3;have p33:=h2.fx 3;have z33:=h2.z 3;have y33:=h2.fz 3;have x34:=h2.x 4;have p34:=h2.fx 4;have z34:=h2.z 4;have y34:=h2.fz 4;have x35:=h2.x 5;have p35:=h2.fx 5;have z35:=h2.z 5;have y35:=h2.fz 5;have x36:=h2.x 6;have p36:=h2.fx 6;have z36:=h2.z 6;have y36:=h2.fz 6;have x37:=h2.x 7;have p37:=h2.fx 7;have z37:=h2.z 7;have y37:=h2.fz 7;simp at x30 z30 x31 z31 x32 z32 x33 z33 x34 z34 x35 z35 x36 z36 x37 z37;have S2:=hid h2;clear h2 hb2)
    | (go_at_call 27;with_reducible refine (K2.out _).mono ?_;rintro e w' ⟨rfl,rfl⟩)
    | (go_at_call 26;with_reducible refine (C1.out _).mono ?_;rintro e w' ⟨rfl,rfl⟩)
    | (go_at_call 27;with_reducible refine (K1.out _).mono ?_;rintro e w' ⟨rfl,rfl⟩)
    | (go_at_call 73;with_reducible refine (I1.out _).mono ?_;rintro e w1 ⟨rfl,hb1⟩;have h1:=S0.out.on hb1;have x13:=h1.x 3;have p13:=h1.fx 3;have x15:=h1.x 5;have p15:=h1.fx 5;simp at x13 x15;have g1:=((h1.put 3 (.int .i64 v1)).put 5 (.bool true));simp at g1;have S1:=hid g1;clear h1 g1 hb1))
  have HF:=S2.out.fin (.int .i64 3) (.string ⟨#[]⟩) (.int .i64 0) (.int .i64 v1) (.int .i64 0) (.bool true) (.bool false) (.int .i64 1)
  have m0:=HF.1.at 0
  have m1:=HF.1.at 1
  have m2:=HF.1.at 2
  have m3:=HF.1.at 3
  have m4:=HF.1.at 4
  have m5:=HF.1.at 5
  have m6:=HF.1.at 6
  have m7:=HF.1.at 7
  simp at m0 m1 m2 m3 m4 m5 m6 m7
  refine bodyPost_ret (by simp[results,Tryz.results72,go_sem,m0,m1,m2,m3,m4,m5,m6,m7];try rfl) rfl ?_
  exact SlEnd.yes HQ.out rfl (by omega) HF.2
 ·have in2:¬ (t:Int)<s.size:=by omega
  go_enter Tryz.func72,Tryz.ntmps72
  go_wp2_with (first
    | (go_at_call 26;with_reducible refine (C2.out _).mono ?_;rintro e w' ⟨rfl,rfl⟩)
    | (go_at_call 26;with_reducible refine (B2.out _).mono ?_;rintro e w' ⟨rfl,rfl⟩)
    | (go_at_call 73;with_reducible refine (I2.out _).mono ?_;rintro e w2 ⟨rfl,hb2⟩;have h2:=S1.out.on hb2;clear x13 p13 x15 p15;have x30:=h2.x 0;have p30:=h2.fx 0;have z30:=h2.z 0;have y30:=h2.fz 0;have x31:=h2.x 1;have p31:=h2.fx 1;have z31:=h2.z 1;have y31:=h2.fz 1;have x32:=h2.x 2;have p32:=h2.fx 2;have z32:=h2.z 2;have y32:=h2.fz 2;have x33:=h2.x 3;have p33:=h2.fx 3;have z33:=h2.z 3;have y33:=h2.fz 3;have x34:=h2.x 4;have p34:=h2.fx 4;have z34:=h2.z 4;have y34:=h2.fz 4;have x35:=h2.x 5;have p35:=h2.fx 5;have z35:=h2.z 5;have y35:=h2.fz 5;have x36:=h2.x 6;have p36:=h2.fx 6;have z36:=h2.z 6;have y36:=h2.fz 6;have x37:=h2.x 7;have p37:=h2.fx 7;have z37:=h2.z 7;have y37:=h2.fz 7;simp at x30 z30 x31 z31 x32 z32 x33 z33 x34 z34 x35 z35 x36 z36 x37 z37;have S2:=hid h2;clear h2 hb2)
    | (go_at_call 27;with_reducible refine (K2.out _).mono ?_;rintro e w' ⟨rfl,rfl⟩)
    | (go_at_call 26;with_reducible refine (C1.out _).mono ?_;rintro e w' ⟨rfl,rfl⟩)
    | (go_at_call 27;with_reducible refine (K1.out _).mono ?_;rintro e w' ⟨rfl,rfl⟩)
    | (go_at_call 73;with_reducible refine (I1.out _).mono ?_;rintro e w1 ⟨rfl,hb1⟩;have h1:=S0.out.on hb1;have x13:=h1.x 3;have p13:=h1.fx 3;have x15:=h1.x 5;have p15:=h1.fx 5;simp at x13 x15;have g1:=((h1.put 3 (.int .i64 v1)).put 5 (.bool true));simp at g1;have S1:=hid g1;clear h1 g1 hb1))
  have HF:=S2.out.fin (.int .i64 3) (.string ⟨#[]⟩) (.int .i64 0) (.int .i64 v1) (.int .i64 0) (.bool true) (.bool false) (.int .i64 1)
  have m0:=HF.1.at 0
  have m1:=HF.1.at 1
  have m2:=HF.1.at 2
  have m3:=HF.1.at 3
  have m4:=HF.1.at 4
  have m5:=HF.1.at 5
  have m6:=HF.1.at 6
  have m7:=HF.1.at 7
  simp at m0 m1 m2 m3 m4 m5 m6 m7
  refine bodyPost_ret (by simp[results,Tryz.results72,go_sem,m0,m1,m2,m3,m4,m5,m6,m7];try rfl) rfl ?_
  exact SlEnd.yes HQ.out rfl (by omega) HF.2
theorem rsl_some_y_some_n (s:ByteArray) (W:World) (hs:s.size≤1000000) (v1:Int) (n1 r1 p:Nat) (hA:optI s.data.toList=some (some (v1,n1))) (hr1:runB (s.data.toList.drop n1)=r1) (hp:n1+r1=p) (hc1:(s.data.toList.drop p).head?=some 58) (q r2 t:Nat) (hq:p+1=q) (hr2:runB (s.data.toList.drop q)=r2) (ht:q+r2=t) (v2:Int) (n2 x r3 u:Nat) (hB:optI (s.data.toList.drop t)=some (some (v2,n2))) (hx:t+n2=x) (hr3:runB (s.data.toList.drop x)=r3) (hu:x+r3=u) (hc2:(s.data.toList.drop u).head?≠some 58) :
   Calls Tryz.prog 72 #[.string s] W (SlEnd s.data.toList W):=by
 have HQ:=hid (show slcQ s.data.toList=some (sqS (some v1) (some v2) 1,x) by
   unfold slcQ
   rw[hA]
   show (if (s.data.toList.drop (n1+runB (s.data.toList.drop n1))).head?=some 58 then slcB (some v1) s.data.toList (n1+runB (s.data.toList.drop n1)+1) else none)=_
   rw[hr1,hp,if_pos hc1]
   rw[hq]
   unfold slcB
   rw[hr2,ht,hB]
   show (if (s.data.toList.drop (t+n2+runB (s.data.toList.drop (t+n2)))).head?=some 58 then slcC (some v1) (some v2) s.data.toList (t+n2+runB (s.data.toList.drop (t+n2))) else some (sqS (some v1) (some v2) 1,t+n2))=_
   rw[hx,hr3,hu,if_neg hc2])
 have S0:=hid (SlB.start W)
 have hq1:=optI_some hA
 have I1:=hid (fun w=>rint_yes (s:=s) (by exact hq1) hs w)
 have hn1:=nrQ_in hq1
 have hle_n1:n1≤s.size:=hn1.2
 have hle_p:p≤s.size:=by have:=runB_in s n1 r1 hle_n1 hr1;omega
 have K1:=hid (fun w=>blk_at hle_n1 hs hr1 w)
 have sA:(n1:Int)≤s.size:=by omega
 have sB:(p:Int)≤s.size:=by omega
 have eA:(n1:Int)+r1=p:=by omega
 have C1:=hid (fun w=>beg_at (s:=s) (p:=p) 58 58 rfl true hle_p hs (decide_eq_true hc1) w)
 have hlt_p:=head_lt hc1
 have hle_q:q≤s.size:=by omega
 have hle_t:t≤s.size:=by have:=runB_in s q r2 hle_q hr2;omega
 have K2:=hid (fun w=>blk_at hle_q hs hr2 w)
 have sC:(q:Int)≤s.size:=by omega
 have sD:(t:Int)≤s.size:=by omega
 have eC:(q:Int)+r2=t:=by omega
 have eB:(p:Int)+1=q:=by omega
 have hq2:=optI_some hB
 have I2:=hid (fun w=>rint_yes (s:=(s.extract t s.size)) (by rw[tail13 s t hle_t];exact hq2) (by rw[ByteArray.size_extract];omega) w)
 have hn2:=nrQ_in hq2
 rw[List.length_drop] at hn2
 have hn2':n2≤s.size-t:=hn2.2
 have hle_x:x≤s.size:=by omega
 have hle_u:u≤s.size:=by have:=runB_in s x r3 hle_x hr3;omega
 have K3:=hid (fun w=>blk_at hle_x hs hr3 w)
 have sE:(x:Int)≤s.size:=by omega
 have sF:(u:Int)≤s.size:=by omega
 have eD:(t:Int)+n2=x:=by omega
 have eE:(x:Int)+r3=u:=by omega
 have C2:=hid (fun w=>beg_at (s:=s) (p:=u) 58 58 rfl false hle_u hs (decide_eq_false hc2) w)
 go_enter Tryz.func72,Tryz.ntmps72
 go_wp2_with (first
   | (go_at_call 26;with_reducible refine (C2.out _).mono ?_;rintro e w' ⟨rfl,rfl⟩)
   | (go_at_call 27;with_reducible refine (K3.out _).mono ?_;rintro e w' ⟨rfl,rfl⟩)
   | (go_at_call 73;with_reducible refine (I2.out _).mono ?_;rintro e w2 ⟨rfl,hb2⟩;have h2:=S1.out.on hb2;clear x13 p13 x15 p15;have x34:=h2.x 4;have p34:=h2.fx 4;have x36:=h2.x 6;have p36:=h2.fx 6;simp at x34 x36;have g2:=((h2.put 4 (.int .i64 v2)).put 6 (.bool true));simp at g2;have x40:=g2.x 0;have p40:=g2.fx 0;have z40:=g2.z 0;have y40:=g2.fz 0;have x41:=g2.x 1;have p41:=g2.fx 1;have z41:=g2.z 1;have y41:=g2.fz 1;have x42:=g2.x 2;have p42:=g2.fx 2;have z42:=g2.z 2;have y42:=g2.fz 2;have x43:=g2.x 3;have p43:=g2.fx 3;have z43:=g2.z 3;have y43:=g2.fz 3;have x44:=g2.x 4;have p44:=g2.fx 4;have z44:=g2.z 4;have y44:=g2.fz 4;have x45:=g2.x 5;have p45:=g2.fx 5;have z45:=g2.z 5;have y45:=g2.fz 5;have x46:=g2.x 6;have p46:=g2.fx 6;have z46:=g2.z 6;have y46:=g2.fz 6;have x47:=g2.x 7;have p47:=g2.fx 7;have z47:=g2.z 7;have y47:=g2.fz 7;simp at x40 z40 x41 z41 x42 z42 x43 z43 x44 z44 x45 z45 x46 z46 x47 z47;have S2:=hid g2;clear h2 g2 hb2)
   | (go_at_call 27;with_reducible refine (K2.out _).mono ?_;rintro e w' ⟨rfl,rfl⟩)
   | (go_at_call 26;with_reducible refine (C1.out _).mono ?_;rintro e w' ⟨rfl,rfl⟩)
   | (go_at_call 27;with_reducible refine (K1.out _).mono ?_;rintro e w' ⟨rfl,rfl⟩)
   | (go_at_call 73;with_reducible refine (I1.out _).mono ?_;rintro e w1 ⟨rfl,hb1⟩;have h1:=S0.out.on hb1;have x13:=h1.x 3;have p13:=h1.fx 3;have x15:=h1.x 5;have p15:=h1.fx 5;simp at x13 x15;have g1:=((h1.put 3 (.int .i64 v1)).put 5 (.bool true));simp at g1;have S1:=hid g1;clear h1 g1 hb1))
 have HF:=S2.out.fin (.int .i64 3) (.string ⟨#[]⟩) (.int .i64 0) (.int .i64 v1) (.int .i64 v2) (.bool true) (.bool true) (.int .i64 1)
 have m0:=HF.1.at 0
 have m1:=HF.1.at 1
 have m2:=HF.1.at 2
 have m3:=HF.1.at 3
 have m4:=HF.1.at 4
 have m5:=HF.1.at 5
 have m6:=HF.1.at 6
 have m7:=HF.1.at 7
 simp at m0 m1 m2 m3 m4 m5 m6 m7
 refine bodyPost_ret (by simp[results,Tryz.results72,go_sem,m0,m1,m2,m3,m4,m5,m6,m7];try rfl) rfl ?_
 exact SlEnd.yes HQ.out rfl (by omega) HF.2
end
end Go.Proofs.YtmgdjlkndbejkaaGreatDoor
