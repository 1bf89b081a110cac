/- Lemmas. -/
import Derived.Test.YtmgdjlkndbejkaaGreatDoorJ17
import Derived.Handy
set_option maxRecDepth 100000
set_option maxHeartbeats 8000000
set_option linter.unusedVariables false
set_option linter.unusedSimpArgs false
namespace Go.Proofs.YtmgdjlkndbejkaaGreatDoor
open Go.Lib (hid)
section
open Go.RowKit
def selV (s:Sel):Array Value:=#[.int .i64 s.kind,.string s.name,.int .i64 s.index,.int .i64 s.start,.int .i64 s.en,.bool s.hs,.bool s.he,.int .i64 s.stride]
theorem optI_some {l:List UInt8} {p:Int×Nat} (h:optI l=some (some p)):nrQ l=some p:=by
 unfold optI at h
 split at h
 ·rename_i q hq
  rw[hq]
  exact Option.some.inj h
 ·split at h<;>cases h
theorem optI_none {l:List UInt8} (h:optI l=some none):nrQ l=none∧l.head?≠some 45∧runD l=0:=by
 unfold optI at h
 split at h
 ·cases h
 ·rename_i hq
  split at h
  ·cases h
  ·rename_i hn
   exact ⟨hq,fun e=>hn (.inl e),by have:=fun e=>hn (.inr e);omega⟩
theorem optI_bad {l:List UInt8} (h:optI l=none):nrQ l=none∧(l.head?=some 45∨0<runD l):=by
 unfold optI at h
 split at h
 ·cases h
 ·rename_i hq
  split at h
  ·rename_i hn;exact ⟨hq,hn⟩
  ·cases h
theorem nrQ_in {l:List UInt8} {v:Int} {n:Nat} (h:nrQ l=some (v,n)):1≤n∧n≤l.length:=by
 have hm:=minB_le l
 rw[nrQ_on rfl] at h
 have hl:(l.drop (minB l)).length=l.length-minB l:=List.length_drop
 split at h
 ·rename_i h48
  split at h
  ·cases h
  ·injection h with h
   injection h with h1 h2
   have:0<(l.drop (minB l)).length:=by
     cases hc:l.drop (minB l) with
     | nil=>rw[hc] at h48;cases h48
     | cons a t=>simp
   omega
 ·have hr:=runD_le (l.drop (minB l))
  unfold intD at h
  split at h
  ·cases h
  split at h
  ·cases h
  ·injection h with h
   injection h with h1 h2
   omega
theorem rint_no {s:ByteArray} (h:nrQ s.data.toList=none) (hs:s.size≤1000000) (w:World) :
   Calls Tryz.prog 73 #[.string s] w fun e w'=>e=.returned (.tuple #[.int .i64 0,.int .i64 0,.bool false])∧Below w.heap.size w w':=by
 refine (rint14_any s w hs).mono fun e w' he => ?_
 unfold InEnd at he
 rw[h] at he
 exact he
theorem rint_yes {s:ByteArray} {v:Int} {n:Nat} (h:nrQ s.data.toList=some (v,n)) (hs:s.size≤1000000) (w:World) :
   Calls Tryz.prog 73 #[.string s] w fun e w'=>e=.returned (.tuple #[.int .i64 v,.int .i64 n,.bool true])∧Below w.heap.size w w':=by
 refine (rint14_any s w hs).mono fun e w' he => ?_
 unfold InEnd at he
 rw[h] at he
 exact he
theorem head_lt {s:ByteArray} {p:Nat} {c:UInt8} (h:(s.data.toList.drop p).head?=some c):p<s.size:=by
 by_cases hp:p<s.size
 ·exact hp
 ·rw[List.drop_of_length_le (by show s.size≤p;omega)] at h;cases h
theorem runB_in (s:ByteArray) (p r:Nat) (hp:p≤s.size) (h:runB (s.data.toList.drop p)=r):p+r≤s.size:=by
 have:=runB_le (s.data.toList.drop p)
 rw[List.length_drop] at this
 have:runB (s.data.toList.drop p)≤s.size-p:=this
 omega
theorem digit_at {s:ByteArray} {p:Nat} (hp:p<s.size) (w:World):Calls Tryz.prog 60 #[.int .u8 s[p].toNat] w fun e w'=>e=.returned (.bool (digB s[p]))∧w=w':=by
 have:=rdigit_any s[p].toNat w
 rw[digB_is] at this
 exact this
theorem dig_zero {s:ByteArray} {p:Nat} (hp:p<s.size) (h:runD (s.data.toList.drop p)=0):digB s[p]=false:=by
 rw[runD_drop s p hp] at h
 cases hd:digB s[p]
 ·rfl
 ·rw[hd,if_pos rfl] at h;omega
theorem dig_pos {s:ByteArray} {p:Nat} (h:0<runD (s.data.toList.drop p)):∃ hp:p<s.size,digB s[p]=true:=by
 by_cases hp:p<s.size
 ·refine ⟨hp,?_⟩
  rw[runD_drop s p hp] at h
  cases hd:digB s[p]
  ·rw[hd,if_neg (by decide)] at h;omega
  ·rfl
 ·rw[List.drop_of_length_le (by show s.size≤p;omega)] at h
  exact absurd h (by decide)
theorem head_at {s:ByteArray} {p:Nat} (hp:p<s.size):(s.data.toList.drop p).head?=some s[p]:=by
 have hx:p<s.data.toList.length:=hp
 rw[List.drop_eq_getElem_cons hx]
 rfl
theorem beg_at {s:ByteArray} {p:Nat} (c:UInt8) (x:Int) (hx:(c.toNat:Int)=x) (b:Bool) (hp:p≤s.size) (hs:s.size≤1000000) (h:decide ((s.data.toList.drop p).head?=some c)=b) (w:World) :
   Calls Tryz.prog 26 #[.string (s.extract p s.size),.int .u8 x] w fun e w'=>e=.returned (.bool b)∧w=w':=by
 subst hx
 have:=begins_any (s.extract p s.size) c w (by rw[ByteArray.size_extract];omega)
 rw[tail13 s p hp,h] at this
 exact this
theorem blk_at {s:ByteArray} {p r:Nat} (hp:p≤s.size) (hs:s.size≤1000000) (h:runB (s.data.toList.drop p)=r) (w:World) :
   Calls Tryz.prog 27 #[.string (s.extract p s.size)] w fun e w'=>e=.returned (.int .i64 r)∧w=w':=by
 have:=blanks_any (s.extract p s.size) w (by rw[ByteArray.size_extract];omega)
 rw[tail13 s p hp,h] at this
 exact this
def SlB (W:World)(v:Array Value)(w:World):Prop:=Own w (W.heap.size+1) 35 v∧Own w W.heap.size 35 #[.int .i64 0,.string ⟨#[]⟩,.int .i64 0,.int .i64 0,.int .i64 0,.bool false,.bool false,.int .i64 0]∧Below W.heap.size W w
section
variable {W w w':World} {v:Array Value}
theorem SlB.start (W:World):SlB W #[.int .i64 3,.string ⟨#[]⟩,.int .i64 0,.int .i64 0,.int .i64 0,.bool false,.bool false,.int .i64 1]
   ((W.alloc (.cells #[.int .i64 0,.string ⟨#[]⟩,.int .i64 0,.int .i64 0,.int .i64 0,.bool false,.bool false,.int .i64 0] 35)).alloc (.cells #[.int .i64 3,.string ⟨#[]⟩,.int .i64 0,.int .i64 0,.int .i64 0,.bool false,.bool false,.int .i64 1] 35)):=by
 have e:(W.alloc (.cells #[.int .i64 0,.string ⟨#[]⟩,.int .i64 0,.int .i64 0,.int .i64 0,.bool false,.bool false,.int .i64 0] 35)).heap.size=W.heap.size+1:=by simp
 refine ⟨?_,(Own.fresh W _ _).over _,((Below.refl _ W).alloc (Nat.le_refl _) _).alloc (by simp) _⟩
 have:=Own.fresh (W.alloc (.cells #[.int .i64 0,.string ⟨#[]⟩,.int .i64 0,.int .i64 0,.int .i64 0,.bool false,.bool false,.int .i64 0] 35)) 35 #[.int .i64 3,.string ⟨#[]⟩,.int .i64 0,.int .i64 0,.int .i64 0,.bool false,.bool false,.int .i64 1]
 rw[e] at this
 exact this
theorem SlB.on (h:SlB W v w)(hb:Below w.heap.size w w'):SlB W v w':=⟨h.1.stay hb h.1.inside,h.2.1.stay hb h.2.1.inside,h.2.2.trans (hb.mono h.2.2.size)⟩
theorem SlB.put (h:SlB W v w) (i:Nat) (u:Value):SlB W (v.setIfInBounds i u) (w.setCell ⟨W.heap.size+1,i,none⟩ u) :=
 ⟨h.1.put i u,h.2.1.past (p:=⟨W.heap.size+1,i,none⟩) (by show W.heap.size≠W.heap.size+1;omega) u,h.2.2.setCell (Nat.le_succ _) _⟩
theorem SlB.x (h:SlB W v w)(i:Nat):w.cell? ⟨W.heap.size+1,i,none⟩=v[i]?:=h.1.at i
theorem SlB.fx (h:SlB W v w)(i:Nat):w.frozen? ⟨W.heap.size+1,i,none⟩=false:=h.1.free i
theorem SlB.z (h:SlB W v w)(i:Nat):w.cell? ⟨W.heap.size,i,none⟩=(#[.int .i64 0,.string ⟨#[]⟩,.int .i64 0,.int .i64 0,.int .i64 0,.bool false,.bool false,.int .i64 0]:Array Value)[i]?:=h.2.1.at i
theorem SlB.fz (h:SlB W v w)(i:Nat):w.frozen? ⟨W.heap.size,i,none⟩=false:=h.2.1.free i
theorem SlB.fin (h:SlB W v w) (c0 c1 c2 c3 c4 c5 c6 c7:Value) :
   Own ((((((((w.setCell ⟨W.heap.size,0,none⟩ c0).setCell ⟨W.heap.size,1,none⟩ c1).setCell ⟨W.heap.size,2,none⟩ c2).setCell ⟨W.heap.size,3,none⟩ c3).setCell ⟨W.heap.size,4,none⟩ c4).setCell ⟨W.heap.size,5,none⟩ c5).setCell ⟨W.heap.size,6,none⟩ c6).setCell ⟨W.heap.size,7,none⟩ c7) W.heap.size 35 #[c0,c1,c2,c3,c4,c5,c6,c7] ∧
   Below W.heap.size W ((((((((w.setCell ⟨W.heap.size,0,none⟩ c0).setCell ⟨W.heap.size,1,none⟩ c1).setCell ⟨W.heap.size,2,none⟩ c2).setCell ⟨W.heap.size,3,none⟩ c3).setCell ⟨W.heap.size,4,none⟩ c4).setCell ⟨W.heap.size,5,none⟩ c5).setCell ⟨W.heap.size,6,none⟩ c6).setCell ⟨W.heap.size,7,none⟩ c7):=by
 refine ⟨?_,(((((((h.2.2.setCell (Nat.le_refl _) _).setCell (Nat.le_refl _) _).setCell (Nat.le_refl _) _).setCell (Nat.le_refl _) _).setCell (Nat.le_refl _) _).setCell (Nat.le_refl _) _).setCell (Nat.le_refl _) _).setCell (Nat.le_refl _) _⟩
 simpa using (((((((h.2.1.put 0 c0).put 1 c1).put 2 c2).put 3 c3).put 4 c4).put 5 c5).put 6 c6).put 7 c7
end
def SlEnd (l:List UInt8) (W:World) (e:Ending) (w':World):Prop :=
 (match slcQ l with
   | none => ∃ x:Sel,e=.returned (.tuple #[.agg (selV x),.int .i64 0])
   | some (x,n)=>e=.returned (.tuple #[.agg (selV x),.int .i64 n]))∧Below W.heap.size W w'
theorem SlEnd.no {l:List UInt8} {W w':World} {a b:Int} {p q:Bool} {c:Int} (h:slcQ l=none) (hb:Below W.heap.size W w'):SlEnd l W (.returned (.tuple #[.agg #[.int .i64 3,.string ⟨#[]⟩,.int .i64 0,.int .i64 a,.int .i64 b,.bool p,.bool q,.int .i64 c],.int .i64 0])) w':=by
 unfold SlEnd;rw[h];exact ⟨⟨⟨3,⟨#[]⟩,0,a,b,p,q,c⟩,rfl⟩,hb⟩
theorem SlEnd.yes {l:List UInt8} {W w':World} {x:Sel} {n:Nat} {k:Int} {v:Array Value} (h:slcQ l=some (x,n)) (hv:v=selV x) (hk:(n:Int)=k) (hb:Below W.heap.size W w'):SlEnd l W (.returned (.tuple #[.agg v,.int .i64 k])) w':=by
 unfold SlEnd;rw[h,← hk,hv];exact ⟨rfl,hb⟩
theorem rsl_bad (s:ByteArray) (W:World) (hs:s.size≤1000000) (hA:optI s.data.toList=none) :
   Calls Tryz.prog 72 #[.string s] W (SlEnd s.data.toList W):=by
 have HQ:=hid (show slcQ s.data.toList=none by
   unfold slcQ
   rw[hA])
 have S0:=hid (SlB.start W)
 obtain ⟨hq1,hh1⟩:=optI_bad hA
 have I1:=hid (fun w=>rint_no (s:=s) (by exact hq1) hs w)
 rw[show s.data.toList=s.data.toList.drop 0 from rfl] at hh1
 rcases hh1 with hh1|hh1
 ·have hin1:=head_lt hh1
  have in1:(0:Int)<s.size:=by omega
  have g45:((s[0].toNat:Int)==45)=true:=byteI_eq (d:=45) (Option.some.inj ((head_at hin1).symm.trans hh1))
  go_enter Tryz.func72,Tryz.ntmps72
  go_wp2_with (first
    | (go_at_call 73;with_reducible refine (I1.out _).mono ?_;rintro e w1 ⟨rfl,hb1⟩;have h1:=S0.out.on hb1;have x10:=h1.x 0;have p10:=h1.fx 0;have z10:=h1.z 0;have y10:=h1.fz 0;have x11:=h1.x 1;have p11:=h1.fx 1;have z11:=h1.z 1;have y11:=h1.fz 1;have x12:=h1.x 2;have p12:=h1.fx 2;have z12:=h1.z 2;have y12:=h1.fz 2;have x13:=h1.x 3;have p13:=h1.fx 3;have z13:=h1.z 3;have y13:=h1.fz 3;have x14:=h1.x 4;have p14:=h1.fx 4;have z14:=h1.z 4;have y14:=h1.fz 4;have x15:=h1.x 5;have p15:=h1.fx 5;have z15:=h1.z 5;have y15:=h1.fz 5;have x16:=h1.x 6;have p16:=h1.fx 6;have z16:=h1.z 6;have y16:=h1.fz 6;have x17:=h1.x 7;have p17:=h1.fx 7;have z17:=h1.z 7;have y17:=h1.fz 7;simp at x10 z10 x11 z11 x12 z12 x13 z13 x14 z14 x15 z15 x16 z16 x17 z17;have S1:=hid h1;clear h1 hb1))
  have HF:=S1.out.fin (.int .i64 3) (.string ⟨#[]⟩) (.int .i64 0) (.int .i64 0) (.int .i64 0) (.bool false) (.bool false) (.int .i64 1)
  have m0:=HF.1.at 0
  have m1:=HF.1.at 1
  have m2:=HF.1.at 2
  have m3:=HF.1.at 3
  have m4:=HF.1.at 4
  have m5:=HF.1.at 5
  have m6:=HF.1.at 6
  have m7:=HF.1.at 7
  simp at m0 m1 m2 m3 m4 m5 m6 m7
  refine bodyPost_ret (by simp[results,Tryz.results72,go_sem,m0,m1,m2,m3,m4,m5,m6,m7];try rfl) rfl ?_
  exact SlEnd.no HQ.out HF.2
 ·obtain ⟨hin1,hdg1⟩:=dig_pos hh1
  have in1:(0:Int)<s.size:=by omega
  have D1:=hid (fun w=>digit_at hin1 w)
  rw[hdg1] at D1
  have g45:((s[0].toNat:Int)==45)=false:=byteI_ne (d:=45) (fun e=>by rw[e] at hdg1;exact absurd hdg1 (by decide))
  go_enter Tryz.func72,Tryz.ntmps72
  go_wp2_with (first
    | (go_at_call 60;with_reducible refine (D1.out _).mono ?_;rintro e w' ⟨rfl,rfl⟩)
    | (go_at_call 73;with_reducible refine (I1.out _).mono ?_;rintro e w1 ⟨rfl,hb1⟩;have h1:=S0.out.on hb1;have x10:=h1.x 0;have p10:=h1.fx 0;have z10:=h1.z 0;have y10:=h1.fz 0;have x11:=h1.x 1;have p11:=h1.fx 1;have z11:=h1.z 1;have y11:=h1.fz 1;have x12:=h1.x 2;have p12:=h1.fx 2;have z12:=h1.z 2;have y12:=h1.fz 2;have x13:=h1.x 3;have p13:=h1.fx 3;have z13:=h1.z 3;have y13:=h1.fz 3;have x14:=h1.x 4;have p14:=h1.fx 4;have z14:=h1.z 4;have y14:=h1.fz 4;have x15:=h1.x 5;have p15:=h1.fx 5;have z15:=h1.z 5;have y15:=h1.fz 5;have x16:=h1.x 6;have p16:=h1.fx 6;have z16:=h1.z 6;have y16:=h1.fz 6;have x17:=h1.x 7;have p17:=h1.fx 7;have z17:=h1.z 7;have y17:=h1.fz 7;simp at x10 z10 x11 z11 x12 z12 x13 z13 x14 z14 x15 z15 x16 z16 x17 z17;have S1:=hid h1;clear h1 hb1))
  have HF:=S1.out.fin (.int .i64 3) (.string ⟨#[]⟩) (.int .i64 0) (.int .i64 0) (.int .i64 0) (.bool false) (.bool false) (.int .i64 1)
  have m0:=HF.1.at 0
  have m1:=HF.1.at 1
  have m2:=HF.1.at 2
  have m3:=HF.1.at 3
  have m4:=HF.1.at 4
  have m5:=HF.1.at 5
  have m6:=HF.1.at 6
  have m7:=HF.1.at 7
  simp at m0 m1 m2 m3 m4 m5 m6 m7
  refine bodyPost_ret (by simp[results,Tryz.results72,go_sem,m0,m1,m2,m3,m4,m5,m6,m7];try rfl) rfl ?_
  exact SlEnd.no HQ.out HF.2
theorem rsl_none_n (s:ByteArray) (W:World) (hs:s.size≤1000000) (hA:optI s.data.toList=some none) (hc1:(s.data.toList.drop 0).head?≠some 58) :
   Calls Tryz.prog 72 #[.string s] W (SlEnd s.data.toList W):=by
 have HQ:=hid (show slcQ s.data.toList=none by
   unfold slcQ
   rw[hA]
   show (if (s.data.toList.drop 0).head?=some 58 then slcB none s.data.toList 1 else none)=_
   rw[if_neg hc1])
 have S0:=hid (SlB.start W)
 obtain ⟨hq1,hh1,hd1⟩:=optI_none hA
 have I1:=hid (fun w=>rint_no (s:=s) (by exact hq1) hs w)
 rw[show s.data.toList=s.data.toList.drop 0 from rfl] at hh1 hd1
 have C1:=hid (fun w=>(show Calls Tryz.prog 26 #[.string s,.int .u8 58] w fun e w'=>e=.returned (.bool false)∧w=w' by have h:=begins_any s 58 w hs;rw[show s.data.toList=s.data.toList.drop 0 from rfl,decide_eq_false hc1] at h;exact h))
 by_cases hin1:0<s.size
 ·have in1:(0:Int)<s.size:=by omega
  have D1:=hid (fun w=>digit_at hin1 w)
  rw[dig_zero hin1 hd1] at D1
  have g45:((s[0].toNat:Int)==45)=false:=byteI_ne (d:=45) (fun e=>hh1 ((head_at hin1).trans (congrArg some e)))
  go_enter Tryz.func72,Tryz.ntmps72
  go_wp2_with (first
    | (go_at_call 60;with_reducible refine (D1.out _).mono ?_;rintro e w' ⟨rfl,rfl⟩)
    | (go_at_call 26;with_reducible refine (C1.out _).mono ?_;rintro e w' ⟨rfl,rfl⟩)
    | (go_at_call 73;with_reducible refine (I1.out _).mono ?_;rintro e w1 ⟨rfl,hb1⟩;have h1:=S0.out.on hb1;have x10:=h1.x 0;have p10:=h1.fx 0;have z10:=h1.z 0;have y10:=h1.fz 0;have x11:=h1.x 1;have p11:=h1.fx 1;have z11:=h1.z 1;have y11:=h1.fz 1;have x12:=h1.x 2;have p12:=h1.fx 2;have z12:=h1.z 2;have y12:=h1.fz 2;have x13:=h1.x 3;have p13:=h1.fx 3;have z13:=h1.z 3;have y13:=h1.fz 3;have x14:=h1.x 4;have p14:=h1.fx 4;have z14:=h1.z 4;have y14:=h1.fz 4;have x15:=h1.x 5;have p15:=h1.fx 5;have z15:=h1.z 5;have y15:=h1.fz 5;have x16:=h1.x 6;have p16:=h1.fx 6;have z16:=h1.z 6;have y16:=h1.fz 6;have x17:=h1.x 7;have p17:=h1.fx 7;have z17:=h1.z 7;have y17:=h1.fz 7;simp at x10 z10 x11 z11 x12 z12 x13 z13 x14 z14 x15 z15 x16 z16 x17 z17;have S1:=hid h1;clear h1 hb1))
  have HF:=S1.out.fin (.int .i64 3) (.string ⟨#[]⟩) (.int .i64 0) (.int .i64 0) (.int .i64 0) (.bool false) (.bool false) (.int .i64 1)
  have m0:=HF.1.at 0
  have m1:=HF.1.at 1
  have m2:=HF.1.at 2
  have m3:=HF.1.at 3
  have m4:=HF.1.at 4
  have m5:=HF.1.at 5
  have m6:=HF.1.at 6
  have m7:=HF.1.at 7
  simp at m0 m1 m2 m3 m4 m5 m6 m7
  refine bodyPost_ret (by simp[results,Tryz.results72,go_sem,m0,m1,m2,m3,m4,m5,m6,m7];try rfl) rfl ?_
  exact SlEnd.no HQ.out HF.2
 ·have in1:¬ (0:Int)<s.size:=by omega
  go_enter Tryz.func72,Tryz.ntmps72
  go_wp2_with (first
    | (go_at_call 26;with_reducible refine (C1.out _).mono ?_;rintro e w' ⟨rfl,rfl⟩)
    | (go_at_call 73;with_reducible refine (I1.out _).mono ?_;rintro e w1 ⟨rfl,hb1⟩;have h1:=S0.out.on hb1;have x10:=h1.x 0;have p10:=h1.fx 0;have z10:=h1.z 0;have y10:=h1.fz 0;have x11:=h1.x 1;have p11:=h1.fx 1;have z11:=h1.z 1;have y11:=h1.fz 1;have x12:=h1.x 2;have p12:=h1.fx 2;have z12:=h1.z 2;have y12:=h1.fz 2;have x13:=h1.x 3;have p13:=h1.fx 3;have z13:=h1.z 3;have y13:=h1.fz 3;have x14:=h1.x 4;have p14:=h1.fx 4;have z14:=h1.z 4;have y14:=h1.fz 4;have x15:=h1.x 5;have p15:=h1.fx 5;have z15:=h1.z 5;have y15:=h1.fz 5;have x16:=h1.x 6;have p16:=h1.fx 6;have z16:=h1.z 6;have y16:=h1.fz 6;have x17:=h1.x 7;have p17:=h1.fx 7;have z17:=h1.z 7;have y17:=h1.fz 7;simp at x10 z10 x11 z11 x12 z12 x13 z13 x14 z14 x15 z15 x16 z16 x17 z17;have S1:=hid h1;clear h1 hb1))
  have HF:=S1.out.fin (.int .i64 3) (.string ⟨#[]⟩) (.int .i64 0) (.int .i64 0) (.int .i64 0) (.bool false) (.bool false) (.int .i64 1)
  have m0:=HF.1.at 0
  have m1:=HF.1.at 1
  have m2:=HF.1.at 2
  have m3:=HF.1.at 3
  have m4:=HF.1.at 4
  have m5:=HF.1.at 5
  have m6:=HF.1.at 6
  have m7:=HF.1.at 7
  simp at m0 m1 m2 m3 m4 m5 m6 m7
  refine bodyPost_ret (by simp[results,Tryz.results72,go_sem,m0,m1,m2,m3,m4,m5,m6,m7];try rfl) rfl ?_
  exact SlEnd.no HQ.out HF.2
theorem rsl_some_n (s:ByteArray) (W:World) (hs:s.size≤1000000) (v1:Int) (n1 r1 p:Nat) (hA:optI s.data.toList=some (some (v1,n1))) (hr1:runB (s.data.toList.drop n1)=r1) (hp:n1+r1=p) (hc1:(s.data.toList.drop p).head?≠some 58) :
   Calls Tryz.prog 72 #[.string s] W (SlEnd s.data.toList W):=by
 have HQ:=hid (show slcQ s.data.toList=none by
   unfold slcQ
   rw[hA]
   show (if (s.data.toList.drop (n1+runB (s.data.toList.drop n1))).head?=some 58 then slcB (some v1) s.data.toList (n1+runB (s.data.toList.drop n1)+1) else none)=_
   rw[hr1,hp,if_neg hc1])
 have S0:=hid (SlB.start W)
 have hq1:=optI_some hA
 have I1:=hid (fun w=>rint_yes (s:=s) (by exact hq1) hs w)
 have hn1:=nrQ_in hq1
 have hle_n1:n1≤s.size:=hn1.2
 have hle_p:p≤s.size:=by have:=runB_in s n1 r1 hle_n1 hr1;omega
 have K1:=hid (fun w=>blk_at hle_n1 hs hr1 w)
 have sA:(n1:Int)≤s.size:=by omega
 have sB:(p:Int)≤s.size:=by omega
 have eA:(n1:Int)+r1=p:=by omega
 have C1:=hid (fun w=>beg_at (s:=s) (p:=p) 58 58 rfl false hle_p hs (decide_eq_false hc1) w)
 go_enter Tryz.func72,Tryz.ntmps72
 go_wp2_with (first
   | (go_at_call 26;with_reducible refine (C1.out _).mono ?_;rintro e w' ⟨rfl,rfl⟩)
   | (go_at_call 27;with_reducible refine (K1.out _).mono ?_;rintro e w' ⟨rfl,rfl⟩)
   | (go_at_call 73;with_reducible refine (I1.out _).mono ?_;rintro e w1 ⟨rfl,hb1⟩;have h1:=S0.out.on hb1;have x13:=h1.x 3;have p13:=h1.fx 3;have x15:=h1.x 5;have p15:=h1.fx 5;simp at x13 x15;have g1:=((h1.put 3 (.int .i64 v1)).put 5 (.bool true));simp at g1;have x20:=g1.x 0;have p20:=g1.fx 0;have z20:=g1.z 0;have y20:=g1.fz 0;have x21:=g1.x 1;have p21:=g1.fx 1;have z21:=g1.z 1;have y21:=g1.fz 1;have x22:=g1.x 2;have p22:=g1.fx 2;have z22:=g1.z 2;have y22:=g1.fz 2;have x23:=g1.x 3;have p23:=g1.fx 3;have z23:=g1.z 3;have y23:=g1.fz 3;have x24:=g1.x 4;have p24:=g1.fx 4;have z24:=g1.z 4;have y24:=g1.fz 4;have x25:=g1.x 5;have p25:=g1.fx 5;have z25:=g1.z 5;have y25:=g1.fz 5;have x26:=g1.x 6;have p26:=g1.fx 6;have z26:=g1.z 6;have y26:=g1.fz 6;have x27:=g1.x 7;have p27:=g1.fx 7;have z27:=g1.z 7;have y27:=g1.fz 7;simp at x20 z20 x21 z21 x22 z22 x23 z23 x24 z24 x25 z25 x26 z26 x27 z27;have S1:=hid g1;clear h1 g1 hb1))
 have HF:=S1.out.fin (.int .i64 3) (.string ⟨#[]⟩) (.int .i64 0) (.int .i64 v1) (.int .i64 0) (.bool true) (.bool false) (.int .i64 1)
 have m0:=HF.1.at 0
 have m1:=HF.1.at 1
 have m2:=HF.1.at 2
 have m3:=HF.1.at 3
 have m4:=HF.1.at 4
 have m5:=HF.1.at 5
 have m6:=HF.1.at 6
 have m7:=HF.1.at 7
 simp at m0 m1 m2 m3 m4 m5 m6 m7
 refine bodyPost_ret (by simp[results,Tryz.results72,go_sem,m0,m1,m2,m3,m4,m5,m6,m7];try rfl) rfl ?_
 exact SlEnd.no HQ.out HF.2
theorem rsl_none_y_bad (s:ByteArray) (W:World) (hs:s.size≤1000000) (hA:optI s.data.toList=some none) (hc1:(s.data.toList.drop 0).head?=some 58) (r2 t:Nat) (hr2:runB (s.data.toList.drop 1)=r2) (ht:1+r2=t) (hB:optI (s.data.toList.drop t)=none) :
   Calls Tryz.prog 72 #[.string s] W (SlEnd s.data.toList W):=by
 have HQ:=hid (show slcQ s.data.toList=none by
   unfold slcQ
   rw[hA]
   show (if (s.data.toList.drop 0).head?=some 58 then slcB none s.data.toList 1 else none)=_
   rw[if_pos hc1]
   unfold slcB
   rw[hr2,ht,hB])
 have S0:=hid (SlB.start W)
 obtain ⟨hq1,hh1,hd1⟩:=optI_none hA
 have I1:=hid (fun w=>rint_no (s:=s) (by exact hq1) hs w)
 rw[show s.data.toList=s.data.toList.drop 0 from rfl] at hh1 hd1
 have C1:=hid (fun w=>(show Calls Tryz.prog 26 #[.string s,.int .u8 58] w fun e w'=>e=.returned (.bool true)∧w=w' by have h:=begins_any s 58 w hs;rw[show s.data.toList=s.data.toList.drop 0 from rfl,decide_eq_true hc1] at h;exact h))
 have hlt_p:=head_lt hc1
 have hle_1:1≤s.size:=by omega
 have hle_t:t≤s.size:=by have:=runB_in s 1 r2 hle_1 hr2;omega
 have K2:=hid (fun w=>blk_at hle_1 hs hr2 w)
 have sC:(1:Int)≤s.size:=by omega
 have sD:(t:Int)≤s.size:=by omega
 have eC:(1:Int)+r2=t:=by omega
 obtain ⟨hq2,hh2⟩:=optI_bad hB
 have I2:=hid (fun w=>rint_no (s:=(s.extract t s.size)) (by rw[tail13 s t hle_t];exact hq2) (by rw[ByteArray.size_extract];omega) w)
 have hin1:0<s.size:=hlt_p
 have in1:(0:Int)<s.size:=by omega
 have D1:=hid (fun w=>digit_at hin1 w)
 rw[dig_zero hin1 hd1] at D1
 have g45:((s[0].toNat:Int)==45)=false:=byteI_ne (d:=45) (fun e=>hh1 ((head_at hin1).trans (congrArg some e)))
 rcases hh2 with hh2|hh2
 ·have hin2:=head_lt hh2
  have in2:(t:Int)<s.size:=by omega
  have B2:=hid (fun w=>beg_at (s:=s) (p:=t) 45 45 rfl true hle_t hs (decide_eq_true hh2) w)
  go_enter Tryz.func72,Tryz.ntmps72
  go_wp2_with (first
    | (go_at_call 26;with_reducible refine (B2.out _).mono ?_;rintro e w' ⟨rfl,rfl⟩)
    | (go_at_call 60;with_reducible refine (D1.out _).mono ?_;rintro e w' ⟨rfl,rfl⟩)
    | (go_at_call 73;with_reducible refine (I2.out _).mono ?_;rintro e w2 ⟨rfl,hb2⟩;have h2:=S1.out.on hb2;have x30:=h2.x 0;have p30:=h2.fx 0;have z30:=h2.z 0;have y30:=h2.fz 0;have x31:=h2.x 1;have p31:=h2.fx 1;have z31:=h2.z 1;have y31:=h2.fz 1;have x32:=h2.x 2;have p32:=h2.fx 2;have z32:=h2.z 2;have y32:=h2.fz 2;have x33:=h2.x 3;have p33:=h2.fx 3;have z33:=h2.z 3;have y33:=h2.fz 3;have x34:=h2.x 4;have p34:=h2.fx 4;have z34:=h2.z 4;have y34:=h2.fz 4;have x35:=h2.x 5;have p35:=h2.fx 5;have z35:=h2.z 5;have y35:=h2.fz 5;have x36:=h2.x 6;have p36:=h2.fx 6;have z36:=h2.z 6;have y36:=h2.fz 6;have x37:=h2.x 7;have p37:=h2.fx 7;have z37:=h2.z 7;have y37:=h2.fz 7;simp at x30 z30 x31 z31 x32 z32 x33 z33 x34 z34 x35 z35 x36 z36 x37 z37;have S2:=hid h2;clear h2 hb2)
    | (go_at_call 27;with_reducible refine (K2.out _).mono ?_;rintro e w' ⟨rfl,rfl⟩)
    | (go_at_call 26;with_reducible refine (C1.out _).mono ?_;rintro e w' ⟨rfl,rfl⟩)
    | (go_at_call 73;with_reducible refine (I1.out _).mono ?_;rintro e w1 ⟨rfl,hb1⟩;have h1:=S0.out.on hb1;have S1:=hid h1;clear h1 hb1))
  have HF:=S2.out.fin (.int .i64 3) (.string ⟨#[]⟩) (.int .i64 0) (.int .i64 0) (.int .i64 0) (.bool false) (.bool false) (.int .i64 1)
  have m0:=HF.1.at 0
  have m1:=HF.1.at 1
  have m2:=HF.1.at 2
  have m3:=HF.1.at 3
  have m4:=HF.1.at 4
  have m5:=HF.1.at 5
  have m6:=HF.1.at 6
  have m7:=HF.1.at 7
  simp at m0 m1 m2 m3 m4 m5 m6 m7
  refine bodyPost_ret (by simp[results,Tryz.results72,go_sem,m0,m1,m2,m3,m4,m5,m6,m7];try rfl) rfl ?_
  exact SlEnd.no HQ.out HF.2
 ·obtain ⟨hin2,hdg2⟩:=dig_pos hh2
  have in2:(t:Int)<s.size:=by omega
  have D2:=hid (fun w=>digit_at hin2 w)
  rw[hdg2] at D2
  have B2:=hid (fun w=>beg_at (s:=s) (p:=t) 45 45 rfl false hle_t hs (decide_eq_false (fun e=>by have e2:s[t]=45:=Option.some.inj ((head_at hin2).symm.trans e);rw[e2] at hdg2;exact absurd hdg2 (by decide))) w)
  go_enter Tryz.func72,Tryz.ntmps72
  go_wp2_with (first
    | (go_at_call 60;with_reducible refine (D2.out _).mono ?_;rintro e w' ⟨rfl,rfl⟩)
    | (go_at_call 26;with_reducible refine (B2.out _).mono ?_;rintro e w' ⟨rfl,rfl⟩)
    | (go_at_call 60;with_reducible refine (D1.out _).mono ?_;rintro e w' ⟨rfl,rfl⟩)
    | (go_at_call 73;with_reducible refine (I2.out _).mono ?_;rintro e w2 ⟨rfl,hb2⟩;have h2:=S1.out.on hb2;have x30:=h2.x 0;have p30:=h2.fx 0;have z30:=h2.z 0;have y30:=h2.fz 0;have x31:=h2.x 1;have p31:=h2.fx 1;have z31:=h2.z 1;have y31:=h2.fz 1;have x32:=h2.x 2;have p32:=h2.fx 2;have z32:=h2.z 2;have y32:=h2.fz 2;have x33:=h2.x 3;have p33:=h2.fx 3;have z33:=h2.z 3;have y33:=h2.fz 3;have x34:=h2.x 4;have p34:=h2.fx 4;have z34:=h2.z 4;have y34:=h2.fz 4;have x35:=h2.x 5;have p35:=h2.fx 5;have z35:=h2.z 5;have y35:=h2.fz 5;have x36:=h2.x 6;have p36:=h2.fx 6;have z36:=h2.z 6;have y36:=h2.fz 6;have x37:=h2.x 7;have p37:=h2.fx 7;have z37:=h2.z 7;have y37:=h2.fz 7;simp at x30 z30 x31 z31 x32 z32 x33 z33 x34 z34 x35 z35 x36 z36 x37 z37;have S2:=hid h2;clear h2 hb2)
    | (go_at_call 27;with_reducible refine (K2.out _).mono ?_;rintro e w' ⟨rfl,rfl⟩)
    | (go_at_call 26;with_reducible refine (C1.out _).mono ?_;rintro e w' ⟨rfl,rfl⟩)
    | (go_at_call 73;with_reducible refine (I1.out _).mono ?_;rintro e w1 ⟨rfl,hb1⟩;have h1:=S0.out.on hb1;have S1:=hid h1;clear h1 hb1))
  have HF:=S2.out.fin (.int .i64 3) (.string ⟨#[]⟩) (.int .i64 0) (.int .i64 0) (.int .i64 0) (.bool false) (.bool false) (.int .i64 1)
  have m0:=HF.1.at 0
  have m1:=HF.1.at 1
  have m2:=HF.1.at 2
  have m3:=HF.1.at 3
  have m4:=HF.1.at 4
  have m5:=HF.1.at 5
  have m6:=HF.1.at 6
  have m7:=HF.1.at 7
  simp at m0 m1 m2 m3 m4 m5 m6 m7
  refine bodyPost_ret (by simp[results,Tryz.results72,go_sem,m0,m1,m2,m3,m4,m5,m6,m7];try rfl) rfl ?_
  exact SlEnd.no HQ.out HF.2
theorem rsl_some_y_bad (s:ByteArray) (W:World) (hs:s.size≤1000000) (v1:Int) (n1 r1 p:Nat) (hA:optI s.data.toList=some (some (v1,n1))) (hr1:runB (s.data.toList.drop n1)=r1) (hp:n1+r1=p) (hc1:(s.data.toList.drop p).head?=some 58) (q r2 t:Nat) (hq:p+1=q) (hr2:runB (s.data.toList.drop q)=r2) (ht:q+r2=t) (hB:optI (s.data.toList.drop t)=none) :
   Calls Tryz.prog 72 #[.string s] W (SlEnd s.data.toList W):=by
 have HQ:=hid (show slcQ s.data.toList=none by
   unfold slcQ
   rw[hA]
   show (if (s.data.toList.drop (n1+runB (s.data.toList.drop n1))).head?=some 58 then slcB (some v1) s.data.toList (n1+runB (s.data.toList.drop n1)+1) else none)=_
   rw[hr1,hp,if_pos hc1]
   rw[hq]
   unfold slcB
   rw[hr2,ht,hB])
 have S0:=hid (SlB.start W)
 have hq1:=optI_some hA
 have I1:=hid (fun w=>rint_yes (s:=s) (by exact hq1) hs w)
 have hn1:=nrQ_in hq1
 have hle_n1:n1≤s.size:=hn1.2
 have hle_p:p≤s.size:=by have:=runB_in s n1 r1 hle_n1 hr1;omega
 have K1:=hid (fun w=>blk_at hle_n1 hs hr1 w)
 have sA:(n1:Int)≤s.size:=by omega
 have sB:(p:Int)≤s.size:=by omega
 have eA:(n1:Int)+r1=p:=by omega
 have C1:=hid (fun w=>beg_at (s:=s) (p:=p) 58 58 rfl true hle_p hs (decide_eq_true hc1) w)
 have hlt_p:=head_lt hc1
 have hle_q:q≤s.size:=by omega
 have hle_t:t≤s.size:=by have:=runB_in s q r2 hle_q hr2;omega
 have K2:=hid (fun w=>blk_at hle_q hs hr2 w)
 have sC:(q:Int)≤s.size:=by omega
 have sD:(t:Int)≤s.size:=by omega
 have eC:(q:Int)+r2=t:=by omega
 have eB:(p:Int)+1=q:=by omega
 obtain ⟨hq2,hh2⟩:=optI_bad hB
 have I2:=hid (fun w=>rint_no (s:=(s.extract t s.size)) (by rw[tail13 s t hle_t];exact hq2) (by rw[ByteArray.size_extract];omega) w)
 rcases hh2 with hh2|hh2
 ·have hin2:=head_lt hh2
  have in2:(t:Int)<s.size:=by omega
  have B2:=hid (fun w=>beg_at (s:=s) (p:=t) 45 45 rfl true hle_t hs (decide_eq_true hh2) w)
  go_enter Tryz.func72,Tryz.ntmps72
  go_wp2_with (first
    | (go_at_call 26;with_reducible refine (B2.out _).mono ?_;rintro e w' ⟨rfl,rfl⟩)
    | (go_at_call 73;with_reducible refine (I2.out _).mono ?_;rintro e w2 ⟨rfl,hb2⟩;have h2:=S1.out.on hb2;clear x13 p13 x15 p15;have x30:=h2.x 0;have p30:=h2.fx 0;have z30:=h2.z 0;have y30:=h2.fz 0;have x31:=h2.x 1;have p31:=h2.fx 1;have z31:=h2.z 1;have y31:=h2.fz 1;have x32:=h2.x 2;have p32:=h2.fx 2;have z32:=h2.z 2;have y32:=h2.fz 2;have x33:=h2.x 3;have p33:=h2.fx 3;have z33:=h2.z 3;have y33:=h2.fz 3;have x34:=h2.x 4;have p34:=h2.fx 4;have z34:=h2.z 4;have y34:=h2.fz 4;have x35:=h2.x 5;have p35:=h2.fx 5;have z35:=h2.z 5;have y35:=h2.fz 5;have x36:=h2.x 6;have p36:=h2.fx 6;have z36:=h2.z 6;have y36:=h2.fz 6;have x37:=h2.x 7;have p37:=h2.fx 7;have z37:=h2.z 7;have y37:=h2.fz 7;simp at x30 z30 x31 z31 x32 z32 x33 z33 x34 z34 x35 z35 x36 z36 x37 z37;have S2:=hid h2;clear h2 hb2)
    | (go_at_call 27;with_reducible refine (K2.out _).mono ?_;rintro e w' ⟨rfl,rfl⟩)
    | (go_at_call 26;with_reducible refine (C1.out _).mono ?_;rintro e w' ⟨rfl,rfl⟩)
    | (go_at_call 27;with_reducible refine (K1.out _).mono ?_;rintro e w' ⟨rfl,rfl⟩)
    | (go_at_call 73;with_reducible refine (I1.out _).mono ?_;rintro e w1 ⟨rfl,hb1⟩;have h1:=S0.out.on hb1;have x13:=h1.x 3;have p13:=h1.fx 3;have x15:=h1.x 5;have p15:=h1.fx 5;simp at x13 x15;have g1:=((h1.put 3 (.int .i64 v1)).put 5 (.bool true));simp at g1;have S1:=hid g1;clear h1 g1 hb1))
  have HF:=S2.out.fin (.int .i64 3) (.string ⟨#[]⟩) (.int .i64 0) (.int .i64 v1) (.int .i64 0) (.bool true) (.bool false) (.int .i64 1)
  have m0:=HF.1.at 0
  have m1:=HF.1.at 1
  have m2:=HF.1.at 2
  have m3:=HF.1.at 3
  have m4:=HF.1.at 4
  have m5:=HF.1.at 5
  have m6:=HF.1.at 6
  have m7:=HF.1.at 7
  simp at m0 m1 m2 m3 m4 m5 m6 m7
  refine bodyPost_ret (by simp[results,Tryz.results72,go_sem,m0,m1,m2,m3,m4,m5,m6,m7];try rfl) rfl ?_
  exact SlEnd.no HQ.out HF.2
 ·obtain ⟨hin2,hdg2⟩:=dig_pos hh2
  have in2:(t:Int)<s.size:=by omega
  have D2:=hid (fun w=>digit_at hin2 w)
  rw[hdg2] at D2
  have B2:=hid (fun w=>beg_at (s:=s) (p:=t) 45 45 rfl false hle_t hs (decide_eq_false (fun e=>by have e2:s[t]=45:=Option.some.inj ((head_at hin2).symm.trans e);rw[e2] at hdg2;exact absurd hdg2 (by decide))) w)
  go_enter Tryz.func72,Tryz.ntmps72
  go_wp2_with (first
    | (go_at_call 60;with_reducible refine (D2.out _).mono ?_;rintro e w' ⟨rfl,rfl⟩)
    | (go_at_call 26;with_reducible refine (B2.out _).mono ?_;rintro e w' ⟨rfl,rfl⟩)
    | (go_at_call 73;with_reducible refine (I2.out _).mono ?_;rintro e w2 ⟨rfl,hb2⟩;have h2:=S1.out.on hb2;clear x13 p13 x15 p15;have x30:=h2.x 0;have p30:=h2.fx 0;have z30:=h2.z 0;have y30:=h2.fz 0;have x31:=h2.x 1;have p31:=h2.fx 1;have z31:=h2.z 1;have y31:=h2.fz 1;have x32:=h2.x 2;have p32:=h2.fx 2;have z32:=h2.z 2;have y32:=h2.fz 2;have x33:=h2.x 3;have p33:=h2.fx 3;have z33:=h2.z 3;have y33:=h2.fz 3;have x34:=h2.x 4;have p34:=h2.fx 4;have z34:=h2.z 4;have y34:=h2.fz 4;have x35:=h2.x 5;have p35:=h2.fx 5;have z35:=h2.z 5;have y35:=h2.fz 5;have x36:=h2.x 6;have p36:=h2.fx 6;have z36:=h2.z 6;have y36:=h2.fz 6;have x37:=h2.x 7;have p37:=h2.fx 7;have z37:=h2.z 7;have y37:=h2.fz 7;simp at x30 z30 x31 z31 x32 z32 x33 z33 x34 z34 x35 z35 x36 z36 x37 z37;have S2:=hid h2;clear h2 hb2)
    | (go_at_call 27;with_reducible refine (K2.out _).mono ?_;rintro e w' ⟨rfl,rfl⟩)
    | (go_at_call 26;with_reducible refine (C1.out _).mono ?_;rintro e w' ⟨rfl,rfl⟩)
    | (go_at_call 27;with_reducible refine (K1.out _).mono ?_;rintro e w' ⟨rfl,rfl⟩)
    | (go_at_call 73;with_reducible refine (I1.out _).mono ?_;rintro e w1 ⟨rfl,hb1⟩;have h1:=S0.out.on hb1;have x13:=h1.x 3;have p13:=h1.fx 3;have x15:=h1.x 5;have p15:=h1.fx 5;simp at x13 x15;have g1:=((h1.put 3 (.int .i64 v1)).put 5 (.bool true));simp at g1;have S1:=hid g1;clear h1 g1 hb1))
  have HF:=S2.out.fin (.int .i64 3) (.string ⟨#[]⟩) (.int .i64 0) (.int .i64 v1) (.int .i64 0) (.bool true) (.bool false) (.int .i64 1)
  have m0:=HF.1.at 0
  have m1:=HF.1.at 1
  have m2:=HF.1.at 2
  have m3:=HF.1.at 3
  have m4:=HF.1.at 4
  have m5:=HF.1.at 5
  have m6:=HF.1.at 6
  have m7:=HF.1.at 7
  simp at m0 m1 m2 m3 m4 m5 m6 m7
  refine bodyPost_ret (by simp[results,Tryz.results72,go_sem,m0,m1,m2,m3,m4,m5,m6,m7];try rfl) rfl ?_
  exact SlEnd.no HQ.out HF.2
theorem rsl_none_y_none_n (s:ByteArray) (W:World) (hs:s.size≤1000000) (hA:optI s.data.toList=some none) (hc1:(s.data.toList.drop 0).head?=some 58) (r2 t:Nat) (hr2:runB (s.data.toList.drop 1)=r2) (ht:1+r2=t) (hB:optI (s.data.toList.drop t)=some none) (hc2:(s.data.toList.drop t).head?≠some 58) :
   Calls Tryz.prog 72 #[.string s] W (SlEnd s.data.toList W):=by
 have HQ:=hid (show slcQ s.data.toList=some (sqS none none 1,1) by
   unfold slcQ
   rw[hA]
   show (if (s.data.toList.drop 0).head?=some 58 then slcB none s.data.toList 1 else none)=_
   rw[if_pos hc1]
   unfold slcB
   rw[hr2,ht,hB]
   show (if (s.data.toList.drop t).head?=some 58 then slcC none none s.data.toList t else some (sqS none none 1,1))=_
   rw[if_neg hc2])
 have S0:=hid (SlB.start W)
 obtain ⟨hq1,hh1,hd1⟩:=optI_none hA
 have I1:=hid (fun w=>rint_no (s:=s) (by exact hq1) hs w)
 rw[show s.data.toList=s.data.toList.drop 0 from rfl] at hh1 hd1
 have C1:=hid (fun w=>(show Calls Tryz.prog 26 #[.string s,.int .u8 58] w fun e w'=>e=.returned (.bool true)∧w=w' by have h:=begins_any s 58 w hs;rw[show s.data.toList=s.data.toList.drop 0 from rfl,decide_eq_true hc1] at h;exact h))
 have hlt_p:=head_lt hc1
 have hle_1:1≤s.size:=by omega
 have hle_t:t≤s.size:=by have:=runB_in s 1 r2 hle_1 hr2;omega
 have K2:=hid (fun w=>blk_at hle_1 hs hr2 w)
 have sC:(1:Int)≤s.size:=by omega
 have sD:(t:Int)≤s.size:=by omega
 have eC:(1:Int)+r2=t:=by omega
 obtain ⟨hq2,hh2,hd2⟩:=optI_none hB
 have I2:=hid (fun w=>rint_no (s:=(s.extract t s.size)) (by rw[tail13 s t hle_t];exact hq2) (by rw[ByteArray.size_extract];omega) w)
 have B2:=hid (fun w=>beg_at (s:=s) (p:=t) 45 45 rfl false hle_t hs (decide_eq_false hh2) w)
 have C2:=hid (fun w=>beg_at (s:=s) (p:=t) 58 58 rfl false hle_t hs (decide_eq_false hc2) w)
 have hin1:0<s.size:=hlt_p
 have in1:(0:Int)<s.size:=by omega
 have D1:=hid (fun w=>digit_at hin1 w)
 rw[dig_zero hin1 hd1] at D1
 have g45:((s[0].toNat:Int)==45)=false:=byteI_ne (d:=45) (fun e=>hh1 ((head_at hin1).trans (congrArg some e)))
 by_cases hin2:t<s.size
 ·have in2:(t:Int)<s.size:=by omega
  have D2:=hid (fun w=>digit_at hin2 w)
  rw[dig_zero hin2 hd2] at D2
  go_enter Tryz.func72,Tryz.ntmps72
  go_wp2_with (first
    | (go_at_call 60;with_reducible refine (D2.out _).mono ?_;rintro e w' ⟨rfl,rfl⟩)
    | (go_at_call 60;with_reducible refine (D1.out _).mono ?_;rintro e w' ⟨rfl,rfl⟩)
    | (go_at_call 26;with_reducible refine (C2.out _).mono ?_;rintro e w' ⟨rfl,rfl⟩)
    | (go_at_call 26;with_reducible refine (B2.out _).mono ?_;rintro e w' ⟨rfl,rfl⟩)
    | (go_at_call 73;with_reducible refine (I2.out _).mono ?_;rintro e w2 ⟨rfl,hb2⟩;have h2:=S1.out.on hb2;have x30:=h2.x 0;have p30:=h2.fx 0;have z30:=h2.z 0;have y30:=h2.fz 0;have x31:=h2.x 1;have p31:=h2.fx 1;have z31:=h2.z 1;have y31:=h2.fz 1;have x32:=h2.x 2;have p32:=h2.fx 2;have z32:=h2.z 2;have y32:=h2.fz 2;have x33:=h2.x 3;have p33:=h2.fx 3;have z33:=h2.z 3;have y33:=h2.fz 3;have x34:=h2.x 4;have p34:=h2.fx 4;have z34:=h2.z 4;have y34:=h2.fz 4;have x35:=h2.x 5;have p35:=h2.fx 5;have z35:=h2.z 5;have y35:=h2.fz 5;have x36:=h2.x 6;have p36:=h2.fx 6;have z36:=h2.z 6;have y36:=h2.fz 6;have x37:=h2.x 7;have p37:=h2.fx 7;have z37:=h2.z 7;have y37:=h2.fz 7;simp at x30 z30 x31 z31 x32 z32 x33 z33 x34 z34 x35 z35 x36 z36 x37 z37;have S2:=hid h2;clear h2 hb2)
    | (go_at_call 27;with_reducible refine (K2.out _).mono ?_;rintro e w' ⟨rfl,rfl⟩)
    | (go_at_call 26;with_reducible refine (C1.out _).mono ?_;rintro e w' ⟨rfl,rfl⟩)
    | (go_at_call 73;with_reducible refine (I1.out _).mono ?_;rintro e w1 ⟨rfl,hb1⟩;have h1:=S0.out.on hb1;have S1:=hid h1;clear h1 hb1))
  have HF:=S2.out.fin (.int .i64 3) (.string ⟨#[]⟩) (.int .i64 0) (.int .i64 0) (.int .i64 0) (.bool false) (.bool false) (.int .i64 1)
  have m0:=HF.1.at 0
  have m1:=HF.1.at 1
  have m2:=HF.1.at 2
  have m3:=HF.1.at 3
  have m4:=HF.1.at 4
  have m5:=HF.1.at 5
  have m6:=HF.1.at 6
  have m7:=HF.1.at 7
  simp at m0 m1 m2 m3 m4 m5 m6 m7
  refine bodyPost_ret (by simp[results,Tryz.results72,go_sem,m0,m1,m2,m3,m4,m5,m6,m7];try rfl) rfl ?_
  exact SlEnd.yes HQ.out rfl (by omega) HF.2
 ·have in2:¬ (t:Int)<s.size:=by omega
  go_enter Tryz.func72,Tryz.ntmps72
  go_wp2_with (first
    | (go_at_call 60;with_reducible refine (D1.out _).mono ?_;rintro e w' ⟨rfl,rfl⟩)
    | (go_at_call 26;with_reducible refine (C2.out _).mono ?_;rintro e w' ⟨rfl,rfl⟩)
    | (go_at_call 26;with_reducible refine (B2.out _).mono ?_;rintro e w' ⟨rfl,rfl⟩)
    | (go_at_call 73;with_reducible refine (I2.out _).mono ?_;rintro e w2 ⟨rfl,hb2⟩;have h2:=S1.out.on hb2;have x30:=h2.x 0;have p30:=h2.fx 0;have z30:=h2.z 0;have y30:=h2.fz 0;have x31:=h2.x 1;have p31:=h2.fx 1;have z31:=h2.z 1;have y31:=h2.fz 1;have x32:=h2.x 2;have p32:=h2.fx 2;have z32:=h2.z 2;have y32:=h2.fz 2;have x33:=h2.x 3;have p33:=h2.fx 3;have z33:=h2.z 3;have y33:=h2.fz 3;have x34:=h2.x 4;have p34:=h2.fx 4;have z34:=h2.z 4;have y34:=h2.fz 4;have x35:=h2.x 5;have p35:=h2.fx 5;have z35:=h2.z 5;have y35:=h2.fz 5;have x36:=h2.x 6;have p36:=h2.fx 6;have z36:=h2.z 6;have y36:=h2.fz 6;have x37:=h2.x 7;have p37:=h2.fx 7;have z37:=h2.z 7;have y37:=h2.fz 7;simp at x30 z30 x31 z31 x32 z32 x33 z33 x34 z34 x35 z35 x36 z36 x37 z37;have S2:=hid h2;clear h2 hb2)
    | (go_at_call 27;with_reducible refine (K2.out _).mono ?_;rintro e w' ⟨rfl,rfl⟩)
    | (go_at_call 26;with_reducible refine (C1.out _).mono ?_;rintro e w' ⟨rfl,rfl⟩)
    | (go_at_call 73;with_reducible refine (I1.out _).mono ?_;rintro e w1 ⟨rfl,hb1⟩;have h1:=S0.out.on hb1;have S1:=hid h1;clear h1 hb1))
  have HF:=S2.out.fin (.int .i64 3) (.string ⟨#[]⟩) (.int .i64 0) (.int .i64 0) (.int .i64 0) (.bool false) (.bool false) (.int .i64 1)
  have m0:=HF.1.at 0
  have m1:=HF.1.at 1
  have m2:=HF.1.at 2
  have m3:=HF.1.at 3
  have m4:=HF.1.at 4
  have m5:=HF.1.at 5
  have m6:=HF.1.at 6
  have m7:=HF.1.at 7
  simp at m0 m1 m2 m3 m4 m5 m6 m7
  refine bodyPost_ret (by simp[results,Tryz.results72,go_sem,m0,m1,m2,m3,m4,m5,m6,m7];try rfl) rfl ?_
  exact SlEnd.yes HQ.out rfl (by omega) HF.2
theorem rsl_none_y_some_n (s:ByteArray) (W:World) (hs:s.size≤1000000) (hA:optI s.data.toList=some none) (hc1:(s.data.toList.drop 0).head?=some 58) (r2 t:Nat) (hr2:runB (s.data.toList.drop 1)=r2) (ht:1+r2=t) (v2:Int) (n2 x r3 u:Nat) (hB:optI (s.data.toList.drop t)=some (some (v2,n2))) (hx:t+n2=x) (hr3:runB (s.data.toList.drop x)=r3) (hu:x+r3=u) (hc2:(s.data.toList.drop u).head?≠some 58) :
   Calls Tryz.prog 72 #[.string s] W (SlEnd s.data.toList W):=by
 have HQ:=hid (show slcQ s.data.toList=some (sqS none (some v2) 1,x) by
   unfold slcQ
   rw[hA]
   show (if (s.data.toList.drop 0).head?=some 58 then slcB none s.data.toList 1 else none)=_
   rw[if_pos hc1]
   unfold slcB
   rw[hr2,ht,hB]
   show (if (s.data.toList.drop (t+n2+runB (s.data.toList.drop (t+n2)))).head?=some 58 then slcC none (some v2) s.data.toList (t+n2+runB (s.data.toList.drop (t+n2))) else some (sqS none (some v2) 1,t+n2))=_
   rw[hx,hr3,hu,if_neg hc2])
 have S0:=hid (SlB.start W)
 obtain ⟨hq1,hh1,hd1⟩:=optI_none hA
 have I1:=hid (fun w=>rint_no (s:=s) (by exact hq1) hs w)
 rw[show s.data.toList=s.data.toList.drop 0 from rfl] at hh1 hd1
 have C1:=hid (fun w=>(show Calls Tryz.prog 26 #[.string s,.int .u8 58] w fun e w'=>e=.returned (.bool true)∧w=w' by have h:=begins_any s 58 w hs;rw[show s.data.toList=s.data.toList.drop 0 from rfl,decide_eq_true hc1] at h;exact h))
 have hlt_p:=head_lt hc1
 have hle_1:1≤s.size:=by omega
 have hle_t:t≤s.size:=by have:=runB_in s 1 r2 hle_1 hr2;omega
 have K2:=hid (fun w=>blk_at hle_1 hs hr2 w)
 have sC:(1:Int)≤s.size:=by omega
 have sD:(t:Int)≤s.size:=by omega
 have eC:(1:Int)+r2=t:=by omega
 have hq2:=optI_some hB
 have I2:=hid (fun w=>rint_yes (s:=(s.extract t s.size)) (by rw[tail13 s t hle_t];exact hq2) (by rw[ByteArray.size_extract];omega) w)
 have hn2:=nrQ_in hq2
 rw[List.length_drop] at hn2
 have hn2':n2≤s.size-t:=hn2.2
 have hle_x:x≤s.size:=by omega
 have hle_u:u≤s.size:=by have:=runB_in s x r3 hle_x hr3;omega
 have K3:=hid (fun w=>blk_at hle_x hs hr3 w)
 have sE:(x:Int)≤s.size:=by omega
 have sF:(u:Int)≤s.size:=by omega
 have eD:(t:Int)+n2=x:=by omega
 have eE:(x:Int)+r3=u:=by omega
 have C2:=hid (fun w=>beg_at (s:=s) (p:=u) 58 58 rfl false hle_u hs (decide_eq_false hc2) w)
 have hin1:0<s.size:=hlt_p
 have in1:(0:Int)<s.size:=by omega
 have D1:=hid (fun w=>digit_at hin1 w)
 rw[dig_zero hin1 hd1] at D1
 have g45:((s[0].toNat:Int)==45)=false:=byteI_ne (d:=45) (fun e=>hh1 ((head_at hin1).trans (congrArg some e)))
 go_enter Tryz.func72,Tryz.ntmps72
 go_wp2_with (first
   | (go_at_call 60;with_reducible refine (D1.out _).mono ?_;rintro e w' ⟨rfl,rfl⟩)
   | (go_at_call 26;with_reducible refine (C2.out _).mono ?_;rintro e w' ⟨rfl,rfl⟩)
   | (go_at_call 27;with_reducible refine (K3.out _).mono ?_;rintro e w' ⟨rfl,rfl⟩)
   | (go_at_call 73;with_reducible refine (I2.out _).mono ?_;rintro e w2 ⟨rfl,hb2⟩;have h2:=S1.out.on hb2;have x34:=h2.x 4;have p34:=h2.fx 4;have x36:=h2.x 6;have p36:=h2.fx 6;simp at x34 x36;have g2:=((h2.put 4 (.int .i64 v2)).put 6 (.bool true));simp at g2;have x40:=g2.x 0;have p40:=g2.fx 0;have z40:=g2.z 0;have y40:=g2.fz 0;have x41:=g2.x 1;have p41:=g2.fx 1;have z41:=g2.z 1;have y41:=g2.fz 1;have x42:=g2.x 2;have p42:=g2.fx 2;have z42:=g2.z 2;have y42:=g2.fz 2;have x43:=g2.x 3;have p43:=g2.fx 3;have z43:=g2.z 3;have y43:=g2.fz 3;have x44:=g2.x 4;have p44:=g2.fx 4;have z44:=g2.z 4;have y44:=g2.fz 4;have x45:=g2.x 5;have p45:=g2.fx 5;have z45:=g2.z 5;have y45:=g2.fz 5;have x46:=g2.x 6;have p46:=g2.fx 6;have z46:=g2.z 6;have y46:=g2.fz 6;have x47:=g2.x 7;have p47:=g2.fx 7;have z47:=g2.z 7;have y47:=g2.fz 7;simp at x40 z40 x41 z41 x42 z42 x43 z43 x44 z44 x45 z45 x46 z46 x47 z47;have S2:=hid g2;clear h2 g2 hb2)
   | (go_at_call 27;with_reducible refine (K2.out _).mono ?_;rintro e w' ⟨rfl,rfl⟩)
   | (go_at_call 26;with_reducible refine (C1.out _).mono ?_;rintro e w' ⟨rfl,rfl⟩)
   | (go_at_call 73;with_reducible refine (I1.out _).mono ?_;rintro e w1 ⟨rfl,hb1⟩;have h1:=S0.out.on hb1;have S1:=hid h1;clear h1 hb1))
 have HF:=S2.out.fin (.int .i64 3) (.string ⟨#[]⟩) (.int .i64 0) (.int .i64 0) (.int .i64 v2) (.bool false) (.bool true) (.int .i64 1)
 have m0:=HF.1.at 0
 have m1:=HF.1.at 1
 have m2:=HF.1.at 2
 have m3:=HF.1.at 3
 have m4:=HF.1.at 4
 have m5:=HF.1.at 5
 have m6:=HF.1.at 6
 have m7:=HF.1.at 7
 simp at m0 m1 m2 m3 m4 m5 m6 m7
 refine bodyPost_ret (by simp[results,Tryz.results72,go_sem,m0,m1,m2,m3,m4,m5,m6,m7];try rfl) rfl ?_
 exact SlEnd.yes HQ.out rfl (by omega) HF.2
end
end Go.Proofs.YtmgdjlkndbejkaaGreatDoor
