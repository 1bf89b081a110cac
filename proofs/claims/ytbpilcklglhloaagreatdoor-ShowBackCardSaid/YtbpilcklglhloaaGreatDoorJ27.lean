/- Lemmas. -/
import Derived.Test.YtbpilcklglhloaaGreatDoorJ26
set_option maxRecDepth 100000
set_option maxHeartbeats 8000000
set_option linter.unusedVariables false
namespace Go.Proofs.YtbpilcklglhloaaGreatDoor
open Go.Lib (hid)
section
open Go.RowKit
theorem hexGo_le (f:Nat):∀ (l:List UInt8) (v:Int),(hexGo f l v).1≤f∧(hexGo f l v).1≤l.length:=by
 induction f with
 | zero=>intro l v;exact ⟨Nat.le_refl _,Nat.zero_le _⟩
 | succ f ih =>
   intro l v
   cases l with
   | nil=>rw[hexGo_nil];exact ⟨Nat.zero_le _,Nat.zero_le _⟩
   | cons c t =>
     rw[hexGo_cons]
     split
     ·have:=ih t (v*16+hexI c.toNat)
      simp
      omega
     ·exact ⟨Nat.zero_le _,Nat.zero_le _⟩
theorem hexGo_val (f:Nat):∀ (l:List UInt8) (v:Int) (m:Nat),0≤v→v<m→0≤(hexGo f l v).2∧(hexGo f l v).2<((m*16 ^ f:Nat):Int):=by
 induction f with
 | zero=>intro l v m h0 h1;exact ⟨h0,by rw[Nat.pow_zero,Nat.mul_one];exact h1⟩
 | succ f ih =>
   intro l v m h0 h1
   have hp:16 ^ 0≤16 ^ (f+1):=Nat.pow_le_pow_right (by decide) (Nat.zero_le _)
   have hm:m*1≤m*16 ^ (f+1):=Nat.mul_le_mul_left _ hp
   cases l with
   | nil=>rw[hexGo_nil];exact ⟨h0,by show v<_;omega⟩
   | cons c t =>
     rw[hexGo_cons]
     split
     ·rename_i hc
      have hb:=hexI_bd _ hc
      have:=ih t (v*16+hexI c.toNat) (m*16) (by omega) (by omega)
      have e:m*16*16 ^ f=m*16 ^ (f+1):=by rw[Nat.pow_succ,Nat.mul_assoc,Nat.mul_comm 16]
      rw[e] at this
      exact this
     ·exact ⟨h0,by show v<_;omega⟩
theorem hexR_bd (l:List UInt8):(hexR l).1≤4∧(hexR l).1≤l.length∧0≤(hexR l).2∧(hexR l).2≤65535:=by
 have h1:=hexGo_le 4 l 0
 have h2:=hexGo_val 4 l 0 1 (by omega) (by omega)
 have e:((1*16 ^ 4:Nat):Int)=65536:=by decide
 rw[e] at h2
 exact ⟨h1.1,h1.2,h2.1,by have:=h2.2;unfold hexR;omega⟩
set_option maxHeartbeats 16000000 in
theorem runit_f0 (s:ByteArray) (hs:s.size≤100000) (h2:2≤s.size) (e0:(s[0].toNat:Int)=92) (e1:(s[1].toNat:Int)=117) (v:Int) (b3:0≤v) (b4:v≤65535) (b2:0≤s.size-2) (d1 d2:Int) (KX:∀ w:World,Calls Tryz.prog 141 #[.string (s.extract 2 s.size)] w fun e w'=>e=.returned (.tuple #[.int .i64 0,.int .i64 v])∧w=w') (W:World) :
   Calls Tryz.prog 124 #[.string s,.bool false] W fun e w'=>e=.returned (.tuple #[.int .i64 (unitD false 0 v d1 d2 (s.size-2)).1,.int .i64 (unitD false 0 v d1 d2 (s.size-2)).2.1,.int .i64 (unitD false 0 v d1 d2 (s.size-2)).2.2])∧Below W.heap.size W w':=by
 have hne:¬ s=ByteArray.empty:=fun e=>by rw[e] at h2;exact absurd h2 (by decide)
 have HX:=hid KX
 clear KX
 by_cases q3:((2:Int)<s.size)
 ·have HU:=hid (show unitD false 0 v d1 d2 (s.size-2)=(2,0,3) by show (if _ then _ else _)=_;(repeat' split)<;>first|rfl|(exfalso;omega))
  go_enter Tryz.func124,Tryz.ntmps124
  go_wp2
  refine wp_loop_rounds 3 ?_
  rw[rounds_succ]
  go_wp2
  rw[rounds_succ]
  go_wp2
  rw[rounds_succ]
  go_wp2_with (first
    | (go_at_call 141;refine (HX.out _).mono ?_;rintro e w' ⟨rfl,rfl⟩))
  go_ret3
  exact ⟨(by rw[HU.out];rfl),below1 _ _⟩
 ·have HU:=hid (show unitD false 0 v d1 d2 (s.size-2)=(2,v,0) by show (if _ then _ else _)=_;(repeat' split)<;>first|rfl|(exfalso;omega))
  go_enter Tryz.func124,Tryz.ntmps124
  go_wp2
  refine wp_loop_rounds 3 ?_
  rw[rounds_succ]
  go_wp2
  rw[rounds_succ]
  go_wp2
  rw[rounds_succ]
  go_wp2_with (first
    | (go_at_call 141;refine (HX.out _).mono ?_;rintro e w' ⟨rfl,rfl⟩))
  go_ret3
  exact ⟨(by rw[HU.out];rfl),below1 _ _⟩
set_option maxHeartbeats 16000000 in
theorem runit_f1 (s:ByteArray) (hs:s.size≤100000) (h2:2≤s.size) (e0:(s[0].toNat:Int)=92) (e1:(s[1].toNat:Int)=117) (v:Int) (b3:0≤v) (b4:v≤65535) (b2:1≤s.size-2) (d1 d2:Int) (KX:∀ w:World,Calls Tryz.prog 141 #[.string (s.extract 2 s.size)] w fun e w'=>e=.returned (.tuple #[.int .i64 1,.int .i64 v])∧w=w') (z1:Bool) (KA:∀ w:World,∀ h:2<s.size,Calls Tryz.prog 142 #[.int .u8 s[2].toNat] w fun e w'=>e=.returned (.tuple #[.int .i64 d1,.bool z1])∧w=w') (W:World) :
   Calls Tryz.prog 124 #[.string s,.bool false] W fun e w'=>e=.returned (.tuple #[.int .i64 (unitD false 1 v d1 d2 (s.size-2)).1,.int .i64 (unitD false 1 v d1 d2 (s.size-2)).2.1,.int .i64 (unitD false 1 v d1 d2 (s.size-2)).2.2])∧Below W.heap.size W w':=by
 have hne:¬ s=ByteArray.empty:=fun e=>by rw[e] at h2;exact absurd h2 (by decide)
 have HX:=hid KX
 have g2:2<s.size:=by omega
 have HA:=hid (fun w=>KA w g2)
 clear KX KA
 by_cases q3:((3:Int)<s.size)
 ·have HU:=hid (show unitD false 1 v d1 d2 (s.size-2)=(3,0,3) by show (if _ then _ else _)=_;(repeat' split)<;>first|rfl|(exfalso;omega))
  go_enter Tryz.func124,Tryz.ntmps124
  go_wp2
  refine wp_loop_rounds 3 ?_
  rw[rounds_succ]
  go_wp2
  rw[rounds_succ]
  go_wp2
  rw[rounds_succ]
  go_wp2_with (first
    | (go_at_call 141;refine (HX.out _).mono ?_;rintro e w' ⟨rfl,rfl⟩)
    | (go_at_call 142;with_reducible refine (HA.out _).mono ?_;rintro e w' ⟨rfl,rfl⟩))
  go_ret3
  exact ⟨(by rw[HU.out];rfl),below1 _ _⟩
 ·have HU:=hid (show unitD false 1 v d1 d2 (s.size-2)=(3,v,0) by show (if _ then _ else _)=_;(repeat' split)<;>first|rfl|(exfalso;omega))
  go_enter Tryz.func124,Tryz.ntmps124
  go_wp2
  refine wp_loop_rounds 3 ?_
  rw[rounds_succ]
  go_wp2
  rw[rounds_succ]
  go_wp2
  rw[rounds_succ]
  go_wp2_with (first
    | (go_at_call 141;refine (HX.out _).mono ?_;rintro e w' ⟨rfl,rfl⟩)
    | (go_at_call 142;with_reducible refine (HA.out _).mono ?_;rintro e w' ⟨rfl,rfl⟩))
  go_ret3
  exact ⟨(by rw[HU.out];rfl),below1 _ _⟩
set_option maxHeartbeats 16000000 in
theorem runit_f2 (s:ByteArray) (hs:s.size≤100000) (h2:2≤s.size) (e0:(s[0].toNat:Int)=92) (e1:(s[1].toNat:Int)=117) (v:Int) (b3:0≤v) (b4:v≤65535) (b2:2≤s.size-2) (d1 d2:Int) (KX:∀ w:World,Calls Tryz.prog 141 #[.string (s.extract 2 s.size)] w fun e w'=>e=.returned (.tuple #[.int .i64 2,.int .i64 v])∧w=w') (z1:Bool) (KA:∀ w:World,∀ h:2<s.size,Calls Tryz.prog 142 #[.int .u8 s[2].toNat] w fun e w'=>e=.returned (.tuple #[.int .i64 d1,.bool z1])∧w=w') (z2:Bool) (KB:∀ w:World,∀ h:3<s.size,Calls Tryz.prog 142 #[.int .u8 s[3].toNat] w fun e w'=>e=.returned (.tuple #[.int .i64 d2,.bool z2])∧w=w') (W:World) :
   Calls Tryz.prog 124 #[.string s,.bool false] W fun e w'=>e=.returned (.tuple #[.int .i64 (unitD false 2 v d1 d2 (s.size-2)).1,.int .i64 (unitD false 2 v d1 d2 (s.size-2)).2.1,.int .i64 (unitD false 2 v d1 d2 (s.size-2)).2.2])∧Below W.heap.size W w':=by
 have hne:¬ s=ByteArray.empty:=fun e=>by rw[e] at h2;exact absurd h2 (by decide)
 have HX:=hid KX
 have g2:2<s.size:=by omega
 have HA:=hid (fun w=>KA w g2)
 have g3:3<s.size:=by omega
 have HB:=hid (fun w=>KB w g3)
 clear KX KA KB
 by_cases q1:d1=13
 ·subst q1
  by_cases q2:d2<12
  ·by_cases q3:((4:Int)<s.size)
   ·have HU:=hid (show unitD false 2 v 13 d2 (s.size-2)=(4,0,3) by show (if _ then _ else _)=_;(repeat' split)<;>first|rfl|(exfalso;omega))
    go_enter Tryz.func124,Tryz.ntmps124
    go_wp2
    refine wp_loop_rounds 3 ?_
    rw[rounds_succ]
    go_wp2
    rw[rounds_succ]
    go_wp2
    rw[rounds_succ]
    go_wp2_with (first
      | (go_at_call 141;refine (HX.out _).mono ?_;rintro e w' ⟨rfl,rfl⟩)
      | (go_at_call 142;with_reducible refine (HA.out _).mono ?_;rintro e w' ⟨rfl,rfl⟩)
      | (go_at_call 142;with_reducible refine (HB.out _).mono ?_;rintro e w' ⟨rfl,rfl⟩))
    go_ret3
    exact ⟨(by rw[HU.out];rfl),below1 _ _⟩
   ·have HU:=hid (show unitD false 2 v 13 d2 (s.size-2)=(4,v,0) by show (if _ then _ else _)=_;(repeat' split)<;>first|rfl|(exfalso;omega))
    go_enter Tryz.func124,Tryz.ntmps124
    go_wp2
    refine wp_loop_rounds 3 ?_
    rw[rounds_succ]
    go_wp2
    rw[rounds_succ]
    go_wp2
    rw[rounds_succ]
    go_wp2_with (first
      | (go_at_call 141;refine (HX.out _).mono ?_;rintro e w' ⟨rfl,rfl⟩)
      | (go_at_call 142;with_reducible refine (HA.out _).mono ?_;rintro e w' ⟨rfl,rfl⟩)
      | (go_at_call 142;with_reducible refine (HB.out _).mono ?_;rintro e w' ⟨rfl,rfl⟩))
    go_ret3
    exact ⟨(by rw[HU.out];rfl),below1 _ _⟩
  ·have HU:=hid (show unitD false 2 v 13 d2 (s.size-2)=(3,0,4) by show (if _ then _ else _)=_;(repeat' split)<;>first|rfl|(exfalso;omega))
   go_enter Tryz.func124,Tryz.ntmps124
   go_wp2
   refine wp_loop_rounds 3 ?_
   rw[rounds_succ]
   go_wp2
   rw[rounds_succ]
   go_wp2
   rw[rounds_succ]
   go_wp2_with (first
     | (go_at_call 141;refine (HX.out _).mono ?_;rintro e w' ⟨rfl,rfl⟩)
     | (go_at_call 142;with_reducible refine (HA.out _).mono ?_;rintro e w' ⟨rfl,rfl⟩)
     | (go_at_call 142;with_reducible refine (HB.out _).mono ?_;rintro e w' ⟨rfl,rfl⟩))
   go_ret3
   exact ⟨(by rw[HU.out];rfl),below1 _ _⟩
 ·by_cases q3:((4:Int)<s.size)
  ·have HU:=hid (show unitD false 2 v d1 d2 (s.size-2)=(4,0,3) by show (if _ then _ else _)=_;(repeat' split)<;>first|rfl|(exfalso;omega))
   go_enter Tryz.func124,Tryz.ntmps124
   go_wp2
   refine wp_loop_rounds 3 ?_
   rw[rounds_succ]
   go_wp2
   rw[rounds_succ]
   go_wp2
   rw[rounds_succ]
   go_wp2_with (first
     | (go_at_call 141;refine (HX.out _).mono ?_;rintro e w' ⟨rfl,rfl⟩)
     | (go_at_call 142;with_reducible refine (HA.out _).mono ?_;rintro e w' ⟨rfl,rfl⟩)
     | (go_at_call 142;with_reducible refine (HB.out _).mono ?_;rintro e w' ⟨rfl,rfl⟩))
   go_ret3
   exact ⟨(by rw[HU.out];rfl),below1 _ _⟩
  ·have HU:=hid (show unitD false 2 v d1 d2 (s.size-2)=(4,v,0) by show (if _ then _ else _)=_;(repeat' split)<;>first|rfl|(exfalso;omega))
   go_enter Tryz.func124,Tryz.ntmps124
   go_wp2
   refine wp_loop_rounds 3 ?_
   rw[rounds_succ]
   go_wp2
   rw[rounds_succ]
   go_wp2
   rw[rounds_succ]
   go_wp2_with (first
     | (go_at_call 141;refine (HX.out _).mono ?_;rintro e w' ⟨rfl,rfl⟩)
     | (go_at_call 142;with_reducible refine (HA.out _).mono ?_;rintro e w' ⟨rfl,rfl⟩)
     | (go_at_call 142;with_reducible refine (HB.out _).mono ?_;rintro e w' ⟨rfl,rfl⟩))
   go_ret3
   exact ⟨(by rw[HU.out];rfl),below1 _ _⟩
set_option maxHeartbeats 16000000 in
theorem runit_f3 (s:ByteArray) (hs:s.size≤100000) (h2:2≤s.size) (e0:(s[0].toNat:Int)=92) (e1:(s[1].toNat:Int)=117) (v:Int) (b3:0≤v) (b4:v≤65535) (b2:3≤s.size-2) (d1 d2:Int) (KX:∀ w:World,Calls Tryz.prog 141 #[.string (s.extract 2 s.size)] w fun e w'=>e=.returned (.tuple #[.int .i64 3,.int .i64 v])∧w=w') (z1:Bool) (KA:∀ w:World,∀ h:2<s.size,Calls Tryz.prog 142 #[.int .u8 s[2].toNat] w fun e w'=>e=.returned (.tuple #[.int .i64 d1,.bool z1])∧w=w') (z2:Bool) (KB:∀ w:World,∀ h:3<s.size,Calls Tryz.prog 142 #[.int .u8 s[3].toNat] w fun e w'=>e=.returned (.tuple #[.int .i64 d2,.bool z2])∧w=w') (W:World) :
   Calls Tryz.prog 124 #[.string s,.bool false] W fun e w'=>e=.returned (.tuple #[.int .i64 (unitD false 3 v d1 d2 (s.size-2)).1,.int .i64 (unitD false 3 v d1 d2 (s.size-2)).2.1,.int .i64 (unitD false 3 v d1 d2 (s.size-2)).2.2])∧Below W.heap.size W w':=by
 have hne:¬ s=ByteArray.empty:=fun e=>by rw[e] at h2;exact absurd h2 (by decide)
 have HX:=hid KX
 have g2:2<s.size:=by omega
 have HA:=hid (fun w=>KA w g2)
 have g3:3<s.size:=by omega
 have HB:=hid (fun w=>KB w g3)
 clear KX KA KB
 by_cases q1:d1=13
 ·subst q1
  by_cases q2:d2<12
  ·by_cases q3:((5:Int)<s.size)
   ·have HU:=hid (show unitD false 3 v 13 d2 (s.size-2)=(5,0,3) by show (if _ then _ else _)=_;(repeat' split)<;>first|rfl|(exfalso;omega))
    go_enter Tryz.func124,Tryz.ntmps124
    go_wp2
    refine wp_loop_rounds 3 ?_
    rw[rounds_succ]
    go_wp2
    rw[rounds_succ]
    go_wp2
    rw[rounds_succ]
    go_wp2_with (first
      | (go_at_call 141;refine (HX.out _).mono ?_;rintro e w' ⟨rfl,rfl⟩)
      | (go_at_call 142;with_reducible refine (HA.out _).mono ?_;rintro e w' ⟨rfl,rfl⟩)
      | (go_at_call 142;with_reducible refine (HB.out _).mono ?_;rintro e w' ⟨rfl,rfl⟩))
    go_ret3
    exact ⟨(by rw[HU.out];rfl),below1 _ _⟩
   ·have HU:=hid (show unitD false 3 v 13 d2 (s.size-2)=(5,v,0) by show (if _ then _ else _)=_;(repeat' split)<;>first|rfl|(exfalso;omega))
    go_enter Tryz.func124,Tryz.ntmps124
    go_wp2
    refine wp_loop_rounds 3 ?_
    rw[rounds_succ]
    go_wp2
    rw[rounds_succ]
    go_wp2
    rw[rounds_succ]
    go_wp2_with (first
      | (go_at_call 141;refine (HX.out _).mono ?_;rintro e w' ⟨rfl,rfl⟩)
      | (go_at_call 142;with_reducible refine (HA.out _).mono ?_;rintro e w' ⟨rfl,rfl⟩)
      | (go_at_call 142;with_reducible refine (HB.out _).mono ?_;rintro e w' ⟨rfl,rfl⟩))
    go_ret3
    exact ⟨(by rw[HU.out];rfl),below1 _ _⟩
  ·have HU:=hid (show unitD false 3 v 13 d2 (s.size-2)=(3,0,4) by show (if _ then _ else _)=_;(repeat' split)<;>first|rfl|(exfalso;omega))
   go_enter Tryz.func124,Tryz.ntmps124
   go_wp2
   refine wp_loop_rounds 3 ?_
   rw[rounds_succ]
   go_wp2
   rw[rounds_succ]
   go_wp2
   rw[rounds_succ]
   go_wp2_with (first
     | (go_at_call 141;refine (HX.out _).mono ?_;rintro e w' ⟨rfl,rfl⟩)
     | (go_at_call 142;with_reducible refine (HA.out _).mono ?_;rintro e w' ⟨rfl,rfl⟩)
     | (go_at_call 142;with_reducible refine (HB.out _).mono ?_;rintro e w' ⟨rfl,rfl⟩))
   go_ret3
   exact ⟨(by rw[HU.out];rfl),below1 _ _⟩
 ·by_cases q3:((5:Int)<s.size)
  ·have HU:=hid (show unitD false 3 v d1 d2 (s.size-2)=(5,0,3) by show (if _ then _ else _)=_;(repeat' split)<;>first|rfl|(exfalso;omega))
   go_enter Tryz.func124,Tryz.ntmps124
   go_wp2
   refine wp_loop_rounds 3 ?_
   rw[rounds_succ]
   go_wp2
   rw[rounds_succ]
   go_wp2
   rw[rounds_succ]
   go_wp2_with (first
     | (go_at_call 141;refine (HX.out _).mono ?_;rintro e w' ⟨rfl,rfl⟩)
     | (go_at_call 142;with_reducible refine (HA.out _).mono ?_;rintro e w' ⟨rfl,rfl⟩)
     | (go_at_call 142;with_reducible refine (HB.out _).mono ?_;rintro e w' ⟨rfl,rfl⟩))
   go_ret3
   exact ⟨(by rw[HU.out];rfl),below1 _ _⟩
  ·have HU:=hid (show unitD false 3 v d1 d2 (s.size-2)=(5,v,0) by show (if _ then _ else _)=_;(repeat' split)<;>first|rfl|(exfalso;omega))
   go_enter Tryz.func124,Tryz.ntmps124
   go_wp2
   refine wp_loop_rounds 3 ?_
   rw[rounds_succ]
   go_wp2
   rw[rounds_succ]
   go_wp2
   rw[rounds_succ]
   go_wp2_with (first
     | (go_at_call 141;refine (HX.out _).mono ?_;rintro e w' ⟨rfl,rfl⟩)
     | (go_at_call 142;with_reducible refine (HA.out _).mono ?_;rintro e w' ⟨rfl,rfl⟩)
     | (go_at_call 142;with_reducible refine (HB.out _).mono ?_;rintro e w' ⟨rfl,rfl⟩))
   go_ret3
   exact ⟨(by rw[HU.out];rfl),below1 _ _⟩
set_option maxHeartbeats 16000000 in
theorem runit_f4 (s:ByteArray) (hs:s.size≤100000) (h2:2≤s.size) (e0:(s[0].toNat:Int)=92) (e1:(s[1].toNat:Int)=117) (v:Int) (b3:0≤v) (b4:v≤65535) (b2:4≤s.size-2) (d1 d2:Int) (KX:∀ w:World,Calls Tryz.prog 141 #[.string (s.extract 2 s.size)] w fun e w'=>e=.returned (.tuple #[.int .i64 4,.int .i64 v])∧w=w') (z1:Bool) (KA:∀ w:World,∀ h:2<s.size,Calls Tryz.prog 142 #[.int .u8 s[2].toNat] w fun e w'=>e=.returned (.tuple #[.int .i64 d1,.bool z1])∧w=w') (z2:Bool) (KB:∀ w:World,∀ h:3<s.size,Calls Tryz.prog 142 #[.int .u8 s[3].toNat] w fun e w'=>e=.returned (.tuple #[.int .i64 d2,.bool z2])∧w=w') (W:World) :
   Calls Tryz.prog 124 #[.string s,.bool false] W fun e w'=>e=.returned (.tuple #[.int .i64 (unitD false 4 v d1 d2 (s.size-2)).1,.int .i64 (unitD false 4 v d1 d2 (s.size-2)).2.1,.int .i64 (unitD false 4 v d1 d2 (s.size-2)).2.2])∧Below W.heap.size W w':=by
 have hne:¬ s=ByteArray.empty:=fun e=>by rw[e] at h2;exact absurd h2 (by decide)
 have HX:=hid KX
 have g2:2<s.size:=by omega
 have HA:=hid (fun w=>KA w g2)
 have g3:3<s.size:=by omega
 have HB:=hid (fun w=>KB w g3)
 clear KX KA KB
 by_cases q1:d1=13
 ·subst q1
  by_cases q2:d2<12
  ·have HU:=hid (show unitD false 4 v 13 d2 (s.size-2)=(6,v,0) by show (if _ then _ else _)=_;(repeat' split)<;>first|rfl|(exfalso;omega))
   go_enter Tryz.func124,Tryz.ntmps124
   go_wp2
   refine wp_loop_rounds 3 ?_
   rw[rounds_succ]
   go_wp2
   rw[rounds_succ]
   go_wp2
   rw[rounds_succ]
   go_wp2_with (first
     | (go_at_call 141;refine (HX.out _).mono ?_;rintro e w' ⟨rfl,rfl⟩)
     | (go_at_call 142;with_reducible refine (HA.out _).mono ?_;rintro e w' ⟨rfl,rfl⟩)
     | (go_at_call 142;with_reducible refine (HB.out _).mono ?_;rintro e w' ⟨rfl,rfl⟩))
   go_ret3
   exact ⟨(by rw[HU.out];rfl),below1 _ _⟩
  ·have HU:=hid (show unitD false 4 v 13 d2 (s.size-2)=(3,0,4) by show (if _ then _ else _)=_;(repeat' split)<;>first|rfl|(exfalso;omega))
   go_enter Tryz.func124,Tryz.ntmps124
   go_wp2
   refine wp_loop_rounds 3 ?_
   rw[rounds_succ]
   go_wp2
   rw[rounds_succ]
   go_wp2
   rw[rounds_succ]
   go_wp2_with (first
     | (go_at_call 141;refine (HX.out _).mono ?_;rintro e w' ⟨rfl,rfl⟩)
     | (go_at_call 142;with_reducible refine (HA.out _).mono ?_;rintro e w' ⟨rfl,rfl⟩)
     | (go_at_call 142;with_reducible refine (HB.out _).mono ?_;rintro e w' ⟨rfl,rfl⟩))
   go_ret3
   exact ⟨(by rw[HU.out];rfl),below1 _ _⟩
 ·have HU:=hid (show unitD false 4 v d1 d2 (s.size-2)=(6,v,0) by show (if _ then _ else _)=_;(repeat' split)<;>first|rfl|(exfalso;omega))
  go_enter Tryz.func124,Tryz.ntmps124
  go_wp2
  refine wp_loop_rounds 3 ?_
  rw[rounds_succ]
  go_wp2
  rw[rounds_succ]
  go_wp2
  rw[rounds_succ]
  go_wp2_with (first
    | (go_at_call 141;refine (HX.out _).mono ?_;rintro e w' ⟨rfl,rfl⟩)
    | (go_at_call 142;with_reducible refine (HA.out _).mono ?_;rintro e w' ⟨rfl,rfl⟩)
    | (go_at_call 142;with_reducible refine (HB.out _).mono ?_;rintro e w' ⟨rfl,rfl⟩))
  go_ret3
  exact ⟨(by rw[HU.out];rfl),below1 _ _⟩
set_option maxHeartbeats 16000000 in
theorem runit_t0 (s:ByteArray) (hs:s.size≤100000) (h2:2≤s.size) (e0:(s[0].toNat:Int)=92) (e1:(s[1].toNat:Int)=117) (v:Int) (b3:0≤v) (b4:v≤65535) (b2:0≤s.size-2) (d1 d2:Int) (KX:∀ w:World,Calls Tryz.prog 141 #[.string (s.extract 2 s.size)] w fun e w'=>e=.returned (.tuple #[.int .i64 0,.int .i64 v])∧w=w') (W:World) :
   Calls Tryz.prog 124 #[.string s,.bool true] W fun e w'=>e=.returned (.tuple #[.int .i64 (unitD true 0 v d1 d2 (s.size-2)).1,.int .i64 (unitD true 0 v d1 d2 (s.size-2)).2.1,.int .i64 (unitD true 0 v d1 d2 (s.size-2)).2.2])∧Below W.heap.size W w':=by
 have hne:¬ s=ByteArray.empty:=fun e=>by rw[e] at h2;exact absurd h2 (by decide)
 have HX:=hid KX
 clear KX
 by_cases q3:((2:Int)<s.size)
 ·have HU:=hid (show unitD true 0 v d1 d2 (s.size-2)=(2,0,4) by show (if _ then _ else _)=_;(repeat' split)<;>first|rfl|(exfalso;omega))
  go_enter Tryz.func124,Tryz.ntmps124
  go_wp2
  refine wp_loop_rounds 3 ?_
  rw[rounds_succ]
  go_wp2
  rw[rounds_succ]
  go_wp2
  rw[rounds_succ]
  go_wp2_with (first
    | (go_at_call 141;refine (HX.out _).mono ?_;rintro e w' ⟨rfl,rfl⟩))
  go_ret3
  exact ⟨(by rw[HU.out];rfl),below1 _ _⟩
 ·have HU:=hid (show unitD true 0 v d1 d2 (s.size-2)=(2,v,0) by show (if _ then _ else _)=_;(repeat' split)<;>first|rfl|(exfalso;omega))
  go_enter Tryz.func124,Tryz.ntmps124
  go_wp2
  refine wp_loop_rounds 3 ?_
  rw[rounds_succ]
  go_wp2
  rw[rounds_succ]
  go_wp2
  rw[rounds_succ]
  go_wp2_with (first
    | (go_at_call 141;refine (HX.out _).mono ?_;rintro e w' ⟨rfl,rfl⟩))
  go_ret3
  exact ⟨(by rw[HU.out];rfl),below1 _ _⟩
set_option maxHeartbeats 16000000 in
theorem runit_t1 (s:ByteArray) (hs:s.size≤100000) (h2:2≤s.size) (e0:(s[0].toNat:Int)=92) (e1:(s[1].toNat:Int)=117) (v:Int) (b3:0≤v) (b4:v≤65535) (b2:1≤s.size-2) (d1 d2:Int) (KX:∀ w:World,Calls Tryz.prog 141 #[.string (s.extract 2 s.size)] w fun e w'=>e=.returned (.tuple #[.int .i64 1,.int .i64 v])∧w=w') (z1:Bool) (KA:∀ w:World,∀ h:2<s.size,Calls Tryz.prog 142 #[.int .u8 s[2].toNat] w fun e w'=>e=.returned (.tuple #[.int .i64 d1,.bool z1])∧w=w') (W:World) :
   Calls Tryz.prog 124 #[.string s,.bool true] W fun e w'=>e=.returned (.tuple #[.int .i64 (unitD true 1 v d1 d2 (s.size-2)).1,.int .i64 (unitD true 1 v d1 d2 (s.size-2)).2.1,.int .i64 (unitD true 1 v d1 d2 (s.size-2)).2.2])∧Below W.heap.size W w':=by
 have hne:¬ s=ByteArray.empty:=fun e=>by rw[e] at h2;exact absurd h2 (by decide)
 have HX:=hid KX
 have g2:2<s.size:=by omega
 have HA:=hid (fun w=>KA w g2)
 clear KX KA
 by_cases q1:d1=13
 ·subst q1
  by_cases q3:((3:Int)<s.size)
  ·have HU:=hid (show unitD true 1 v 13 d2 (s.size-2)=(3,0,4) by show (if _ then _ else _)=_;(repeat' split)<;>first|rfl|(exfalso;omega))
   go_enter Tryz.func124,Tryz.ntmps124
   go_wp2
   refine wp_loop_rounds 3 ?_
   rw[rounds_succ]
   go_wp2
   rw[rounds_succ]
   go_wp2
   rw[rounds_succ]
   go_wp2_with (first
     | (go_at_call 141;refine (HX.out _).mono ?_;rintro e w' ⟨rfl,rfl⟩)
     | (go_at_call 142;with_reducible refine (HA.out _).mono ?_;rintro e w' ⟨rfl,rfl⟩))
   go_ret3
   exact ⟨(by rw[HU.out];rfl),below1 _ _⟩
  ·have HU:=hid (show unitD true 1 v 13 d2 (s.size-2)=(3,v,0) by show (if _ then _ else _)=_;(repeat' split)<;>first|rfl|(exfalso;omega))
   go_enter Tryz.func124,Tryz.ntmps124
   go_wp2
   refine wp_loop_rounds 3 ?_
   rw[rounds_succ]
   go_wp2
   rw[rounds_succ]
   go_wp2
   rw[rounds_succ]
   go_wp2_with (first
     | (go_at_call 141;refine (HX.out _).mono ?_;rintro e w' ⟨rfl,rfl⟩)
     | (go_at_call 142;with_reducible refine (HA.out _).mono ?_;rintro e w' ⟨rfl,rfl⟩))
   go_ret3
   exact ⟨(by rw[HU.out];rfl),below1 _ _⟩
 ·have HU:=hid (show unitD true 1 v d1 d2 (s.size-2)=(2,0,4) by show (if _ then _ else _)=_;(repeat' split)<;>first|rfl|(exfalso;omega))
  go_enter Tryz.func124,Tryz.ntmps124
  go_wp2
  refine wp_loop_rounds 3 ?_
  rw[rounds_succ]
  go_wp2
  rw[rounds_succ]
  go_wp2
  rw[rounds_succ]
  go_wp2_with (first
    | (go_at_call 141;refine (HX.out _).mono ?_;rintro e w' ⟨rfl,rfl⟩)
    | (go_at_call 142;with_reducible refine (HA.out _).mono ?_;rintro e w' ⟨rfl,rfl⟩))
  go_ret3
  exact ⟨(by rw[HU.out];rfl),below1 _ _⟩
set_option maxHeartbeats 16000000 in
theorem runit_t2 (s:ByteArray) (hs:s.size≤100000) (h2:2≤s.size) (e0:(s[0].toNat:Int)=92) (e1:(s[1].toNat:Int)=117) (v:Int) (b3:0≤v) (b4:v≤65535) (b2:2≤s.size-2) (d1 d2:Int) (KX:∀ w:World,Calls Tryz.prog 141 #[.string (s.extract 2 s.size)] w fun e w'=>e=.returned (.tuple #[.int .i64 2,.int .i64 v])∧w=w') (z1:Bool) (KA:∀ w:World,∀ h:2<s.size,Calls Tryz.prog 142 #[.int .u8 s[2].toNat] w fun e w'=>e=.returned (.tuple #[.int .i64 d1,.bool z1])∧w=w') (z2:Bool) (KB:∀ w:World,∀ h:3<s.size,Calls Tryz.prog 142 #[.int .u8 s[3].toNat] w fun e w'=>e=.returned (.tuple #[.int .i64 d2,.bool z2])∧w=w') (W:World) :
   Calls Tryz.prog 124 #[.string s,.bool true] W fun e w'=>e=.returned (.tuple #[.int .i64 (unitD true 2 v d1 d2 (s.size-2)).1,.int .i64 (unitD true 2 v d1 d2 (s.size-2)).2.1,.int .i64 (unitD true 2 v d1 d2 (s.size-2)).2.2])∧Below W.heap.size W w':=by
 have hne:¬ s=ByteArray.empty:=fun e=>by rw[e] at h2;exact absurd h2 (by decide)
 have HX:=hid KX
 have g2:2<s.size:=by omega
 have HA:=hid (fun w=>KA w g2)
 have g3:3<s.size:=by omega
 have HB:=hid (fun w=>KB w g3)
 clear KX KA KB
 by_cases q1:d1=13
 ·subst q1
  by_cases q2:d2<12
  ·have HU:=hid (show unitD true 2 v 13 d2 (s.size-2)=(3,0,4) by show (if _ then _ else _)=_;(repeat' split)<;>first|rfl|(exfalso;omega))
   go_enter Tryz.func124,Tryz.ntmps124
   go_wp2
   refine wp_loop_rounds 3 ?_
   rw[rounds_succ]
   go_wp2
   rw[rounds_succ]
   go_wp2
   rw[rounds_succ]
   go_wp2_with (first
     | (go_at_call 141;refine (HX.out _).mono ?_;rintro e w' ⟨rfl,rfl⟩)
     | (go_at_call 142;with_reducible refine (HA.out _).mono ?_;rintro e w' ⟨rfl,rfl⟩)
     | (go_at_call 142;with_reducible refine (HB.out _).mono ?_;rintro e w' ⟨rfl,rfl⟩))
   go_ret3
   exact ⟨(by rw[HU.out];rfl),below1 _ _⟩
  ·by_cases q3:((4:Int)<s.size)
   ·have HU:=hid (show unitD true 2 v 13 d2 (s.size-2)=(4,0,3) by show (if _ then _ else _)=_;(repeat' split)<;>first|rfl|(exfalso;omega))
    go_enter Tryz.func124,Tryz.ntmps124
    go_wp2
    refine wp_loop_rounds 3 ?_
    rw[rounds_succ]
    go_wp2
    rw[rounds_succ]
    go_wp2
    rw[rounds_succ]
    go_wp2_with (first
      | (go_at_call 141;refine (HX.out _).mono ?_;rintro e w' ⟨rfl,rfl⟩)
      | (go_at_call 142;with_reducible refine (HA.out _).mono ?_;rintro e w' ⟨rfl,rfl⟩)
      | (go_at_call 142;with_reducible refine (HB.out _).mono ?_;rintro e w' ⟨rfl,rfl⟩))
    go_ret3
    exact ⟨(by rw[HU.out];rfl),below1 _ _⟩
   ·have HU:=hid (show unitD true 2 v 13 d2 (s.size-2)=(4,v,0) by show (if _ then _ else _)=_;(repeat' split)<;>first|rfl|(exfalso;omega))
    go_enter Tryz.func124,Tryz.ntmps124
    go_wp2
    refine wp_loop_rounds 3 ?_
    rw[rounds_succ]
    go_wp2
    rw[rounds_succ]
    go_wp2
    rw[rounds_succ]
    go_wp2_with (first
      | (go_at_call 141;refine (HX.out _).mono ?_;rintro e w' ⟨rfl,rfl⟩)
      | (go_at_call 142;with_reducible refine (HA.out _).mono ?_;rintro e w' ⟨rfl,rfl⟩)
      | (go_at_call 142;with_reducible refine (HB.out _).mono ?_;rintro e w' ⟨rfl,rfl⟩))
    go_ret3
    exact ⟨(by rw[HU.out];rfl),below1 _ _⟩
 ·have HU:=hid (show unitD true 2 v d1 d2 (s.size-2)=(2,0,4) by show (if _ then _ else _)=_;(repeat' split)<;>first|rfl|(exfalso;omega))
  go_enter Tryz.func124,Tryz.ntmps124
  go_wp2
  refine wp_loop_rounds 3 ?_
  rw[rounds_succ]
  go_wp2
  rw[rounds_succ]
  go_wp2
  rw[rounds_succ]
  go_wp2_with (first
    | (go_at_call 141;refine (HX.out _).mono ?_;rintro e w' ⟨rfl,rfl⟩)
    | (go_at_call 142;with_reducible refine (HA.out _).mono ?_;rintro e w' ⟨rfl,rfl⟩)
    | (go_at_call 142;with_reducible refine (HB.out _).mono ?_;rintro e w' ⟨rfl,rfl⟩))
  go_ret3
  exact ⟨(by rw[HU.out];rfl),below1 _ _⟩
set_option maxHeartbeats 16000000 in
theorem runit_t3 (s:ByteArray) (hs:s.size≤100000) (h2:2≤s.size) (e0:(s[0].toNat:Int)=92) (e1:(s[1].toNat:Int)=117) (v:Int) (b3:0≤v) (b4:v≤65535) (b2:3≤s.size-2) (d1 d2:Int) (KX:∀ w:World,Calls Tryz.prog 141 #[.string (s.extract 2 s.size)] w fun e w'=>e=.returned (.tuple #[.int .i64 3,.int .i64 v])∧w=w') (z1:Bool) (KA:∀ w:World,∀ h:2<s.size,Calls Tryz.prog 142 #[.int .u8 s[2].toNat] w fun e w'=>e=.returned (.tuple #[.int .i64 d1,.bool z1])∧w=w') (z2:Bool) (KB:∀ w:World,∀ h:3<s.size,Calls Tryz.prog 142 #[.int .u8 s[3].toNat] w fun e w'=>e=.returned (.tuple #[.int .i64 d2,.bool z2])∧w=w') (W:World) :
   Calls Tryz.prog 124 #[.string s,.bool true] W fun e w'=>e=.returned (.tuple #[.int .i64 (unitD true 3 v d1 d2 (s.size-2)).1,.int .i64 (unitD true 3 v d1 d2 (s.size-2)).2.1,.int .i64 (unitD true 3 v d1 d2 (s.size-2)).2.2])∧Below W.heap.size W w':=by
 have hne:¬ s=ByteArray.empty:=fun e=>by rw[e] at h2;exact absurd h2 (by decide)
 have HX:=hid KX
 have g2:2<s.size:=by omega
 have HA:=hid (fun w=>KA w g2)
 have g3:3<s.size:=by omega
 have HB:=hid (fun w=>KB w g3)
 clear KX KA KB
 by_cases q1:d1=13
 ·subst q1
  by_cases q2:d2<12
  ·have HU:=hid (show unitD true 3 v 13 d2 (s.size-2)=(3,0,4) by show (if _ then _ else _)=_;(repeat' split)<;>first|rfl|(exfalso;omega))
   go_enter Tryz.func124,Tryz.ntmps124
   go_wp2
   refine wp_loop_rounds 3 ?_
   rw[rounds_succ]
   go_wp2
   rw[rounds_succ]
   go_wp2
   rw[rounds_succ]
   go_wp2_with (first
     | (go_at_call 141;refine (HX.out _).mono ?_;rintro e w' ⟨rfl,rfl⟩)
     | (go_at_call 142;with_reducible refine (HA.out _).mono ?_;rintro e w' ⟨rfl,rfl⟩)
     | (go_at_call 142;with_reducible refine (HB.out _).mono ?_;rintro e w' ⟨rfl,rfl⟩))
   go_ret3
   exact ⟨(by rw[HU.out];rfl),below1 _ _⟩
  ·by_cases q3:((5:Int)<s.size)
   ·have HU:=hid (show unitD true 3 v 13 d2 (s.size-2)=(5,0,3) by show (if _ then _ else _)=_;(repeat' split)<;>first|rfl|(exfalso;omega))
    go_enter Tryz.func124,Tryz.ntmps124
    go_wp2
    refine wp_loop_rounds 3 ?_
    rw[rounds_succ]
    go_wp2
    rw[rounds_succ]
    go_wp2
    rw[rounds_succ]
    go_wp2_with (first
      | (go_at_call 141;refine (HX.out _).mono ?_;rintro e w' ⟨rfl,rfl⟩)
      | (go_at_call 142;with_reducible refine (HA.out _).mono ?_;rintro e w' ⟨rfl,rfl⟩)
      | (go_at_call 142;with_reducible refine (HB.out _).mono ?_;rintro e w' ⟨rfl,rfl⟩))
    go_ret3
    exact ⟨(by rw[HU.out];rfl),below1 _ _⟩
   ·have HU:=hid (show unitD true 3 v 13 d2 (s.size-2)=(5,v,0) by show (if _ then _ else _)=_;(repeat' split)<;>first|rfl|(exfalso;omega))
    go_enter Tryz.func124,Tryz.ntmps124
    go_wp2
    refine wp_loop_rounds 3 ?_
    rw[rounds_succ]
    go_wp2
    rw[rounds_succ]
    go_wp2
    rw[rounds_succ]
    go_wp2_with (first
      | (go_at_call 141;refine (HX.out _).mono ?_;rintro e w' ⟨rfl,rfl⟩)
      | (go_at_call 142;with_reducible refine (HA.out _).mono ?_;rintro e w' ⟨rfl,rfl⟩)
      | (go_at_call 142;with_reducible refine (HB.out _).mono ?_;rintro e w' ⟨rfl,rfl⟩))
    go_ret3
    exact ⟨(by rw[HU.out];rfl),below1 _ _⟩
 ·have HU:=hid (show unitD true 3 v d1 d2 (s.size-2)=(2,0,4) by show (if _ then _ else _)=_;(repeat' split)<;>first|rfl|(exfalso;omega))
  go_enter Tryz.func124,Tryz.ntmps124
  go_wp2
  refine wp_loop_rounds 3 ?_
  rw[rounds_succ]
  go_wp2
  rw[rounds_succ]
  go_wp2
  rw[rounds_succ]
  go_wp2_with (first
    | (go_at_call 141;refine (HX.out _).mono ?_;rintro e w' ⟨rfl,rfl⟩)
    | (go_at_call 142;with_reducible refine (HA.out _).mono ?_;rintro e w' ⟨rfl,rfl⟩)
    | (go_at_call 142;with_reducible refine (HB.out _).mono ?_;rintro e w' ⟨rfl,rfl⟩))
  go_ret3
  exact ⟨(by rw[HU.out];rfl),below1 _ _⟩
set_option maxHeartbeats 16000000 in
theorem runit_t4 (s:ByteArray) (hs:s.size≤100000) (h2:2≤s.size) (e0:(s[0].toNat:Int)=92) (e1:(s[1].toNat:Int)=117) (v:Int) (b3:0≤v) (b4:v≤65535) (b2:4≤s.size-2) (d1 d2:Int) (KX:∀ w:World,Calls Tryz.prog 141 #[.string (s.extract 2 s.size)] w fun e w'=>e=.returned (.tuple #[.int .i64 4,.int .i64 v])∧w=w') (z1:Bool) (KA:∀ w:World,∀ h:2<s.size,Calls Tryz.prog 142 #[.int .u8 s[2].toNat] w fun e w'=>e=.returned (.tuple #[.int .i64 d1,.bool z1])∧w=w') (z2:Bool) (KB:∀ w:World,∀ h:3<s.size,Calls Tryz.prog 142 #[.int .u8 s[3].toNat] w fun e w'=>e=.returned (.tuple #[.int .i64 d2,.bool z2])∧w=w') (W:World) :
   Calls Tryz.prog 124 #[.string s,.bool true] W fun e w'=>e=.returned (.tuple #[.int .i64 (unitD true 4 v d1 d2 (s.size-2)).1,.int .i64 (unitD true 4 v d1 d2 (s.size-2)).2.1,.int .i64 (unitD true 4 v d1 d2 (s.size-2)).2.2])∧Below W.heap.size W w':=by
 have hne:¬ s=ByteArray.empty:=fun e=>by rw[e] at h2;exact absurd h2 (by decide)
 have HX:=hid KX
 have g2:2<s.size:=by omega
 have HA:=hid (fun w=>KA w g2)
 have g3:3<s.size:=by omega
 have HB:=hid (fun w=>KB w g3)
 clear KX KA KB
 by_cases q1:d1=13
 ·subst q1
  by_cases q2:d2<12
  ·have HU:=hid (show unitD true 4 v 13 d2 (s.size-2)=(3,0,4) by show (if _ then _ else _)=_;(repeat' split)<;>first|rfl|(exfalso;omega))
   go_enter Tryz.func124,Tryz.ntmps124
   go_wp2
   refine wp_loop_rounds 3 ?_
   rw[rounds_succ]
   go_wp2
   rw[rounds_succ]
   go_wp2
   rw[rounds_succ]
   go_wp2_with (first
     | (go_at_call 141;refine (HX.out _).mono ?_;rintro e w' ⟨rfl,rfl⟩)
     | (go_at_call 142;with_reducible refine (HA.out _).mono ?_;rintro e w' ⟨rfl,rfl⟩)
     | (go_at_call 142;with_reducible refine (HB.out _).mono ?_;rintro e w' ⟨rfl,rfl⟩))
   go_ret3
   exact ⟨(by rw[HU.out];rfl),below1 _ _⟩
  ·have HU:=hid (show unitD true 4 v 13 d2 (s.size-2)=(6,v,0) by show (if _ then _ else _)=_;(repeat' split)<;>first|rfl|(exfalso;omega))
   go_enter Tryz.func124,Tryz.ntmps124
   go_wp2
   refine wp_loop_rounds 3 ?_
   rw[rounds_succ]
   go_wp2
   rw[rounds_succ]
   go_wp2
   rw[rounds_succ]
   go_wp2_with (first
     | (go_at_call 141;refine (HX.out _).mono ?_;rintro e w' ⟨rfl,rfl⟩)
     | (go_at_call 142;with_reducible refine (HA.out _).mono ?_;rintro e w' ⟨rfl,rfl⟩)
     | (go_at_call 142;with_reducible refine (HB.out _).mono ?_;rintro e w' ⟨rfl,rfl⟩))
   go_ret3
   exact ⟨(by rw[HU.out];rfl),below1 _ _⟩
 ·have HU:=hid (show unitD true 4 v d1 d2 (s.size-2)=(2,0,4) by show (if _ then _ else _)=_;(repeat' split)<;>first|rfl|(exfalso;omega))
  go_enter Tryz.func124,Tryz.ntmps124
  go_wp2
  refine wp_loop_rounds 3 ?_
  rw[rounds_succ]
  go_wp2
  rw[rounds_succ]
  go_wp2
  rw[rounds_succ]
  go_wp2_with (first
    | (go_at_call 141;refine (HX.out _).mono ?_;rintro e w' ⟨rfl,rfl⟩)
    | (go_at_call 142;with_reducible refine (HA.out _).mono ?_;rintro e w' ⟨rfl,rfl⟩)
    | (go_at_call 142;with_reducible refine (HB.out _).mono ?_;rintro e w' ⟨rfl,rfl⟩))
  go_ret3
  exact ⟨(by rw[HU.out];rfl),below1 _ _⟩
end
end Go.Proofs.YtbpilcklglhloaaGreatDoor
