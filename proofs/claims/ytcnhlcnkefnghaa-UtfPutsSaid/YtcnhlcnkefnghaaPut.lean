/- The contracts of utf.Put, utf.Unit, and of the document's Of, Has, Unit. -/
import Derived.Test.YtcnhlcnkefnghaaLaw02
import Derived.Test.YtcnhlcnkefnghaaRow
import Derived.Outline
namespace Go.Proofs.Ytcnhlcnkefnghaa
open Go.RowKit

def unitI (n : Int) : Int := if 55296 ≤ n ∧ n < 56320 then 1 else if 56320 ≤ n ∧ n < 57344 then 2 else 0
def hasI (n : Int) : Bool := decide (0 ≤ n ∧ n ≤ 1114111 ∧ (n < 55296 ∨ 57343 < n))
def fixI (n : Int) : Int := if hasI n then n else 65533
def ofI (m : Int) : List Int :=
  if m < 128 then [m] else if m < 2048 then [192 + m / 64, 128 + m % 64] else if m < 65536 then [224 + m / 4096, 128 + m / 64 % 64, 128 + m % 64]
  else [240 + m / 262144, 128 + m / 4096 % 64, 128 + m / 64 % 64, 128 + m % 64]

set_option maxHeartbeats 400000 in
theorem unit_any (n : Int) (w : World) :
    Calls Try.prog 16 #[.int .i64 n] w fun e w' => e = .returned (.int .i64 (unitI n)) ∧ w = w' := by
  have hh : n < 55296 ∨ (55296 ≤ n ∧ n < 56320) ∨ (56320 ≤ n ∧ n < 57344) ∨ 57344 ≤ n := by omega
  rcases hh with h | ⟨h, h'⟩ | ⟨h, h'⟩ | h
  all_goals
    go_enter Try.func16, Try.ntmps16
    go_wp2
    go_ret
    exact ⟨ret_i (by unfold unitI; (repeat' split) <;> omega), rfl⟩

set_option maxHeartbeats 400000 in
theorem runit_any (n : Int) (w : World) :
    Calls Try.prog 17 #[.int .i64 n] w fun e w' => e = .returned (.int .i64 (unitI n)) ∧ w = w' := by
  have hh : n < 55296 ∨ (55296 ≤ n ∧ n < 56320) ∨ (56320 ≤ n ∧ n < 57344) ∨ 57344 ≤ n := by omega
  rcases hh with h | ⟨h, h'⟩ | ⟨h, h'⟩ | h
  all_goals
    go_enter Try.func17, Try.ntmps17
    go_wp2
    go_ret
    exact ⟨ret_i (by unfold unitI; (repeat' split) <;> omega), rfl⟩

set_option maxHeartbeats 400000 in
theorem has_any (n : Int) (w : World) :
    Calls Try.prog 23 #[.int .i64 n] w fun e w' => e = .returned (.bool (hasI n)) ∧ w = w' := by
  have hh : n < 0 ∨ 1114111 < n ∨ (0 ≤ n ∧ n < 55296) ∨ (55296 ≤ n ∧ n ≤ 57343) ∨ (57343 < n ∧ n ≤ 1114111) := by omega
  rcases hh with h | h | ⟨h, h'⟩ | ⟨h, h'⟩ | ⟨h, h'⟩
  all_goals
    go_enter Try.func23, Try.ntmps23
    go_wp2
    go_ret
    exact ⟨ret_b (by rw [Bool.eq_iff_iff]; simp [hasI] <;> omega), rfl⟩

theorem fixI_in (n : Int) : 0 ≤ fixI n ∧ fixI n ≤ 1114111 ∧ (fixI n < 55296 ∨ 57343 < fixI n) := by
  unfold fixI hasI
  split
  · rename_i h; simpa using h
  · omega

theorem ofI_is {n : Int} : (n < 128 ∧ ofI n = [n]) ∨ (128 ≤ n ∧ n < 2048 ∧ ofI n = [192 + n / 64, 128 + n % 64]) ∨
    (2048 ≤ n ∧ n < 65536 ∧ ofI n = [224 + n / 4096, 128 + n / 64 % 64, 128 + n % 64]) ∨
    (65536 ≤ n ∧ ofI n = [240 + n / 262144, 128 + n / 4096 % 64, 128 + n / 64 % 64, 128 + n % 64]) := by
  unfold ofI
  (repeat' split) <;> simp <;> omega

set_option maxHeartbeats 1000000 in
theorem of_core (n m : Int) (w : World) (hm : fixI n = m) :
    Calls Try.prog 15 #[.int .i64 n] w fun e w' => e = .returned (.slice (some ⟨w.heap.size, 0, none⟩) (ofI m).length (ofI m).length) ∧ Own w' w.heap.size 5 ((ofI m).map (Value.int .u8)).toArray ∧ Below w.heap.size w w' := by
  have hin := fixI_in n
  rw [hm] at hin
  obtain ⟨g0, g9, _⟩ := hin
  have HH := Lib.hid (has_any n)
  by_cases hb : hasI n = true
  · obtain rfl : n = m := by rw [← hm]; unfold fixI; rw [if_pos hb]
    rw [hb] at HH
    clear hb hm
    have hh := @ofI_is n
    rcases hh with ⟨h, e⟩ | ⟨h, h', e⟩ | ⟨h, h', e⟩ | ⟨h, e⟩
    all_goals
      rw [e]
      clear e
      go_enter Try.func15, Try.ntmps15
      go_wp2_with (go_at_call 23; refine (HH.out _).mono ?_; rintro e w' ⟨rfl, rfl⟩)
      go_ret
      exact ⟨rfl, Own.fresh _ _ _, (Below.refl _ _).alloc (Nat.le_refl _) _⟩
  · obtain rfl : m = 65533 := by rw [← hm]; unfold fixI; rw [if_neg hb]
    rw [(by simpa using hb : hasI n = false)] at HH
    clear hb hm
    go_enter Try.func15, Try.ntmps15
    go_wp2_with (go_at_call 23; refine (HH.out _).mono ?_; rintro e w' ⟨rfl, rfl⟩)
    go_ret
    exact ⟨rfl, Own.fresh _ _ _, (Below.refl _ _).alloc (Nat.le_refl _) _⟩

def sizeI (n : Int) : Nat := if n < 128 then 1 else if n < 2048 then 2 else if n < 65536 then 3 else 4
def leadI (n : Int) : Int := if n < 128 then 0 else if n < 2048 then 192 else if n < 65536 then 224 else 240

set_option maxHeartbeats 400000 in
theorem shape_any (n : Int) (w : World) :
    Calls Try.prog 22 #[.int .i32 n] w fun e w' => e = .returned (.tuple #[.int .i64 (sizeI n), .int .u8 (leadI n)]) ∧ w = w' := by
  have hh : n < 128 ∨ (128 ≤ n ∧ n < 2048) ∨ (2048 ≤ n ∧ n < 65536) ∨ 65536 ≤ n := by omega
  rcases hh with h | ⟨h, h'⟩ | ⟨h, h'⟩ | h
  all_goals
    have e1 : sizeI n = sizeI n := rfl
    conv at e1 => rhs; unfold sizeI
    have e2 : leadI n = leadI n := rfl
    conv at e2 => rhs; unfold leadI
    simp (discharger := omega) only [if_pos, if_neg] at e1 e2
    rw [e1, e2]
    clear e1 e2
    go_enter Try.func22, Try.ntmps22
    go_wp2
    go_ret2
    exact ⟨rfl, rfl⟩

/-- make and copy: behind them the new block holds what came in, and zeros. -/
theorem put_copy (W : World) (A : Option Addr) (len cap k : Nat) (xs : List Int) (hx : Rd W W.heap.size A len (xs.map (Value.int .u8))) :
    ∃ w', (Builtin.copy_ #[31, 31] 3 #[.slice (some ⟨W.heap.size, 0, none⟩) (len + k) (len + k), .slice A len cap]).run Try.prog (W.alloc (.cells (madeCells #[.int .u8 0] (len + k)) 5)) = .ok (.int .i64 len) w' ∧
      Own w' W.heap.size 5 (xs.map (Value.int .u8) ++ List.replicate k (Value.int .u8 0)).toArray ∧ Below W.heap.size W w' := by
  obtain ⟨i0, hi, hz0, hz1, hz2⟩ := info_parts byte_info
  rw [made_one]
  have hl : xs.length = len := by simpa using hx.1
  obtain ⟨w', h1, h2, h3⟩ := run_copy_rd (P := Try.prog) (ty := 3) (Own.fresh W 5 (List.replicate (len + k) (.int .u8 0)).toArray) (o := 0) (len + k) (len + k) len cap W.heap.size A (xs.map (Value.int .u8))
    Try.underlying31 (by rw [hi]; simp [hz1]) (hx.stay ((Below.refl _ _).alloc (Nat.le_refl _) _)) (ints_one _ _) (by omega) (by simp)
  refine ⟨w', h1, ?_, ((Below.refl _ W).alloc (Nat.le_refl _) _).trans (h3.below (Nat.le_refl _) (by simp))⟩
  simpa using h2

theorem i32_and63 (n : Int) (h0 : 0 ≤ n) (h9 : n ≤ 1114111) : bits .and .i32 n 63 = n % 64 := by
  obtain ⟨a, rfl⟩ := Int.eq_ofNat_of_zero_le h0
  have e1 : (BitVec.ofInt 32 (a : Int)).toNat = a := by rw [BitVec.ofInt_natCast, BitVec.toNat_ofNat]; exact Nat.mod_eq_of_lt (by omega)
  have e2 : (BitVec.ofInt 32 (63 : Int)).toNat = 63 := rfl
  have e3 : a &&& 63 = a % 64 := Nat.and_two_pow_sub_one_eq_mod a 6
  show IntKind.i32.wrap ((BitVec.ofInt 32 (a : Int) &&& BitVec.ofInt 32 (63 : Int)).toNat : Int) = _
  rw [BitVec.toNat_and, e1, e2, e3]
  simp [IntKind.wrap, IntKind.bits, IntKind.signed]
  omega

theorem own_list {w : World} {b : Nat} {t : TypeId} {cs : Array Value} {l : List Value} (h : Own w b t cs) (e : cs = l.toArray) : Own w b t l.toArray := by rw [← e]; exact h

theorem u8_or0 (n : Int) (h0 : 0 ≤ n) (h9 : n < 256) : bits .or .u8 0 n = n := by
  rw [u8_or 0 n (by omega) (by omega) h0 h9]
  simp
  omega

set_option maxRecDepth 100000 in
set_option maxHeartbeats 2000000 in
theorem put_1 (n : Int) (W : World) (A : Option Addr) (len cap : Nat) (xs : List Int) (hx : Rd W W.heap.size A len (xs.map (Value.int .u8))) (hl : len ≤ 1000) (h0 : 0 ≤ n) (h : n < 128) :
    Calls Try.prog 14 #[.slice A len cap, .int .i32 n] W fun e w' => e = .returned (.slice (some ⟨W.heap.size, 0, none⟩) (len + 1) (len + 1)) ∧ Own w' W.heap.size 5 ((xs ++ [n]).map (Value.int .u8)).toArray ∧ Below W.heap.size W w' := by
  have HU := Lib.hid (unit_any n)
  rw [show unitI n = 0 by unfold unitI; (repeat' split) <;> omega] at HU
  have HS := Lib.hid (shape_any (n))
  rw [show sizeI (n) = 1 by unfold sizeI; (repeat' split) <;> omega, show leadI (n) = 0 by unfold leadI; (repeat' split) <;> omega] at HS
  obtain ⟨i0, hi, hz0, hz1, hz2⟩ := info_parts byte_info
  have hmk := fun W => run_make (P := Try.prog) W 31 5 i0 _ Try.underlying31 hi hz0 .i64 .i64 ((len : Int) + 1) ((len : Int) + 1) (by omega) (by omega) (by rw [hz2]; omega) (by omega)
  rw [hz1] at hmk
  obtain ⟨w1, hcp, hown, hbel⟩ := put_copy W A len cap 1 xs hx
  have hxl : xs.length = len := by simpa using hx.1
  have HX := Lib.hid hxl
  have HB := Lib.hid hbel
  have HO := Lib.hid hown
  have c0 : w1.cell? ⟨W.heap.size, len, none⟩ = some (.int .u8 0) := by rw [hown.at]; simp [hxl]
  have f0 := hown.free len
  clear hbel hown hx hxl hi hz0 hz1 hz2
  go_enter Try.func14, Try.ntmps14
  go_wp2_with (first
    | (go_at_call 16; refine (HU.out _).mono ?_; rintro e w' ⟨rfl, rfl⟩)
    | (go_at_call 22; refine (HS.out _).mono ?_; rintro e w' ⟨rfl, rfl⟩))
  refine wp_loop_rounds 2 ?_
  rw [rounds_succ]
  go_wp2
  go_ret
  have hxl : (xs.map (Value.int .u8)).length = len := by simpa using HX.out
  refine ⟨rfl, own_list (HO.out.put (len) _) ?_, (HB.out.setCell (Nat.le_refl _) _)⟩
  rw [set_tail _ _ _ 0 _ (by rw [hxl]; rfl)]
  simp [List.replicate]
  exact u8_or0 n h0 (by omega)

set_option maxRecDepth 100000 in
set_option maxHeartbeats 2000000 in
theorem put_2 (n : Int) (W : World) (A : Option Addr) (len cap : Nat) (xs : List Int) (hx : Rd W W.heap.size A len (xs.map (Value.int .u8))) (hl : len ≤ 1000) (h : 128 ≤ n) (h' : n < 2048) :
    Calls Try.prog 14 #[.slice A len cap, .int .i32 n] W fun e w' => e = .returned (.slice (some ⟨W.heap.size, 0, none⟩) (len + 2) (len + 2)) ∧ Own w' W.heap.size 5 ((xs ++ [192 + n / 64, 128 + n % 64]).map (Value.int .u8)).toArray ∧ Below W.heap.size W w' := by
  have HU := Lib.hid (unit_any n)
  rw [show unitI n = 0 by unfold unitI; (repeat' split) <;> omega] at HU
  have HS := Lib.hid (shape_any (n))
  rw [show sizeI (n) = 2 by unfold sizeI; (repeat' split) <;> omega, show leadI (n) = 192 by unfold leadI; (repeat' split) <;> omega] at HS
  obtain ⟨i0, hi, hz0, hz1, hz2⟩ := info_parts byte_info
  have hmk := fun W => run_make (P := Try.prog) W 31 5 i0 _ Try.underlying31 hi hz0 .i64 .i64 ((len : Int) + 2) ((len : Int) + 2) (by omega) (by omega) (by rw [hz2]; omega) (by omega)
  rw [hz1] at hmk
  obtain ⟨w1, hcp, hown, hbel⟩ := put_copy W A len cap 2 xs hx
  have hxl : xs.length = len := by simpa using hx.1
  have HX := Lib.hid hxl
  have HB := Lib.hid hbel
  have HO := Lib.hid hown
  have c0 : w1.cell? ⟨W.heap.size, len, none⟩ = some (.int .u8 0) := by rw [hown.at]; simp [hxl]
  have f0 := hown.free len
  have c1 : w1.cell? ⟨W.heap.size, (len + 1), none⟩ = some (.int .u8 0) := by rw [hown.at]; simp [hxl]
  have f1 := hown.free (len + 1)
  have b0 := i32_and63 n (by omega) (by omega)
  clear hbel hown hx hxl hi hz0 hz1 hz2
  go_enter Try.func14, Try.ntmps14
  go_wp2_with (first
    | (go_at_call 16; refine (HU.out _).mono ?_; rintro e w' ⟨rfl, rfl⟩)
    | (go_at_call 22; refine (HS.out _).mono ?_; rintro e w' ⟨rfl, rfl⟩))
  refine wp_loop_rounds 3 ?_
  rw [rounds_succ]
  go_wp2
  rw [rounds_succ]
  go_wp2
  go_ret
  have hxl : (xs.map (Value.int .u8)).length = len := by simpa using HX.out
  refine ⟨rfl, own_list ((HO.out.put (len + 1) _).put (len) _) ?_, ((HB.out.setCell (Nat.le_refl _) _).setCell (Nat.le_refl _) _)⟩
  rw [set_tail _ _ _ 1 _ (by rw [hxl]), set_tail _ _ _ 0 _ (by rw [hxl]; rfl)]
  simp [List.replicate]

set_option maxRecDepth 100000 in
set_option maxHeartbeats 2000000 in
theorem put_3 (n : Int) (W : World) (A : Option Addr) (len cap : Nat) (xs : List Int) (hx : Rd W W.heap.size A len (xs.map (Value.int .u8))) (hl : len ≤ 1000) (h : 2048 ≤ n) (h' : n < 65536) (hs : n < 55296 ∨ 57343 < n) :
    Calls Try.prog 14 #[.slice A len cap, .int .i32 n] W fun e w' => e = .returned (.slice (some ⟨W.heap.size, 0, none⟩) (len + 3) (len + 3)) ∧ Own w' W.heap.size 5 ((xs ++ [224 + n / 4096, 128 + n / 64 % 64, 128 + n % 64]).map (Value.int .u8)).toArray ∧ Below W.heap.size W w' := by
  have HU := Lib.hid (unit_any n)
  rw [show unitI n = 0 by unfold unitI; (repeat' split) <;> omega] at HU
  have HS := Lib.hid (shape_any (n))
  rw [show sizeI (n) = 3 by unfold sizeI; (repeat' split) <;> omega, show leadI (n) = 224 by unfold leadI; (repeat' split) <;> omega] at HS
  obtain ⟨i0, hi, hz0, hz1, hz2⟩ := info_parts byte_info
  have hmk := fun W => run_make (P := Try.prog) W 31 5 i0 _ Try.underlying31 hi hz0 .i64 .i64 ((len : Int) + 3) ((len : Int) + 3) (by omega) (by omega) (by rw [hz2]; omega) (by omega)
  rw [hz1] at hmk
  obtain ⟨w1, hcp, hown, hbel⟩ := put_copy W A len cap 3 xs hx
  have hxl : xs.length = len := by simpa using hx.1
  have HX := Lib.hid hxl
  have HB := Lib.hid hbel
  have HO := Lib.hid hown
  have c0 : w1.cell? ⟨W.heap.size, len, none⟩ = some (.int .u8 0) := by rw [hown.at]; simp [hxl]
  have f0 := hown.free len
  have c1 : w1.cell? ⟨W.heap.size, (len + 1), none⟩ = some (.int .u8 0) := by rw [hown.at]; simp [hxl]
  have f1 := hown.free (len + 1)
  have c2 : w1.cell? ⟨W.heap.size, (len + 2), none⟩ = some (.int .u8 0) := by rw [hown.at]; simp [hxl]
  have f2 := hown.free (len + 2)
  have b0 := i32_and63 n (by omega) (by omega)
  have b1 := i32_and63 (n / 64) (by omega) (by omega)
  clear hbel hown hx hxl hi hz0 hz1 hz2
  go_enter Try.func14, Try.ntmps14
  go_wp2_with (first
    | (go_at_call 16; refine (HU.out _).mono ?_; rintro e w' ⟨rfl, rfl⟩)
    | (go_at_call 22; refine (HS.out _).mono ?_; rintro e w' ⟨rfl, rfl⟩))
  refine wp_loop_rounds 4 ?_
  rw [rounds_succ]
  go_wp2
  rw [rounds_succ]
  go_wp2
  rw [rounds_succ]
  go_wp2
  go_ret
  have hxl : (xs.map (Value.int .u8)).length = len := by simpa using HX.out
  refine ⟨rfl, own_list (((HO.out.put (len + 2) _).put (len + 1) _).put (len) _) ?_, (((HB.out.setCell (Nat.le_refl _) _).setCell (Nat.le_refl _) _).setCell (Nat.le_refl _) _)⟩
  rw [set_tail _ _ _ 2 _ (by rw [hxl]), set_tail _ _ _ 1 _ (by rw [hxl]), set_tail _ _ _ 0 _ (by rw [hxl]; rfl)]
  simp [List.replicate]
  omega

set_option maxRecDepth 100000 in
set_option maxHeartbeats 2000000 in
theorem put_4 (n : Int) (W : World) (A : Option Addr) (len cap : Nat) (xs : List Int) (hx : Rd W W.heap.size A len (xs.map (Value.int .u8))) (hl : len ≤ 1000) (h : 65536 ≤ n) (h' : n ≤ 1114111) :
    Calls Try.prog 14 #[.slice A len cap, .int .i32 n] W fun e w' => e = .returned (.slice (some ⟨W.heap.size, 0, none⟩) (len + 4) (len + 4)) ∧ Own w' W.heap.size 5 ((xs ++ [240 + n / 262144, 128 + n / 4096 % 64, 128 + n / 64 % 64, 128 + n % 64]).map (Value.int .u8)).toArray ∧ Below W.heap.size W w' := by
  have HU := Lib.hid (unit_any n)
  rw [show unitI n = 0 by unfold unitI; (repeat' split) <;> omega] at HU
  have HS := Lib.hid (shape_any (n))
  rw [show sizeI (n) = 4 by unfold sizeI; (repeat' split) <;> omega, show leadI (n) = 240 by unfold leadI; (repeat' split) <;> omega] at HS
  obtain ⟨i0, hi, hz0, hz1, hz2⟩ := info_parts byte_info
  have hmk := fun W => run_make (P := Try.prog) W 31 5 i0 _ Try.underlying31 hi hz0 .i64 .i64 ((len : Int) + 4) ((len : Int) + 4) (by omega) (by omega) (by rw [hz2]; omega) (by omega)
  rw [hz1] at hmk
  obtain ⟨w1, hcp, hown, hbel⟩ := put_copy W A len cap 4 xs hx
  have hxl : xs.length = len := by simpa using hx.1
  have HX := Lib.hid hxl
  have HB := Lib.hid hbel
  have HO := Lib.hid hown
  have c0 : w1.cell? ⟨W.heap.size, len, none⟩ = some (.int .u8 0) := by rw [hown.at]; simp [hxl]
  have f0 := hown.free len
  have c1 : w1.cell? ⟨W.heap.size, (len + 1), none⟩ = some (.int .u8 0) := by rw [hown.at]; simp [hxl]
  have f1 := hown.free (len + 1)
  have c2 : w1.cell? ⟨W.heap.size, (len + 2), none⟩ = some (.int .u8 0) := by rw [hown.at]; simp [hxl]
  have f2 := hown.free (len + 2)
  have c3 : w1.cell? ⟨W.heap.size, (len + 3), none⟩ = some (.int .u8 0) := by rw [hown.at]; simp [hxl]
  have f3 := hown.free (len + 3)
  have b0 := i32_and63 n (by omega) (by omega)
  have b1 := i32_and63 (n / 64) (by omega) (by omega)
  have b2 := i32_and63 (n / 64 / 64) (by omega) (by omega)
  clear hbel hown hx hxl hi hz0 hz1 hz2
  go_enter Try.func14, Try.ntmps14
  go_wp2_with (first
    | (go_at_call 16; refine (HU.out _).mono ?_; rintro e w' ⟨rfl, rfl⟩)
    | (go_at_call 22; refine (HS.out _).mono ?_; rintro e w' ⟨rfl, rfl⟩))
  refine wp_loop_rounds 5 ?_
  rw [rounds_succ]
  go_wp2
  rw [rounds_succ]
  go_wp2
  rw [rounds_succ]
  go_wp2
  rw [rounds_succ]
  go_wp2
  go_ret
  have hxl : (xs.map (Value.int .u8)).length = len := by simpa using HX.out
  refine ⟨rfl, own_list ((((HO.out.put (len + 3) _).put (len + 2) _).put (len + 1) _).put (len) _) ?_, ((((HB.out.setCell (Nat.le_refl _) _).setCell (Nat.le_refl _) _).setCell (Nat.le_refl _) _).setCell (Nat.le_refl _) _)⟩
  rw [set_tail _ _ _ 3 _ (by rw [hxl]), set_tail _ _ _ 2 _ (by rw [hxl]), set_tail _ _ _ 1 _ (by rw [hxl]), set_tail _ _ _ 0 _ (by rw [hxl]; rfl)]
  simp [List.replicate]
  omega


set_option maxRecDepth 100000 in
set_option maxHeartbeats 2000000 in
theorem put_bad (n : Int) (W : World) (A : Option Addr) (len cap : Nat) (xs : List Int) (hx : Rd W W.heap.size A len (xs.map (Value.int .u8))) (hl : len ≤ 1000) (hb : n < 0 ∨ 1114111 < n ∨ (55296 ≤ n ∧ n < 56320) ∨ (56320 ≤ n ∧ n < 57344)) :
    Calls Try.prog 14 #[.slice A len cap, .int .i32 n] W fun e w' => e = .returned (.slice (some ⟨W.heap.size, 0, none⟩) (len + 3) (len + 3)) ∧ Own w' W.heap.size 5 ((xs ++ [239, 191, 189]).map (Value.int .u8)).toArray ∧ Below W.heap.size W w' := by
  have HU := Lib.hid (unit_any n)
  have HS := Lib.hid (shape_any 65533)
  rw [show sizeI 65533 = 3 from rfl, show leadI 65533 = 224 from rfl] at HS
  obtain ⟨i0, hi, hz0, hz1, hz2⟩ := info_parts byte_info
  have hmk := fun W => run_make (P := Try.prog) W 31 5 i0 _ Try.underlying31 hi hz0 .i64 .i64 ((len : Int) + 3) ((len : Int) + 3) (by omega) (by omega) (by rw [hz2]; omega) (by omega)
  rw [hz1] at hmk
  obtain ⟨w1, hcp, hown, hbel⟩ := put_copy W A len cap 3 xs hx
  have hxl : xs.length = len := by simpa using hx.1
  have HX := Lib.hid hxl
  have HB := Lib.hid hbel
  have HO := Lib.hid hown
  have c0 : w1.cell? ⟨W.heap.size, len, none⟩ = some (.int .u8 0) := by rw [hown.at]; simp [hxl]
  have f0 := hown.free len
  have c1 : w1.cell? ⟨W.heap.size, (len + 1), none⟩ = some (.int .u8 0) := by rw [hown.at]; simp [hxl]
  have f1 := hown.free (len + 1)
  have c2 : w1.cell? ⟨W.heap.size, (len + 2), none⟩ = some (.int .u8 0) := by rw [hown.at]; simp [hxl]
  have f2 := hown.free (len + 2)
  have b0 : bits .and .i32 65533 63 = 61 := by decide +kernel
  have b1 : bits .and .i32 1023 63 = 63 := by decide +kernel
  clear hbel hown hx hxl hi hz0 hz1 hz2
  have hb' : (n < 0 ∧ unitI n = 0) ∨ (1114111 < n ∧ unitI n = 0) ∨ (55296 ≤ n ∧ n < 56320 ∧ unitI n = 1) ∨ (56320 ≤ n ∧ n < 57344 ∧ unitI n = 2) := by unfold unitI; (repeat' split) <;> omega
  clear hb
  rcases hb' with ⟨h, e⟩ | ⟨h, e⟩ | ⟨h, h', e⟩ | ⟨h, h', e⟩
  all_goals
    rw [e] at HU
    clear e
    go_enter Try.func14, Try.ntmps14
    go_wp2_with (first
      | (go_at_call 16; refine (HU.out _).mono ?_; rintro e w' ⟨rfl, rfl⟩)
      | (go_at_call 22; refine (HS.out _).mono ?_; rintro e w' ⟨rfl, rfl⟩))
    refine wp_loop_rounds 4 ?_
    rw [rounds_succ]
    go_wp2
    rw [rounds_succ]
    go_wp2
    rw [rounds_succ]
    go_wp2
    go_ret
    have hxl : (xs.map (Value.int .u8)).length = len := by simpa using HX.out
    refine ⟨rfl, own_list (((HO.out.put (len + 2) _).put (len + 1) _).put (len) _) ?_, (((HB.out.setCell (Nat.le_refl _) _).setCell (Nat.le_refl _) _).setCell (Nat.le_refl _) _)⟩
    rw [set_tail _ _ _ 2 _ (by rw [hxl]), set_tail _ _ _ 1 _ (by rw [hxl]), set_tail _ _ _ 0 _ (by rw [hxl]; rfl)]
    simp [List.replicate]

theorem put_any (n : Int) (W : World) (A : Option Addr) (len cap : Nat) (xs : List Int) (hx : Rd W W.heap.size A len (xs.map (Value.int .u8))) (hl : len ≤ 1000) :
    Calls Try.prog 14 #[.slice A len cap, .int .i32 n] W fun e w' => e = .returned (.slice (some ⟨W.heap.size, 0, none⟩) (len + (ofI (fixI n)).length) (len + (ofI (fixI n)).length)) ∧ Own w' W.heap.size 5 ((xs ++ ofI (fixI n)).map (Value.int .u8)).toArray ∧ Below W.heap.size W w' := by
  by_cases hb : hasI n = true
  · have hf : fixI n = n := by unfold fixI; rw [if_pos hb]
    have hin := fixI_in n
    rw [hf] at hin ⊢
    obtain ⟨g0, g9, gs⟩ := hin
    rcases @ofI_is n with ⟨h, e⟩ | ⟨h, h', e⟩ | ⟨h, h', e⟩ | ⟨h, e⟩
    · rw [e]; exact put_1 n W A len cap xs hx hl g0 h
    · rw [e]; exact put_2 n W A len cap xs hx hl h h'
    · rw [e]; exact put_3 n W A len cap xs hx hl h h' gs
    · rw [e]; exact put_4 n W A len cap xs hx hl h g9
  · have hf : fixI n = 65533 := by unfold fixI; rw [if_neg hb]
    rw [hf, show ofI 65533 = [239, 191, 189] from rfl]
    exact put_bad n W A len cap xs hx hl (by unfold hasI at hb; simp at hb; omega)

end Go.Proofs.Ytcnhlcnkefnghaa
