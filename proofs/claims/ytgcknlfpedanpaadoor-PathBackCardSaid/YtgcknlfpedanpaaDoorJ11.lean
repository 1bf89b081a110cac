/- Package path: the powers of ten and the errors that package strconv reads; Itoa, Atoi, hexadecimal digits. -/
import Derived.Test.YtgcknlfpedanpaaDoorRows
import Derived.Test.YtgcknlfpedanpaaDoorJ03
import Derived.Test.YtgcknlfpedanpaaDoorJ07
import Derived.Test.YtgcknlfpedanpaaDoorJ08
import Derived.Test.YtgcknlfpedanpaaDoorJ09
import Derived.Test.YtgcknlfpedanpaaDoorJ10
import Derived.Test.YtgcknlfpedanpaaDoorShelf
import Derived.Lib.SmallJoins
import Derived.Lib.ItoaMem
import Derived.Lib.AtoiAllCases
import Derived.Lib.AppendIntMem
import Derived.Lib.AtoiErrMem
namespace Go.Proofs.YtgcknlfpedanpaaDoor
open Go.RowKit
set_option linter.unusedVariables false

/-- The powers of ten lie in their table. -/
def Pow13 (w : World) : Prop := Lib.TabIs Tryd.prog w "internal/strconv.uint64pow10" .u64 Lib.pow10Tab
/-- The errors of package strconv are errors. -/
def Err13 (w : World) : Prop := (∃ t p, w.var? Tryd.prog "strconv.ErrSyntax" = some #[.iface t p]) ∧ ∃ t p, w.var? Tryd.prog "strconv.ErrRange" = some #[.iface t p]
def Tab13 (w : World) : Prop := Pow13 w ∧ Err13 w
theorem pow_global : Tryd.prog.globalNamed "internal/strconv.uint64pow10" = some 1 := by kernel_rfl
theorem syn_global : Tryd.prog.globalNamed "strconv.ErrSyntax" = some 2 := by kernel_rfl
theorem rng_global : Tryd.prog.globalNamed "strconv.ErrRange" = some 3 := by kernel_rfl
theorem Pow13.stay {w w' : World} (h : Pow13 w) (hb : Below w.heap.size w w') : Pow13 w' := Joins.tab_stays pow_global h hb (Nat.le_refl _)
theorem Err13.stay {w w' : World} (h : Err13 w) (hb : Below w.heap.size w w') : Err13 w' := by
  obtain ⟨⟨t, p, h1⟩, u, q, h2⟩ := h
  exact ⟨⟨t, p, Joins.var_stays syn_global h1 hb (Nat.le_refl _)⟩, u, q, Joins.var_stays rng_global h2 hb (Nat.le_refl _)⟩
theorem Tab13.stay {w w' : World} (h : Tab13 w) (hb : Below w.heap.size w w') : Tab13 w' := ⟨h.1.stay hb, h.2.stay hb⟩

theorem dec_is (v : Nat) : Lib.decDigits v = digN v := by
  induction v using Nat.strongRecOn with
  | ind v ih =>
    by_cases h : v < 10
    · rw [Lib.decDigits, dif_pos h, digN_one v h]
    · rw [Lib.decDigits, dif_neg h, digN_more v h, ih _ (by omega)]
theorem itoa_any (n : Nat) (hn : n ≤ 9007199254740991) (w : World) (h : Pow13 w) :
    Calls Tryd.prog 21 #[.int .i64 n] w fun e w' => e = .returned (.string ⟨(digN n).toArray⟩) ∧ Below w.heap.size w w' := by
  refine (Tryd.strconv_Itoa n (by omega) (by omega) w h).mono ?_
  rintro e w' ⟨rfl, k, os, rfl⟩
  rw [Lib.itoa_nonneg, dec_is]
  exact ⟨rfl, Lib.below_grow _ w (Nat.le_refl _) k os⟩
theorem atoi_yes (s : ByteArray) (hs : s.size ≤ 1000000) (v : Int) (hv : Lib.atoiAll s.data.toList = .ok v) (w : World) :
    Calls Tryd.prog 54 #[.string s] w fun e w' => e = .returned (.tuple #[.int .i64 v, .nilIface]) ∧ Below w.heap.size w w' := by
  refine (Tryd.strconv_Atoi_ok s (by omega) v hv w).mono ?_
  rintro e w' ⟨rfl, rfl | ⟨t, rfl⟩⟩
  · exact ⟨rfl, Below.refl _ _⟩
  · exact ⟨rfl, Lib.bytesWorld_below _ _ _⟩
theorem atoi_no (s : ByteArray) (hs : s.size ≤ 1000000) (hv : ∀ v, Lib.atoiAll s.data.toList ≠ .ok v) (w : World) (h : Err13 w) :
    Calls Tryd.prog 54 #[.string s] w fun e w' => ∃ x t N, e = .returned (.tuple #[.int .i64 x, .iface t (.pointer (some ⟨N, 0, none⟩))]) ∧ Below w.heap.size w w' := by
  obtain ⟨⟨t, p, h1⟩, u, q, h2⟩ := h
  match hc : Lib.atoiAll s.data.toList with
  | .ok v => exact absurd hc (hv v)
  | Lib.NumEnd.syntax =>
    refine (Tryd.strconv_Atoi_syntax s (by omega) hc (.iface t p) w (by have h0 := World.var?_cell syn_global h1 0; simpa using h0) (.inr ⟨t, p, rfl⟩)).mono ?_
    rintro e w' ⟨N, rfl, _, _, hb⟩
    exact ⟨_, _, N, rfl, hb⟩
  | .range =>
    refine (Tryd.strconv_Atoi_range s (by omega) hc (.iface u q) w (by have h0 := World.var?_cell rng_global h2 0; simpa using h0) (.inr ⟨u, q, rfl⟩)).mono ?_
    rintro e w' ⟨N, rfl, _, _, hb⟩
    exact ⟨_, _, N, rfl, hb⟩

theorem hexB_is (c : UInt8) : hexB c = if isHexI c.toNat = true then some (hexI c.toNat) else none := by
  unfold hexB isHexI hexI
  by_cases h1 : 48 ≤ c.toNat ∧ c.toNat ≤ 57
  · have h1' : 48 ≤ (c.toNat : Int) ∧ (c.toNat : Int) ≤ 57 := by omega
    simp [h1, h1']
  · have h1' : ¬ (48 ≤ (c.toNat : Int) ∧ (c.toNat : Int) ≤ 57) := by omega
    rw [if_neg h1, if_neg h1']
    by_cases h2 : 97 ≤ c.toNat ∧ c.toNat ≤ 102
    · have h2' : 97 ≤ (c.toNat : Int) ∧ (c.toNat : Int) ≤ 102 := by omega
      simp [h1', h2, h2']
    · have h2' : ¬ (97 ≤ (c.toNat : Int) ∧ (c.toNat : Int) ≤ 102) := by omega
      rw [if_neg h2, if_neg h2']
      by_cases h3 : 65 ≤ c.toNat ∧ c.toNat ≤ 70
      · have h3' : 65 ≤ (c.toNat : Int) ∧ (c.toNat : Int) ≤ 70 := by omega
        simp [h1', h2', h3, h3']
      · have h3' : ¬ (65 ≤ (c.toNat : Int) ∧ (c.toNat : Int) ≤ 70) := by omega
        rw [if_neg h3]
        rw [decide_eq_false h1', decide_eq_false h2', decide_eq_false h3']
        rfl

theorem hex_of (c : UInt8) (d : Int) (h : hexB c = some d) (w : World) :
    Calls Tryd.prog 64 #[.int .u8 c.toNat] w fun e w' => e = .returned (.tuple #[.int .i64 d, .bool true]) ∧ w = w' := by
  have hc := UInt8.toNat_lt c
  have := hex_any c.toNat w (by omega) (by omega)
  rw [hexB_is] at h
  split at h
  · rename_i h1
    rw [h1, Option.some.inj h] at this
    exact this
  · cases h
theorem hex_not (c : UInt8) (h : hexB c = none) (w : World) :
    Calls Tryd.prog 64 #[.int .u8 c.toNat] w fun e w' => e = .returned (.tuple #[.int .i64 0, .bool false]) ∧ w = w' := by
  have hc := UInt8.toNat_lt c
  have := hex_any c.toNat w (by omega) (by omega)
  rw [hexB_is] at h
  split at h
  · cases h
  · rename_i h1
    have h0 : hexI c.toNat = 0 := by
      unfold isHexI at h1
      unfold hexI
      simp at h1
      rw [if_neg (by omega), if_neg (by omega), if_neg (by omega)]
    rw [show isHexI c.toNat = false by simpa using h1, h0] at this
    exact this

theorem i64_or16 (n d : Int) (h0 : 0 ≤ n) (h9 : n ≤ 1000000) (d0 : 0 ≤ d) (d9 : d ≤ 15) : bits .or .i64 (n * 16) d = n * 16 + d := by
  obtain ⟨a, rfl⟩ := Int.eq_ofNat_of_zero_le h0
  obtain ⟨b, rfl⟩ := Int.eq_ofNat_of_zero_le d0
  have e1 : (BitVec.ofInt 64 ((a : Int) * 16)).toNat = a * 16 := by
    rw [show (a : Int) * 16 = ((a * 16 : Nat) : Int) by simp, BitVec.ofInt_natCast, BitVec.toNat_ofNat]
    exact Nat.mod_eq_of_lt (by omega)
  have e2 : (BitVec.ofInt 64 (b : Int)).toNat = b := by rw [BitVec.ofInt_natCast, BitVec.toNat_ofNat]; exact Nat.mod_eq_of_lt (by omega)
  have e3 : a * 16 ||| b = a * 16 + b := by
    have := Nat.shiftLeft_add_eq_or_of_lt (show b < 2 ^ 4 by omega) a
    rw [Nat.shiftLeft_eq] at this
    exact this.symm
  show IntKind.i64.wrap ((BitVec.ofInt 64 ((a : Int) * 16) ||| BitVec.ofInt 64 (b : Int)).toNat : Int) = _
  rw [BitVec.toNat_or, e1, e2, e3]
  simp [IntKind.wrap, IntKind.bits, IntKind.signed]
  omega


end Go.Proofs.YtgcknlfpedanpaaDoor

namespace Go.Proofs.YtgcknlfpedanpaaDoor
open Go.RowKit
set_option linter.unusedVariables false

theorem ret_bi {a b : Int} {c d : Int} (h : a = b) (g : c = d) : Ending.returned (.tuple #[.int .u8 a, .int .i64 c]) = .returned (.tuple #[.int .u8 b, .int .i64 d]) := by rw [h, g]
theorem let_at (c : UInt8) : (letN c = 0 ∧ Lib.indexByte [98, 116, 110, 102, 114, 39, 92] c = -1) ∨ (letN c ≠ 0 ∧ ∃ k : Nat, k < 7 ∧ Lib.indexByte [98, 116, 110, 102, 114, 39, 92] c = k ∧ ([8, 9, 10, 12, 13, 39, 92] : List UInt8)[k]? = some (letN c)) := by
  have h : ∀ n : Fin 256, (letN (UInt8.ofNat n) = 0 ∧ Lib.indexByte [98, 116, 110, 102, 114, 39, 92] (UInt8.ofNat n) = -1) ∨ (letN (UInt8.ofNat n) ≠ 0 ∧ ∃ k : Fin 7, Lib.indexByte [98, 116, 110, 102, 114, 39, 92] (UInt8.ofNat n) = (k.val : Int) ∧ ([8, 9, 10, 12, 13, 39, 92] : List UInt8)[k.val]? = some (letN (UInt8.ofNat n))) := by decide +kernel
  have := h ⟨c.toNat, c.toNat_lt⟩
  simp only [UInt8.ofNat_toNat] at this
  rcases this with h | ⟨h1, k, h2, h3⟩
  · exact .inl h
  · exact .inr ⟨h1, k.val, k.isLt, h2, h3⟩
theorem pre_four (l : List UInt8) (h : Lib.hasPrefix l [92, 117, 48, 48] = true) : ∃ t, l = 92 :: 117 :: 48 :: 48 :: t := by
  unfold Lib.hasPrefix at h
  obtain ⟨t, ht⟩ := List.isPrefixOf_iff_prefix.1 h
  exact ⟨t, ht.symm⟩
theorem escD_no (l : List UInt8) (h : Lib.hasPrefix l [92, 117, 48, 48] = false) : escD l = (0, 0) := by
  unfold escD
  split
  · rename_i a b r
    exfalso
    revert h
    simp [Lib.hasPrefix, List.isPrefixOf]
  · rfl
theorem letN_at {l : List UInt8} {k : Nat} (h : k < 7) (c : UInt8) (hk : ([8, 9, 10, 12, 13, 39, 92] : List UInt8)[k]? = some c) : ∃ hb : k < (ByteArray.mk #[8, 9, 10, 12, 13, 39, 92]).size, (ByteArray.mk #[8, 9, 10, 12, 13, 39, 92])[k]'hb = c := by
  refine ⟨h, ?_⟩
  have := (List.getElem?_eq_some_iff.1 hk).2
  exact this

set_option maxHeartbeats 4000000 in
set_option maxRecDepth 100000 in
theorem escape_any (s : ByteArray) (hs : s.size ≤ 1000000) (w : World) :
    Calls Tryd.prog 52 #[.string s] w fun e w' => e = .returned (.tuple #[.int .u8 (escC s.data.toList).1.toNat, .int .i64 (escC s.data.toList).2]) ∧ Below w.heap.size w w' := by
  have HC := Lib.hid (fun w => Tryd.strings_CutPrefix s ⟨#[92, 117, 48, 48]⟩ w)
  rw [show (⟨#[92, 117, 48, 48]⟩ : ByteArray).data.toList = [92, 117, 48, 48] from rfl] at HC
  by_cases h1 : 1 < s.size
  · have hg : s.data.toList.getD 1 0 = s[1] := by
      rw [List.getD_eq_getElem?_getD, List.getElem?_eq_getElem (show 1 < s.data.toList.length from h1)]
      rfl
    rcases let_at s[1] with ⟨l0, li⟩ | ⟨l0, k, k7, lk, hk⟩
    · have hE : escC s.data.toList = escD s.data.toList := by unfold escC; rw [hg, l0, if_neg (by decide)]
      rw [hE]
      have HI := Lib.hid (fun w => Tryd.strings_IndexByte ⟨#[98, 116, 110, 102, 114, 39, 92]⟩ s[1].toNat w)
      rw [show (⟨#[98, 116, 110, 102, 114, 39, 92]⟩ : ByteArray).data.toList = [98, 116, 110, 102, 114, 39, 92] from rfl, show ((s[1].toNat : Int)).toNat.toUInt8 = s[1] by simp, li] at HI
      clear hE hg l0 li
      cases hp : Lib.hasPrefix s.data.toList [92, 117, 48, 48]
      · rw [hp] at HC
        rw [escD_no _ hp]
        clear hp
        generalize Lib.trimPrefix s.data.toList [92, 117, 48, 48] = tr at *
        go_enter Tryd.func52, Tryd.ntmps52
        go_wp2_with (first
          | (go_at_call 55; refine (HI.out _).mono ?_; rintro e w' ⟨rfl, rfl⟩)
          | (go_at_call 25; refine (HC.out _).mono ?_; rintro e w' ⟨rfl, rfl⟩))
        go_ret2
        exact ⟨rfl, Below.refl _ _⟩
      · obtain ⟨t, ht⟩ := pre_four _ hp
        have htr : Lib.trimPrefix s.data.toList [92, 117, 48, 48] = t := by
          unfold Lib.trimPrefix
          rw [hp, if_pos rfl, ht]
          rfl
        rw [htr, hp] at HC
        rw [ht]
        have hsz : s.size = 4 + t.length := by
          show s.data.toList.length = _
          rw [ht]
          simp
          omega
        clear htr hp ht
        by_cases h2 : t.length < 2
        · have hE : escD (92 :: 117 :: 48 :: 48 :: t) = (0, 0) := by
            match t, h2 with
            | [], _ => rfl
            | [_], _ => rfl
          rw [hE]
          have g2 : (⟨t.toArray⟩ : ByteArray).size < 2 := h2
          clear hE h2 hsz
          generalize (⟨t.toArray⟩ : ByteArray) = tb at *
          have gI : (tb.size : Int) < 2 := by omega
          go_enter Tryd.func52, Tryd.ntmps52
          go_wp2_with (first
            | (go_at_call 55; refine (HI.out _).mono ?_; rintro e w' ⟨rfl, rfl⟩)
            | (go_at_call 25; refine (HC.out _).mono ?_; rintro e w' ⟨rfl, rfl⟩))
          go_ret2
          exact ⟨rfl, Below.refl _ _⟩
        · obtain ⟨a, b, r, rfl⟩ : ∃ a b r, t = a :: b :: r := by
            match t, h2 with
            | [], h => exact absurd (show ([] : List UInt8).length < 2 by decide) h
            | [_], h => exact absurd (show 1 < 2 by decide) h
            | a :: b :: r, _ => exact ⟨a, b, r, rfl⟩
          have hE : escD (92 :: 117 :: 48 :: 48 :: a :: b :: r) = (match hexB a, hexB b with | some x, some y => (UInt8.ofNat (x * 16 + y).toNat, 6) | _, _ => (0, 0)) := rfl
          rw [hE]
          clear hE
          obtain ⟨tb, htb⟩ : ∃ tb : ByteArray, (⟨(a :: b :: r).toArray⟩ : ByteArray) = tb := ⟨_, rfl⟩
          have hts : 2 ≤ tb.size := by rw [← htb]; show 2 ≤ (a :: b :: r).length; simp
          have e0 : tb[0] = a := by subst htb; rfl
          have e1 : tb[1] = b := by subst htb; rfl
          rw [htb] at HC
          clear h2 hsz htb
          have gI : ¬ (tb.size : Int) < 2 := by omega
          have g0 : 0 < tb.size := by omega
          have g1 : 1 < tb.size := by omega
          have tk1 : True := trivial
          cases ha : hexB a with
          | none =>
            have HA := Lib.hid (fun w => hex_not a ha w)
            have HB : Hid (∀ w, ∃ x c, Calls Tryd.prog 64 #[.int .u8 b.toNat] w fun e w' => e = .returned (.tuple #[.int .i64 x, .bool c]) ∧ w = w') := Lib.hid (fun w => by
              cases hb : hexB b with
              | none => exact ⟨_, _, hex_not b hb w⟩
              | some y => exact ⟨_, _, hex_of b y hb w⟩)
            clear ha
            go_enter Tryd.func52, Tryd.ntmps52
            go_wp2_with (first
              | (go_at_call 55; refine (HI.out _).mono ?_; rintro e w' ⟨rfl, rfl⟩)
              | (go_at_call 25; refine (HC.out _).mono ?_; rintro e w' ⟨rfl, rfl⟩)
              | (go_at_call 64; clear tk1; (try rw [e0]); refine (HA.out _).mono ?_; rintro e w' ⟨rfl, rfl⟩)
              | (go_at_call 64; (try rw [e1]); obtain ⟨x, c, hh⟩ := HB.out _; refine hh.mono ?_; rintro e w' ⟨rfl, rfl⟩))
            go_ret2
            exact ⟨rfl, Below.refl _ _⟩
          | some x =>
            cases hb : hexB b with
            | none =>
              have HA := Lib.hid (fun w => hex_of a x ha w)
              have HB := Lib.hid (fun w => hex_not b hb w)
              clear ha hb
              go_enter Tryd.func52, Tryd.ntmps52
              go_wp2_with (first
                | (go_at_call 55; refine (HI.out _).mono ?_; rintro e w' ⟨rfl, rfl⟩)
                | (go_at_call 25; refine (HC.out _).mono ?_; rintro e w' ⟨rfl, rfl⟩)
                | (go_at_call 64; clear tk1; (try rw [e0]); refine (HA.out _).mono ?_; rintro e w' ⟨rfl, rfl⟩)
                | (go_at_call 64; (try rw [e1]); refine (HB.out _).mono ?_; rintro e w' ⟨rfl, rfl⟩))
              go_ret2
              exact ⟨rfl, Below.refl _ _⟩
            | some y =>
              have HA := Lib.hid (fun w => hex_of a x ha w)
              have HB := Lib.hid (fun w => hex_of b y hb w)
              obtain ⟨x0, x9⟩ := hexB_in ha
              obtain ⟨y0, y9⟩ := hexB_in hb
              have hor := i64_or16 x y x0 (by omega) y0 y9
              clear ha hb
              go_enter Tryd.func52, Tryd.ntmps52
              go_wp2_with (first
                | (go_at_call 55; refine (HI.out _).mono ?_; rintro e w' ⟨rfl, rfl⟩)
                | (go_at_call 25; refine (HC.out _).mono ?_; rintro e w' ⟨rfl, rfl⟩)
                | (go_at_call 64; clear tk1; (try rw [e0]); refine (HA.out _).mono ?_; rintro e w' ⟨rfl, rfl⟩)
                | (go_at_call 64; (try rw [e1]); refine (HB.out _).mono ?_; rintro e w' ⟨rfl, rfl⟩))
              go_ret2
              refine ⟨ret_bi ?_ rfl, Below.refl _ _⟩
              show _ = ((UInt8.ofNat (x * 16 + y).toNat).toNat : Int)
              rw [UInt8.toNat_ofNat_of_lt' (by show (x * 16 + y).toNat < 256; omega)]
              omega
    · have hE : escC s.data.toList = (letN s[1], 2) := by unfold escC; rw [hg, if_pos l0]
      rw [hE]
      have HI := Lib.hid (fun w => Tryd.strings_IndexByte ⟨#[98, 116, 110, 102, 114, 39, 92]⟩ s[1].toNat w)
      rw [show (⟨#[98, 116, 110, 102, 114, 39, 92]⟩ : ByteArray).data.toList = [98, 116, 110, 102, 114, 39, 92] from rfl, show ((s[1].toNat : Int)).toNat.toUInt8 = s[1] by simp, lk] at HI
      obtain ⟨kb, kv⟩ := letN_at (l := []) k7 _ hk
      have HK := Lib.hid kv
      clear hE hg l0 lk hk kv
      have kI : (0 : Int) ≤ k := by omega
      go_enter Tryd.func52, Tryd.ntmps52
      go_wp2_with (go_at_call 55; refine (HI.out _).mono ?_; rintro e w' ⟨rfl, rfl⟩)
      go_ret2
      exact ⟨ret_bi (by rw [← HK.out]) rfl, Below.refl _ _⟩
  · have hp : Lib.hasPrefix s.data.toList [92, 117, 48, 48] = false := by
      cases hp : Lib.hasPrefix s.data.toList [92, 117, 48, 48]
      · rfl
      · obtain ⟨t, ht⟩ := pre_four _ hp
        exfalso
        apply h1
        show 1 < s.data.toList.length
        rw [ht]
        simp
    have hE : escC s.data.toList = (0, 0) := by
      have hg : s.data.toList.getD 1 0 = 0 := by rw [List.getD_eq_getElem?_getD, List.getElem?_eq_none (by show s.size ≤ 1; omega)]; rfl
      unfold escC
      rw [hg, if_neg (by decide), escD_no _ hp]
    rw [hE]
    rw [hp] at HC
    have gI : ¬ (1 : Int) < s.size := by omega
    clear hE hp
    generalize Lib.trimPrefix s.data.toList [92, 117, 48, 48] = tr at *
    go_enter Tryd.func52, Tryd.ntmps52
    go_wp2_with (go_at_call 25; refine (HC.out _).mono ?_; rintro e w' ⟨rfl, rfl⟩)
    go_ret2
    exact ⟨rfl, Below.refl _ _⟩

end Go.Proofs.YtgcknlfpedanpaaDoor
