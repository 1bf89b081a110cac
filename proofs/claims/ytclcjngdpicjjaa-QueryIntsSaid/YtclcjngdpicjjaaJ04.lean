/- JSONPath queries as plain mathematics: what stands at a text's beginning. -/
import Derived.Test.YtclcjngdpicjjaaRows
import Derived.Test.YtclcjngdpicjjaaJ03
import Derived.Outline
import Derived.Lib.AtoiErrMem
namespace Go.Proofs.Ytclcjngdpicjjaa
open Go.RowKit
set_option linter.unusedVariables false

structure Sel where
  kind : Int
  name : ByteArray
  index : Int
  start : Int
  en : Int
  hs : Bool
  he : Bool
  stride : Int

def blkB (c : UInt8) : Bool := decide (c.toNat = 32 ∨ c.toNat = 9 ∨ c.toNat = 10 ∨ c.toNat = 13)
/-- How many blanks a text begins with. -/
def runB : List UInt8 → Nat
  | [] => 0
  | c :: t => if blkB c then runB t + 1 else 0
def minB (l : List UInt8) : Nat := if l.head? = some 45 then 1 else 0
/-- Behind the sign: the digits. -/
def intD (m : Nat) (d : List UInt8) (n : Nat) : Option (Int × Nat) :=
  if n = 0 ∨ 16 < n then none else if 9007199254740991 < valD (d.take n) 0 then none else some (if m = 1 then -((valD (d.take n) 0 : Nat) : Int) else ((valD (d.take n) 0 : Nat) : Int), m + n)
/-- The integer with which a text begins, and how many bytes it has. -/
def nrQ (l : List UInt8) : Option (Int × Nat) :=
  if (l.drop (minB l)).head? = some 48 then (if minB l = 1 then none else some (0, 1)) else intD (minB l) (l.drop (minB l)) (runD (l.drop (minB l)))
def hexG4 : Nat → List UInt8 → Int → Option Int
  | 0, _, v => some v
  | _ + 1, [], _ => none
  | k + 1, c :: t, v => match hexB c with
    | some d => hexG4 k t (v * 16 + d)
    | none => none
def hex4 (l : List UInt8) : Option Int := hexG4 4 l 0
def letE (c : UInt8) : UInt8 := if c = 92 then 92 else if c = 47 then 47 else if c = 98 then 8 else if c = 102 then 12 else if c = 110 then 10 else if c = 114 then 13 else if c = 116 then 9 else 0
/-- The second one of a pair. -/
def escP (v : Int) (l : List UInt8) : Option (List UInt8 × Nat) :=
  if l[5]? = some 92 ∧ l[6]? = some 117 then (match hex4 (l.drop 7) with
    | none => none
    | some w => if w < 56320 ∨ 57343 < w then none else some (ofB (65536 + (v - 55296) * 1024 + w - 56320), 11)) else none
def escU (l t : List UInt8) : Option (List UInt8 × Nat) := match hex4 t with
  | none => none
  | some v => if 56320 ≤ v ∧ v ≤ 57343 then none else if v < 55296 ∨ 57343 < v then some (ofB v, 5) else escP v l
/-- What an escape, behind its backslash, stands for, and how many bytes it has. -/
def escQ (m : UInt8) (l : List UInt8) : Option (List UInt8 × Nat) := match l with
  | [] => none
  | c :: t => if c = m then some ([m], 1) else if letE c ≠ 0 then some ([letE c], 1) else if c ≠ 117 then none else escU (c :: t) t
def quoGo (m : UInt8) : Nat → List UInt8 → List UInt8 → Nat → Option (List UInt8 × Nat)
  | 0, _, _, _ => none
  | _ + 1, [], _, _ => none
  | f + 1, c :: t, acc, k => if c = m then some (acc, k + 1) else if c.toNat < 32 then none else if c ≠ 92 then quoGo m f t (acc ++ [c]) (k + 1) else match escQ m t with
    | none => none
    | some (b, n) => quoGo m f (t.drop n) (acc ++ b) (k + 1 + n)
/-- A quoted name, and how many bytes it has. -/
def quoQ (l : List UInt8) : Option (List UInt8 × Nat) := match l with
  | [] => none
  | m :: t => quoGo m (t.length + 1) t [] 1
def firstB (c : UInt8) : Bool := decide (97 ≤ c.toNat ∧ c.toNat ≤ 122) || decide (65 ≤ c.toNat ∧ c.toNat ≤ 90) || decide (c.toNat = 95) || decide (128 ≤ c.toNat)
def plnN : Bool → List UInt8 → Nat
  | _, [] => 0
  | b, c :: t => if firstB c || (b && digB c) then plnN true t + 1 else 0
/-- Perhaps an integer; none: what looks like one but isn't. -/
def optI (l : List UInt8) : Option (Option (Int × Nat)) := match nrQ l with
  | some p => some (some p)
  | none => if l.head? = some 45 ∨ 0 < runD l then none else some none
def sqA : Sel := ⟨1, ⟨#[]⟩, 0, 0, 0, false, false, 0⟩
def sqN (m : List UInt8) : Sel := ⟨0, ⟨m.toArray⟩, 0, 0, 0, false, false, 0⟩
def sqI (v : Int) : Sel := ⟨2, ⟨#[]⟩, v, 0, 0, false, false, 0⟩
def sqS (a b : Option Int) (c : Int) : Sel := ⟨3, ⟨#[]⟩, 0, a.getD 0, b.getD 0, a.isSome, b.isSome, c⟩
/-- From the second colon on, which stands k bytes behind the beginning. -/
def slcC (a b : Option Int) (l : List UInt8) (k : Nat) : Option (Sel × Nat) :=
  match optI (l.drop (k + 1 + runB (l.drop (k + 1)))) with
  | none => none
  | some none => some (sqS a b 1, k + 1)
  | some (some (v, n)) => some (sqS a b v, k + 1 + runB (l.drop (k + 1)) + n)
/-- From behind the first colon on: k bytes. -/
def slcB (a : Option Int) (l : List UInt8) (k : Nat) : Option (Sel × Nat) :=
  match optI (l.drop (k + runB (l.drop k))) with
  | none => none
  | some none => if (l.drop (k + runB (l.drop k))).head? = some 58 then slcC a none l (k + runB (l.drop k)) else some (sqS a none 1, k)
  | some (some (v, n)) =>
    if (l.drop (k + runB (l.drop k) + n + runB (l.drop (k + runB (l.drop k) + n)))).head? = some 58 then slcC a (some v) l (k + runB (l.drop k) + n + runB (l.drop (k + runB (l.drop k) + n))) else some (sqS a (some v) 1, k + runB (l.drop k) + n)
/-- A slice. -/
def slcQ (l : List UInt8) : Option (Sel × Nat) :=
  match optI l with
  | none => none
  | some none => if l.head? = some 58 then slcB none l 1 else none
  | some (some (v, n)) => if (l.drop (n + runB (l.drop n))).head? = some 58 then slcB (some v) l (n + runB (l.drop n) + 1) else none
/-- A selector, and how many bytes it has. -/
def selQ (l : List UInt8) : Option (Sel × Nat) :=
  if l.head? = some 42 then some (sqA, 1)
  else if l.head? = some 34 ∨ l.head? = some 39 then (quoQ l).map fun p => (sqN p.1, p.2)
  else match slcQ l with
    | some p => some p
    | none => (nrQ l).map fun p => (sqI p.1, p.2)
def brkGo (l : List UInt8) : Nat → Nat → List Sel → Option (List Sel × Nat)
  | 0, _, _ => none
  | f + 1, k, acc => match selQ (l.drop (k + runB (l.drop k))) with
    | none => none
    | some (x, n) =>
      if (l.drop (k + runB (l.drop k) + n + runB (l.drop (k + runB (l.drop k) + n)))).head? = some 93 then some (acc ++ [x], k + runB (l.drop k) + n + runB (l.drop (k + runB (l.drop k) + n)) + 1)
      else if (l.drop (k + runB (l.drop k) + n + runB (l.drop (k + runB (l.drop k) + n)))).head? = some 44 then brkGo l f (k + runB (l.drop k) + n + runB (l.drop (k + runB (l.drop k) + n)) + 1) (acc ++ [x])
      else none
def brkQ (l : List UInt8) : Option (List Sel × Nat) := brkGo l (l.length + 1) 1 []
structure Sgm where
  deep : Bool
  sels : List Sel
def dotsN (l : List UInt8) : Nat := if l.head? = some 46 then (if l.tail.head? = some 46 then 2 else 1) else 0
/-- A segment, and how many bytes it has. -/
def sgmR (p : Nat) (r : List UInt8) : Option (List Sel × Nat) :=
  if r.head? = some 91 ∧ p ≠ 1 then brkQ r
  else if p = 0 then none
  else if r.head? = some 42 then some ([sqA], 1)
  else if plnN false r = 0 then none else some ([sqN (r.take (plnN false r))], plnN false r)
def sgmQ (l : List UInt8) : Option (Sgm × Nat) := (sgmR (dotsN l) (l.drop (dotsN l))).map fun p => (⟨decide (dotsN l = 2), p.1⟩, dotsN l + p.2)
def queGo : Nat → List UInt8 → List Sgm → Option (List Sgm)
  | 0, _, _ => none
  | f + 1, l, acc => if l = [] then some acc else match sgmQ (l.drop (runB l)) with
    | none => none
    | some (x, n) => queGo f (l.drop (runB l + n)) (acc ++ [x])
/-- A text's query. -/
def queQ (l : List UInt8) : Option (List Sgm) := if badU l ≠ -1 ∨ l.head? ≠ some 36 then none else queGo (l.length + 1) l.tail []

theorem runB_le : ∀ l, runB l ≤ l.length
  | [] => Nat.le_refl _
  | c :: t => by
    have := runB_le t
    unfold runB
    split
    · simpa using this
    · simp
theorem minB_le (l : List UInt8) : minB l ≤ 1 := by unfold minB; split <;> omega
theorem intD_in {m n v k : Nat} {d : List UInt8} {x : Int} (h : intD m d n = some (x, k)) : n ≠ 0 ∧ n ≤ 16 ∧ k = m + n := by
  unfold intD at h
  split at h
  · cases h
  split at h
  · cases h
  · injection h with h
    injection h with h1 h2
    omega

end Go.Proofs.Ytclcjngdpicjjaa

namespace Go.Proofs.Ytclcjngdpicjjaa
open Go.RowKit
set_option linter.unusedVariables false

theorem digB_is (c : UInt8) : isDigitI c.toNat = digB c := by
  unfold isDigitI digB
  by_cases h : 48 ≤ c.toNat ∧ c.toNat ≤ 57
  · rw [decide_eq_true h, decide_eq_true (by omega)]
  · rw [decide_eq_false h, decide_eq_false (by omega)]
theorem blkB_is (c : UInt8) : isBlankI c.toNat = blkB c := by
  unfold isBlankI blkB
  by_cases h1 : c.toNat = 32 <;> by_cases h2 : c.toNat = 9 <;> by_cases h3 : c.toNat = 10 <;> by_cases h4 : c.toNat = 13 <;> simp [h1, h2, h3, h4] <;> omega
theorem tail13 (s : ByteArray) (k : Nat) (hk : k ≤ s.size) : (s.extract k s.size).data.toList = s.data.toList.drop k := by
  rw [ByteArray.data_extract, Array.toList_extract, List.extract_eq_take_drop]
  exact List.take_of_length_le (by rw [List.length_drop]; show s.size - k ≤ _; omega)
theorem tail_size (s : ByteArray) (k : Nat) (hk : k ≤ s.size) : (s.extract k s.size).size = s.size - k := by rw [ByteArray.size_extract]; omega
theorem head_zero (s : ByteArray) (h : 0 < s.size) : s.data.toList.head? = some s[0] := by
  have hx : 0 < s.data.toList.length := h
  have := List.drop_eq_getElem_cons hx
  rw [List.drop_zero] at this
  rw [this]
  rfl
theorem head_none (s : ByteArray) (h : ¬ 0 < s.size) : s.data.toList.head? = none := by
  have : s.data.toList = [] := List.eq_nil_of_length_eq_zero (by show s.size = 0; omega)
  rw [this]
  rfl
theorem byteI_eq {c d : UInt8} (h : c = d) : ((c.toNat : Int) == d.toNat) = true := by rw [h]; simp
theorem byteI_ne {c d : UInt8} (h : c ≠ d) : ((c.toNat : Int) == d.toNat) = false := by
  rw [beq_eq_false_iff_ne]
  intro e
  exact h (UInt8.toNat_inj.1 (by omega))

set_option maxHeartbeats 1000000 in
theorem begins_any (s : ByteArray) (c : UInt8) (w : World) (hs : s.size ≤ 1000000) :
    Calls Try.prog 16 #[.string s, .int .u8 c.toNat] w fun e w' => e = .returned (.bool (decide (s.data.toList.head? = some c))) ∧ w = w' := by
  by_cases h0 : 0 < s.size
  · have h0I : (0 : Int) < s.size := by omega
    rw [head_zero s h0]
    by_cases hc : s[0] = c
    · rw [decide_eq_true (congrArg some hc)]
      have g := byteI_eq hc
      go_enter Try.func16, Try.ntmps16
      go_wp2
      go_ret
      exact ⟨rfl, rfl⟩
    · rw [decide_eq_false (fun e => hc (Option.some.inj e))]
      have g := byteI_ne hc
      go_enter Try.func16, Try.ntmps16
      go_wp2
      go_ret
      exact ⟨rfl, rfl⟩
  · have h0I : ¬ (0 : Int) < s.size := by omega
    rw [head_none s h0]
    go_enter Try.func16, Try.ntmps16
    go_wp2
    go_ret
    exact ⟨rfl, rfl⟩

theorem runB_drop (s : ByteArray) (k : Nat) (h : k < s.size) : runB (s.data.toList.drop k) = if blkB s[k] then runB (s.data.toList.drop (k + 1)) + 1 else 0 := by
  have hx : k < s.data.toList.length := h
  rw [List.drop_eq_getElem_cons hx]
  rfl
theorem runD_drop (s : ByteArray) (k : Nat) (h : k < s.size) : runD (s.data.toList.drop k) = if digB s[k] then runD (s.data.toList.drop (k + 1)) + 1 else 0 := by
  have hx : k < s.data.toList.length := h
  rw [List.drop_eq_getElem_cons hx]
  rfl
def RelBl14 (s : ByteArray) (W : World) (v : Value) (wr : World) : Prop :=
  ∃ k : Nat, v = .int .i64 k ∧ k ≤ s.size ∧ k + runB (s.data.toList.drop k) = runB s.data.toList ∧ W = wr
def RelDg14 (s : ByteArray) (W : World) (v : Value) (wr : World) : Prop :=
  ∃ k : Nat, v = .int .i64 k ∧ k ≤ s.size ∧ k + runD (s.data.toList.drop k) = runD s.data.toList ∧ W = wr

set_option maxHeartbeats 1000000 in
theorem blanks_any (s : ByteArray) (W : World) (hs : s.size ≤ 1000000) :
    Calls Try.prog 17 #[.string s] W fun e w' => e = .returned (.int .i64 (runB s.data.toList)) ∧ W = w' := by
  go_enter Try.func17, Try.ntmps17
  go_wp2
  go_loopw [3] (fun v wr => RelBl14 s W v wr) (fun v _ => s.size - (intOf v).toNat)
  case atStart => exact ⟨0, rfl, Nat.zero_le _, by simp, rfl⟩
  case round =>
    obtain ⟨k, rfl, hk, hr, rfl⟩ := hrel
    by_cases hlt : k < s.size
    · have hltI : (k : Int) < s.size := by omega
      have HD := Lib.hid (fun w => rblank_any s[k].toNat w)
      rw [blkB_is] at HD
      rw [runB_drop s k hlt] at hr
      by_cases hd : blkB s[k] = true
      · rw [hd] at HD
        rw [if_pos hd] at hr
        have HR := Lib.hid hr
        clear hr hd
        go_wp2_with (go_at_call 29; refine (HD.out _).mono ?_; rintro e w' ⟨rfl, rfl⟩)
        go_roundw
        case rel => exact ⟨k + 1, by go_num, hlt, by have := HR.out; omega, rfl⟩
        case measure => simp [intOf]; omega
      · rw [Bool.eq_false_iff.2 hd] at HD
        rw [if_neg hd] at hr
        have HR := Lib.hid hr
        clear hr hd
        go_wp2_with (go_at_call 29; refine (HD.out _).mono ?_; rintro e w' ⟨rfl, rfl⟩)
        go_ret
        exact ⟨ret_i (by have := HR.out; omega), rfl⟩
    · have hltI : ¬ (k : Int) < s.size := by omega
      rw [List.drop_of_length_le (by show s.size ≤ k; omega)] at hr
      have HR := Lib.hid (show k = runB s.data.toList from hr)
      clear hr
      go_wp2
      go_ret
      exact ⟨ret_i (by have := HR.out; omega), rfl⟩

set_option maxHeartbeats 1000000 in
theorem digits_any (s : ByteArray) (W : World) (hs : s.size ≤ 1000000) :
    Calls Try.prog 22 #[.string s] W fun e w' => e = .returned (.int .i64 (runD s.data.toList)) ∧ W = w' := by
  go_enter Try.func22, Try.ntmps22
  go_wp2
  go_loopw [3] (fun v wr => RelDg14 s W v wr) (fun v _ => s.size - (intOf v).toNat)
  case atStart => exact ⟨0, rfl, Nat.zero_le _, by simp, rfl⟩
  case round =>
    obtain ⟨k, rfl, hk, hr, rfl⟩ := hrel
    by_cases hlt : k < s.size
    · have hltI : (k : Int) < s.size := by omega
      have HD := Lib.hid (fun w => rdigit_any s[k].toNat w)
      rw [digB_is] at HD
      rw [runD_drop s k hlt] at hr
      by_cases hd : digB s[k] = true
      · rw [hd] at HD
        rw [if_pos hd] at hr
        have HR := Lib.hid hr
        clear hr hd
        go_wp2_with (go_at_call 34; refine (HD.out _).mono ?_; rintro e w' ⟨rfl, rfl⟩)
        go_roundw
        case rel => exact ⟨k + 1, by go_num, hlt, by have := HR.out; omega, rfl⟩
        case measure => simp [intOf]; omega
      · rw [Bool.eq_false_iff.2 hd] at HD
        rw [if_neg hd] at hr
        have HR := Lib.hid hr
        clear hr hd
        go_wp2_with (go_at_call 34; refine (HD.out _).mono ?_; rintro e w' ⟨rfl, rfl⟩)
        go_ret
        exact ⟨ret_i (by have := HR.out; omega), rfl⟩
    · have hltI : ¬ (k : Int) < s.size := by omega
      rw [List.drop_of_length_le (by show s.size ≤ k; omega)] at hr
      have HR := Lib.hid (show k = runD s.data.toList from hr)
      clear hr
      go_wp2
      go_ret
      exact ⟨ret_i (by have := HR.out; omega), rfl⟩

end Go.Proofs.Ytclcjngdpicjjaa

namespace Go.Proofs.Ytclcjngdpicjjaa
open Go.RowKit

set_option maxHeartbeats 400000 in
theorem unit_any (n : Int) (w : World) :
    Calls Try.prog 81 #[.int .i64 n] w fun e w' => e = .returned (.int .i64 (unitI n)) ∧ w = w' := by
  have hh : n < 55296 ∨ (55296 ≤ n ∧ n < 56320) ∨ (56320 ≤ n ∧ n < 57344) ∨ 57344 ≤ n := by omega
  rcases hh with h | ⟨h, h'⟩ | ⟨h, h'⟩ | h
  all_goals
    go_enter Try.func81, Try.ntmps81
    go_wp2
    go_ret
    exact ⟨ret_i (by unfold unitI; (repeat' split) <;> omega), rfl⟩

set_option maxHeartbeats 400000 in
theorem has_any (n : Int) (w : World) :
    Calls Try.prog 71 #[.int .i64 n] w fun e w' => e = .returned (.bool (hasI n)) ∧ w = w' := by
  have hh : n < 0 ∨ 1114111 < n ∨ (0 ≤ n ∧ n < 55296) ∨ (55296 ≤ n ∧ n ≤ 57343) ∨ (57343 < n ∧ n ≤ 1114111) := by omega
  rcases hh with h | h | ⟨h, h'⟩ | ⟨h, h'⟩ | ⟨h, h'⟩
  all_goals
    go_enter Try.func71, Try.ntmps71
    go_wp2
    go_ret
    exact ⟨ret_b (by rw [Bool.eq_iff_iff]; simp [hasI] <;> omega), rfl⟩

set_option maxHeartbeats 1000000 in
theorem of_core (n m : Int) (w : World) (hm : fixI n = m) :
    Calls Try.prog 62 #[.int .i64 n] w fun e w' => e = .returned (.slice (some ⟨w.heap.size, 0, none⟩) (ofI m).length (ofI m).length) ∧ Own w' w.heap.size 5 ((ofI m).map (Value.int .u8)).toArray ∧ Below w.heap.size w w' := by
  have hin := fixI_in n
  rw [hm] at hin
  obtain ⟨g0, g9, _⟩ := hin
  have HH := Lib.hid (has_any n)
  by_cases hb : hasI n = true
  · obtain rfl : n = m := by rw [← hm]; unfold fixI; rw [if_pos hb]
    rw [hb] at HH
    clear hb hm
    have hh := @ofI_is n
    rcases hh with ⟨h, e⟩ | ⟨h, h', e⟩ | ⟨h, h', e⟩ | ⟨h, e⟩
    all_goals
      rw [e]
      clear e
      go_enter Try.func62, Try.ntmps62
      go_wp2_with (go_at_call 71; refine (HH.out _).mono ?_; rintro e w' ⟨rfl, rfl⟩)
      go_ret
      exact ⟨rfl, Own.fresh _ _ _, (Below.refl _ _).alloc (Nat.le_refl _) _⟩
  · obtain rfl : m = 65533 := by rw [← hm]; unfold fixI; rw [if_neg hb]
    rw [(by simpa using hb : hasI n = false)] at HH
    clear hb hm
    go_enter Try.func62, Try.ntmps62
    go_wp2_with (go_at_call 71; refine (HH.out _).mono ?_; rintro e w' ⟨rfl, rfl⟩)
    go_ret
    exact ⟨rfl, Own.fresh _ _ _, (Below.refl _ _).alloc (Nat.le_refl _) _⟩

def sizeI (n : Int) : Nat := if n < 128 then 1 else if n < 2048 then 2 else if n < 65536 then 3 else 4
def leadI (n : Int) : Int := if n < 128 then 0 else if n < 2048 then 192 else if n < 65536 then 224 else 240

/-- make and copy: behind them the new block holds what came in, and zeros. -/
theorem put_copy (W : World) (A : Option Addr) (len cap k : Nat) (xs : List Int) (hx : Rd W W.heap.size A len (xs.map (Value.int .u8))) :
    ∃ w', (Builtin.copy_ #[49, 49] 3 #[.slice (some ⟨W.heap.size, 0, none⟩) (len + k) (len + k), .slice A len cap]).run Try.prog (W.alloc (.cells (madeCells #[.int .u8 0] (len + k)) 5)) = .ok (.int .i64 len) w' ∧
      Own w' W.heap.size 5 (xs.map (Value.int .u8) ++ List.replicate k (Value.int .u8 0)).toArray ∧ Below W.heap.size W w' := by
  obtain ⟨i0, hi, hz0, hz1, hz2⟩ := info_parts byte_info
  rw [made_one]
  have hl : xs.length = len := by simpa using hx.1
  obtain ⟨w', h1, h2, h3⟩ := run_copy_rd (P := Try.prog) (ty := 3) (Own.fresh W 5 (List.replicate (len + k) (.int .u8 0)).toArray) (o := 0) (len + k) (len + k) len cap W.heap.size A (xs.map (Value.int .u8))
    Try.underlying49 (by rw [hi]; simp [hz1]) (hx.stay ((Below.refl _ _).alloc (Nat.le_refl _) _)) (ints_one _ _) (by omega) (by simp)
  refine ⟨w', h1, ?_, ((Below.refl _ W).alloc (Nat.le_refl _) _).trans (h3.below (Nat.le_refl _) (by simp))⟩
  simpa using h2

theorem i32_and63 (n : Int) (h0 : 0 ≤ n) (h9 : n ≤ 1114111) : bits .and .i32 n 63 = n % 64 := by
  obtain ⟨a, rfl⟩ := Int.eq_ofNat_of_zero_le h0
  have e1 : (BitVec.ofInt 32 (a : Int)).toNat = a := by rw [BitVec.ofInt_natCast, BitVec.toNat_ofNat]; exact Nat.mod_eq_of_lt (by omega)
  have e2 : (BitVec.ofInt 32 (63 : Int)).toNat = 63 := rfl
  have e3 : a &&& 63 = a % 64 := Nat.and_two_pow_sub_one_eq_mod a 6
  show IntKind.i32.wrap ((BitVec.ofInt 32 (a : Int) &&& BitVec.ofInt 32 (63 : Int)).toNat : Int) = _
  rw [BitVec.toNat_and, e1, e2, e3]
  simp [IntKind.wrap, IntKind.bits, IntKind.signed]
  omega

theorem own_list {w : World} {b : Nat} {t : TypeId} {cs : Array Value} {l : List Value} (h : Own w b t cs) (e : cs = l.toArray) : Own w b t l.toArray := by rw [← e]; exact h

theorem u8_or0 (n : Int) (h0 : 0 ≤ n) (h9 : n < 256) : bits .or .u8 0 n = n := by
  rw [u8_or 0 n (by omega) (by omega) h0 h9]
  simp
  omega

end Go.Proofs.Ytclcjngdpicjjaa

namespace Go.Proofs.Ytclcjngdpicjjaa
open Go.RowKit
set_option linter.unusedVariables false

theorem conv_str14 (w : World) (s : ByteArray) : ∃ c w1, (convert 9 49 (.string s)).run Try.prog w = .ok (.slice (some ⟨w.heap.size, 0, none⟩) s.size c) w1 ∧
    Rd w1 w1.heap.size (some ⟨w.heap.size, 0, none⟩) s.size (byteCells s.data.toList) ∧ Below w.heap.size w w1 := by
  have hz := Lib.bytesWorld_size w 5 s
  refine ⟨_, _, Lib.run_convert_string_bytes w _ _ 5 s Try.underlying9 Try.underlying49 Try.underlying5, ⟨byteCells_length _, fun h => ⟨_, rfl, by rw [hz]; exact Nat.lt_succ_self _, fun j u hu => ?_⟩⟩,
    ⟨rfl, rfl, rfl, by rw [hz]; exact Nat.le_succ _, fun k hk => Lib.bytesWorld_at_old w _ s k hk⟩⟩
  have hj : j < s.size := by have := (List.getElem?_eq_some_iff.1 hu).1; rw [byteCells_length] at this; exact this
  rw [add_none, Nat.zero_add, Lib.bytesWorld_cell w _ s j hj]
  unfold byteCells at hu
  rw [List.getElem?_map, List.getElem?_eq_getElem (show j < s.data.toList.length from hj)] at hu
  rw [← hu]
  simp [hj]
theorem rd_byte {w : World} {B b n : Nat} {l : List UInt8} (h : Rd w B (some ⟨b, 0, none⟩) n (byteCells l)) {k : Nat} (hk : k < l.length) : w.cell? ⟨b, k, none⟩ = some (.int .u8 l[k].toNat) := by
  have hn : 0 < n := by have := h.1; rw [byteCells_length] at this; omega
  obtain ⟨ad, e, _, hc⟩ := h.2 hn
  obtain rfl := Option.some.inj e
  have := hc k (.int .u8 l[k].toNat) (by unfold byteCells; rw [List.getElem?_map, List.getElem?_eq_getElem hk]; rfl)
  rw [add_none, Nat.zero_add] at this
  exact this
theorem part14 (s : ByteArray) (a b : Nat) (h : a + b ≤ s.size) : (s.extract a (a + b)).data.toList = (s.data.toList.drop a).take b := by
  rw [ByteArray.data_extract, Array.toList_extract, List.extract_eq_take_drop, Nat.add_sub_cancel_left]
theorem part14_size (s : ByteArray) (a b : Nat) (h : a + b ≤ s.size) : (s.extract a (a + b)).size = b := by rw [ByteArray.size_extract]; omega
theorem valD_take (ds : List UInt8) (k : Nat) (h : k < ds.length) : valD (ds.take (k + 1)) 0 = valD (ds.take k) 0 * 10 + (ds[k].toNat - 48) := by
  rw [List.take_succ_eq_append_getElem h, val_snoc]
theorem valD_pow (ds : List UInt8) (hd : ∀ c ∈ ds, digB c = true) : ∀ k, k ≤ ds.length → valD (ds.take k) 0 < 10 ^ k
  | 0, _ => by show (0 : Nat) < 1; decide
  | k + 1, h => by
    have ih := valD_pow ds hd k (by omega)
    have hc := hd ds[k] (List.getElem_mem (by omega))
    unfold digB at hc
    have hc := of_decide_eq_true hc
    rw [valD_take ds k (by omega), Nat.pow_succ]
    omega
theorem run_dig : ∀ (l : List UInt8), ∀ c ∈ l.take (runD l), digB c = true
  | [], c, h => by simp at h
  | a :: t, c, h => by
    unfold runD at h
    split at h
    · rename_i hd
      rw [List.take_succ_cons] at h
      rcases List.mem_cons.1 h with rfl | h
      · exact hd
      · exact run_dig t c h
    · simp at h
theorem digs_some {l : List UInt8} (h : l.head? = some 48) : 0 < runD l := by
  cases l with
  | nil => cases h
  | cons a t =>
    obtain rfl := Option.some.inj h
    unfold runD
    rw [if_pos (by decide)]
    omega
theorem digs_head {l : List UInt8} (h : 0 < runD l) : ∃ c, l.head? = some c ∧ digB c = true := by
  cases l with
  | nil => exact absurd h (by decide)
  | cons a t =>
    unfold runD at h
    split at h
    · rename_i hd; exact ⟨a, rfl, hd⟩
    · omega
theorem nrQ_on {l : List UInt8} {m : Nat} (h : minB l = m) : nrQ l = if (l.drop m).head? = some 48 then (if m = 1 then none else some (0, 1)) else intD m (l.drop m) (runD (l.drop m)) := by
  subst h
  rfl
/-- What Int answers. -/
def InEnd (l : List UInt8) (W : World) (e : Ending) (w' : World) : Prop :=
  (match nrQ l with
    | none => e = .returned (.tuple #[.int .i64 0, .int .i64 0, .bool false])
    | some (v, n) => e = .returned (.tuple #[.int .i64 v, .int .i64 n, .bool true])) ∧ Below W.heap.size W w'
theorem InEnd.no {l : List UInt8} {W w' : World} (h : nrQ l = none) (hb : Below W.heap.size W w') : InEnd l W (.returned (.tuple #[.int .i64 0, .int .i64 0, .bool false])) w' := by
  unfold InEnd; rw [h]; exact ⟨rfl, hb⟩
theorem InEnd.yes {l : List UInt8} {W w' : World} {v v' k' : Int} {n : Nat} (h : nrQ l = some (v, n)) (hv : v = v') (hk : (n : Int) = k') (hb : Below W.heap.size W w') : InEnd l W (.returned (.tuple #[.int .i64 v', .int .i64 k', .bool true])) w' := by
  unfold InEnd; rw [h, ← hv, ← hk]; exact ⟨rfl, hb⟩
/-- Where Int's loop is: over these digits. -/
def RelIn (ds : List UInt8) (W : World) (vv vi : Value) (wr : World) : Prop :=
  ∃ k : Nat, k ≤ ds.length ∧ vi = .int .i64 k ∧ vv = .int .i64 (valD (ds.take k) 0 : Nat) ∧ W = wr

set_option maxHeartbeats 1000000 in
set_option maxRecDepth 100000 in
theorem rint_zero (s : ByteArray) (W : World) (hs : s.size ≤ 1000000) (hm : minB s.data.toList = 0) (h48 : (s.data.toList.drop 0).head? = some 48) :
    Calls Try.prog 11 #[.string s] W (InEnd s.data.toList W) := by
  have g45 : ∀ h : 0 < s.size, ((s[0].toNat : Int) == 45) = false := fun h => byteI_ne (d := 45) (fun e => by
    unfold minB at hm
    rw [head_zero s h, e] at hm
    simp at hm)
  have hint := nrQ_on hm
  have hlm : 0 ≤ s.size := by omega
  have htd := tail13 s 0 hlm
  have hsz := tail_size s 0 hlm
  have HDG := Lib.hid (fun w => digits_any s w hs)
  rw [show s.data.toList = s.data.toList.drop 0 from rfl] at HDG
  have hrl := runD_le (s.data.toList.drop 0)
  rw [List.length_drop] at hrl
  have hrl : runD (s.data.toList.drop 0) ≤ s.size - 0 := hrl
  rw [if_pos h48, if_neg (by decide)] at hint
  have hpos := digs_some h48
  have g0 : 0 < s.size := by
    by_cases h : 0 < s.size
    · exact h
    · rw [List.drop_zero, head_none s h] at h48; cases h48
  have e0 : s[0] = 48 := by rw [List.drop_zero, head_zero s g0] at h48; exact Option.some.inj h48
  have g45 := g45 g0
  have g48 : ((s[0].toNat : Int) == 48) = true := by rw [e0]; rfl
  have g0I : (0 : Int) < s.size := by omega
  obtain ⟨n, hn⟩ : ∃ n, n = 1 := ⟨_, rfl⟩
  obtain ⟨cc, w1, hr1, rd, hb1⟩ := conv_str14 W (s.extract 0 1)
  have hps := part14_size s 0 1 (by omega)
  have hpl := part14 s 0 1 (by omega)
  rw [Nat.zero_add] at hps hpl
  rw [hpl, hps] at rd
  rw [hps] at hr1
  have hds : (s.data.toList.drop 0).take 1 = [48] := by
    rw [List.drop_zero] at h48 ⊢
    cases hc : s.data.toList with
    | nil => rw [hc] at h48; cases h48
    | cons a t => rw [hc] at h48; obtain rfl := Option.some.inj h48; rfl
  rw [hds] at rd
  have c0 : w1.cell? ⟨W.heap.size, 0, none⟩ = some (.int .u8 48) := rd_byte rd (k := 0) (by decide)
  have HB1 := Lib.hid hb1
  have HI := Lib.hid hint
  generalize hr : runD (s.data.toList.drop 0) = q at *
  have qI : (q : Int) > 0 := by omega
  clear hps hpl hds rd hb1 hint h48 htd hsz hm hrl hr
  have k1 : (0 : Int) + 1 ≤ s.size := by omega
  go_enter Try.func11, Try.ntmps11
  go_wp2_with (go_at_call 22; refine (HDG.out _).mono ?_; rintro e w' ⟨rfl, rfl⟩)
  refine wp_loop_rounds 2 ?_
  rw [rounds_succ]; go_wp2
  rw [rounds_succ]; go_wp2
  go_ret3
  exact InEnd.yes HI.out rfl rfl HB1.out

set_option maxHeartbeats 1000000 in
set_option maxRecDepth 100000 in
theorem rint_dig0 (s : ByteArray) (W : World) (hs : s.size ≤ 1000000) (hm : minB s.data.toList = 0) (h48 : (s.data.toList.drop 0).head? ≠ some 48) :
    Calls Try.prog 11 #[.string s] W (InEnd s.data.toList W) := by
  have g45 : ∀ h : 0 < s.size, ((s[0].toNat : Int) == 45) = false := fun h => byteI_ne (d := 45) (fun e => by
    unfold minB at hm
    rw [head_zero s h, e] at hm
    simp at hm)
  have hint := nrQ_on hm
  have hlm : 0 ≤ s.size := by omega
  have htd := tail13 s 0 hlm
  have hsz := tail_size s 0 hlm
  have HDG := Lib.hid (fun w => digits_any s w hs)
  rw [show s.data.toList = s.data.toList.drop 0 from rfl] at HDG
  have hrl := runD_le (s.data.toList.drop 0)
  rw [List.length_drop] at hrl
  have hrl : runD (s.data.toList.drop 0) ≤ s.size - 0 := hrl
  rw [if_neg h48] at hint
  obtain ⟨n, hn⟩ : ∃ n, runD (s.data.toList.drop 0) = n := ⟨_, rfl⟩
  rw [hn] at HDG hrl hint
  have mI : (0 : Int) ≤ s.size := by omega
  by_cases hn0 : n = 0
  · subst hn0
    have HI := Lib.hid (show nrQ s.data.toList = none by rw [hint]; unfold intD; rw [if_pos (.inl rfl)])
    clear hint h48 htd hsz hm hrl hn
    by_cases g0 : 0 < s.size
    · have g45 := g45 g0
      have g0I : (0 : Int) < s.size := by omega
      go_enter Try.func11, Try.ntmps11
      go_wp2_with (go_at_call 22; refine (HDG.out _).mono ?_; rintro e w' ⟨rfl, rfl⟩)
      go_ret3
      exact InEnd.no HI.out (Below.refl _ _)
    · have g0I : ¬ (0 : Int) < s.size := by omega
      go_enter Try.func11, Try.ntmps11
      go_wp2_with (go_at_call 22; refine (HDG.out _).mono ?_; rintro e w' ⟨rfl, rfl⟩)
      go_ret3
      exact InEnd.no HI.out (Below.refl _ _)
  have g0 : 0 < s.size := by omega
  have g45 := g45 g0
  have g0I : (0 : Int) < s.size := by omega
  have hmI : 0 < s.size := by omega
  have e48 : s[0] ≠ 48 := by
    intro e
    have hx : 0 < s.data.toList.length := hmI
    rw [List.drop_eq_getElem_cons hx] at h48
    exact h48 (congrArg some e)
  have g48 : ((s[0].toNat : Int) == 48) = false := byteI_ne (d := 48) e48
  have nI0 : (n : Int) > 0 := by omega
  have nI1 : ((n : Int) == 0) = false := beq_eq_false_iff_ne.2 (by omega)
  clear h48 e48
  by_cases hn16 : 16 < n
  · have nI : (n : Int) > 16 := by omega
    have HI := Lib.hid (show nrQ s.data.toList = none by rw [hint]; unfold intD; rw [if_pos (.inr hn16)])
    clear hint htd hsz hm hrl hn
    go_enter Try.func11, Try.ntmps11
    go_wp2_with (go_at_call 22; refine (HDG.out _).mono ?_; rintro e w' ⟨rfl, rfl⟩)
    go_ret3
    exact InEnd.no HI.out (Below.refl _ _)
  have nI : ¬ (n : Int) > 16 := by omega
  obtain ⟨cc, w1, hr1, rd, hb1⟩ := conv_str14 W (s.extract 0 (n))
  have hps := part14_size s 0 n (by omega)
  have hpl := part14 s 0 n (by omega)
  rw [Nat.zero_add] at hps hpl
  rw [hpl, hps] at rd
  rw [hps] at hr1
  have HD := Lib.hid (by have := run_dig (s.data.toList.drop 0); rw [hn] at this; exact this)
  have hdl : ((s.data.toList.drop 0).take n).length = n := by rw [List.length_take, List.length_drop]; show min n (s.size - 0) = n; omega
  have HV := Lib.hid (valD_pow _ HD.out)
  have hint : nrQ s.data.toList = if 9007199254740991 < valD ((s.data.toList.drop 0).take n) 0 then none else some (((valD ((s.data.toList.drop 0).take n) 0 : Nat) : Int), 0 + n) := by
    rw [hint]
    unfold intD
    rw [if_neg (by omega)]
    rw [if_neg (show ¬ (0 : Nat) = 1 by decide)]
  generalize (s.data.toList.drop 0).take n = ds at *
  have HNO := Lib.hid (fun h : 9007199254740991 < valD ds 0 => hint.trans (if_pos h))
  have HYES := Lib.hid (fun h : ¬ 9007199254740991 < valD ds 0 => hint.trans (if_neg h))
  have HB1 := Lib.hid hb1
  have RD := Lib.hid rd
  have hvv : valD ds 0 < 10000000000000000 := by
    have := HV.out ds.length (Nat.le_refl _)
    rw [List.take_length] at this
    have h16 : (10 : Nat) ^ ds.length ≤ 10 ^ 16 := Nat.pow_le_pow_right (by decide) (by omega)
    omega
  have HVV := Lib.hid hvv
  clear hint hps hpl rd hb1 htd hsz hm hvv
  have k1 : (0 : Int) + n ≤ s.size := by omega
  go_enter Try.func11, Try.ntmps11
  go_wp2_with (go_at_call 22; refine (HDG.out _).mono ?_; rintro e w' ⟨rfl, rfl⟩)
  go_loopw [7, 46] (fun vv vi wr => RelIn ds w1 vv vi wr) (fun _ vi _ => ds.length - (intOf vi).toNat)
  case atStart => exact ⟨0, Nat.zero_le _, rfl, rfl, rfl⟩
  case round =>
    obtain ⟨k, hk, rfl, rfl, rfl⟩ := hrel
    by_cases hlt : k < ds.length
    · have hltI : (k : Int) < n := by omega
      have c0 := rd_byte RD.out hlt
      have hp := HV.out k hk
      have hst := valD_take ds k hlt
      have hcd := HD.out ds[k] (List.getElem_mem hlt)
      unfold digB at hcd
      have hcd := of_decide_eq_true hcd
      have hb16 : (10 : Nat) ^ k ≤ 10 ^ 15 := Nat.pow_le_pow_right (by decide) (by omega)
      have hvb : valD (ds.take k) 0 < 1000000000000000 := by omega
      generalize ds[k] = ck at *
      have HST := Lib.hid hst
      clear hst hp hb16
      generalize valD (ds.take k) 0 = v at *
      have u0 : (0 : Int) ≤ v ∧ (v : Int) < 1000000000000000 := by omega
      have u1 : (48 : Int) ≤ ck.toNat ∧ (ck.toNat : Int) ≤ 57 := by omega
      go_wp2
      go_roundw
      case rel => exact ⟨k + 1, hlt, by go_num, by rw [HST.out]; exact congrArg (Value.int .i64) (by omega), rfl⟩
      case measure => simp [intOf]; omega
    · have hltI : ¬ (k : Int) < n := by omega
      obtain rfl : k = ds.length := by omega
      rw [List.take_length] at *
      have hvv := HVV.out
      by_cases hbig : 9007199254740991 < valD ds 0
      · have HN := Lib.hid (HNO.out hbig)
        generalize valD ds 0 = v at *
        have vI : (v : Int) > 9007199254740991 := by omega
        go_wp2
        go_ret3
        exact InEnd.no HN.out HB1.out
      · have HN := Lib.hid (HYES.out hbig)
        generalize valD ds 0 = v at *
        have vI : ¬ (v : Int) > 9007199254740991 := by omega
        have v0 : (0 : Int) ≤ v := by omega
        go_wp2
        go_ret3
        exact InEnd.yes HN.out (by omega) (by omega) HB1.out

set_option maxHeartbeats 1000000 in
set_option maxRecDepth 100000 in
theorem rint_dig1 (s : ByteArray) (W : World) (hs : s.size ≤ 1000000) (hm : minB s.data.toList = 1) (h48 : (s.data.toList.drop 1).head? ≠ some 48) :
    Calls Try.prog 11 #[.string s] W (InEnd s.data.toList W) := by
  have hhead : s.data.toList.head? = some 45 := by
    unfold minB at hm
    split at hm
    · assumption
    · cases hm
  have g0 : 0 < s.size := by
    by_cases h : 0 < s.size
    · exact h
    · rw [head_none s h] at hhead; cases hhead
  have e0 : s[0] = 45 := by rw [head_zero s g0] at hhead; exact Option.some.inj hhead
  have g0I : (0 : Int) < s.size := by omega
  have g45 : ((s[0].toNat : Int) == 45) = true := by rw [e0]; rfl
  have m1I : (1 : Int) ≤ s.size := by omega
  clear hhead e0
  have hint := nrQ_on hm
  have hlm : 1 ≤ s.size := by omega
  have htd := tail13 s 1 hlm
  have hsz := tail_size s 1 hlm
  have HDG := Lib.hid (fun w => digits_any (s.extract 1 s.size) w (by omega))
  rw [htd] at HDG
  have hrl := runD_le (s.data.toList.drop 1)
  rw [List.length_drop] at hrl
  have hrl : runD (s.data.toList.drop 1) ≤ s.size - 1 := hrl
  rw [if_neg h48] at hint
  obtain ⟨n, hn⟩ : ∃ n, runD (s.data.toList.drop 1) = n := ⟨_, rfl⟩
  rw [hn] at HDG hrl hint
  have mI : (1 : Int) ≤ s.size := by omega
  by_cases hn0 : n = 0
  · subst hn0
    have HI := Lib.hid (show nrQ s.data.toList = none by rw [hint]; unfold intD; rw [if_pos (.inl rfl)])
    clear hint h48 htd hsz hm hrl hn
    go_enter Try.func11, Try.ntmps11
    go_wp2_with (go_at_call 22; refine (HDG.out _).mono ?_; rintro e w' ⟨rfl, rfl⟩)
    go_ret3
    exact InEnd.no HI.out (Below.refl _ _)
  have hmI : 1 < s.size := by omega
  have e48 : s[1] ≠ 48 := by
    intro e
    have hx : 1 < s.data.toList.length := hmI
    rw [List.drop_eq_getElem_cons hx] at h48
    exact h48 (congrArg some e)
  have g48 : ((s[1].toNat : Int) == 48) = false := byteI_ne (d := 48) e48
  have nI0 : (n : Int) > 0 := by omega
  have nI1 : ((n : Int) == 0) = false := beq_eq_false_iff_ne.2 (by omega)
  clear h48 e48
  by_cases hn16 : 16 < n
  · have nI : (n : Int) > 16 := by omega
    have HI := Lib.hid (show nrQ s.data.toList = none by rw [hint]; unfold intD; rw [if_pos (.inr hn16)])
    clear hint htd hsz hm hrl hn
    go_enter Try.func11, Try.ntmps11
    go_wp2_with (go_at_call 22; refine (HDG.out _).mono ?_; rintro e w' ⟨rfl, rfl⟩)
    go_ret3
    exact InEnd.no HI.out (Below.refl _ _)
  have nI : ¬ (n : Int) > 16 := by omega
  obtain ⟨cc, w1, hr1, rd, hb1⟩ := conv_str14 W (s.extract 1 (1 + n))
  have hps := part14_size s 1 n (by omega)
  have hpl := part14 s 1 n (by omega)
  skip
  rw [hpl, hps] at rd
  rw [hps] at hr1
  have HD := Lib.hid (by have := run_dig (s.data.toList.drop 1); rw [hn] at this; exact this)
  have hdl : ((s.data.toList.drop 1).take n).length = n := by rw [List.length_take, List.length_drop]; show min n (s.size - 1) = n; omega
  have HV := Lib.hid (valD_pow _ HD.out)
  have hint : nrQ s.data.toList = if 9007199254740991 < valD ((s.data.toList.drop 1).take n) 0 then none else some (-((valD ((s.data.toList.drop 1).take n) 0 : Nat) : Int), 1 + n) := by
    rw [hint]
    unfold intD
    rw [if_neg (by omega)]
    rw [if_pos (show (1 : Nat) = 1 from rfl)]
  generalize (s.data.toList.drop 1).take n = ds at *
  have HNO := Lib.hid (fun h : 9007199254740991 < valD ds 0 => hint.trans (if_pos h))
  have HYES := Lib.hid (fun h : ¬ 9007199254740991 < valD ds 0 => hint.trans (if_neg h))
  have HB1 := Lib.hid hb1
  have RD := Lib.hid rd
  have hvv : valD ds 0 < 10000000000000000 := by
    have := HV.out ds.length (Nat.le_refl _)
    rw [List.take_length] at this
    have h16 : (10 : Nat) ^ ds.length ≤ 10 ^ 16 := Nat.pow_le_pow_right (by decide) (by omega)
    omega
  have HVV := Lib.hid hvv
  clear hint hps hpl rd hb1 htd hsz hm hvv
  have k1 : (1 : Int) + n ≤ s.size := by omega
  go_enter Try.func11, Try.ntmps11
  go_wp2_with (go_at_call 22; refine (HDG.out _).mono ?_; rintro e w' ⟨rfl, rfl⟩)
  go_loopw [7, 46] (fun vv vi wr => RelIn ds w1 vv vi wr) (fun _ vi _ => ds.length - (intOf vi).toNat)
  case atStart => exact ⟨0, Nat.zero_le _, rfl, rfl, rfl⟩
  case round =>
    obtain ⟨k, hk, rfl, rfl, rfl⟩ := hrel
    by_cases hlt : k < ds.length
    · have hltI : (k : Int) < n := by omega
      have c0 := rd_byte RD.out hlt
      have hp := HV.out k hk
      have hst := valD_take ds k hlt
      have hcd := HD.out ds[k] (List.getElem_mem hlt)
      unfold digB at hcd
      have hcd := of_decide_eq_true hcd
      have hb16 : (10 : Nat) ^ k ≤ 10 ^ 15 := Nat.pow_le_pow_right (by decide) (by omega)
      have hvb : valD (ds.take k) 0 < 1000000000000000 := by omega
      generalize ds[k] = ck at *
      have HST := Lib.hid hst
      clear hst hp hb16
      generalize valD (ds.take k) 0 = v at *
      have u0 : (0 : Int) ≤ v ∧ (v : Int) < 1000000000000000 := by omega
      have u1 : (48 : Int) ≤ ck.toNat ∧ (ck.toNat : Int) ≤ 57 := by omega
      go_wp2
      go_roundw
      case rel => exact ⟨k + 1, hlt, by go_num, by rw [HST.out]; exact congrArg (Value.int .i64) (by omega), rfl⟩
      case measure => simp [intOf]; omega
    · have hltI : ¬ (k : Int) < n := by omega
      obtain rfl : k = ds.length := by omega
      rw [List.take_length] at *
      have hvv := HVV.out
      by_cases hbig : 9007199254740991 < valD ds 0
      · have HN := Lib.hid (HNO.out hbig)
        generalize valD ds 0 = v at *
        have vI : (v : Int) > 9007199254740991 := by omega
        go_wp2
        go_ret3
        exact InEnd.no HN.out HB1.out
      · have HN := Lib.hid (HYES.out hbig)
        generalize valD ds 0 = v at *
        have vI : ¬ (v : Int) > 9007199254740991 := by omega
        have v0 : (0 : Int) ≤ v := by omega
        go_wp2
        go_ret3
        exact InEnd.yes HN.out (by omega) (by omega) HB1.out

set_option maxHeartbeats 1000000 in
set_option maxRecDepth 100000 in
theorem rint_minus0 (s : ByteArray) (W : World) (hs : s.size ≤ 1000000) (hm : minB s.data.toList = 1) (h48 : (s.data.toList.drop 1).head? = some 48) :
    Calls Try.prog 11 #[.string s] W (InEnd s.data.toList W) := by
  have hhead : s.data.toList.head? = some 45 := by
    unfold minB at hm
    split at hm
    · assumption
    · cases hm
  have g0 : 0 < s.size := by
    by_cases h : 0 < s.size
    · exact h
    · rw [head_none s h] at hhead; cases hhead
  have e0 : s[0] = 45 := by rw [head_zero s g0] at hhead; exact Option.some.inj hhead
  have g0I : (0 : Int) < s.size := by omega
  have g45 : ((s[0].toNat : Int) == 45) = true := by rw [e0]; rfl
  have m1I : (1 : Int) ≤ s.size := by omega
  clear hhead e0
  have hint := nrQ_on hm
  have hlm : 1 ≤ s.size := by omega
  have htd := tail13 s 1 hlm
  have hsz := tail_size s 1 hlm
  have HDG := Lib.hid (fun w => digits_any (s.extract 1 s.size) w (by omega))
  rw [htd] at HDG
  have hrl := runD_le (s.data.toList.drop 1)
  rw [List.length_drop] at hrl
  have hrl : runD (s.data.toList.drop 1) ≤ s.size - 1 := hrl
  rw [if_pos h48, if_pos rfl] at hint
  have hpos := digs_some h48
  have hmI : 1 < s.size := by
    rw [show s.data.toList.length = s.size from rfl] at *
    omega
  have e48 : s[1] = 48 := by
    have hx : 1 < s.data.toList.length := hmI
    rw [List.drop_eq_getElem_cons hx] at h48
    exact Option.some.inj h48
  have g48 : ((s[1].toNat : Int) == 48) = true := by rw [e48]; rfl
  have HI := Lib.hid hint
  generalize hr : runD (s.data.toList.drop 1) = q at *
  have qI : (q : Int) > 0 := by omega
  clear hint h48 htd hsz hm hrl hr e48
  go_enter Try.func11, Try.ntmps11
  go_wp2_with (go_at_call 22; refine (HDG.out _).mono ?_; rintro e w' ⟨rfl, rfl⟩)
  go_ret3
  exact InEnd.no HI.out (Below.refl _ _)

theorem rint14_any (s : ByteArray) (W : World) (hs : s.size ≤ 1000000) : Calls Try.prog 11 #[.string s] W (InEnd s.data.toList W) := by
  have hm := minB_le s.data.toList
  by_cases h0 : minB s.data.toList = 0
  · by_cases h48 : (s.data.toList.drop 0).head? = some 48
    · exact rint_zero s W hs h0 h48
    · exact rint_dig0 s W hs h0 h48
  · have h1 : minB s.data.toList = 1 := by omega
    by_cases h48 : (s.data.toList.drop 1).head? = some 48
    · exact rint_minus0 s W hs h1 h48
    · exact rint_dig1 s W hs h1 h48

end Go.Proofs.Ytclcjngdpicjjaa

namespace Go.Proofs.Ytclcjngdpicjjaa
open Go.RowKit
set_option linter.unusedVariables false

theorem hexB_is (c : UInt8) : hexB c = if isHexI c.toNat = true then some (hexI c.toNat) else none := by
  unfold hexB isHexI hexI
  by_cases h1 : 48 ≤ c.toNat ∧ c.toNat ≤ 57
  · have h1' : 48 ≤ (c.toNat : Int) ∧ (c.toNat : Int) ≤ 57 := by omega
    simp [h1, h1']
  · have h1' : ¬ (48 ≤ (c.toNat : Int) ∧ (c.toNat : Int) ≤ 57) := by omega
    rw [if_neg h1, if_neg h1']
    by_cases h2 : 97 ≤ c.toNat ∧ c.toNat ≤ 102
    · have h2' : 97 ≤ (c.toNat : Int) ∧ (c.toNat : Int) ≤ 102 := by omega
      simp [h1', h2, h2']
    · have h2' : ¬ (97 ≤ (c.toNat : Int) ∧ (c.toNat : Int) ≤ 102) := by omega
      rw [if_neg h2, if_neg h2']
      by_cases h3 : 65 ≤ c.toNat ∧ c.toNat ≤ 70
      · have h3' : 65 ≤ (c.toNat : Int) ∧ (c.toNat : Int) ≤ 70 := by omega
        simp [h1', h2', h3, h3']
      · have h3' : ¬ (65 ≤ (c.toNat : Int) ∧ (c.toNat : Int) ≤ 70) := by omega
        rw [if_neg h3]
        rw [decide_eq_false h1', decide_eq_false h2', decide_eq_false h3']
        rfl
theorem rhex_of (c : UInt8) (d : Int) (h : hexB c = some d) (w : World) :
    Calls Try.prog 70 #[.int .u8 c.toNat] w fun e w' => e = .returned (.tuple #[.int .i64 d, .bool true]) ∧ w = w' := by
  have hc := UInt8.toNat_lt c
  have := rhex_any c.toNat w (by omega) (by omega)
  rw [hexB_is] at h
  split at h
  · rename_i h1
    rw [h1, Option.some.inj h] at this
    exact this
  · cases h
theorem rhex_not (c : UInt8) (h : hexB c = none) (w : World) :
    Calls Try.prog 70 #[.int .u8 c.toNat] w fun e w' => e = .returned (.tuple #[.int .i64 (hexI c.toNat), .bool false]) ∧ w = w' := by
  have hc := UInt8.toNat_lt c
  have := rhex_any c.toNat w (by omega) (by omega)
  rw [hexB_is] at h
  split at h
  · cases h
  · rename_i h1
    rw [show isHexI c.toNat = false by simpa using h1] at this
    exact this
theorem hexG4_short : ∀ (k : Nat) (l : List UInt8) (v : Int), l.length < k → hexG4 k l v = none
  | 0, l, v, h => by omega
  | k + 1, [], v, h => rfl
  | k + 1, c :: t, v, h => by
    unfold hexG4
    cases hexB c with
    | none => rfl
    | some d => exact hexG4_short k t _ (by simp at h; omega)
theorem hexG4_in : ∀ (k : Nat) (l : List UInt8) (v x b : Int), 0 ≤ v → v < b → hexG4 k l v = some x → 0 ≤ x ∧ x < b * 16 ^ k
  | 0, l, v, x, b, h0, h1, h => by
    obtain rfl := Option.some.inj h
    simp
    exact ⟨h0, h1⟩
  | k + 1, [], v, x, b, h0, h1, h => by cases h
  | k + 1, c :: t, v, x, b, h0, h1, h => by
    unfold hexG4 at h
    cases hc : hexB c with
    | none => rw [hc] at h; cases h
    | some d =>
      rw [hc] at h
      obtain ⟨d0, d9⟩ := hexB_in hc
      have := hexG4_in k t (v * 16 + d) x (b * 16) (by omega) (by omega) h
      rw [Int.pow_succ, Int.mul_comm (16 ^ k) 16, ← Int.mul_assoc]
      exact this
theorem hex4_in {l : List UInt8} {x : Int} (h : hex4 l = some x) : 0 ≤ x ∧ x < 65536 := by
  have := hexG4_in 4 l 0 x 1 (by omega) (by omega) h
  have e : (1 : Int) * 16 ^ 4 = 65536 := by decide
  rw [e] at this
  exact this
/-- Where hex's loop is. -/
def RelHx (s : ByteArray) (W : World) (vv vi : Value) (wr : World) : Prop :=
  ∃ (k : Nat) (v : Int), k ≤ 4 ∧ vi = .int .i64 k ∧ vv = .int .i64 v ∧ 0 ≤ v ∧ v < 65536 ∧ (k ≤ 3 → v < 4096) ∧ (k ≤ 2 → v < 256) ∧ (k ≤ 1 → v < 16) ∧ (k = 0 → v < 1) ∧ hexG4 (4 - k) (s.data.toList.drop k) v = hex4 s.data.toList ∧ W = wr

set_option maxHeartbeats 1000000 in
set_option maxRecDepth 100000 in
theorem rhex14_any (s : ByteArray) (W : World) (hs : s.size ≤ 1000000) :
    Calls Try.prog 61 #[.string s] W fun e w' => e = .returned (.int .i64 ((hex4 s.data.toList).getD (-1))) ∧ W = w' := by
  by_cases h4 : s.size < 4
  · have h4I : (s.size : Int) < 4 := by omega
    rw [show hex4 s.data.toList = none from hexG4_short 4 _ 0 h4]
    go_enter Try.func61, Try.ntmps61
    go_wp2
    go_ret
    exact ⟨rfl, rfl⟩
  have h4I : ¬ (s.size : Int) < 4 := by omega
  go_enter Try.func61, Try.ntmps61
  go_wp2
  go_loopw [3, 4] (fun vv vi wr => RelHx s W vv vi wr) (fun _ vi _ => 4 - (intOf vi).toNat)
  case atStart => exact ⟨0, 0, by omega, rfl, rfl, by omega, by omega, by omega, by omega, by omega, by omega, rfl, rfl⟩
  case round =>
    obtain ⟨k, v, hk, rfl, rfl, v0, v9, b3, b2, b1, b0, hr, rfl⟩ := hrel
    by_cases hlt : k < 4
    · have hltI : (k : Int) < 4 := by omega
      have hks : k < s.size := by omega
      have hx : k < s.data.toList.length := hks
      obtain ⟨j, hj⟩ : ∃ j, 4 - k = j + 1 := ⟨3 - k, by omega⟩
      rw [hj, List.drop_eq_getElem_cons hx] at hr
      have hr : (match hexB s[k] with | some d => hexG4 j (s.data.toList.drop (k + 1)) (v * 16 + d) | none => none) = hex4 s.data.toList := hr
      cases hd : hexB s[k] with
      | none =>
        have HD := Lib.hid (fun w => rhex_not s[k] hd w)
        rw [hd] at hr
        have HR := Lib.hid hr
        clear hr hd
        go_wp2_with (go_at_call 70; refine (HD.out _).mono ?_; rintro e w' ⟨rfl, rfl⟩)
        go_ret
        exact ⟨ret_i (by rw [← HR.out]; rfl), rfl⟩
      | some d =>
        have HD := Lib.hid (fun w => rhex_of s[k] d hd w)
        rw [hd] at hr
        obtain ⟨d0, d9⟩ := hexB_in hd
        have HR := Lib.hid (show hexG4 j (s.data.toList.drop (k + 1)) (v * 16 + d) = hex4 s.data.toList from hr)
        have hv : v < 4096 := b3 (by omega)
        have HB := Lib.hid (show (k + 1 ≤ 3 → v < 256) ∧ (k + 1 ≤ 2 → v < 16) ∧ (k + 1 ≤ 1 → v < 1) from ⟨fun h => b2 (by omega), fun h => b1 (by omega), fun h => b0 (by omega)⟩)
        clear hr hd b3 b2 b1 b0
        go_wp2_with (go_at_call 70; refine (HD.out _).mono ?_; rintro e w' ⟨rfl, rfl⟩)
        go_roundw
        case rel =>
          obtain ⟨c3, c2, c1⟩ := HB.out
          have ej : 4 - (k + 1) = j := by omega
          exact ⟨k + 1, v * 16 + d, by omega, by go_num, rfl, by omega, by omega, (fun h => by have := c3 h; omega), (fun h => by have := c2 h; omega), (fun h => by have := c1 h; omega), (fun h => by omega), by rw [ej]; exact HR.out, rfl⟩
        case measure => simp [intOf]; omega
    · have hltI : ¬ (k : Int) < 4 := by omega
      obtain rfl : k = 4 := by omega
      have HR := Lib.hid (show some v = hex4 s.data.toList from hr)
      clear hr
      go_wp2
      go_ret
      exact ⟨ret_i (by rw [← HR.out]; rfl), rfl⟩

def fromE (m : UInt8) : List UInt8 := [m, 92, 47, 98, 102, 110, 114, 116]
def toE (m : UInt8) : List UInt8 := [m, 92, 47, 8, 12, 10, 13, 9]
theorem fromE_len (m : UInt8) : (fromE m).length = 8 := rfl
theorem toE_len (m : UInt8) : (toE m).length = 8 := rfl
theorem escQ_cons (m c : UInt8) (t : List UInt8) : escQ m (c :: t) = if c = m then some ([m], 1) else if letE c ≠ 0 then some ([letE c], 1) else if c ≠ 117 then none else escU (c :: t) t := rfl
set_option maxRecDepth 100000 in
theorem escQ_hit (m c : UInt8) (t : List UInt8) (k : Nat) (hk : k < 8) (hno : ∀ j, (hj : j < k) → (fromE m)[j]'(by rw [fromE_len]; omega) ≠ c) (hit : (fromE m)[k]'(by rw [fromE_len]; omega) = c) : escQ m (c :: t) = some ([(toE m)[k]'(by rw [toE_len]; omega)], 1) := by
  rw [escQ_cons]
  have h := hno
  match k, hk with
  | 0, _ => obtain rfl : m = c := hit; rw [if_pos rfl]; rfl
  | 1, _ => have h0 : m ≠ c := hno 0 (by omega); obtain rfl : 92 = c := hit; rw [if_neg (fun e => h0 e.symm), if_pos (by decide)]; rfl
  | 2, _ => have h0 : m ≠ c := hno 0 (by omega); obtain rfl : 47 = c := hit; rw [if_neg (fun e => h0 e.symm), if_pos (by decide)]; rfl
  | 3, _ => have h0 : m ≠ c := hno 0 (by omega); obtain rfl : 98 = c := hit; rw [if_neg (fun e => h0 e.symm), if_pos (by decide)]; rfl
  | 4, _ => have h0 : m ≠ c := hno 0 (by omega); obtain rfl : 102 = c := hit; rw [if_neg (fun e => h0 e.symm), if_pos (by decide)]; rfl
  | 5, _ => have h0 : m ≠ c := hno 0 (by omega); obtain rfl : 110 = c := hit; rw [if_neg (fun e => h0 e.symm), if_pos (by decide)]; rfl
  | 6, _ => have h0 : m ≠ c := hno 0 (by omega); obtain rfl : 114 = c := hit; rw [if_neg (fun e => h0 e.symm), if_pos (by decide)]; rfl
  | 7, _ => have h0 : m ≠ c := hno 0 (by omega); obtain rfl : 116 = c := hit; rw [if_neg (fun e => h0 e.symm), if_pos (by decide)]; rfl
theorem escQ_miss (m c : UInt8) (t : List UInt8) (hno : ∀ j, (hj : j < 8) → (fromE m)[j]'(by rw [fromE_len]; omega) ≠ c) : escQ m (c :: t) = if c ≠ 117 then none else escU (c :: t) t := by
  rw [escQ_cons, if_neg (fun e => hno 0 (by omega) e.symm)]
  have h1 : c ≠ 92 := fun e => hno 1 (by omega) e.symm
  have h2 : c ≠ 47 := fun e => hno 2 (by omega) e.symm
  have h3 : c ≠ 98 := fun e => hno 3 (by omega) e.symm
  have h4 : c ≠ 102 := fun e => hno 4 (by omega) e.symm
  have h5 : c ≠ 110 := fun e => hno 5 (by omega) e.symm
  have h6 : c ≠ 114 := fun e => hno 6 (by omega) e.symm
  have h7 : c ≠ 116 := fun e => hno 7 (by omega) e.symm
  have : letE c = 0 := by
    unfold letE
    rw [if_neg h1, if_neg h2, if_neg h3, if_neg h4, if_neg h5, if_neg h6, if_neg h7]
  rw [this, if_neg (by decide)]

end Go.Proofs.Ytclcjngdpicjjaa
