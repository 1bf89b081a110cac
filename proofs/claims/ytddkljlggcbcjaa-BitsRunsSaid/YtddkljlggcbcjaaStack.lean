/- What package bits is to be proved to do, as one bundle; the document's Words and Same (riffleref08). -/
import Derived.Test.YtddkljlggcbcjaaFoot
import Derived.Outline
import Derived.Deep.DeepMust
import Derived.BigQuiet
import Derived.Deep.QuietTactic
namespace Go.Proofs.Ytddkljlggcbcjaa
open Go.RowKit

/-- The cells of an empty stack. -/
def zeroS : Array Value := #[.slice none 0 0, .int .i64 0]

def bools (l : List Bool) : List Value := l.map Value.bool

/-- What the stack's methods do: St w b F l: the stack in block b, whose memory lies in the blocks of F, holds l. -/
structure StackC (St : World → Nat → (Nat → Prop) → List Bool → Prop) : Prop where
  zero : ∀ w : World, St (w.alloc (.cells zeroS 26)) w.heap.size (fun k => k = w.heap.size) []
  inside : ∀ (w : World) (b : Nat) (F : Nat → Prop) (l : List Bool), St w b F l → ∀ k, F k → k < w.heap.size
  move : ∀ (w w' : World) (b : Nat) (F G : Nat → Prop) (l : List Bool), St w b F l → Touch G w w' → (∀ k, F k → ¬ G k) → St w' b F l
  push : ∀ (b : Nat) (F : Nat → Prop) (l : List Bool) (x : Bool) (w : World), St w b F l → l.length ≤ 5000 → Calls Try.prog 6 #[.pointer (some ⟨b, 0, none⟩), .bool x] w fun e w' =>
    e = .returned (.tuple #[]) ∧ ∃ F', St w' b F' (l ++ [x]) ∧ Touch F w w' ∧ ∀ k, k < w.heap.size → F' k → F k
  pop : ∀ (b : Nat) (F : Nat → Prop) (l : List Bool) (w : World), St w b F l → l.length ≤ 5000 → Calls Try.prog 7 #[.pointer (some ⟨b, 0, none⟩)] w fun e w' =>
    e = .returned (.tuple #[.bool (l.getLast?.getD false), .bool (decide (0 < l.length))]) ∧ ∃ F', St w' b F' l.dropLast ∧ Touch F w w' ∧ ∀ k, k < w.heap.size → F' k → F k
  top : ∀ (b : Nat) (F : Nat → Prop) (l : List Bool) (w : World), St w b F l → l.length ≤ 5000 → Calls Try.prog 8 #[.pointer (some ⟨b, 0, none⟩)] w fun e w' =>
    e = .returned (.tuple #[.bool (l.getLast?.getD false), .bool (decide (0 < l.length))]) ∧ ∃ F', St w' b F' l ∧ Touch F w w' ∧ ∀ k, k < w.heap.size → F' k → F k
  len : ∀ (b : Nat) (F : Nat → Prop) (l : List Bool) (w : World), St w b F l → l.length ≤ 5000 → Calls Try.prog 9 #[.pointer (some ⟨b, 0, none⟩)] w fun e w' =>
    e = .returned (.int .i64 l.length) ∧ ∃ F', St w' b F' l ∧ Touch F w w' ∧ ∀ k, k < w.heap.size → F' k → F k
  words : ∀ (b : Nat) (F : Nat → Prop) (l : List Bool) (w : World), St w b F l → l.length ≤ 5000 → Calls Try.prog 10 #[.pointer (some ⟨b, 0, none⟩)] w fun e w' =>
    e = .returned (.int .i64 (((l.length + 63) / 64 : Nat) : Int)) ∧ ∃ F', St w' b F' l ∧ Touch F w w' ∧ ∀ k, k < w.heap.size → F' k → F k
  all : ∀ (b : Nat) (F : Nat → Prop) (l : List Bool) (w : World), St w b F l → l.length ≤ 5000 → Calls Try.prog 13 #[.pointer (some ⟨b, 0, none⟩)] w fun e w' =>
    ∃ A c, e = .returned (.slice A l.length c) ∧ Rd w' w'.heap.size A l.length (bools l) ∧ ∃ F', St w' b F' l ∧ Touch F w w' ∧ ∀ k, k < w.heap.size → F' k → F k

theorem below1f (w : World) (a : Obj) : Below w.heap.size w (w.alloc a) := (Below.refl w.heap.size w).alloc (Nat.le_refl _) a

def RelWd (n : Nat) (v : Value) : Prop := ∃ k : Nat, v = .int .i64 k ∧ k ≤ (n + 63) / 64

set_option maxHeartbeats 1000000 in
theorem rwords_at (n : Nat) (w : World) (hn : n ≤ 100000) :
    Calls Try.prog 11 #[.int .i64 n] w fun e w' => e = .returned (.int .i64 (((n + 63) / 64 : Nat) : Int)) ∧ w = w' := by
  go_enter Try.func11, Try.ntmps11
  go_wp2
  go_loop [3] (fun v => RelWd n v) (fun v => n + 1 - (intOf v).toNat)
  case atStart => exact ⟨0, rfl, Nat.zero_le _⟩
  case round =>
    obtain ⟨k, rfl, hk⟩ := hrel
    have hk2 : k ≤ 2000 := by omega
    by_cases hlt : k * 64 < n
    · have hI : (k : Int) * 64 < n := by omega
      have h2 : k + 1 ≤ (n + 63) / 64 := by omega
      go_wp2
      go_round
      case rel => exact ⟨k + 1, by go_num, h2⟩
      case measure => simp [intOf]; omega
    · have hI : ¬ (k : Int) * 64 < n := by omega
      have he : k = (n + 63) / 64 := by omega
      have HE := Lib.hid he
      clear he
      go_wp2
      go_ret
      exact ⟨ret_i (by have := HE.out; omega), rfl⟩

def RelSm (n : Nat) (w0 wr : World) (i : Value) : Prop := ∃ k q : Nat, k ≤ n ∧ i = .int .i64 k ∧ wr = w0.drewN q

set_option maxHeartbeats 2000000 in
theorem rsame_at (A1 A2 : Option Addr) (n c1 c2 : Nat) (l : List Bool) (w : World) (h1 : Rd w w.heap.size A1 n (bools l)) (h2 : Rd w w.heap.size A2 n (bools l)) (hn : n ≤ 100000) :
    Calls Try.prog 12 #[.slice A1 n c1, .slice A2 n c2] w fun e w' => e = .returned (.bool true) ∧ ∃ q, w' = w.drewN q := by
  have hl : l.length = n := by have := h1.1; simpa [bools] using this
  have gn : ((n : Int) != n) = false := by simp
  have HLn := Lib.hid hl
  clear hl
  go_enter Try.func12, Try.ntmps12
  go_wp2
  go_loopw [13] (fun i wr => RelSm n w wr i) (fun i _ => n - (intOf i).toNat)
  case atStart => exact ⟨0, 0, Nat.zero_le _, rfl, rfl⟩
  case round =>
    obtain ⟨k, q, hk, rfl, rfl⟩ := hrel
    by_cases hlt : k < n
    · obtain ⟨a1, rfl, hb1, hc1⟩ := h1.2 (by omega)
      obtain ⟨a2, rfl, hb2, hc2⟩ := h2.2 (by omega)
      have hkl : k < l.length := by rw [HLn.out]; exact hlt
      have e : (bools l)[k]? = some (.bool l[k]) := by unfold bools; rw [List.getElem?_map, List.getElem?_eq_getElem hkl]; rfl
      have d1 := hc1 k _ e
      have d2 := hc2 k _ e
      have gb : (l[k] != l[k]) = false := by simp
      have hkI : (k : Int) < n := by omega
      clear e hc1 hc2
      generalize l[k] = x at *
      go_wp2
      go_quiet (fail)
      go_wp2
      go_roundw
      case rel => exact ⟨k + 1, q + nq, hlt, by go_num, by simp⟩
      case measure => simp [intOf]; omega
    · go_wp2
      go_ret
      exact ⟨rfl, q, rfl⟩

end Go.Proofs.Ytddkljlggcbcjaa
