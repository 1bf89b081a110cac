/- strings.IndexRune in the signs that have an escape of one letter: every sign. -/
import Derived.Test.YtclcjngdpicjjaaBld
import Derived.Laws.Runes
namespace Go.Proofs.Ytclcjngdpicjjaa
open Go.RowKit
set_option linter.unusedVariables false

theorem ib_none (l : List UInt8) (c : UInt8) (h : ∀ b ∈ l, b.toNat < 128) (hc : 128 ≤ c.toNat) : Lib.indexByte l c = -1 := by
  induction l with
  | nil => rfl
  | cons b t ih =>
    have hb := h b (by simp)
    have hne : (b == c) = false := by
      rw [beq_eq_false_iff_ne]
      intro e
      subst e
      omega
    rw [Lib.indexByte, hne, ih (fun x hx => h x (by simp [hx]))]
    rfl
theorem ibyte_none (s : ByteArray) (hs : ∀ b ∈ s.data.toList, b.toNat < 128) (c : UInt8) (hc : 128 ≤ c.toNat) (w : World) :
    Calls Try.prog 74 #[.string s, .int .u8 c.toNat] w fun e w' => e = .returned (.int .i64 (-1)) ∧ w' = w := by
  have h := Try.strings_IndexByte s c.toNat w
  have e : (c.toNat : Int).toNat.toUInt8 = c := by simp
  rw [e, ib_none _ _ hs hc] at h
  exact h

theorem valid_sgn {v : Int} (h : Sgn v) : Utf8.valid v = true := by
  rw [validRune_eq]
  unfold validRune
  simp
  obtain ⟨a, b, c⟩ := h
  omega
theorem lvalid_sgn {v : Int} (h : Sgn v) : Lib.validRune v = true := by
  unfold Lib.validRune
  obtain ⟨a, b, c⟩ := h
  simp
  omega

theorem esc_ascii : ∀ k : Nat, k < 7 → ∃ h : k < (ByteArray.mk #[34, 92, 8, 12, 10, 13, 9]).size, ((ByteArray.mk #[34, 92, 8, 12, 10, 13, 9])[k]'h).toNat < 128 := by decide

end Go.Proofs.Ytclcjngdpicjjaa

namespace Go.Proofs.Ytclcjngdpicjjaa
open Go.RowKit

/-- What Read does. -/
def ReadC (T : World → Prop) : Prop := ∀ (s : ByteArray) (w : World), s.size ≤ 30000 → T w →
  Calls Try.prog 54 #[.string s] w fun e w' => e = .returned (.tuple #[.string ⟨(readR .plain s.data.toList [] 0).1.toArray⟩, .int .i64 (readR .plain s.data.toList [] 0).2.1, .int .i64 (readR .plain s.data.toList [] 0).2.2]) ∧ Below w.heap.size w w'
/-- It lasts. -/
def Lasts (T : World → Prop) : Prop := ∀ w w', T w → Below w.heap.size w w' → T w'

theorem read_at {T : World → Prop} (hR : ReadC T) (l t : List UInt8) (n : Nat) (k : Int) (h : readR .plain l [] 0 = (t, n, k)) (hl : l.length ≤ 30000) (w : World) (hT : T w) :
    Calls Try.prog 54 #[.string ⟨l.toArray⟩] w fun e w' => e = .returned (.tuple #[.string ⟨t.toArray⟩, .int .i64 n, .int .i64 k]) ∧ Below w.heap.size w w' := by
  have := hR ⟨l.toArray⟩ w hl hT
  rw [show (ByteArray.mk l.toArray).data.toList = l from rfl, h] at this
  exact this

end Go.Proofs.Ytclcjngdpicjjaa
