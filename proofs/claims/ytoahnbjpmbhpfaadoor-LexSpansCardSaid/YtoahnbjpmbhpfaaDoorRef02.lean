/- The contracts of the document's answers for layer 2 (riffleref02). -/
import Derived.Test.YtoahnbjpmbhpfaaDoorUtf
import Derived.Outline
namespace Go.Proofs.YtoahnbjpmbhpfaaDoor
open Go.RowKit

/-- How many bytes a sign has that begins so. -/
def sizeR (c : Int) : Int := if c < 128 then 1 else if 192 ≤ c ∧ c < 224 then 2 else if 224 ≤ c ∧ c < 240 then 3 else if 240 ≤ c ∧ c < 248 then 4 else 0

/-- The number of as many bytes as its first one tells. -/
def baseR (n : Nat) : Int := if n = 2 then 192 else if n = 3 then 224 else if n = 4 then 240 else 0
def moreR (n : Int) (l : List UInt8) : Int := l.foldl (fun n c => n * 64 + c.toNat - 128) n
def numR (l : List UInt8) : Int := match l with
  | [] => 0
  | c :: t => moreR (c.toNat - baseR l.length) t


theorem byte_le (s : ByteArray) (k : Nat) (h : k < s.size) : 0 ≤ (s[k].toNat : Int) ∧ (s[k].toNat : Int) ≤ 255 := by
  have := UInt8.toNat_lt s[k]
  omega

theorem moreR_snoc (n : Int) (l : List UInt8) (k : Nat) (h : k < l.length) : moreR n (l.take (k + 1)) = moreR n (l.take k) * 64 + l[k].toNat - 128 := by
  rw [List.take_succ_eq_append_getElem h]
  unfold moreR
  rw [List.foldl_append]
  rfl

/-- The number behind k bytes. -/
def upR (s : ByteArray) (k : Nat) : Int := moreR ((s.data.toList.headD 0).toNat - baseR s.size) ((s.data.toList.take k).drop 1)
def bN (k : Nat) : Int := if k ≤ 1 then 256 else if k = 2 then 16640 else if k = 3 then 1081600 else 70304000
theorem bN_up (k : Nat) (h : 1 ≤ k) (h4 : k < 4) : bN k * 64 + 128 ≤ bN (k + 1) ∧ 0 ≤ bN k ∧ bN k ≤ 70304000 := by
  have : k = 1 ∨ k = 2 ∨ k = 3 := by omega
  rcases this with rfl | rfl | rfl <;> decide

theorem upR_one (s : ByteArray) (h : 0 < s.size) : upR s 1 = s[0].toNat - baseR s.size := by
  unfold upR
  have : (s.data.toList.take 1).drop 1 = [] := by
    apply List.drop_of_length_le
    simp
    omega
  rw [this]
  have h0 : s.data.toList.headD 0 = s[0] := by
    have : 0 < s.data.toList.length := h
    cases hl : s.data.toList with
    | nil => rw [hl] at this; simp at this
    | cons a t =>
      have : s.data.toList[0] = a := by simp [hl]
      exact this.symm
  rw [h0]; rfl

theorem upR_more (s : ByteArray) (k : Nat) (h1 : 1 ≤ k) (h : k < s.size) : upR s (k + 1) = upR s k * 64 + s[k].toNat - 128 := by
  unfold upR
  have hk : k < s.data.toList.length := h
  rw [List.take_succ_eq_append_getElem hk, List.drop_append_of_le_length (by simp; omega)]
  unfold moreR
  rw [List.foldl_append]
  rfl

theorem upR_all (s : ByteArray) (h : 0 < s.size) : upR s s.size = numR s.data.toList := by
  unfold upR
  have hl : 0 < s.data.toList.length := h
  have e : s.data.toList.take s.size = s.data.toList := List.take_of_length_le (Nat.le_refl _)
  have es : s.size = s.data.toList.length := rfl
  rw [e, es]
  cases hc : s.data.toList with
  | nil => rw [hc] at hl; simp at hl
  | cons a t => rfl

def RelNum (s : ByteArray) (n i : Value) : Prop :=
  ∃ k : Nat, 1 ≤ k ∧ k ≤ s.size ∧ i = .int .i64 k ∧ n = .int .i64 (upR s k) ∧ -bN k ≤ upR s k ∧ upR s k ≤ bN k

def contR (l : List UInt8) : Bool := l.all fun c => decide (128 ≤ c.toNat ∧ c.toNat ≤ 191)
def leastR (n : Nat) : Int := if n = 2 then 128 else if n = 3 then 2048 else if n = 4 then 65536 else 0
def padR (l : List UInt8) (n : Nat) (c : UInt8) : List UInt8 := l ++ List.replicate (n - l.length) c
/-- The answer behind the bytes' looks: from the lowest and the topmost number. -/
def endR (m n : Nat) (a b : Int) : Bool × Bool × Int :=
  if b < leastR n ∨ 1114111 < a ∨ (55296 ≤ a ∧ b ≤ 57343) then (false, false, 0) else if m = n then (true, true, a) else (true, false, 0)
def begR (l : List UInt8) : Bool × Bool × Int := match l with
  | [] => (true, false, 0)
  | c :: t =>
    if sizeR c.toNat = 0 ∨ sizeR c.toNat < (c :: t).length then (false, false, 0) else
    if contR t then endR (c :: t).length (sizeR c.toNat).toNat (numR (padR (c :: t) (sizeR c.toNat).toNat 128)) (numR (padR (c :: t) (sizeR c.toNat).toNat 191)) else (false, false, 0)

/-- The first k bytes but the first one go on within a sign. -/
def ContTo (s : ByteArray) (k : Nat) : Prop := contR ((s.data.toList.take k).drop 1) = true
theorem contTo_one (s : ByteArray) : ContTo s 1 := by
  unfold ContTo
  have : (s.data.toList.take 1).drop 1 = [] := by
    apply List.drop_of_length_le
    simp
    omega
  rw [this]; rfl
theorem cont_snoc (s : ByteArray) (k : Nat) (h1 : 1 ≤ k) (h : k < s.size) : contR ((s.data.toList.take (k + 1)).drop 1) = (contR ((s.data.toList.take k).drop 1) && decide (128 ≤ s[k].toNat ∧ s[k].toNat ≤ 191)) := by
  have hk : k < s.data.toList.length := h
  rw [List.take_succ_eq_append_getElem hk, List.drop_append_of_le_length (by simp; omega)]
  unfold contR
  rw [List.all_append]
  simp
  rfl
def RelCont (s : ByteArray) (i : Value) : Prop := ∃ k : Nat, 1 ≤ k ∧ k ≤ s.size ∧ i = .int .i64 k ∧ ContTo s k

theorem cont_no (l : List UInt8) : ∀ k, contR ((l.take k).drop 1) = false → contR (l.drop 1) = false := by
  intro k h
  have e : l.drop 1 = (l.take k).drop 1 ++ ((l.drop 1).drop (k - 1)) := by
    cases l with
    | nil => simp
    | cons a t =>
      cases k with
      | zero => simp [contR] at h
      | succ k => simp
  rw [e]
  unfold contR at h ⊢
  rw [List.all_append, h]; rfl

end Go.Proofs.YtoahnbjpmbhpfaaDoor
