/- Slices of bytes and of slices of bytes: conversions, parts, clones, chunks. -/
import Derived.Test.YtcphjojfbihapaaRow
import Derived.Test.YtcphjojfbihapaaShelf
import Derived.Lib.Join
namespace Go.Proofs.Ytcphjojfbihapaa
open Go.RowKit

theorem strOfNums_nil : strOfNums [] = ByteArray.empty := rfl

/-- Bytes that a slice holds, as a string, wherever it lies. -/
theorem conv_any {w : World} {B n c : Nat} {A : Option Addr} {xs : List Int} (h : Rd w B A n (xs.map (Value.int .u8))) :
    (convert 22 9 (.slice A n c)).run Try.prog w = .ok (.string (strOfNums xs)) w := by
  have hl : xs.length = n := by simpa using h.1
  cases A with
  | none =>
    have hn : n = 0 := by
      by_cases hn : 0 < n
      · obtain ⟨ad, e, _⟩ := h.2 hn
        cases e
      · omega
    subst hn
    obtain rfl : xs = [] := List.eq_nil_of_length_eq_zero hl
    exact run_convert_bytes_nil _ _ _ Try.underlying22 Try.underlying5 _ _ _ Try.underlying9
  | some ad =>
    have hc : ∀ j u, (xs.map (Value.int .u8))[j]? = some u → w.cell? (ad.add j) = some u := by
      intro j u hu
      have hm : 0 < n := by
        have := (List.getElem?_eq_some_iff.1 hu).1
        simp at this
        omega
      obtain ⟨ad', e, _, h'⟩ := h.2 hm
      injection e with e
      subst e
      exact h' j u hu
    have hload := run_loadCells_list (P := Try.prog) w ad (xs.map (Value.int .u8)) hc
    have hload' : (loadCells ad n).run Try.prog w = .ok (xs.map (Value.int .u8)).toArray w := by simpa [hl] using hload
    rw [run_convert_bytes_string w _ _ _ _ _ _ Try.underlying22 Try.underlying5 Try.underlying9, run_bytesToString w _ _ _ xs hload', foldl_push_bytes]
    simp [strOfNums, ByteArray.empty, ByteArray.emptyWithCapacity]
    rfl

theorem Rd.same {w w' : World} {B : Nat} {A : Option Addr} {n : Nat} {xs : List Value} (h : Rd w B A n xs) (hh : w'.heap = w.heap) : Rd w' B A n xs :=
  ⟨h.1, fun hn => by
    obtain ⟨ad, e, hlt, hc⟩ := h.2 hn
    exact ⟨ad, e, hlt, fun j u hu => by rw [World.cell?_of_block (w := w) (by rw [hh])]; exact hc j u hu⟩⟩

/-- s[lo:]. -/
theorem slice_low (t : TypeId) (ht : Try.prog.underlying t = some (.slice (Try.prog.elem t))) (hsz : ∀ w, (sizeOf (Try.prog.elem t)).run Try.prog w = .ok 1 w) (A : Option Addr) (n c lo : Nat) (hlo : lo ≤ n) (hc : n ≤ c) :
    ∃ A', (∀ w, (Instr.slice t (.slice A n c) (some (.int .i64 (lo : Int))) none none).run Try.prog w = .ok (.slice A' (n - lo) (c - lo)) w) ∧
      ∀ w B xs, Rd w B A n xs → Rd w B A' (n - lo) (xs.drop lo) := by
  refine ⟨if c = lo then A else A.map (·.add (lo * 1)), fun w => ?_, fun w B xs h => ⟨by simp [h.1], fun hn => ?_⟩⟩
  · rw [run_slice_l w t A n c ht .i64 lo (by omega) (by omega), hsz]
    simp [Result.andThen, sliced]
  · obtain ⟨ad, rfl, hlt, hcl⟩ := h.2 (by omega)
    rw [if_neg (by omega)]
    refine ⟨ad.add (lo * 1), rfl, by rw [add_block]; exact hlt, fun j u hu => ?_⟩
    have e : (ad.add (lo * 1)).add j = ad.add (lo + j) := by
      unfold Addr.add
      by_cases h0 : lo = 0
      · subst h0; simp
      · rw [if_neg (show ¬ lo * 1 = 0 by omega), if_neg (show ¬ lo + j = 0 by omega)]
        by_cases hj : j = 0
        · subst hj; simp
        · rw [if_neg hj]
          simp
          omega
    rw [e]
    rw [List.getElem?_drop] at hu
    exact hcl _ _ hu

/-- s[:hi]. -/
theorem slice_high (t : TypeId) (ht : Try.prog.underlying t = some (.slice (Try.prog.elem t))) (hsz : ∀ w, (sizeOf (Try.prog.elem t)).run Try.prog w = .ok 1 w) (A : Option Addr) (n c hi : Nat) (hh : hi ≤ n) (hc : n ≤ c) :
    (∀ w, (Instr.slice t (.slice A n c) none (some (.int .i64 (hi : Int))) none).run Try.prog w = .ok (.slice A hi c) w) ∧
      ∀ w B xs, Rd w B A n xs → Rd w B A hi (xs.take hi) := by
  refine ⟨fun w => ?_, fun w B xs h => ⟨by simp [h.1]; omega, fun hn => ?_⟩⟩
  · rw [run_slice_h w t A n c ht .i64 hi (by omega) (by omega), hsz]
    simp [Result.andThen, sliced, Addr.add]
  · obtain ⟨ad, rfl, hlt, hcl⟩ := h.2 (by omega)
    refine ⟨ad, rfl, hlt, fun j u hu => ?_⟩
    rw [List.getElem?_take] at hu
    split at hu
    · exact hcl _ _ hu
    · cases hu

theorem clone_any {w : World} {B n : Nat} {A : Option Addr} {xs : List Int} (h : Rd w B A n (xs.map (Value.int .u8))) (hn : n ≤ 140737488355328) (c : Nat) :
    Calls Try.prog 17 #[.slice A n c] w fun e w' => ∃ v', e = .returned v' ∧ w'.ownsRow w.heap.size 5 1 v' n (xs.map (Value.int .u8)) ∧ Below w.heap.size w w' := by
  have hl : xs.length = n := by simpa using h.1
  cases A with
  | none =>
    have h0 : n = 0 := by
      by_cases hn : 0 < n
      · obtain ⟨ad, e, _⟩ := h.2 hn
        cases e
      · omega
    subst h0
    obtain rfl : xs = [] := List.eq_nil_of_length_eq_zero hl
    refine (Try.bytes_Clone_nil _ _ w).mono fun e w' ⟨he, hw⟩ => ⟨_, he, ?_, hw ▸ Below.refl _ _⟩
    exact World.ownsRow_nil _ _ _ _
  | some ad =>
    refine (Try.bytes_Clone_at ad n c xs w hl hn fun i hi => ?_).mono fun e w' ⟨v, he, ho, _, hb⟩ => ⟨v, he, ho, hb⟩
    obtain ⟨ad', e, _, h'⟩ := h.2 (by omega)
    injection e with e
    subst e
    exact h' i _ (by simp [hl, hi])

/-- Each of these values is a slice of bytes of its own (of no other type's block). -/
def Chunks (w : World) (base : Nat) (vs : List Value) (xss : List (List Int)) : Prop :=
  vs.length = xss.length ∧ ∀ (i : Nat) u x, vs[i]? = some u → xss[i]? = some x → w.ownsRow base 5 1 u x.length (x.map (Value.int .u8))

theorem Chunks.nil (w : World) (base : Nat) : Chunks w base [] [] := ⟨rfl, fun i u x h => by simp at h⟩
theorem Chunks.snoc {w : World} {base : Nat} {vs : List Value} {xss : List (List Int)} (h : Chunks w base vs xss) {u : Value} {x : List Int} (hu : w.ownsRow base 5 1 u x.length (x.map (Value.int .u8))) : Chunks w base (vs ++ [u]) (xss ++ [x]) := by
  refine ⟨by simp [h.1], fun i v y hv hy => ?_⟩
  by_cases hi : i < vs.length
  · rw [List.getElem?_append_left hi] at hv
    rw [List.getElem?_append_left (by have := h.1; omega)] at hy
    exact h.2 i v y hv hy
  · rw [List.getElem?_append_right (by omega)] at hv
    rw [List.getElem?_append_right (by have := h.1; omega)] at hy
    have e1 : i - vs.length = 0 := by
      have := (List.getElem?_eq_some_iff.1 hv).1
      simp at this
      omega
    have e2 : i - xss.length = 0 := by have := h.1; omega
    rw [e1] at hv
    rw [e2] at hy
    simp at hv hy
    subst hv hy
    exact hu

theorem own_base {w : World} {base base' : Nat} {e : TypeId} {v : Value} {n : Nat} {xs : List Value} (h : w.ownsRow base' e 1 v n xs) (hb : base ≤ base') : w.ownsRow base e 1 v n xs := by
  refine ⟨h.1, ?_⟩
  rcases h.2 with hn | ⟨g, c, cur, hv, hg, rest⟩
  · exact .inl hn
  · exact .inr ⟨g, c, cur, hv, Nat.le_trans hb hg, rest⟩

/-- Two rows of different types lie in different blocks. -/
theorem own_apart {w : World} {b1 b2 : Nat} {e1 e2 : TypeId} {v u : Value} {n m : Nat} {xs ys : List Value} (h : w.ownsRow b1 e1 1 v n xs) (g : w.ownsRow b2 e2 1 u m ys) (hne : e1 ≠ e2) : v.ownBlock = none ∨ v.ownBlock ≠ u.ownBlock := by
  rcases h.2 with ⟨rfl, _⟩ | ⟨g1, c1, cur1, rfl, _, hg1, _⟩
  · exact .inl rfl
  · right
    rcases g.2 with ⟨rfl, _⟩ | ⟨g2, c2, cur2, rfl, _, hg2, _⟩
    · simp [Value.ownBlock]
    · intro e
      simp [Value.ownBlock] at e
      subst e
      rw [hg1] at hg2
      injection hg2 with hh
      injection hh with _ h2
      exact hne h2

theorem own_slice {w : World} {base : Nat} {e : TypeId} {v : Value} {n : Nat} {xs : List Value} (h : w.ownsRow base e 1 v n xs) : ∃ A c, v = .slice A n c ∧ n ≤ c ∧ c ≤ maxLen := by
  rcases h.2 with ⟨rfl, rfl⟩ | ⟨g, c, cur, rfl, _, _, hn, hm, _⟩
  · exact ⟨_, _, rfl, Nat.le_refl _, Nat.zero_le _⟩
  · exact ⟨_, _, rfl, hn, hm⟩

theorem own_live {w : World} {base : Nat} {e : TypeId} {v : Value} {n : Nat} {xs : List Value} (h : w.ownsRow base e 1 v n xs) : ∀ g, v.ownBlock = some g → base ≤ g ∧ g < w.heap.size := h.lt

theorem Chunks.grown {w w' : World} {base : Nat} {vs : List Value} {xss : List (List Int)} (h : Chunks w base vs xss) {b e : Nat} {v : Value} {n : Nat} {ys : List Value} (hv : w.ownsRow b e 1 v n ys) (he : e ≠ 5) (hg : w.grownBy w' v.ownBlock) : Chunks w' base vs xss :=
  ⟨h.1, fun i u x hu hx => (h.2 i u x hu hx).kept hg (own_apart (h.2 i u x hu hx) hv (fun e' => he e'.symm))⟩

theorem Chunks.stay {w w' : World} {base B : Nat} {vs : List Value} {xss : List (List Int)} (h : Chunks w base vs xss) (hb : Below B w w') (hB : w.heap.size ≤ B) : Chunks w' base vs xss :=
  ⟨h.1, fun i u x hu hx => own_stay (h.2 i u x hu hx) hb (fun g hg => by have := (own_live (h.2 i u x hu hx) g hg).2; omega)⟩

theorem chunks_push {w1 w2 : World} {B : Nat} {vs : List Value} {d : List (List Int)} {v u : Value} {k : Nat} {x : List Int} {o : Obj} (hch : Chunks w1 B vs d) (ho : w1.ownsRow B 5 1 u x.length (x.map (Value.int .u8)))
    (hown : w1.ownsRow B 22 1 v k vs) (hg : (w1.alloc o).grownBy w2 v.ownBlock) : Chunks w2 B (vs ++ [u]) (d ++ [x]) :=
  ((hch.snoc ho).stay ((Below.refl _ w1).alloc (Nat.le_refl _) o) (Nat.le_refl _)).grown (hown.alloc o) (by decide) hg

theorem below_push {B : Nat} {w1 w2 : World} {e : TypeId} {v : Value} {k : Nat} {vs : List Value} {o : Obj} (hown : w1.ownsRow B e 1 v k vs) (hg : (w1.alloc o).grownBy w2 v.ownBlock) (hB : B ≤ w1.heap.size) : Below B w1 w2 :=
  ((Below.refl _ w1).alloc hB o).grown hg (by simp; omega) (fun g hg => (hown.lt g hg).1)

end Go.Proofs.Ytcphjojfbihapaa
