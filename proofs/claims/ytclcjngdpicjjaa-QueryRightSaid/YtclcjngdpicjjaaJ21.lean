/- JSONPath queries as plain mathematics, continued: what a text is read as is right. -/
import Derived.Test.YtclcjngdpicjjaaRows
import Derived.Test.YtclcjngdpicjjaaJ03
import Derived.Test.YtclcjngdpicjjaaJ05
import Derived.Test.YtclcjngdpicjjaaJ08
import Derived.Test.YtclcjngdpicjjaaJ13
import Derived.Test.YtclcjngdpicjjaaJ14
import Derived.Test.YtclcjngdpicjjaaJ17
namespace Go.Proofs.Ytclcjngdpicjjaa
open Go.RowKit
set_option linter.unusedVariables false
set_option linter.unusedSimpArgs false

def MaxQ (v : Int) : Prop := -9007199254740991 ≤ v ∧ v ≤ 9007199254740991
/-- A selector that may be; its name has at most n bytes. -/
inductive SelOK (n : Nat) : Sel → Prop
  | any : SelOK n sqA
  | name (m : List UInt8) : badU m = -1 → m.length ≤ n → SelOK n (sqN m)
  | index (v : Int) : MaxQ v → SelOK n (sqI v)
  | slice (a b : Option Int) (c : Int) : MaxQ (a.getD 0) → MaxQ (b.getD 0) → MaxQ c → SelOK n (sqS a b c)
theorem SelOK.mono {n k : Nat} {y : Sel} (h : SelOK n y) (hk : n ≤ k) : SelOK k y := by
  cases h with
  | any => exact .any
  | name m h1 h2 => exact .name m h1 (by omega)
  | index v h => exact .index v h
  | slice a b c h1 h2 h3 => exact .slice a b c h1 h2 h3
theorem nrQ_max {l : List UInt8} {v : Int} {n : Nat} (h : nrQ l = some (v, n)) : MaxQ v := by
  unfold nrQ at h
  split at h
  · split at h
    · cases h
    · injection h with h
      injection h with h1 h2
      rw [← h1]
      unfold MaxQ
      omega
  · unfold intD at h
    split at h
    · cases h
    split at h
    · cases h
    · rename_i h9
      injection h with h
      injection h with h1 h2
      rw [← h1]
      unfold MaxQ
      split <;> omega
theorem intA_max (l : List UInt8) : MaxQ ((intA l).1.getD 0) := by
  unfold intA
  cases h : nrQ l with
  | none => unfold MaxQ; show -9007199254740991 ≤ (0 : Int) ∧ (0 : Int) ≤ _; omega
  | some p => exact nrQ_max (v := p.1) (n := p.2) h
theorem slcR_ok (n : Nat) (a : Option Int) (ha : MaxQ (a.getD 0)) (l : List UInt8) : SelOK n (slcR a l).1 := by
  have he := intA_max (skB l)
  have h1 : MaxQ 1 := by unfold MaxQ; omega
  unfold slcR slcE
  split
  · split
    · rename_i v k hv
      exact .slice a _ v ha he (nrQ_max hv)
    · exact .slice a _ 1 ha he h1
  · exact .slice a _ 1 ha he h1
theorem readQ_ok {l u : List UInt8} {n : Nat} (h : readQ .plain l [] 0 = some (u, n)) : badU u = -1 ∧ u.length ≤ 4 * l.length := by
  have h1 := read_valid l .plain [] 0 u n trivial rfl h
  have h2 := read_len l .plain [] 0 u n h
  simp [pendQ] at h2
  exact ⟨h1, h2⟩
theorem selR_ok {l r : List UInt8} {y : Sel} (h : selR l = some (y, r)) : SelOK (8 * l.length + 8) y := by
  unfold selR at h
  split at h
  · injection h with h; injection h with h1 h2; rw [← h1]; exact .any
  split at h
  · obtain ⟨a, h9, ha9⟩ := map_in (f := fun a => sqN a) h
    clear h
    subst ha9
    have h := h9
    clear h9
    unfold sngR at h
    cases hq : trL (l.tail.length + 1) l.tail with
    | none => rw [hq] at h; cases h
    | some p =>
      rw [hq] at h
      have hl := (trL_end _ _ p hq).2.2
      have h : ((readQ .plain (p.1 ++ [34]) [] 0).map fun u => (u.1, p.2)) = some (a, r) := h
      cases hu : readQ .plain (p.1 ++ [34]) [] 0 with
      | none => rw [hu] at h; cases h
      | some u =>
        rw [hu] at h
        injection h with h
        injection h with h1 h2
        obtain ⟨o1, o2⟩ := readQ_ok (u := u.1) (n := u.2) hu
        rw [List.length_append] at o2
        have o2 : u.1.length ≤ 4 * (p.1.length + 1) := o2
        rw [List.length_tail] at hl
        rw [h1] at o1 o2
        exact .name a o1 (by omega)
  split at h
  · obtain ⟨a, h9, ha9⟩ := map_in (f := fun a => sqN a) h
    clear h
    subst ha9
    have h := h9
    clear h9
    unfold dblR at h
    cases hu : readQ .plain l.tail [] 0 with
    | none => rw [hu] at h; cases h
    | some u =>
      rw [hu] at h
      injection h with h
      injection h with h1 h2
      obtain ⟨o1, o2⟩ := readQ_ok (u := u.1) (n := u.2) hu
      rw [List.length_tail] at o2
      rw [h1] at o1 o2
      exact .name a o1 (by omega)
  split at h
  · injection h with h
    have := slcR_ok (8 * l.length + 8) (intA l).1 (intA_max l) (skB (intA l).2).tail
    rw [h] at this
    exact this
  · cases hi : (intA l).1 with
    | none => rw [hi] at h; cases h
    | some v =>
      have := intA_max l
      rw [hi] at h this
      injection h with h
      injection h with h1 h2
      rw [← h1]
      exact .index v this
theorem nxR_ok {l t : List UInt8} {y : Sel} (h : nxR l = some (y, t)) : SelOK (8 * l.length + 8) y ∧ t.length ≤ l.length + 0 ∨ SelOK (8 * l.length + 8) y := by
  unfold nxR at h
  cases hs : selR l with
  | none => rw [hs] at h; cases h
  | some p =>
    rw [hs] at h
    have h : (if EndS (skB p.2) then some (p.1, skB p.2) else none) = some (y, t) := h
    split at h
    · injection h with h
      injection h with h1 h2
      have := selR_ok (y := p.1) (r := p.2) hs
      rw [h1] at this
      exact .inr this
    · cases h
theorem nxR_sel {l t : List UInt8} {y : Sel} (h : nxR l = some (y, t)) : SelOK (8 * l.length + 8) y := (nxR_ok h).elim (fun h => h.1) id
theorem nxQ_short {l t : List UInt8} {y : Sel} (h : nxQ l = some (y, t)) : t.length ≤ l.length := by
  unfold nxQ at h
  cases hs : selQ l with
  | none => rw [hs] at h; cases h
  | some p =>
    rw [hs] at h
    have h : (if EndS (skB (l.drop p.2)) then some (p.1, skB (l.drop p.2)) else none) = some (y, t) := h
    split at h
    · injection h with h
      injection h with h1 h2
      rw [← h2]
      unfold skB
      rw [List.length_drop, List.length_drop]
      omega
    · cases h
theorem skB_short (l : List UInt8) : (skB l).length ≤ l.length := by unfold skB; rw [List.length_drop]; omega
theorem brkR_ok (n : Nat) : ∀ (f : Nat) (r : List UInt8) (acc xs : List Sel) (r' : List UInt8), badU r = -1 → r.length ≤ n → (∀ y ∈ acc, SelOK (8 * n + 8) y) → brkR f r acc = some (xs, r') → xs ≠ [] ∧ r'.length ≤ n ∧ ∀ y ∈ xs, SelOK (8 * n + 8) y
  | 0, r, acc, xs, r', hv, hn, ha, h => by cases h
  | f + 1, r, acc, xs, r', hv, hn, ha, h => by
    have hsk := skB_short r
    rw [brkR_on] at h
    cases hq : nxR (skB r) with
    | none => rw [hq] at h; cases h
    | some p =>
      obtain ⟨x, t⟩ := p
      have hx := (nxR_sel hq).mono (k := 8 * n + 8) (by omega)
      have hq2 := hq
      rw [← nx_eq (skB r) (bad_skB _ hv) (runB_skB _)] at hq2
      have ht := nxQ_short hq2
      obtain ⟨v1, v2⟩ := nx_bad (bad_skB _ hv) hq2
      have hacc : ∀ y ∈ acc ++ [x], SelOK (8 * n + 8) y := fun y hy => by
        rcases List.mem_append.1 hy with hy | hy
        · exact ha y hy
        · rw [List.mem_singleton.1 hy]; exact hx
      rw [hq] at h
      have h : (if t.head? = some 44 then brkR f t.tail (acc ++ [x]) else some (acc ++ [x], t.tail)) = some (xs, r') := h
      split at h
      · exact brkR_ok n f _ _ _ _ (bad_tail_end v1 v2) (by rw [List.length_tail]; omega) hacc h
      · injection h with h
        injection h with h1 h2
        rw [← h1, ← h2]
        exact ⟨by simp, by rw [List.length_tail]; omega, hacc⟩
/-- The head of a text of UTF-8 that ends at a sign's end. -/
theorem run_head (b : List UInt8) (hb : ∀ c t, b = c :: t → c.toNat < 128) : ∀ (a : List UInt8) (sg lf : Int), runU sg lf (a ++ b) 0 = -1 → runU sg lf a 0 = -1
  | [], sg, lf, h => by
    cases b with
    | nil => exact h
    | cons c t =>
      have hc := hb c t rfl
      by_cases hl : lf = 0
      · subst hl; rfl
      · exfalso
        have := (run_more hl h).1
        have := okU_bd hl this
        omega
  | c :: t, sg, lf, h => by
    have h : (if okU sg lf c.toNat then runU (sgU sg lf c.toNat) (lfU lf c.toNat) (t ++ b) (0 + 1) else 0) = -1 := h
    show (if okU sg lf c.toNat then runU (sgU sg lf c.toNat) (lfU lf c.toNat) t (0 + 1) else 0) = -1
    by_cases hok : okU sg lf c.toNat = true
    · rw [if_pos hok, runU_shift] at h ⊢
      split at h
      · rw [if_pos (run_head b hb t _ _ (by assumption))]
      · have := (runU_ge (t ++ b) (sgU sg lf c.toNat) (lfU lf c.toNat)).1
        omega
    · rw [if_neg hok] at h; cases h
theorem bad_head {l : List UInt8} (h : badU l = -1) (k : Nat) (hk : ∀ c, (l.drop k).head? = some c → c.toNat < 128) : badU (l.take k) = -1 := by
  rw [← List.take_append_drop k l] at h
  exact run_head _ (fun c t e => hk c (by rw [e]; rfl)) _ _ _ h
theorem shtR_ok {l r : List UInt8} {xs : List Sel} {n : Nat} (hv : badU l = -1) (hn : l.length ≤ n) (h : shtR l = some (xs, r)) : xs ≠ [] ∧ r.length ≤ n ∧ ∀ y ∈ xs, SelOK (8 * n + 8) y := by
  unfold shtR at h
  split at h
  · injection h with h
    injection h with h1 h2
    rw [← h1, ← h2]
    exact ⟨by simp, by rw [List.length_tail]; omega, fun y hy => by rw [List.mem_singleton.1 hy]; exact .any⟩
  split at h
  · cases h
  · injection h with h
    injection h with h1 h2
    rw [← h1, ← h2]
    exact ⟨by simp, by rw [List.length_drop]; omega, fun y hy => by rw [List.mem_singleton.1 hy]; exact .name _ (bad_head hv _ fun c hc => pln_next false l c hc) (by rw [List.length_take]; omega)⟩
theorem sgmP_ok {l r : List UInt8} {x : Sgm} {n : Nat} (hv : badU l = -1) (hn : l.length ≤ n) (h : sgmP l = some (x, r)) : x.sels ≠ [] ∧ r.length ≤ n ∧ ∀ y ∈ x.sels, SelOK (8 * n + 8) y := by
  unfold sgmP at h
  split at h
  · rename_i hd2
    obtain ⟨u, rfl⟩ := two_dots hd2
    have hv2 : badU u = -1 := bad_tail (bad_tail hv (by decide)) (by decide)
    obtain ⟨a, h9, ha9⟩ := map_in (f := fun a => (⟨true, a⟩ : Sgm)) h
    clear h
    subst ha9
    have h := h9
    clear h9
    have h : (if u.head? = some 91 then brkS u.tail else shtR u) = some (a, r) := h
    have hu : u.length ≤ n := by simp at hn; omega
    split at h
    · rename_i h91
      exact brkR_ok n _ _ [] _ _ (tail_head hv2 h91 (by decide)) (by rw [List.length_tail]; omega) (fun y hy => by cases hy) h
    · exact shtR_ok hv2 hu h
  split at h
  · rename_i h91
    obtain ⟨a, h9, ha9⟩ := map_in (f := fun a => (⟨false, a⟩ : Sgm)) h
    clear h
    subst ha9
    have h := h9
    clear h9
    exact brkR_ok n _ _ [] _ _ (tail_head hv h91 (by decide)) (by rw [List.length_tail]; omega) (fun y hy => by cases hy) h
  split at h
  · rename_i h46
    obtain ⟨a, h9, ha9⟩ := map_in (f := fun a => (⟨false, a⟩ : Sgm)) h
    clear h
    subst ha9
    have h := h9
    clear h9
    exact shtR_ok (tail_head hv h46 (by decide)) (by rw [List.length_tail]; omega) h
  · cases h
theorem queR_ok (n : Nat) : ∀ (f : Nat) (l : List UInt8) (acc xs : List Sgm), badU l = -1 → l.length ≤ n → (∀ x ∈ acc, x.sels ≠ [] ∧ ∀ y ∈ x.sels, SelOK (8 * n + 8) y) → queR f l acc = some xs → ∀ x ∈ xs, x.sels ≠ [] ∧ ∀ y ∈ x.sels, SelOK (8 * n + 8) y
  | 0, l, acc, xs, hv, hn, ha, h => by cases h
  | f + 1, l, acc, xs, hv, hn, ha, h => by
    rw [queR_on] at h
    split at h
    · rw [← Option.some.inj h]; exact ha
    · cases hq : sgmP (skB l) with
      | none => rw [hq] at h; cases h
      | some p =>
        obtain ⟨x, r⟩ := p
        rw [hq] at h
        have hsk := skB_short l
        obtain ⟨o1, o2, o3⟩ := sgmP_ok (n := n) (bad_skB _ hv) (by omega) hq
        refine queR_ok n f r (acc ++ [x]) xs (sgm_bad (bad_skB _ hv) hq) o2 (fun y hy => ?_) h
        rcases List.mem_append.1 hy with hy | hy
        · exact ha y hy
        · rw [List.mem_singleton.1 hy]; exact ⟨o1, o3⟩
/-- What a text is read as is right. -/
theorem queQ_ok (l : List UInt8) : ∀ x ∈ (queQ l).getD [], x.sels ≠ [] ∧ ∀ y ∈ x.sels, SelOK (8 * l.length + 8) y := by
  rw [queQ_is]
  split
  · rename_i hh
    cases hq : queR (l.length + 1) l.tail [] with
    | none => intro x hx; cases hx
    | some xs =>
      exact queR_ok l.length _ _ [] xs (tail_head hh.1 hh.2 (by decide)) (by rw [List.length_tail]; omega) (fun x hx => by cases hx) hq
  · intro x hx; cases hx

end Go.Proofs.Ytclcjngdpicjjaa
