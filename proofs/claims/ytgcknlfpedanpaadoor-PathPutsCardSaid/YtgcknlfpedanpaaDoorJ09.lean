/- Package path's reading of a step as plain mathematics: what Put wrote is read as it was. -/
import Derived.Test.YtgcknlfpedanpaaDoorRows
import Derived.Test.YtgcknlfpedanpaaDoorJ03
import Derived.Lib.AtoiAll
namespace Go.Proofs.YtgcknlfpedanpaaDoor
open Go.RowKit
set_option linter.unusedVariables false

/-- For which byte an escape stands, and how many bytes it has; 0: it is none. -/
def escD (l : List UInt8) : UInt8 × Nat :=
  match l with
  | 92 :: 117 :: 48 :: 48 :: a :: b :: _ => match hexB a, hexB b with
    | some x, some y => (UInt8.ofNat (x * 16 + y).toNat, 6)
    | _, _ => (0, 0)
  | _ => (0, 0)
def escC (l : List UInt8) : UInt8 × Nat := if letN (l.getD 1 0) ≠ 0 then (letN (l.getD 1 0), 2) else escD l
/-- A name from behind its mark on: what it is, and what stands behind its last mark. -/
def nameC : Nat → List UInt8 → List UInt8 → Option (List UInt8 × List UInt8)
  | 0, _, _ => none
  | f + 1, l, acc => if l = [] then none else if l.head? = some 39 then some (acc, l.tail) else if l.head? = some 92 then (if (escC l).2 = 0 then none else nameC f (l.drop (escC l).2) (acc ++ [(escC l).1])) else nameC f l.tail (acc ++ [l.headD 0])
theorem nameC_on (f : Nat) (l acc : List UInt8) : nameC (f + 1) l acc = if l = [] then none else if l.head? = some 39 then some (acc, l.tail) else if l.head? = some 92 then (if (escC l).2 = 0 then none else nameC f (l.drop (escC l).2) (acc ++ [(escC l).1])) else nameC f l.tail (acc ++ [l.headD 0]) := rfl
/-- How many digits a text begins with. -/
def runD : List UInt8 → Nat
  | [] => 0
  | c :: t => if digB c then runD t + 1 else 0
def indexC (l : List UInt8) : Option (Int × List UInt8) := match Lib.atoiAll (l.take (runD l)) with
  | .ok v => some (v, l.drop (runD l))
  | _ => none
def innerC (l : List UInt8) : Option (Pst × List UInt8) :=
  if l.head? = some 39 then (nameC l.length l.tail []).map fun p => (⟨true, p.1, 0⟩, p.2) else (indexC l).map fun p => (⟨false, [], p.1⟩, p.2)
/-- The step with which a text begins, and what stands behind it. -/
def cutC (l : List UInt8) : Option (Pst × List UInt8) :=
  if l.head? ≠ some 91 then none else (innerC l.tail).bind fun p => if p.2.head? ≠ some 93 then none else some (p.1, p.2.tail)

theorem runD_le : ∀ l, runD l ≤ l.length
  | [] => Nat.le_refl _
  | c :: t => by
    have := runD_le t
    unfold runD
    split
    · simpa using this
    · simp
theorem runD_app : ∀ (ds r : List UInt8), (∀ c ∈ ds, digB c = true) → runD (ds ++ r) = ds.length + runD r
  | [], r, _ => by simp
  | c :: t, r, h => by
    rw [List.cons_append, runD, if_pos (h c (by simp)), runD_app t r (fun x hx => h x (by simp [hx])), List.length_cons]
    omega
theorem digN_all (v : Nat) : ∀ c ∈ digN v, digB c = true := by
  induction v using Nat.strongRecOn with
  | ind v ih =>
    intro c hc
    by_cases h : v < 10
    · rw [digN_one v h] at hc
      obtain rfl := List.mem_singleton.1 hc
      exact digB_of v h
    · rw [digN_more v h] at hc
      rcases List.mem_append.1 hc with hc | hc
      · exact ih _ (by omega) c hc
      · obtain rfl := List.mem_singleton.1 hc
        exact digB_of _ (by omega)
theorem valD_mono : ∀ (ds : List UInt8) (a : Nat), a ≤ valD ds a
  | [], a => Nat.le_refl _
  | c :: t, a => by
    have := valD_mono t (a * 10 + (c.toNat - 48))
    show a ≤ valD t (a * 10 + (c.toNat - 48))
    omega
theorem uint_val : ∀ (ds : List UInt8) (a : Nat), (∀ c ∈ ds, digB c = true) → valD ds a < 18446744073709551616 → Lib.parseUint10 a ds = .ok (valD ds a)
  | [], a, _, _ => rfl
  | c :: t, a, h, hv => by
    have hc := h c (by simp)
    unfold digB at hc
    have hc := of_decide_eq_true hc
    have hm := valD_mono t (a * 10 + (c.toNat - 48))
    have hv : valD t (a * 10 + (c.toNat - 48)) < 18446744073709551616 := hv
    rw [Lib.parseUint10, if_pos hc, if_neg (by omega), if_neg (by omega), uint_val t _ (fun x hx => h x (by simp [hx])) hv]
    rfl
theorem atoi_dig (v : Nat) (hv : v ≤ 9007199254740991) : Lib.atoiAll (digN v) = .ok v := by
  have hp := digN_pos v
  have ha := digN_all v
  have hval : valD (digN v) 0 = v := by
    obtain ⟨ds, d1, d2, d3, d4⟩ := num_run (digN v).length (digN v) 0 0 _ _ _ rfl
    have h := num_digits v (digN v).length 0 [] (Nat.le_refl _)
    rw [List.append_nil, Nat.sub_self] at h
    have e : numGo 0 [] v (0 + (digN v).length) = (v, 0 + (digN v).length, []) := rfl
    rw [e] at h
    obtain ⟨ds, d1, d2, d3, d4⟩ := num_run _ _ _ _ _ _ _ h
    rw [List.append_nil] at d1
    rw [d1]
    exact d4.symm
  have hu := uint_val (digN v) 0 ha (by rw [hval]; omega)
  rw [hval] at hu
  have hm : Lib.parseMag (digN v) = .ok v := by
    unfold Lib.parseMag
    rw [if_neg (by intro e; rw [e] at hp; simp at hp)]
    exact hu
  cases hd : digN v with
  | nil => rw [hd] at hp; simp at hp
  | cons c t =>
    have hc := ha c (by rw [hd]; simp)
    unfold digB at hc
    have hc := of_decide_eq_true hc
    rw [hd] at hm
    unfold Lib.atoiAll
    simp only []
    rw [if_neg (by omega), hm]
    simp only []
    rw [if_neg (by omega), if_neg (by omega), if_neg (by omega)]
theorem index_back (v : Nat) (hv : v ≤ 9007199254740991) (rest : List UInt8) (hr : runD rest = 0) : indexC (digN v ++ rest) = some ((v : Int), rest) := by
  unfold indexC
  rw [runD_app _ _ (digN_all v), hr, Nat.add_zero, List.take_left, List.drop_left, atoi_dig v hv]

theorem nameC_plain : ∀ (p rest acc : List UInt8) (f : Nat), (∀ c ∈ p, c ≠ 39 ∧ c ≠ 92) → nameC (f + p.length) (p ++ rest) acc = nameC f rest (acc ++ p)
  | [], rest, acc, f, _ => by simp
  | c :: t, rest, acc, f, h => by
    obtain ⟨h1, h2⟩ := h c (by simp)
    have e : f + (c :: t).length = (f + t.length) + 1 := by simp; omega
    rw [e, nameC_on, if_neg (by simp), if_neg (by simp [h1]), if_neg (by simp [h2])]
    show nameC (f + t.length) (t ++ rest) (acc ++ [c]) = _
    rw [nameC_plain t rest _ f (fun x hx => h x (by simp [hx])), List.append_assoc]
    rfl
theorem nameC_fuel : ∀ (f g : Nat) (l acc : List UInt8) (r : List UInt8 × List UInt8), nameC f l acc = some r → f ≤ g → nameC g l acc = some r
  | 0, g, l, acc, r, h, _ => by cases h
  | f + 1, g, l, acc, r, h, hg => by
    obtain ⟨g, rfl⟩ : ∃ k, g = k + 1 := ⟨g - 1, by omega⟩
    rw [nameC_on] at h ⊢
    split at h
    · cases h
    rename_i h1
    rw [if_neg h1]
    split at h
    · rename_i h2; rw [if_pos h2]; exact h
    rename_i h2
    rw [if_neg h2]
    split at h
    · rename_i h3
      rw [if_pos h3]
      split at h
      · cases h
      rename_i h4
      rw [if_neg h4]
      exact nameC_fuel f g _ _ _ h (by omega)
    · rename_i h3
      rw [if_neg h3]
      exact nameC_fuel f g _ _ _ h (by omega)
theorem sgn_high : ∀ (l : List UInt8) (sg lf : Int) (k j : Nat), sgnGo sg lf l k = j → j ≠ 0 → lf ≠ 0 → ∀ c ∈ l.take (j - k), 128 ≤ c.toNat
  | [], sg, lf, k, j, h, hj, _ => absurd h.symm hj
  | c :: t, sg, lf, k, j, h, hj, hl => by
    have hs := sgn_split _ _ _ _ _ h hj
    have e : j - k = (j - (k + 1)) + 1 := by omega
    rw [e, List.take_succ_cons]
    have h' : (if okU sg lf c.toNat then (if lfU lf c.toNat = 0 then k + 1 else sgnGo (sgU sg lf c.toNat) (lfU lf c.toNat) t (k + 1)) else 0) = j := h
    split at h'
    · rename_i hok
      have hc : 128 ≤ c.toNat := by
        unfold okU at hok
        rw [if_neg hl] at hok
        have := of_decide_eq_true hok
        unfold lowU at this
        have h1 := this.1
        (repeat' split at h1) <;> omega
      intro x hx
      rcases List.mem_cons.1 hx with rfl | hx
      · exact hc
      split at h'
      · rename_i hz
        have : j - (k + 1) = 0 := by omega
        rw [this] at hx
        simp at hx
      · rename_i hz
        exact sgn_high t _ _ _ _ h' hj hz x hx
    · exact absurd h'.symm hj
theorem sgn_bytes (c : UInt8) (t : List UInt8) (n : Nat) (h : sgnL (c :: t) = n) (h0 : n ≠ 0) : ∀ x ∈ t.take (n - 1), 128 ≤ x.toNat := by
  rw [sgn_cons] at h
  split at h
  · split at h
    · intro x hx
      rw [← h] at hx
      simp at hx
    · rename_i hz
      exact sgn_high t _ _ 1 n h h0 hz
  · exact absurd h.symm h0
theorem escD_low : ∀ n : Fin 32, escD (ctlN (UInt8.ofNat n)) = (UInt8.ofNat n, 6) := by decide +kernel
theorem escD_app (a b : UInt8) (rest : List UInt8) : escD (92 :: 117 :: 48 :: 48 :: a :: b :: rest) = escD [92, 117, 48, 48, a, b] := rfl
theorem esc_ctl (c : UInt8) (h : c.toNat < 32) (rest : List UInt8) : escC (ctlN c ++ rest) = (c, 6) := by
  have e : ctlN c ++ rest = 92 :: 117 :: 48 :: 48 :: lowB (c.toNat / 16) :: lowB (c.toNat % 16) :: rest := rfl
  have := escD_low ⟨c.toNat, h⟩
  simp only [UInt8.ofNat_toNat] at this
  unfold escC
  have h1 : letN ((ctlN c ++ rest).getD 1 0) = 0 := rfl
  rw [h1, if_neg (by decide), e, escD_app]
  exact this
theorem esc_let2 (c : UInt8) (h : escN c ≠ 0) (rest : List UInt8) : escC (92 :: escN c :: rest) = (c, 2) := by
  have hl := let_esc h
  unfold escC
  rw [show ((92 : UInt8) :: escN c :: rest).getD 1 0 = escN c from rfl, hl, if_pos]
  rcases escN_cases h with rfl | rfl | rfl | rfl | rfl | rfl | rfl <;> decide

set_option maxRecDepth 100000 in
theorem nameC_back : ∀ (k : Nat) (m acc rest : List UInt8), m.length ≤ k → badU m = -1 → ∃ f, nameC f (nameM m ++ 39 :: rest) acc = some (acc ++ m, rest)
  | k, [], acc, rest, _, _ => ⟨1, by rw [nameC_on, if_neg (by simp [nameM, nameGo]), if_pos (show (nameM [] ++ 39 :: rest).head? = some 39 from rfl), List.append_nil]; rfl⟩
  | 0, _ :: _, _, _, h, _ => by simp at h
  | k + 1, c :: t, acc, rest, hl, hb => by
    obtain ⟨h0, hd⟩ := sgn_good (c :: t) 0 0 0 stU_zero hb (.inl (by simp))
    have h0 : sgnL (c :: t) ≠ 0 := h0
    have hd : badU ((c :: t).drop (sgnL (c :: t) - 0)) = -1 := hd
    rw [Nat.sub_zero] at hd
    obtain ⟨n, hn⟩ : ∃ n, sgnL (c :: t) = n := ⟨_, rfl⟩
    rw [hn] at h0 hd
    have hg : goOn n = n := if_neg h0
    have hs := sgnL_take hn h0 []
    obtain ⟨f, hf⟩ := nameC_back k ((c :: t).drop n) (acc ++ (c :: t).take n) rest (by rw [List.length_drop]; simp at hl ⊢; omega) hd
    rw [List.append_assoc, List.take_append_drop] at hf
    have e : nameM (c :: t) ++ 39 :: rest = pieceM (c :: t) n ++ (nameM ((c :: t).drop n) ++ 39 :: rest) := by rw [nameM_cons, hn, hg, List.append_assoc]
    rw [e, pieceM_cons, if_neg h0]
    generalize nameM ((c :: t).drop n) ++ 39 :: rest = R at *
    by_cases he : escN c ≠ 0
    · rw [if_pos he]
      have hc := escN_cases he
      have hn1 : n = 1 := by
        rw [← hn]
        exact sgn_small c t (by rcases hc with rfl | rfl | rfl | rfl | rfl | rfl | rfl <;> decide)
      subst hn1
      have he2 := esc_let2 c he R
      refine ⟨f + 1, ?_⟩
      show nameC (f + 1) (92 :: escN c :: R) acc = _
      rw [nameC_on, if_neg (by simp), if_neg (by simp), if_pos (show (92 :: escN c :: R).head? = some 92 from rfl), he2, if_neg (by show ¬ (2 : Nat) = 0; decide)]
      exact hf
    rw [if_neg he]
    have he := Classical.not_not.1 he
    by_cases hlt : c.toNat < 32
    · rw [if_pos hlt]
      have hn1 : n = 1 := by rw [← hn]; exact sgn_small c t (by omega)
      subst hn1
      have he2 := esc_ctl c hlt R
      refine ⟨f + 1, ?_⟩
      rw [nameC_on, if_neg (by simp [ctlN]), if_neg (by simp [ctlN]), if_pos (by simp [ctlN]), he2, if_neg (by show ¬ (6 : Nat) = 0; decide)]
      exact hf
    · rw [if_neg hlt]
      refine ⟨f + ((c :: t).take n).length, ?_⟩
      rw [nameC_plain _ _ _ _ ?_]
      · exact hf
      obtain ⟨m, rfl⟩ : ∃ m, n = m + 1 := ⟨n - 1, by omega⟩
      intro x hx
      rw [List.take_succ_cons] at hx
      rcases List.mem_cons.1 hx with rfl | hx
      · exact ⟨by rintro rfl; exact absurd he (by decide), by rintro rfl; exact absurd he (by decide)⟩
      · have := sgn_bytes c t _ hn h0 x hx
        exact ⟨by rintro rfl; exact absurd this (by decide), by rintro rfl; exact absurd this (by decide)⟩
/-- With as much fuel as the text has bytes, and one more, it never runs out. -/
theorem nameC_full : ∀ (g f : Nat) (l acc : List UInt8) (r : List UInt8 × List UInt8), nameC g l acc = some r → l.length < f → nameC f l acc = some r
  | 0, f, l, acc, r, h, _ => by cases h
  | g + 1, f, l, acc, r, h, hf => by
    obtain ⟨f, rfl⟩ : ∃ k, f = k + 1 := ⟨f - 1, by omega⟩
    rw [nameC_on] at h ⊢
    split at h
    · cases h
    rename_i h1
    have hl : 0 < l.length := List.length_pos_iff.2 h1
    rw [if_neg h1]
    split at h
    · rename_i h2; rw [if_pos h2]; exact h
    rename_i h2
    rw [if_neg h2]
    split at h
    · rename_i h3
      rw [if_pos h3]
      split at h
      · cases h
      rename_i h4
      rw [if_neg h4]
      exact nameC_full g f _ _ _ h (by rw [List.length_drop]; omega)
    · rename_i h3
      rw [if_neg h3]
      exact nameC_full g f _ _ _ h (by rw [List.length_tail]; omega)
theorem cut_step (s : Pst) (hr : rightB s = true) (K : List UInt8) : cutC (stepT s ++ K) = some (s, K) := by
  cases hn : s.named
  · obtain ⟨e1, e2, e3⟩ := right_index hr hn
    obtain ⟨v, hv⟩ := Int.eq_ofNat_of_zero_le e2
    have e4 : stepT s ++ K = 91 :: (digN v ++ 93 :: K) := by
      show 91 :: ((if s.named then nameT s.name else digN s.index.toNat) ++ [93]) ++ K = _
      rw [hn, if_neg (by decide), hv, Int.toNat_natCast]
      simp
    have hp := digN_pos v
    have hdh : (digN v ++ 93 :: K).head? ≠ some 39 := by
      rw [head_app (by intro e; rw [e] at hp; simp at hp)]
      intro hh
      have := digN_all v 39 (List.mem_of_head? hh)
      exact absurd this (by decide)
    have hi := index_back v (by omega) (93 :: K) rfl
    rw [e4]
    unfold cutC
    rw [if_neg (by simp)]
    show (innerC (digN v ++ 93 :: K)).bind _ = _
    unfold innerC
    rw [if_neg hdh, hi]
    show (if (93 :: K).head? ≠ some 93 then none else some ((⟨false, [], (v : Int)⟩ : Pst), K)) = _
    rw [if_neg (by simp), ← hv, ← e1]
  · obtain ⟨e1, hb⟩ := right_name hr hn
    have e4 : stepT s ++ K = 91 :: 39 :: (nameM s.name ++ 39 :: 93 :: K) := by
      show 91 :: ((if s.named then nameT s.name else digN s.index.toNat) ++ [93]) ++ K = _
      rw [hn, if_pos rfl]
      unfold nameT
      simp
    obtain ⟨f, hf⟩ := nameC_back s.name.length s.name [] (93 :: K) (Nat.le_refl _) hb
    have hf2 := nameC_full f (39 :: (nameM s.name ++ 39 :: 93 :: K)).length _ _ _ hf (by simp)
    rw [e4]
    unfold cutC
    rw [if_neg (by simp)]
    show (innerC (39 :: (nameM s.name ++ 39 :: 93 :: K))).bind _ = _
    unfold innerC
    rw [if_pos (show (39 :: (nameM s.name ++ 39 :: 93 :: K)).head? = some 39 from rfl), show (39 :: (nameM s.name ++ 39 :: 93 :: K)).tail = nameM s.name ++ 39 :: 93 :: K from rfl, hf2]
    show (if (93 :: K).head? ≠ some 93 then none else some ((⟨true, [] ++ s.name, 0⟩ : Pst), K)) = _
    rw [if_neg (by simp), List.nil_append, ← e1]

/-- The steps of which a text is made, as package path reads them. -/
def stepsC : Nat → List UInt8 → Option (List Pst)
  | 0, _ => none
  | f + 1, l => if l = [] then some [] else (cutC l).bind fun p => (stepsC f p.2).map fun k => p.1 :: k
theorem stepsC_on (f : Nat) (l : List UInt8) : stepsC (f + 1) l = if l = [] then some [] else (cutC l).bind fun p => (stepsC f p.2).map fun k => p.1 :: k := rfl
theorem steps_back : ∀ (k : List Pst) (f : Nat), k.all rightB = true → (k.flatMap stepT).length < f → stepsC f (k.flatMap stepT) = some k
  | [], f, _, h => by
    obtain ⟨f, rfl⟩ : ∃ g, f = g + 1 := ⟨f - 1, by omega⟩
    rfl
  | s :: k, f, hr, h => by
    obtain ⟨f, rfl⟩ : ∃ g, f = g + 1 := ⟨f - 1, by omega⟩
    simp only [List.all_cons, Bool.and_eq_true] at hr
    have e : (s :: k).flatMap stepT = stepT s ++ k.flatMap stepT := rfl
    rw [e] at h ⊢
    have hne : stepT s ++ k.flatMap stepT ≠ [] := by unfold stepT; simp
    rw [stepsC_on, if_neg hne, cut_step s hr.1]
    show (stepsC f (k.flatMap stepT)).map _ = _
    have hl : 1 ≤ (stepT s).length := by unfold stepT; simp
    rw [steps_back k f hr.2 (by rw [List.length_append] at h; omega)]
    rfl

end Go.Proofs.YtgcknlfpedanpaaDoor
