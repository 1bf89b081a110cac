/- A text that begins no sign begins none with more behind it: plain mathematics of the document's Begins. -/
import Derived.Test.YtgcknlfpedanpaaDoorJ03
import Derived.Deep.CutRange
import Derived.Lib.ConvBytes
import Derived.Deep.CutBlock
namespace Go.Proofs.YtgcknlfpedanpaaDoor
open Go.RowKit
set_option linter.unusedVariables false

/-- As long, and nowhere greater. -/
def leL : List UInt8 → List UInt8 → Prop
  | [], [] => True
  | x :: l, y :: m => x.toNat ≤ y.toNat ∧ leL l m
  | _, _ => False
theorem leL_refl : ∀ l, leL l l
  | [] => trivial
  | x :: l => ⟨Nat.le_refl _, leL_refl l⟩
theorem leL_app : ∀ {a b c d : List UInt8}, leL a b → leL c d → leL (a ++ c) (b ++ d)
  | [], [], _, _, _, h => h
  | x :: a, y :: b, c, d, h, g => ⟨h.1, leL_app h.2 g⟩
  | [], _ :: _, _, _, h, _ => h.elim
  | _ :: _, [], _, _, h, _ => h.elim
theorem leL_low : ∀ q : List UInt8, contR q = true → leL (List.replicate q.length 128) q
  | [], _ => trivial
  | x :: q, h => by
    unfold contR at h
    rw [List.all_cons, Bool.and_eq_true] at h
    have := of_decide_eq_true h.1
    exact ⟨this.1, leL_low q h.2⟩
theorem leL_high : ∀ q : List UInt8, contR q = true → leL q (List.replicate q.length 191)
  | [], _ => trivial
  | x :: q, h => by
    unfold contR at h
    rw [List.all_cons, Bool.and_eq_true] at h
    have := of_decide_eq_true h.1
    exact ⟨this.2, leL_high q h.2⟩
theorem moreR_mono : ∀ {l m : List UInt8} {a b : Int}, leL l m → a ≤ b → moreR a l ≤ moreR b m
  | [], [], _, _, _, h => h
  | x :: l, y :: m, a, b, h, g => by
    have h1 : (x.toNat : Int) ≤ y.toNat := by exact_mod_cast h.1
    exact moreR_mono (l := l) (m := m) (a := a * 64 + x.toNat - 128) (b := b * 64 + y.toNat - 128) h.2 (by omega)
  | [], _ :: _, _, _, h, _ => h.elim
  | _ :: _, [], _, _, h, _ => h.elim
theorem leL_len : ∀ {l m : List UInt8}, leL l m → l.length = m.length
  | [], [], _ => rfl
  | x :: l, y :: m, h => by simp [leL_len h.2]
  | [], _ :: _, h => h.elim
  | _ :: _, [], h => h.elim
theorem numR_mono {l m : List UInt8} (c : UInt8) (h : leL l m) : numR (c :: l) ≤ numR (c :: m) := by
  have hl := leL_len h
  show moreR ((c.toNat : Int) - baseR (c :: l).length) l ≤ moreR ((c.toNat : Int) - baseR (c :: m).length) m
  rw [show (c :: l).length = (c :: m).length by simp [hl]]
  exact moreR_mono h (Int.le_refl _)
theorem pad_low (c : UInt8) (t q : List UInt8) (n : Nat) (hq : contR q = true) (hn : (c :: (t ++ q)).length ≤ n) : numR (padR (c :: t) n 128) ≤ numR (padR (c :: (t ++ q)) n 128) ∧ numR (padR (c :: (t ++ q)) n 191) ≤ numR (padR (c :: t) n 191) := by
  have e : n - (c :: t).length = q.length + (n - (c :: (t ++ q)).length) := by simp at hn ⊢; omega
  unfold padR
  rw [e, ← List.replicate_append_replicate, ← List.replicate_append_replicate]
  constructor
  · show numR (c :: (t ++ (List.replicate q.length 128 ++ List.replicate (n - (c :: (t ++ q)).length) 128))) ≤ numR (c :: ((t ++ q) ++ List.replicate (n - (c :: (t ++ q)).length) 128))
    rw [List.append_assoc]
    exact numR_mono c (leL_app (leL_refl t) (leL_app (leL_low q hq) (leL_refl _)))
  · show numR (c :: ((t ++ q) ++ List.replicate (n - (c :: (t ++ q)).length) 191)) ≤ numR (c :: (t ++ (List.replicate q.length 191 ++ List.replicate (n - (c :: (t ++ q)).length) 191)))
    rw [List.append_assoc]
    exact numR_mono c (leL_app (leL_refl t) (leL_app (leL_high q hq) (leL_refl _)))
theorem endR_fst {m n : Nat} {a b : Int} (h : (endR m n a b).1 = false) : b < leastR n ∨ 1114111 < a ∨ (55296 ≤ a ∧ b ≤ 57343) := by
  unfold endR at h
  split at h
  · assumption
  · split at h <;> cases h
/-- What begins no sign begins none with more behind it. -/
theorem beg_dead (l q : List UInt8) (hl : l ≠ []) (h : (begR l).1 = false) : begR (l ++ q) = (false, false, 0) := by
  cases l with
  | nil => exact absurd rfl hl
  | cons c t =>
    have h : (if sizeR c.toNat = 0 ∨ sizeR c.toNat < (c :: t).length then ((false, false, 0) : Bool × Bool × Int) else
      if contR t then endR (c :: t).length (sizeR c.toNat).toNat (numR (padR (c :: t) (sizeR c.toNat).toNat 128)) (numR (padR (c :: t) (sizeR c.toNat).toNat 191)) else (false, false, 0)).1 = false := h
    show (if sizeR c.toNat = 0 ∨ sizeR c.toNat < (c :: (t ++ q)).length then ((false, false, 0) : Bool × Bool × Int) else
      if contR (t ++ q) then endR (c :: (t ++ q)).length (sizeR c.toNat).toNat (numR (padR (c :: (t ++ q)) (sizeR c.toNat).toNat 128)) (numR (padR (c :: (t ++ q)) (sizeR c.toNat).toNat 191)) else (false, false, 0)) = _
    by_cases h1 : sizeR c.toNat = 0 ∨ sizeR c.toNat < (c :: (t ++ q)).length
    · rw [if_pos h1]
    rw [if_neg h1]
    have hlen : (c :: t).length ≤ (c :: (t ++ q)).length := by simp
    rw [if_neg (by omega)] at h
    by_cases h2 : contR (t ++ q) = true
    · rw [if_pos h2]
      have h3 : contR t = true ∧ contR q = true := by
        unfold contR at h2 ⊢
        rw [List.all_append, Bool.and_eq_true] at h2
        exact h2
      rw [if_pos h3.1] at h
      have hC := endR_fst h
      have hp := pad_low c t q (sizeR c.toNat).toNat h3.2 (by omega)
      unfold endR
      rw [if_pos (by omega)]
    · rw [if_neg h2]

end Go.Proofs.YtgcknlfpedanpaaDoor

namespace Go.Proofs.YtgcknlfpedanpaaDoor
open Go.RowKit
set_option linter.unusedVariables false

set_option maxRecDepth 100000 in
set_option maxHeartbeats 400000 in
theorem rbegins_long (s : ByteArray) (W : World) (n : Nat) (h1 : 0 < s.size) (hr : sizeR s[0].toNat = n) (hn : n < s.size) (hn9 : n ≤ 4) :
    Calls Tryd.prog 31 #[.string s] W fun e w' => e = .returned (.tuple #[.bool false, .bool false, .int .i64 0]) ∧ W = w' := by
  have hs1 := fun w => rsize_any s[0].toNat w
  rw [hr] at hs1
  have HS := Lib.hid hs1
  have g1 : (s.size : Int) > n := by omega
  clear hs1 hr
  by_cases h0 : n = 0
  · subst h0
    go_enter Tryd.func31, Tryd.ntmps31
    go_wp2_with (first | (go_at_call 44; refine (HS.out _).mono ?_; rintro e w' ⟨rfl, rfl⟩))
    go_ret3
    exact ⟨rfl, rfl⟩
  · have g0 : ((n : Int) == 0) = false := beq_eq_false_iff_ne.2 (by omega)
    go_enter Tryd.func31, Tryd.ntmps31
    go_wp2_with (first | (go_at_call 44; refine (HS.out _).mono ?_; rintro e w' ⟨rfl, rfl⟩))
    go_ret3
    exact ⟨rfl, rfl⟩
theorem sizeR_is (c : Int) : sizeR c = 0 ∨ ∃ n : Nat, (n = 1 ∨ n = 2 ∨ n = 3 ∨ n = 4) ∧ sizeR c = n := by
  unfold sizeR
  split
  · exact .inr ⟨1, .inl rfl, rfl⟩
  split
  · exact .inr ⟨2, .inr (.inl rfl), rfl⟩
  split
  · exact .inr ⟨3, .inr (.inr (.inl rfl)), rfl⟩
  split
  · exact .inr ⟨4, .inr (.inr (.inr rfl)), rfl⟩
  · exact .inl rfl
set_option maxRecDepth 100000 in
/-- What Begins answers of any text that isn't empty. -/
theorem rbegins_any (s : ByteArray) (W : World) (h1 : 0 < s.size) :
    Calls Tryd.prog 31 #[.string s] W fun e w' => e = .returned (.tuple #[.bool (begR s.data.toList).1, .bool (begR s.data.toList).2.1, .int .i64 (begR s.data.toList).2.2]) ∧ Below W.heap.size W w' := by
  obtain ⟨r, hr⟩ := cons_of s h1
  rcases sizeR_is s[0].toNat with hz | ⟨n, hn, hz⟩
  · have e := begR_zero s[0] r hz
    rw [← hr] at e
    rw [e]
    exact (rbegins_zero s W h1 hz).mono fun e w' ⟨he, hw⟩ => ⟨he, hw ▸ Below.refl _ _⟩
  · by_cases hl : s.size ≤ n
    · exact rbegins_core s W n hn h1 hl hz
    · have e : begR s.data.toList = (false, false, 0) := by
        have hsz : s.data.toList.length = s.size := rfl
        rw [hr] at hsz ⊢
        show (if sizeR s[0].toNat = 0 ∨ sizeR s[0].toNat < (s[0] :: r).length then ((false, false, 0) : Bool × Bool × Int) else _) = _
        rw [if_pos (.inr (by rw [hz, hsz]; omega))]
      rw [e]
      exact (rbegins_long s W n h1 hz (by omega) (by omega)).mono fun e w' ⟨he, hw⟩ => ⟨he, hw ▸ Below.refl _ _⟩

/-- A step as a value. -/
def stpV (s : Pst) : Array Value := #[.bool s.named, .string ⟨s.name.toArray⟩, .int .i64 s.index]
theorem name_eq (l : List UInt8) : ((⟨l.toArray⟩ : ByteArray).toList == (⟨#[]⟩ : ByteArray).toList) = decide (l = []) := by
  have h1 : (⟨l.toArray⟩ : ByteArray).toList = l := by simp
  have h2 : (⟨#[]⟩ : ByteArray).toList = [] := by simp
  rw [h1, h2]
  cases l <;> rfl

set_option maxRecDepth 100000 in
set_option maxHeartbeats 2000000 in
theorem rright13_any (s : Pst) (W : World) (hs : s.name.length ≤ maxLen) :
    Calls Tryd.prog 9 #[.agg (stpV s)] W fun e w' => e = .returned (.bool (rightB s)) ∧ Below W.heap.size W w' := by
  obtain ⟨nd, nm, ix⟩ := s
  have HB := Lib.hid (fun w => rbad_any ⟨nm.toArray⟩ w (by exact hs))
  rw [show (⟨nm.toArray⟩ : ByteArray).data.toList = nm from rfl] at HB
  have HE := Lib.hid (name_eq nm)
  have hr : rightB ⟨nd, nm, ix⟩ = if nd then decide (ix = 0) && decide (badU nm = -1) else decide (nm = []) && decide (0 ≤ ix ∧ ix ≤ 9007199254740991) := rfl
  rw [hr]
  clear hr
  unfold stpV
  cases nd
  · show Calls _ _ _ _ fun e w' => e = .returned (.bool (decide (nm = []) && decide (0 ≤ ix ∧ ix ≤ 9007199254740991))) ∧ _
    by_cases h0 : nm = []
    · have e1 := HE.out
      rw [decide_eq_true h0] at e1 ⊢
      have hd : (true && decide (0 ≤ ix ∧ ix ≤ 9007199254740991)) = (decide (0 ≤ ix) && decide (ix ≤ 9007199254740991)) := by
        by_cases a : 0 ≤ ix <;> by_cases b : ix ≤ 9007199254740991 <;> simp [a, b]
      rw [hd]
      clear hd HE h0 HB
      generalize (⟨nm.toArray⟩ : ByteArray) = nb at *
      go_enter Tryd.func9, Tryd.ntmps9
      go_wp2
      all_goals
        go_ret
        exact ⟨ret_b (by first | (simp_all; done) | (simp_all; omega)), below1 _ _⟩
    · have e1 := HE.out
      rw [decide_eq_false h0] at e1 ⊢
      clear HE h0 HB
      generalize (⟨nm.toArray⟩ : ByteArray) = nb at *
      go_enter Tryd.func9, Tryd.ntmps9
      go_wp2
      all_goals
        go_ret
        exact ⟨ret_b (by first | (simp_all; done) | (simp_all; omega)), below1 _ _⟩
  · show Calls _ _ _ _ fun e w' => e = .returned (.bool (decide (ix = 0) && decide (badU nm = -1))) ∧ _
    clear HE
    generalize badU nm = bu at *
    generalize (⟨nm.toArray⟩ : ByteArray) = nb at *
    by_cases h0 : ix = 0
    · subst h0
      have hd : (decide ((0 : Int) = 0) && decide (bu = -1)) = (bu == -1) := by
        by_cases a : bu = -1 <;> simp [a]
      rw [hd]
      clear hd
      go_enter Tryd.func9, Tryd.ntmps9
      go_wp2_with (go_at_call 18; refine (HB.out _).mono ?_; rintro e w' ⟨rfl, hb⟩; have HW := Lib.hid ((below1 W _).trans (hb.mono (by simp))); clear hb)
      go_ret
      exact ⟨ret_b (by simp), HW.out⟩
    · rw [decide_eq_false h0]
      have g0 : (ix == 0) = false := beq_eq_false_iff_ne.2 h0
      go_enter Tryd.func9, Tryd.ntmps9
      go_wp2
      go_ret
      exact ⟨ret_b (by simp), below1 _ _⟩

def fromL : List UInt8 := [8, 9, 10, 12, 13, 39, 92]
def toL : List UInt8 := [98, 116, 110, 102, 114, 39, 92]
set_option maxRecDepth 100000 in
theorem letters13_any (W : World) : Calls Tryd.prog 36 #[] W fun e w' => e = .returned (.tuple #[.slice (some ⟨W.heap.size, 0, none⟩) 7 7, .slice (some ⟨W.heap.size + 1, 0, none⟩) 7 7]) ∧
    Own w' W.heap.size 5 (byteCells fromL).toArray ∧ Own w' (W.heap.size + 1) 5 (byteCells toL).toArray ∧ Below W.heap.size W w' ∧ W.heap.size + 1 < w'.heap.size := by
  have o1 := (Own.fresh W 5 (byteCells fromL).toArray).over (.cells (byteCells toL).toArray 5)
  have o2 := Own.fresh (W.alloc (.cells (byteCells fromL).toArray 5)) 5 (byteCells toL).toArray
  have z1 : (W.alloc (.cells (byteCells fromL).toArray 5)).heap.size = W.heap.size + 1 := by simp
  rw [z1] at o2
  clear z1
  have hb := below2 W (.cells (byteCells fromL).toArray 5) (.cells (byteCells toL).toArray 5)
  have H := Lib.hid (And.intro o1 (And.intro o2 hb))
  clear o1 o2 hb
  go_enter Tryd.func36, Tryd.ntmps36
  go_wp2
  go_ret2
  exact ⟨rfl, H.out.1, H.out.2.1, H.out.2.2, H.out.2.1.inside⟩

theorem digN_join (n : Nat) : (⟨(digN n).toArray⟩ : ByteArray) = if n < 10 then ⟨#[UInt8.ofNat (48 + n)]⟩ else (⟨(digN (n / 10)).toArray⟩ : ByteArray) ++ (⟨(digN (n % 10)).toArray⟩ : ByteArray) := by
  by_cases h : n < 10
  · rw [if_pos h, digN_one n h]
  · rw [if_neg h, digN_more n h, digN_one (n % 10) (by omega)]
    apply ByteArray.ext
    simp
set_option maxRecDepth 100000 in
set_option maxHeartbeats 2000000 in
theorem digits13_any : ∀ (n : Nat), n ≤ 9007199254740991 → ∀ (W : World), Calls Tryd.prog 23 #[.int .i64 n] W fun e w' => e = .returned (.string ⟨(digN n).toArray⟩) ∧ Below W.heap.size W w' := by
  intro n
  induction n using Nat.strongRecOn with
  | ind n ih =>
    intro hn W
    by_cases h : n < 10
    · rw [digN_one n h]
      have hI : (n : Int) < 10 := by omega
      have e48 : ((48 + n : Nat) : Int) = 48 + (n : Int) := by omega
      have hcv : (convert 39 9 (.slice (some ⟨W.heap.size, 0, none⟩) 1 1)).run Tryd.prog (W.alloc (.cells #[.int .u8 (48 + (n : Int))] 5)) = .ok (.string ⟨#[UInt8.ofNat (48 + n)]⟩) (W.alloc (.cells #[.int .u8 (48 + (n : Int))] 5)) := by
        rw [← e48]
        exact Buf.conv (Buf.made W #[.int .u8 ((48 + n : Nat) : Int)] [UInt8.ofNat (48 + n)] (by unfold byteCells; simp only [List.map_cons, List.map_nil]; rw [dig_toNat n h]) (by simp [maxLen]) (Nat.le_refl _))
      have hwr : IntKind.u8.wrap (48 + (n : Int)) = 48 + (n : Int) := by rw [IntKind.wrap_u8]; omega
      generalize (⟨#[UInt8.ofNat (48 + n)]⟩ : ByteArray) = db at hcv ⊢
      go_enter Tryd.func23, Tryd.ntmps23
      go_wp2
      go_ret
      exact ⟨rfl, below1 _ _⟩
    · have K1 := Lib.hid (fun w => ih (n / 10) (by omega) (by omega) w)
      have K2 := Lib.hid (fun w => ih (n % 10) (by omega) (by omega) w)
      have HJ := Lib.hid (digN_join n)
      rw [if_neg h] at HJ
      have hI : ¬ (n : Int) < 10 := by omega
      rw [show ((n / 10 : Nat) : Int) = (n : Int) / 10 by omega] at K1
      rw [show ((n % 10 : Nat) : Int) = (n : Int) % 10 by omega] at K2
      rw [HJ.out]
      clear HJ
      have z1 : (⟨(digN (n / 10)).toArray⟩ : ByteArray).size ≤ 16 := digN_len 15 (n / 10) (by simp; omega)
      have z2 : (⟨(digN (n % 10)).toArray⟩ : ByteArray).size ≤ 16 := digN_len 15 (n % 10) (by simp; omega)
      generalize (⟨(digN (n / 10)).toArray⟩ : ByteArray) = d1 at *
      generalize (⟨(digN (n % 10)).toArray⟩ : ByteArray) = d2 at *
      have tok : True := trivial
      go_enter Tryd.func23, Tryd.ntmps23
      go_wp2_with (first
        | (go_at_call 23; with_reducible refine (K1.out _).mono ?_; rintro e w1 ⟨rfl, hb1⟩)
        | (go_at_call 23; with_reducible refine (K2.out _).mono ?_; rintro e w2 ⟨rfl, hb2⟩))
      go_ret
      exact ⟨rfl, hb1.trans (hb2.mono hb1.size)⟩

end Go.Proofs.YtgcknlfpedanpaaDoor

namespace Go.Proofs.YtgcknlfpedanpaaDoor
open Go.RowKit
set_option linter.unusedVariables false

/-- Where the search for the first sign's end is. -/
def RelSn (s : ByteArray) (W : World) (n i : Value) (wr : World) : Prop :=
  ∃ m n0 : Nat, m ≤ 4 ∧ m ≤ s.size ∧ i = .int .i64 ((m + 1 : Nat) : Int) ∧ n = .int .i64 n0 ∧ Below W.heap.size W wr ∧
    ((∃ sg lf, n0 = 0 ∧ m ≤ 3 ∧ InvL (s.data.toList.take m) sg lf ∧ StU sg lf ∧ sgnL s.data.toList = sgnGo sg lf (s.data.toList.drop m) m) ∨
     (n0 ≠ 0 ∧ sgnL s.data.toList = n0) ∨
     (n0 = 0 ∧ 1 ≤ m ∧ sgnL s.data.toList = 0 ∧ (begR (s.data.toList.take m)).1 = false))
theorem part_zero (s : ByteArray) (m : Nat) (hm : m < s.size) : (s.extract 0 (m + 1)).data.toList = s.data.toList.take m ++ [s[m]] ∧ (s.extract 0 (m + 1)).data.toList = s.data.toList.take (m + 1) := by
  have h := part_snoc s 0 m (by omega) hm
  rw [List.drop_zero] at h
  refine ⟨h, ?_⟩
  rw [h]
  exact (List.take_succ_eq_append_getElem (show m < s.data.toList.length from hm)).symm

theorem conv_str13 (w : World) (s : ByteArray) : ∃ c w1, (convert 9 39 (.string s)).run Tryd.prog w = .ok (.slice (some ⟨w.heap.size, 0, none⟩) s.size c) w1 ∧
    Rd w1 w1.heap.size (some ⟨w.heap.size, 0, none⟩) s.size (byteCells s.data.toList) ∧ Below w.heap.size w w1 := by
  have hz := Lib.bytesWorld_size w 5 s
  refine ⟨_, _, Lib.run_convert_string_bytes w _ _ 5 s Tryd.underlying9 Tryd.underlying39 Tryd.underlying5, ⟨byteCells_length _, fun h => ⟨_, rfl, by rw [hz]; exact Nat.lt_succ_self _, fun j u hu => ?_⟩⟩,
    ⟨rfl, rfl, rfl, by rw [hz]; exact Nat.le_succ _, fun k hk => Lib.bytesWorld_at_old w _ s k hk⟩⟩
  have hj : j < s.size := by have := (List.getElem?_eq_some_iff.1 hu).1; rw [byteCells_length] at this; exact this
  rw [add_none, Nat.zero_add, Lib.bytesWorld_cell w _ s j hj]
  unfold byteCells at hu
  rw [List.getElem?_map, List.getElem?_eq_getElem (show j < s.data.toList.length from hj)] at hu
  rw [← hu]
  simp [hj]
/-- A sign's bytes, as a new slice. -/
def SgnEnd (l : List UInt8) (W : World) (e : Ending) (w' : World) : Prop :=
  ∃ g c, e = .returned (.tuple #[.slice (some ⟨g, 0, none⟩) (pieceM l (sgnL l)).length c, .int .i64 (goOn (sgnL l) : Nat)]) ∧ Rd w' w'.heap.size (some ⟨g, 0, none⟩) (pieceM l (sgnL l)).length (byteCells (pieceM l (sgnL l))) ∧ Below W.heap.size W w'
theorem head_is (s : ByteArray) (h : 0 < s.size) : s.data.toList = s[0] :: s.data.toList.drop 1 := by
  have := List.drop_eq_getElem_cons (l := s.data.toList) (i := 0) h
  rw [List.drop_zero] at this
  exact this

set_option maxRecDepth 100000 in
set_option maxHeartbeats 8000000 in
theorem sign13_any (s : ByteArray) (W : World) (h0 : 0 < s.size) (h9 : s.size ≤ 1000) :
    Calls Tryd.prog 24 #[.string s] W (SgnEnd s.data.toList W) := by
  have hsl : s.data.toList.length = s.size := rfl
  unfold SgnEnd
  go_enter Tryd.func24, Tryd.ntmps24
  go_upto_block 0 with fail
  go_cut [4, 5, 6, 7, 8] from 13 to 36 (fun n _ _ _ _ wc => n = .int .i64 (sgnL s.data.toList : Nat) ∧ Below W.heap.size W wc)
  case first =>
    go_wp2
    go_loopw [4, 5] (fun n i wr => RelSn s W n i wr) (fun _ i _ => 6 - (intOf i).toNat)
    case atStart => exact ⟨0, 0, by omega, by omega, rfl, rfl, Below.refl _ _, .inl ⟨0, 0, rfl, by omega, rfl, stU_zero, rfl⟩⟩
    case round =>
      obtain ⟨m, n0, hm4, hm, rfl, rfl, hb, hway⟩ := hrel
      by_cases hlt : m < s.size ∧ m < 4
      · obtain ⟨hl1, hl2⟩ := hlt
        obtain ⟨hp1, hp2⟩ := part_zero s m hl1
        have q1 : (m : Int) + 1 ≤ s.size := by omega
        have q2 : (m : Int) + 1 ≤ 4 := by omega
        have q3 : m + 1 ≤ s.size := by omega
        have hz1 : 0 < (s.extract 0 (m + 1)).size := by rw [ByteArray.size_extract]; omega
        rcases hway with ⟨sg, lf, rfl, hm3, hinv, hst, hsg⟩ | ⟨hj, hsg⟩ | ⟨rfl, hm1, hsg, hbg⟩
        · rw [sgnGo_cons _ _ _ _ _ (show m < s.data.toList.length from hl1), show s.data.toList[m] = s[m] from rfl] at hsg
          by_cases hok : okU sg lf s[m].toNat = true
          · have hst' := stU_step hst (Int.natCast_nonneg _) hok
            have hinv' := invL_step hinv hok
            rw [if_pos hok] at hsg
            by_cases hz : lfU lf s[m].toNat = 0
            · have HB := Lib.hid (fun w => rbegins_step _ _ _ _ _ hp1 hinv w (x := true) (y := true) (z := sgU sg lf s[m].toNat) (by unfold ansU; rw [if_pos hok, if_pos hz]))
              rw [if_pos hz] at hsg
              have HS := Lib.hid hsg
              clear hinv' hinv hsg hp1 hp2 hok hz hst hst' hsl
              go_wp2_with (go_at_call 31; refine (HB.out _).mono ?_; rintro e w' ⟨rfl, hb2⟩)
              go_roundw
              case rel => exact ⟨m + 1, m + 1, by omega, by omega, by go_num, by go_num, hb.trans (hb2.mono hb.size), .inr (.inl ⟨by omega, HS.out⟩)⟩
              case measure => simp [intOf]; omega
            · have HB := Lib.hid (fun w => rbegins_step _ _ _ _ _ hp1 hinv w (x := true) (y := false) (z := 0) (by unfold ansU; rw [if_pos hok, if_neg hz]))
              rw [if_neg hz] at hsg hinv'
              rw [← hp1, hp2] at hinv'
              have hi3 := (invL_len hinv').1
              rw [List.length_take] at hi3
              have hi3' : m + 1 ≤ 3 := by omega
              have HS := Lib.hid hsg
              have HI := Lib.hid hinv'
              have HT := Lib.hid hst'
              clear hinv' hinv hsg hp1 hp2 hok hz hst hst' hsl hi3
              go_wp2_with (go_at_call 31; refine (HB.out _).mono ?_; rintro e w' ⟨rfl, hb2⟩)
              go_roundw
              case rel => exact ⟨m + 1, 0, by omega, by omega, by go_num, rfl, hb.trans (hb2.mono hb.size), .inl ⟨_, _, rfl, hi3', HI.out, HT.out, HS.out⟩⟩
              case measure => simp [intOf]; omega
          · have HB := Lib.hid (fun w => rbegins_step _ _ _ _ _ hp1 hinv w (x := false) (y := false) (z := 0) (by unfold ansU; rw [if_neg hok]))
            rw [if_neg hok] at hsg
            have hbg := beg_any (s.data.toList.take m) s[m] sg lf hinv
            rw [← hp1, hp2] at hbg
            have HG := Lib.hid (show (begR (s.data.toList.take (m + 1))).1 = false by rw [hbg]; unfold ansU; rw [if_neg hok])
            have HS := Lib.hid hsg
            clear hinv hsg hp1 hp2 hok hst hsl hbg
            go_wp2_with (go_at_call 31; refine (HB.out _).mono ?_; rintro e w' ⟨rfl, hb2⟩)
            go_roundw
            case rel => exact ⟨m + 1, 0, by omega, by omega, by go_num, rfl, hb.trans (hb2.mono hb.size), .inr (.inr ⟨rfl, by omega, HS.out, HG.out⟩)⟩
            case measure => simp [intOf]; omega
        · have HB := Lib.hid (fun w => rbegins_any (s.extract 0 (m + 1)) w hz1)
          obtain ⟨x, y, z, hx⟩ : ∃ x y z, begR (s.extract 0 (m + 1)).data.toList = (x, y, z) := ⟨_, _, _, rfl⟩
          rw [hx] at HB
          have gj : ((n0 : Int) == 0) = false := beq_eq_false_iff_ne.2 (by omega)
          have HS := Lib.hid hsg
          clear hsg hp1 hp2 hsl hx
          cases y
          all_goals
            go_wp2_with (go_at_call 31; refine (HB.out _).mono ?_; rintro e w' ⟨rfl, hb2⟩)
            go_roundw
            case rel => exact ⟨m + 1, n0, by omega, by omega, by go_num, rfl, hb.trans (hb2.mono hb.size), .inr (.inl ⟨hj, HS.out⟩)⟩
            case measure => simp [intOf]; omega
        · have HB := Lib.hid (fun w => rbegins_any (s.extract 0 (m + 1)) w hz1)
          have hd : begR (s.extract 0 (m + 1)).data.toList = (false, false, 0) := by
            rw [hp1]
            refine beg_dead _ _ (fun e => ?_) hbg
            have := congrArg List.length e
            rw [List.length_take, List.length_nil] at this
            omega
          rw [hd] at HB
          rw [hp2] at hd
          have HG := Lib.hid (show (begR (s.data.toList.take (m + 1))).1 = false by rw [hd])
          have HS := Lib.hid hsg
          clear hsg hp1 hp2 hsl hd hbg
          go_wp2_with (go_at_call 31; refine (HB.out _).mono ?_; rintro e w' ⟨rfl, hb2⟩)
          go_roundw
          case rel => exact ⟨m + 1, 0, by omega, by omega, by go_num, rfl, hb.trans (hb2.mono hb.size), .inr (.inr ⟨rfl, by omega, HS.out, HG.out⟩)⟩
          case measure => simp [intOf]; omega
      · have hn0 : sgnL s.data.toList = n0 := by
          rcases hway with ⟨sg, lf, rfl, hm3, hinv, hst, hsg⟩ | ⟨hj, hsg⟩ | ⟨rfl, hm1, hsg, hbg⟩
          · rw [hsg, List.drop_of_length_le (by rw [hsl]; omega)]
            rfl
          · exact hsg
          · exact hsg
        have HN := Lib.hid hn0
        clear hway hn0 hsl
        by_cases hs1 : m < s.size
        · have q1 : (m : Int) + 1 ≤ s.size := by omega
          have q2 : ¬ (m : Int) + 1 ≤ 4 := by omega
          go_wp2
          go_meet
          case rel => exact ⟨by rw [HN.out], hb⟩
        · have q1 : ¬ (m : Int) + 1 ≤ s.size := by omega
          go_wp2
          go_meet
          case rel => exact ⟨by rw [HN.out], hb⟩
  case rest =>
  obtain ⟨rfl, hb0⟩ := hcut
  generalize hn : sgnL s.data.toList = n at *
  have hhd := head_is s h0
  by_cases hz : n = 0
  · subst hz
    have hpc : pieceM s.data.toList 0 = stranger := by rw [hhd, pieceM_cons, if_pos rfl]
    have HR := Lib.hid (fun w => lit_rd w #[.int .u8 239, .int .u8 191, .int .u8 189] stranger rfl)
    have HPC := Lib.hid hpc
    have HN := Lib.hid hn
    clear hpc hhd hn hsl
    go_wp2
    go_ret2
    (try rw [HN.out])
    rw [HPC.out]
    exact ⟨_, _, rfl, (HR.out _).more (by simp), hb0.alloc hb0.size _⟩
  have gz : ((n : Int) == 0) = false := beq_eq_false_iff_ne.2 (by omega)
  have HGO := Lib.hid (show goOn n = n from if_neg hz)
  have HN := Lib.hid hn
  have hnl := (sgnL_take hn hz []).2.2
  rw [hsl] at hnl
  have hsz : (s.extract 0 n).size = n := by rw [ByteArray.size_extract]; omega
  have hdt : (s.extract 0 n).data.toList = s.data.toList.take n := by
    have := part_is s 0 n
    rwa [List.drop_zero, Nat.zero_add] at this
  have HCV := Lib.hid (fun w => conv_str13 w (s.extract 0 n))
  rw [hsz, hdt] at HCV
  have q0 : n ≤ s.size := hnl
  by_cases hn1 : n = 1
  · subst hn1
    have hpc : pieceM s.data.toList 1 = if escN s[0] ≠ 0 then [92, escN s[0]] else if s[0].toNat < 32 then ctlN s[0] else [s[0]] := by
      rw [hhd, pieceM_cons, if_neg (by decide)]
      rfl
    by_cases he : escN s[0] ≠ 0
    · rw [if_pos he] at hpc
      have hc := escN_cases he
      clear hhd hn hsl hdt hsz he HCV
      rcases hc with hc | hc | hc | hc | hc | hc | hc
      · have hcI : (s[0].toNat : Int) = 8 := by rw [hc]; rfl
        have hE : [92, escN s[0]] = [92, 98] := by rw [hc]; rfl
        have HR := Lib.hid (fun w => lit_rd w #[.int .u8 92, .int .u8 98] [92, 98] rfl)
        have HPC := Lib.hid (hpc.trans hE)
        clear hE hc hpc
        go_wp2_with (go_at_call 36; refine (letters13_any _).mono ?_; rintro e w3 ⟨rfl, o1, o2, hb3, hlt3⟩; have HO1 := Lib.hid o1; have HO2 := Lib.hid o2; have HB3 := Lib.hid (hb0.trans (hb3.mono hb0.size)); clear o1 o2 hb3)
        have f0 := HO1.out.at 0
        have g0 := HO2.out.at 0
        have f1 := HO1.out.at 1
        have g1 := HO2.out.at 1
        have f2 := HO1.out.at 2
        have g2 := HO2.out.at 2
        have f3 := HO1.out.at 3
        have g3 := HO2.out.at 3
        have f4 := HO1.out.at 4
        have g4 := HO2.out.at 4
        have f5 := HO1.out.at 5
        have g5 := HO2.out.at 5
        have f6 := HO1.out.at 6
        have g6 := HO2.out.at 6
        simp [byteCells, fromL] at f0 f1 f2 f3 f4 f5 f6
        simp [byteCells, toL] at g0 g1 g2 g3 g4 g5 g6
        have qq1 : ((s[0].toNat : Int) == 8) = true := by rw [hcI]; rfl
        clear hcI
        refine wp_loop_rounds 8 ?_
        rw [rounds_succ]; go_wp2
        go_ret2
        (try rw [HN.out])
        rw [HPC.out, HGO.out]
        exact ⟨_, _, rfl, (HR.out _).more (by simp), HB3.out.alloc HB3.out.size _⟩
      · have hcI : (s[0].toNat : Int) = 9 := by rw [hc]; rfl
        have hE : [92, escN s[0]] = [92, 116] := by rw [hc]; rfl
        have HR := Lib.hid (fun w => lit_rd w #[.int .u8 92, .int .u8 116] [92, 116] rfl)
        have HPC := Lib.hid (hpc.trans hE)
        clear hE hc hpc
        go_wp2_with (go_at_call 36; refine (letters13_any _).mono ?_; rintro e w3 ⟨rfl, o1, o2, hb3, hlt3⟩; have HO1 := Lib.hid o1; have HO2 := Lib.hid o2; have HB3 := Lib.hid (hb0.trans (hb3.mono hb0.size)); clear o1 o2 hb3)
        have f0 := HO1.out.at 0
        have g0 := HO2.out.at 0
        have f1 := HO1.out.at 1
        have g1 := HO2.out.at 1
        have f2 := HO1.out.at 2
        have g2 := HO2.out.at 2
        have f3 := HO1.out.at 3
        have g3 := HO2.out.at 3
        have f4 := HO1.out.at 4
        have g4 := HO2.out.at 4
        have f5 := HO1.out.at 5
        have g5 := HO2.out.at 5
        have f6 := HO1.out.at 6
        have g6 := HO2.out.at 6
        simp [byteCells, fromL] at f0 f1 f2 f3 f4 f5 f6
        simp [byteCells, toL] at g0 g1 g2 g3 g4 g5 g6
        have q01 : ((s[0].toNat : Int) == 8) = false := by rw [hcI]; rfl
        have qq1 : ((s[0].toNat : Int) == 9) = true := by rw [hcI]; rfl
        clear hcI
        refine wp_loop_rounds 8 ?_
        rw [rounds_succ]; go_wp2
        rw [rounds_succ]; go_wp2
        go_ret2
        (try rw [HN.out])
        rw [HPC.out, HGO.out]
        exact ⟨_, _, rfl, (HR.out _).more (by simp), HB3.out.alloc HB3.out.size _⟩
      · have hcI : (s[0].toNat : Int) = 10 := by rw [hc]; rfl
        have hE : [92, escN s[0]] = [92, 110] := by rw [hc]; rfl
        have HR := Lib.hid (fun w => lit_rd w #[.int .u8 92, .int .u8 110] [92, 110] rfl)
        have HPC := Lib.hid (hpc.trans hE)
        clear hE hc hpc
        go_wp2_with (go_at_call 36; refine (letters13_any _).mono ?_; rintro e w3 ⟨rfl, o1, o2, hb3, hlt3⟩; have HO1 := Lib.hid o1; have HO2 := Lib.hid o2; have HB3 := Lib.hid (hb0.trans (hb3.mono hb0.size)); clear o1 o2 hb3)
        have f0 := HO1.out.at 0
        have g0 := HO2.out.at 0
        have f1 := HO1.out.at 1
        have g1 := HO2.out.at 1
        have f2 := HO1.out.at 2
        have g2 := HO2.out.at 2
        have f3 := HO1.out.at 3
        have g3 := HO2.out.at 3
        have f4 := HO1.out.at 4
        have g4 := HO2.out.at 4
        have f5 := HO1.out.at 5
        have g5 := HO2.out.at 5
        have f6 := HO1.out.at 6
        have g6 := HO2.out.at 6
        simp [byteCells, fromL] at f0 f1 f2 f3 f4 f5 f6
        simp [byteCells, toL] at g0 g1 g2 g3 g4 g5 g6
        have q01 : ((s[0].toNat : Int) == 8) = false := by rw [hcI]; rfl
        have q11 : ((s[0].toNat : Int) == 9) = false := by rw [hcI]; rfl
        have qq1 : ((s[0].toNat : Int) == 10) = true := by rw [hcI]; rfl
        clear hcI
        refine wp_loop_rounds 8 ?_
        rw [rounds_succ]; go_wp2
        rw [rounds_succ]; go_wp2
        rw [rounds_succ]; go_wp2
        go_ret2
        (try rw [HN.out])
        rw [HPC.out, HGO.out]
        exact ⟨_, _, rfl, (HR.out _).more (by simp), HB3.out.alloc HB3.out.size _⟩
      · have hcI : (s[0].toNat : Int) = 12 := by rw [hc]; rfl
        have hE : [92, escN s[0]] = [92, 102] := by rw [hc]; rfl
        have HR := Lib.hid (fun w => lit_rd w #[.int .u8 92, .int .u8 102] [92, 102] rfl)
        have HPC := Lib.hid (hpc.trans hE)
        clear hE hc hpc
        go_wp2_with (go_at_call 36; refine (letters13_any _).mono ?_; rintro e w3 ⟨rfl, o1, o2, hb3, hlt3⟩; have HO1 := Lib.hid o1; have HO2 := Lib.hid o2; have HB3 := Lib.hid (hb0.trans (hb3.mono hb0.size)); clear o1 o2 hb3)
        have f0 := HO1.out.at 0
        have g0 := HO2.out.at 0
        have f1 := HO1.out.at 1
        have g1 := HO2.out.at 1
        have f2 := HO1.out.at 2
        have g2 := HO2.out.at 2
        have f3 := HO1.out.at 3
        have g3 := HO2.out.at 3
        have f4 := HO1.out.at 4
        have g4 := HO2.out.at 4
        have f5 := HO1.out.at 5
        have g5 := HO2.out.at 5
        have f6 := HO1.out.at 6
        have g6 := HO2.out.at 6
        simp [byteCells, fromL] at f0 f1 f2 f3 f4 f5 f6
        simp [byteCells, toL] at g0 g1 g2 g3 g4 g5 g6
        have q01 : ((s[0].toNat : Int) == 8) = false := by rw [hcI]; rfl
        have q11 : ((s[0].toNat : Int) == 9) = false := by rw [hcI]; rfl
        have q21 : ((s[0].toNat : Int) == 10) = false := by rw [hcI]; rfl
        have qq1 : ((s[0].toNat : Int) == 12) = true := by rw [hcI]; rfl
        clear hcI
        refine wp_loop_rounds 8 ?_
        rw [rounds_succ]; go_wp2
        rw [rounds_succ]; go_wp2
        rw [rounds_succ]; go_wp2
        rw [rounds_succ]; go_wp2
        go_ret2
        (try rw [HN.out])
        rw [HPC.out, HGO.out]
        exact ⟨_, _, rfl, (HR.out _).more (by simp), HB3.out.alloc HB3.out.size _⟩
      · have hcI : (s[0].toNat : Int) = 13 := by rw [hc]; rfl
        have hE : [92, escN s[0]] = [92, 114] := by rw [hc]; rfl
        have HR := Lib.hid (fun w => lit_rd w #[.int .u8 92, .int .u8 114] [92, 114] rfl)
        have HPC := Lib.hid (hpc.trans hE)
        clear hE hc hpc
        go_wp2_with (go_at_call 36; refine (letters13_any _).mono ?_; rintro e w3 ⟨rfl, o1, o2, hb3, hlt3⟩; have HO1 := Lib.hid o1; have HO2 := Lib.hid o2; have HB3 := Lib.hid (hb0.trans (hb3.mono hb0.size)); clear o1 o2 hb3)
        have f0 := HO1.out.at 0
        have g0 := HO2.out.at 0
        have f1 := HO1.out.at 1
        have g1 := HO2.out.at 1
        have f2 := HO1.out.at 2
        have g2 := HO2.out.at 2
        have f3 := HO1.out.at 3
        have g3 := HO2.out.at 3
        have f4 := HO1.out.at 4
        have g4 := HO2.out.at 4
        have f5 := HO1.out.at 5
        have g5 := HO2.out.at 5
        have f6 := HO1.out.at 6
        have g6 := HO2.out.at 6
        simp [byteCells, fromL] at f0 f1 f2 f3 f4 f5 f6
        simp [byteCells, toL] at g0 g1 g2 g3 g4 g5 g6
        have q01 : ((s[0].toNat : Int) == 8) = false := by rw [hcI]; rfl
        have q11 : ((s[0].toNat : Int) == 9) = false := by rw [hcI]; rfl
        have q21 : ((s[0].toNat : Int) == 10) = false := by rw [hcI]; rfl
        have q31 : ((s[0].toNat : Int) == 12) = false := by rw [hcI]; rfl
        have qq1 : ((s[0].toNat : Int) == 13) = true := by rw [hcI]; rfl
        clear hcI
        refine wp_loop_rounds 8 ?_
        rw [rounds_succ]; go_wp2
        rw [rounds_succ]; go_wp2
        rw [rounds_succ]; go_wp2
        rw [rounds_succ]; go_wp2
        rw [rounds_succ]; go_wp2
        go_ret2
        (try rw [HN.out])
        rw [HPC.out, HGO.out]
        exact ⟨_, _, rfl, (HR.out _).more (by simp), HB3.out.alloc HB3.out.size _⟩
      · have hcI : (s[0].toNat : Int) = 39 := by rw [hc]; rfl
        have hE : [92, escN s[0]] = [92, 39] := by rw [hc]; rfl
        have HR := Lib.hid (fun w => lit_rd w #[.int .u8 92, .int .u8 39] [92, 39] rfl)
        have HPC := Lib.hid (hpc.trans hE)
        clear hE hc hpc
        go_wp2_with (go_at_call 36; refine (letters13_any _).mono ?_; rintro e w3 ⟨rfl, o1, o2, hb3, hlt3⟩; have HO1 := Lib.hid o1; have HO2 := Lib.hid o2; have HB3 := Lib.hid (hb0.trans (hb3.mono hb0.size)); clear o1 o2 hb3)
        have f0 := HO1.out.at 0
        have g0 := HO2.out.at 0
        have f1 := HO1.out.at 1
        have g1 := HO2.out.at 1
        have f2 := HO1.out.at 2
        have g2 := HO2.out.at 2
        have f3 := HO1.out.at 3
        have g3 := HO2.out.at 3
        have f4 := HO1.out.at 4
        have g4 := HO2.out.at 4
        have f5 := HO1.out.at 5
        have g5 := HO2.out.at 5
        have f6 := HO1.out.at 6
        have g6 := HO2.out.at 6
        simp [byteCells, fromL] at f0 f1 f2 f3 f4 f5 f6
        simp [byteCells, toL] at g0 g1 g2 g3 g4 g5 g6
        have q01 : ((s[0].toNat : Int) == 8) = false := by rw [hcI]; rfl
        have q11 : ((s[0].toNat : Int) == 9) = false := by rw [hcI]; rfl
        have q21 : ((s[0].toNat : Int) == 10) = false := by rw [hcI]; rfl
        have q31 : ((s[0].toNat : Int) == 12) = false := by rw [hcI]; rfl
        have q41 : ((s[0].toNat : Int) == 13) = false := by rw [hcI]; rfl
        have qq1 : ((s[0].toNat : Int) == 39) = true := by rw [hcI]; rfl
        clear hcI
        refine wp_loop_rounds 8 ?_
        rw [rounds_succ]; go_wp2
        rw [rounds_succ]; go_wp2
        rw [rounds_succ]; go_wp2
        rw [rounds_succ]; go_wp2
        rw [rounds_succ]; go_wp2
        rw [rounds_succ]; go_wp2
        go_ret2
        (try rw [HN.out])
        rw [HPC.out, HGO.out]
        exact ⟨_, _, rfl, (HR.out _).more (by simp), HB3.out.alloc HB3.out.size _⟩
      · have hcI : (s[0].toNat : Int) = 92 := by rw [hc]; rfl
        have hE : [92, escN s[0]] = [92, 92] := by rw [hc]; rfl
        have HR := Lib.hid (fun w => lit_rd w #[.int .u8 92, .int .u8 92] [92, 92] rfl)
        have HPC := Lib.hid (hpc.trans hE)
        clear hE hc hpc
        go_wp2_with (go_at_call 36; refine (letters13_any _).mono ?_; rintro e w3 ⟨rfl, o1, o2, hb3, hlt3⟩; have HO1 := Lib.hid o1; have HO2 := Lib.hid o2; have HB3 := Lib.hid (hb0.trans (hb3.mono hb0.size)); clear o1 o2 hb3)
        have f0 := HO1.out.at 0
        have g0 := HO2.out.at 0
        have f1 := HO1.out.at 1
        have g1 := HO2.out.at 1
        have f2 := HO1.out.at 2
        have g2 := HO2.out.at 2
        have f3 := HO1.out.at 3
        have g3 := HO2.out.at 3
        have f4 := HO1.out.at 4
        have g4 := HO2.out.at 4
        have f5 := HO1.out.at 5
        have g5 := HO2.out.at 5
        have f6 := HO1.out.at 6
        have g6 := HO2.out.at 6
        simp [byteCells, fromL] at f0 f1 f2 f3 f4 f5 f6
        simp [byteCells, toL] at g0 g1 g2 g3 g4 g5 g6
        have q01 : ((s[0].toNat : Int) == 8) = false := by rw [hcI]; rfl
        have q11 : ((s[0].toNat : Int) == 9) = false := by rw [hcI]; rfl
        have q21 : ((s[0].toNat : Int) == 10) = false := by rw [hcI]; rfl
        have q31 : ((s[0].toNat : Int) == 12) = false := by rw [hcI]; rfl
        have q41 : ((s[0].toNat : Int) == 13) = false := by rw [hcI]; rfl
        have q51 : ((s[0].toNat : Int) == 39) = false := by rw [hcI]; rfl
        have qq1 : ((s[0].toNat : Int) == 92) = true := by rw [hcI]; rfl
        clear hcI
        refine wp_loop_rounds 8 ?_
        rw [rounds_succ]; go_wp2
        rw [rounds_succ]; go_wp2
        rw [rounds_succ]; go_wp2
        rw [rounds_succ]; go_wp2
        rw [rounds_succ]; go_wp2
        rw [rounds_succ]; go_wp2
        rw [rounds_succ]; go_wp2
        go_ret2
        (try rw [HN.out])
        rw [HPC.out, HGO.out]
        exact ⟨_, _, rfl, (HR.out _).more (by simp), HB3.out.alloc HB3.out.size _⟩
    · rw [if_neg he] at hpc
      have he := Classical.not_not.1 he
      by_cases h32 : s[0].toNat < 32
      · rw [if_pos h32] at hpc
        have h32I : (s[0].toNat : Int) < 32 := by omega
        have KL1 := Lib.hid (fun w => rlowerN_any (s[0].toNat / 16) (by omega) w)
        have KL2 := Lib.hid (fun w => rlowerN_any (s[0].toNat % 16) (by omega) w)
        rw [show ((s[0].toNat / 16 : Nat) : Int) = (s[0].toNat : Int) / 16 by omega] at KL1
        rw [show ((s[0].toNat % 16 : Nat) : Int) = (s[0].toNat : Int) % 16 by omega] at KL2
        have hc8 : s[0].toNat ≤ 255 := by have := UInt8.toNat_lt s[0]; omega
        have e1 : IntKind.i64.wrap (s[0].toNat : Int) = s[0].toNat := by rw [IntKind.wrap_i64]; omega
        have e2 : (s[0].toNat : Int).tdiv 16 = (s[0].toNat : Int) / 16 := Int.tdiv_eq_ediv_of_nonneg (by omega)
        have e3 : IntKind.i64.wrap ((s[0].toNat : Int) / 16) = (s[0].toNat : Int) / 16 := by rw [IntKind.wrap_i64]; omega
        have e4 : (s[0].toNat : Int).tmod 16 = (s[0].toNat : Int) % 16 := Int.tmod_eq_emod_of_nonneg (by omega)
        have e5 : IntKind.i64.wrap ((s[0].toNat : Int) % 16) = (s[0].toNat : Int) % 16 := by rw [IntKind.wrap_i64]; omega
        have HR := Lib.hid (fun w => lit_rd w #[.int .u8 92, .int .u8 117, .int .u8 48, .int .u8 48, .int .u8 (lowB (s[0].toNat / 16)).toNat, .int .u8 (lowB (s[0].toNat % 16)).toNat] (ctlN s[0]) rfl)
        have hct : (ctlN s[0]).length = 6 := rfl
        rw [hct] at HR
        have HPC := Lib.hid hpc
        go_wp2_with (go_at_call 36; refine (letters13_any _).mono ?_; rintro e w3 ⟨rfl, o1, o2, hb3, hlt3⟩; have HO1 := Lib.hid o1; have HO2 := Lib.hid o2; have HB3 := Lib.hid (hb0.trans (hb3.mono hb0.size)); clear o1 o2 hb3)
        have f0 := HO1.out.at 0
        have g0 := HO2.out.at 0
        have f1 := HO1.out.at 1
        have g1 := HO2.out.at 1
        have f2 := HO1.out.at 2
        have g2 := HO2.out.at 2
        have f3 := HO1.out.at 3
        have g3 := HO2.out.at 3
        have f4 := HO1.out.at 4
        have g4 := HO2.out.at 4
        have f5 := HO1.out.at 5
        have g5 := HO2.out.at 5
        have f6 := HO1.out.at 6
        have g6 := HO2.out.at 6
        simp [byteCells, fromL] at f0 f1 f2 f3 f4 f5 f6
        simp [byteCells, toL] at g0 g1 g2 g3 g4 g5 g6
        have q01 : ((s[0].toNat : Int) == 8) = false := beq_eq_false_iff_ne.2 (fun e => by have e2 : s[0] = 8 := UInt8.toNat_inj.1 (by rw [show ((8 : UInt8).toNat) = 8 from rfl]; omega); rw [e2] at he; exact absurd he (by decide))
        have q11 : ((s[0].toNat : Int) == 9) = false := beq_eq_false_iff_ne.2 (fun e => by have e2 : s[0] = 9 := UInt8.toNat_inj.1 (by rw [show ((9 : UInt8).toNat) = 9 from rfl]; omega); rw [e2] at he; exact absurd he (by decide))
        have q21 : ((s[0].toNat : Int) == 10) = false := beq_eq_false_iff_ne.2 (fun e => by have e2 : s[0] = 10 := UInt8.toNat_inj.1 (by rw [show ((10 : UInt8).toNat) = 10 from rfl]; omega); rw [e2] at he; exact absurd he (by decide))
        have q31 : ((s[0].toNat : Int) == 12) = false := beq_eq_false_iff_ne.2 (fun e => by have e2 : s[0] = 12 := UInt8.toNat_inj.1 (by rw [show ((12 : UInt8).toNat) = 12 from rfl]; omega); rw [e2] at he; exact absurd he (by decide))
        have q41 : ((s[0].toNat : Int) == 13) = false := beq_eq_false_iff_ne.2 (fun e => by have e2 : s[0] = 13 := UInt8.toNat_inj.1 (by rw [show ((13 : UInt8).toNat) = 13 from rfl]; omega); rw [e2] at he; exact absurd he (by decide))
        have q51 : ((s[0].toNat : Int) == 39) = false := beq_eq_false_iff_ne.2 (fun e => by have e2 : s[0] = 39 := UInt8.toNat_inj.1 (by rw [show ((39 : UInt8).toNat) = 39 from rfl]; omega); rw [e2] at he; exact absurd he (by decide))
        have q61 : ((s[0].toNat : Int) == 92) = false := beq_eq_false_iff_ne.2 (fun e => by have e2 : s[0] = 92 := UInt8.toNat_inj.1 (by rw [show ((92 : UInt8).toNat) = 92 from rfl]; omega); rw [e2] at he; exact absurd he (by decide))
        clear hhd hn hsl hdt hsz he hct HCV hpc
        refine wp_loop_rounds 8 ?_
        rw [rounds_succ]; go_wp2
        rw [rounds_succ]; go_wp2
        rw [rounds_succ]; go_wp2
        rw [rounds_succ]; go_wp2
        rw [rounds_succ]; go_wp2
        rw [rounds_succ]; go_wp2
        rw [rounds_succ]; go_wp2
        rw [rounds_succ]
        go_upto_region 18 with fail
        clear q01 q11 q21 q31 q41 q51 q61 f0 f1 f2 f3 f4 f5 f6 g0 g1 g2 g3 g4 g5 g6
        go_region_with (first
          | (go_at_call 37; with_reducible refine (KL1.out _).mono ?_; rintro e w' ⟨rfl, rfl⟩)
          | (go_at_call 37; with_reducible refine (KL2.out _).mono ?_; rintro e w' ⟨rfl, rfl⟩))
        all_goals
          go_wp2
          go_ret2
          (try rw [HN.out])
          rw [HPC.out, HGO.out]
          exact ⟨_, _, rfl, (HR.out _).more (by simp), HB3.out.drew.alloc HB3.out.size _⟩
      · rw [if_neg h32] at hpc
        have HPC := Lib.hid hpc
        have h32I : ¬ (s[0].toNat : Int) < 32 := by omega
        have htk : s.data.toList.take 1 = [s[0]] := by rw [hhd]; rfl
        rw [htk] at HCV
        go_wp2_with (go_at_call 36; refine (letters13_any _).mono ?_; rintro e w3 ⟨rfl, o1, o2, hb3, hlt3⟩; have HO1 := Lib.hid o1; have HO2 := Lib.hid o2; have HB3 := Lib.hid (hb0.trans (hb3.mono hb0.size)); clear o1 o2 hb3)
        have f0 := HO1.out.at 0
        have g0 := HO2.out.at 0
        have f1 := HO1.out.at 1
        have g1 := HO2.out.at 1
        have f2 := HO1.out.at 2
        have g2 := HO2.out.at 2
        have f3 := HO1.out.at 3
        have g3 := HO2.out.at 3
        have f4 := HO1.out.at 4
        have g4 := HO2.out.at 4
        have f5 := HO1.out.at 5
        have g5 := HO2.out.at 5
        have f6 := HO1.out.at 6
        have g6 := HO2.out.at 6
        simp [byteCells, fromL] at f0 f1 f2 f3 f4 f5 f6
        simp [byteCells, toL] at g0 g1 g2 g3 g4 g5 g6
        have q01 : ((s[0].toNat : Int) == 8) = false := beq_eq_false_iff_ne.2 (fun e => by have e2 : s[0] = 8 := UInt8.toNat_inj.1 (by rw [show ((8 : UInt8).toNat) = 8 from rfl]; omega); rw [e2] at he; exact absurd he (by decide))
        have q11 : ((s[0].toNat : Int) == 9) = false := beq_eq_false_iff_ne.2 (fun e => by have e2 : s[0] = 9 := UInt8.toNat_inj.1 (by rw [show ((9 : UInt8).toNat) = 9 from rfl]; omega); rw [e2] at he; exact absurd he (by decide))
        have q21 : ((s[0].toNat : Int) == 10) = false := beq_eq_false_iff_ne.2 (fun e => by have e2 : s[0] = 10 := UInt8.toNat_inj.1 (by rw [show ((10 : UInt8).toNat) = 10 from rfl]; omega); rw [e2] at he; exact absurd he (by decide))
        have q31 : ((s[0].toNat : Int) == 12) = false := beq_eq_false_iff_ne.2 (fun e => by have e2 : s[0] = 12 := UInt8.toNat_inj.1 (by rw [show ((12 : UInt8).toNat) = 12 from rfl]; omega); rw [e2] at he; exact absurd he (by decide))
        have q41 : ((s[0].toNat : Int) == 13) = false := beq_eq_false_iff_ne.2 (fun e => by have e2 : s[0] = 13 := UInt8.toNat_inj.1 (by rw [show ((13 : UInt8).toNat) = 13 from rfl]; omega); rw [e2] at he; exact absurd he (by decide))
        have q51 : ((s[0].toNat : Int) == 39) = false := beq_eq_false_iff_ne.2 (fun e => by have e2 : s[0] = 39 := UInt8.toNat_inj.1 (by rw [show ((39 : UInt8).toNat) = 39 from rfl]; omega); rw [e2] at he; exact absurd he (by decide))
        have q61 : ((s[0].toNat : Int) == 92) = false := beq_eq_false_iff_ne.2 (fun e => by have e2 : s[0] = 92 := UInt8.toNat_inj.1 (by rw [show ((92 : UInt8).toNat) = 92 from rfl]; omega); rw [e2] at he; exact absurd he (by decide))
        obtain ⟨c9, w9, cv9, rd9, hb9⟩ := HCV.out w3
        have HR9 := Lib.hid rd9
        have HB9 := Lib.hid (HB3.out.trans (hb9.mono HB3.out.size))
        clear hhd hn hsl hdt hsz he HCV htk rd9 hb9 hpc
        refine wp_loop_rounds 8 ?_
        rw [rounds_succ]; go_wp2
        rw [rounds_succ]; go_wp2
        rw [rounds_succ]; go_wp2
        rw [rounds_succ]; go_wp2
        rw [rounds_succ]; go_wp2
        rw [rounds_succ]; go_wp2
        rw [rounds_succ]; go_wp2
        rw [rounds_succ]; go_wp2
        go_ret2
        (try rw [HN.out])
        rw [HPC.out, HGO.out]
        exact ⟨_, _, rfl, HR9.out, HB9.out⟩
  · have gn : ((n : Int) == 1) = false := beq_eq_false_iff_ne.2 (by omega)
    have hlong : 128 ≤ s[0].toNat := by
      have hd : s.data.toList.drop 0 = s.data.toList := List.drop_zero
      exact sgn_long s.data.toList 0 n h0 (by rw [hd]; exact hn) (by omega)
    have hpc : pieceM s.data.toList n = s.data.toList.take n := by
      have he : escN s[0] = 0 := by
        by_cases he : escN s[0] = 0
        · exact he
        · exfalso
          rcases escN_cases he with e | e | e | e | e | e | e <;> rw [e] at hlong <;> revert hlong <;> decide
      rw [hhd, pieceM_cons, if_neg hz, if_neg (by simp [he]), if_neg (by omega)]
    have hlen : (pieceM s.data.toList n).length = n := by rw [hpc, List.length_take]; omega
    have HPC := Lib.hid hpc
    have HLN := Lib.hid hlen
    go_wp2_with (go_at_call 36; refine (letters13_any _).mono ?_; rintro e w3 ⟨rfl, o1, o2, hb3, hlt3⟩; have HO1 := Lib.hid o1; have HO2 := Lib.hid o2; have HB3 := Lib.hid (hb0.trans (hb3.mono hb0.size)); clear o1 o2 hb3)
    have f0 := HO1.out.at 0
    have g0 := HO2.out.at 0
    have f1 := HO1.out.at 1
    have g1 := HO2.out.at 1
    have f2 := HO1.out.at 2
    have g2 := HO2.out.at 2
    have f3 := HO1.out.at 3
    have g3 := HO2.out.at 3
    have f4 := HO1.out.at 4
    have g4 := HO2.out.at 4
    have f5 := HO1.out.at 5
    have g5 := HO2.out.at 5
    have f6 := HO1.out.at 6
    have g6 := HO2.out.at 6
    simp [byteCells, fromL] at f0 f1 f2 f3 f4 f5 f6
    simp [byteCells, toL] at g0 g1 g2 g3 g4 g5 g6
    obtain ⟨c9, w9, cv9, rd9, hb9⟩ := HCV.out w3
    have HR9 := Lib.hid rd9
    have HB9 := Lib.hid (HB3.out.trans (hb9.mono HB3.out.size))
    clear hhd hn hsl hdt hsz HCV hpc hlen hlong rd9 hb9
    refine wp_loop_rounds 8 ?_
    rw [rounds_succ]; go_wp2
    rw [rounds_succ]; go_wp2
    rw [rounds_succ]; go_wp2
    rw [rounds_succ]; go_wp2
    rw [rounds_succ]; go_wp2
    rw [rounds_succ]; go_wp2
    rw [rounds_succ]; go_wp2
    rw [rounds_succ]; go_wp2
    go_ret2
    (try rw [HN.out])
    rw [HLN.out, HPC.out, HGO.out]
    exact ⟨_, _, rfl, HR9.out, HB9.out⟩

end Go.Proofs.YtgcknlfpedanpaaDoor

namespace Go.Proofs.YtgcknlfpedanpaaDoor
open Go.RowKit
set_option linter.unusedVariables false

theorem pieceM_six (l : List UInt8) (n : Nat) : (pieceM l n).length ≤ 6 * goOn n := by
  have hg := goOn_pos n
  cases l with
  | nil => show 0 ≤ _; omega
  | cons c t =>
    rw [pieceM_cons]
    split
    · show 3 ≤ _; omega
    · split
      · show 2 ≤ _; omega
      · split
        · show 6 ≤ _; omega
        · rename_i h _ _
          rw [List.length_take]
          have : goOn n = n := if_neg h
          omega
theorem tail13 (s : ByteArray) (k : Nat) (hk : k ≤ s.size) : (s.extract k s.size).data.toList = s.data.toList.drop k := by
  rw [ByteArray.data_extract, Array.toList_extract, List.extract_eq_take_drop]
  refine List.take_of_length_le ?_
  rw [List.length_drop]
  exact Nat.le_refl _
theorem sgn_in (l : List UInt8) (h : l ≠ []) : goOn (sgnL l) ≤ l.length := by
  unfold goOn
  split
  · cases l with
    | nil => exact absurd rfl h
    | cons c t => simp
  · rename_i h0
    exact (sgnL_take rfl h0 []).2.2
/-- Where Name's loop is. -/
def RelNm (s : ByteArray) (W wr : World) (o a : Value) : Prop :=
  ∃ (k : Nat) (d : List UInt8), k ≤ s.size ∧ a = .int .i64 k ∧ Buf wr W.heap.size o (39 :: d) ∧ d.length ≤ 6 * k ∧ nameM s.data.toList = d ++ nameM (s.data.toList.drop k) ∧ Below W.heap.size W wr

set_option maxRecDepth 100000 in
set_option maxHeartbeats 8000000 in
theorem name13_any (s : ByteArray) (W : World) (hs : s.size ≤ 1000) :
    Calls Tryd.prog 13 #[.string s] W fun e w' => e = .returned (.string ⟨(nameT s.data.toList).toArray⟩) ∧ Below W.heap.size W w' := by
  have hsl : s.data.toList.length = s.size := rfl
  unfold nameT
  go_enter Tryd.func13, Tryd.ntmps13
  go_wp2
  go_loopw [3, 4] (fun o a wr => RelNm s W wr o a) (fun _ a _ => s.size - (intOf a).toNat)
  case atStart => exact ⟨0, [], Nat.zero_le _, rfl, Buf.made W _ [39] rfl (by simp [maxLen]) (Nat.le_refl _), by simp, rfl, (Below.refl _ _).alloc (Nat.le_refl _) _⟩
  case round =>
    obtain ⟨k, d, hk, rfl, hbuf, hd, hput, hbel⟩ := hrel
    by_cases hlt : k < s.size
    · have hne : s.data.toList.drop k ≠ [] := fun e => by
        have := congrArg List.length e
        rw [List.length_drop, List.length_nil] at this
        omega
      have hin := sgn_in _ hne
      rw [List.length_drop, hsl] at hin
      have hstep : nameM (s.data.toList.drop k) = pieceM (s.data.toList.drop k) (sgnL (s.data.toList.drop k)) ++ nameM (s.data.toList.drop (k + goOn (sgnL (s.data.toList.drop k)))) := by
        rw [← List.drop_drop]
        cases hq : s.data.toList.drop k with
        | nil => exact absurd hq hne
        | cons c t => rw [nameM_cons]
      have hpl := pieceM_six (s.data.toList.drop k) (sgnL (s.data.toList.drop k))
      have hgp := goOn_pos (sgnL (s.data.toList.drop k))
      have HS := Lib.hid (fun w => sign13_any (s.extract k s.size) w (by rw [ByteArray.size_extract]; omega) (by rw [ByteArray.size_extract]; omega))
      unfold SgnEnd at HS
      rw [tail13 s k hk] at HS
      have HP := Lib.hid (hput.trans (by rw [hstep]))
      clear hput hstep hne hsl
      generalize pieceM (s.data.toList.drop k) (sgnL (s.data.toList.drop k)) = P at *
      generalize goOn (sgnL (s.data.toList.drop k)) = n at *
      generalize hL : P.length = L at *
      have HL := Lib.hid hL
      clear hL
      have HBF := Lib.hid hbuf
      have HBL := Lib.hid hbel
      clear hbuf hbel
      go_wp2_with (first
        | (go_at_call 24
           go_must (
             refine (HS.out _).mono ?_
             rintro e w3 ⟨g3, c3, rfl, rd3, hb3⟩
             have hbuf3 := HBF.out.stay hb3 (Nat.le_refl _)
             have hb3' := HBL.out.trans (hb3.mono HBL.out.size)
             have hz3 := hb3'.size))
        | (at_builtin
           go_must (
             refine buf_append _ rfl (.tmp 19) (.tmp 20) rfl W.heap.size _ (39 :: d) rfl hbuf3 _ _ L _ P rfl rd3 (by simp only [List.length_cons]; omega) hz3 ?_
             intro v4 w4 hbuf4 hb4
             have hb4' := hb3'.trans hb4)))
      go_roundw
      case rel => exact ⟨k + n, d ++ P, by omega, by go_num, hbuf4, (by rw [List.length_append, HL.out]; omega), (by rw [HP.out, List.append_assoc]), hb4'⟩
      case measure => simp [intOf]; omega
    · have hke : k = s.size := by omega
      have hout : nameM s.data.toList = d := by
        rw [hput, List.drop_of_length_le (by rw [hsl, hke]; exact Nat.le_refl _)]
        show d ++ [] = d
        rw [List.append_nil]
      have HO := Lib.hid hout
      have hltI : ¬ (k : Int) < s.size := by omega
      have hbuf3 := hbuf.stay (hbel.mono (Nat.le_refl _) |> fun _ => below1 wr (.cells #[.int .u8 39] 5)) (Nat.le_refl _)
      have rd3 := lit_rd wr #[.int .u8 39] [39] rfl
      have hz3 := Nat.le_trans hbel.size (below1 wr (.cells #[.int .u8 39] 5)).size
      have HB3 := Lib.hid (hbel.alloc hbel.size (.cells #[.int .u8 39] 5))
      clear hput hout hbel hsl hke
      go_wp2_with (first
        | (at_builtin
           go_must (
             refine buf_append _ rfl (.tmp 25) (.tmp 26) rfl W.heap.size _ (39 :: d) rfl hbuf3 _ _ 1 _ [39] rfl rd3 (by simp only [List.length_cons]; omega) hz3 ?_
             intro v4 w4 hbuf4 hb4
             have cv4 := hbuf4.conv
             have HB4 := Lib.hid (HB3.out.trans hb4)
             clear hbuf4 hb4)))
      go_ret
      rw [HO.out]
      exact ⟨rfl, HB4.out⟩

end Go.Proofs.YtgcknlfpedanpaaDoor

namespace Go.Proofs.YtgcknlfpedanpaaDoor
open Go.RowKit
set_option linter.unusedVariables false

/-- Slices of steps. -/
def stpK : RowK Pst where
  T := 26
  S := 22
  n := 3
  bytes := 32
  zero := .agg #[.bool false, .string ⟨#[]⟩, .int .i64 0]
  enc := fun s => [.bool s.named, .string ⟨s.name.toArray⟩, .int .i64 s.index]
  pos := by decide
  len := fun _ => rfl
  one := fun s u h => by simp at h; rcases h with rfl | rfl | rfl <;> rfl
  under := Tryd.underlying22
  info := by kernel_rfl
  zlen := rfl
  small := by decide
/-- Steps that can be read, wherever they lie. -/
def RdP (w : World) (A : Option Addr) (m : Nat) (l : List Pst) : Prop :=
  l.length = m ∧ (0 < m → ∃ a : Addr, A = some a ∧ a.block < w.heap.size ∧ ∀ i s, l[i]? = some s → w.cell? (a.add (i * 3)) = some (.bool s.named) ∧ w.cell? ⟨(a.add (i * 3)).block, (a.add (i * 3)).off + 1, none⟩ = some (.string ⟨s.name.toArray⟩) ∧ w.cell? ⟨(a.add (i * 3)).block, (a.add (i * 3)).off + 2, none⟩ = some (.int .i64 s.index))
theorem add_block13 (a : Addr) (j : Nat) : (a.add j).block = a.block := by unfold Addr.add; split <;> rfl
theorem RdP.stay {w w' : World} {A : Option Addr} {m : Nat} {l : List Pst} (h : RdP w A m l) (hb : Below w.heap.size w w') : RdP w' A m l := by
  refine ⟨h.1, fun hm => ?_⟩
  obtain ⟨a, e, ha, hc⟩ := h.2 hm
  refine ⟨a, e, Nat.lt_of_lt_of_le ha hb.size, fun i s hs => ?_⟩
  obtain ⟨h0, h1, h2⟩ := hc i s hs
  have ha' : (a.add (i * 3)).block < w.heap.size := by rw [add_block13]; exact ha
  exact ⟨(hb.cell ha').trans h0, (hb.cell (p := ⟨(a.add (i * 3)).block, (a.add (i * 3)).off + 1, none⟩) ha').trans h1, (hb.cell (p := ⟨(a.add (i * 3)).block, (a.add (i * 3)).off + 2, none⟩) ha').trans h2⟩
/-- How great steps are. -/
def wtP (l : List Pst) : Nat := (l.map fun s => s.name.length + 1).sum
theorem name_le (l : List UInt8) : ∀ (f : Nat) (m : List UInt8), m.length ≤ f → (nameM m).length ≤ 6 * m.length
  | _, [], _ => by simp [nameM, nameGo]
  | 0, _ :: _, h => by simp at h
  | f + 1, c :: t, h => by
    have hp := pieceM_six (c :: t) (sgnL (c :: t))
    have hg := goOn_pos (sgnL (c :: t))
    have hi := sgn_in (c :: t) (by simp)
    have ih := name_le l f ((c :: t).drop (goOn (sgnL (c :: t)))) (by rw [List.length_drop]; simp at h ⊢; omega)
    rw [List.length_drop] at ih
    rw [nameM_cons, List.length_append]
    omega
theorem step_len (s : Pst) (h : rightB s = true) : (stepT s).length ≤ 20 * (s.name.length + 1) := by
  unfold stepT
  cases hn : s.named
  · obtain ⟨_, h1, h2⟩ := right_index h hn
    have := digN_len 15 s.index.toNat (by simp; omega)
    rw [if_neg (by decide)]
    simp
    omega
  · have := name_le [] s.name.length s.name (Nat.le_refl _)
    rw [if_pos rfl]
    unfold nameT
    simp
    omega
theorem flat_le : ∀ l : List Pst, l.all rightB = true → (l.flatMap stepT).length ≤ 20 * wtP l
  | [], _ => Nat.zero_le _
  | s :: l, h => by
    simp only [List.all_cons, Bool.and_eq_true] at h
    have h1 := step_len s h.1
    have h2 := flat_le l h.2
    have e : (s :: l).flatMap stepT = stepT s ++ l.flatMap stepT := rfl
    have e2 : wtP (s :: l) = s.name.length + 1 + wtP l := by unfold wtP; simp
    rw [e, List.length_append, e2]
    omega
theorem wt_take (l : List Pst) : ∀ k, wtP (l.take k) ≤ wtP l := by
  induction l with
  | nil => intro k; simp [wtP]
  | cons s l ih =>
    intro k
    cases k with
    | zero => simp [wtP]
    | succ k =>
      have := ih k
      have e1 : wtP ((s :: l).take (k + 1)) = s.name.length + 1 + wtP (l.take k) := by unfold wtP; simp
      have e2 : wtP (s :: l) = s.name.length + 1 + wtP l := by unfold wtP; simp
      omega
theorem wt_length : ∀ l : List Pst, l.length ≤ wtP l
  | [] => Nat.zero_le _
  | s :: l => by
    have := wt_length l
    have e2 : wtP (s :: l) = s.name.length + 1 + wtP l := by unfold wtP; simp
    simp only [List.length_cons]
    omega
theorem wt_in {l : List Pst} {i : Nat} {s : Pst} (h : l[i]? = some s) : s.name.length + 1 ≤ wtP l := by
  induction l generalizing i with
  | nil => cases h
  | cons a l ih =>
    have e2 : wtP (a :: l) = a.name.length + 1 + wtP l := by unfold wtP; simp
    cases i with
    | zero =>
      have : a = s := by simpa using h
      subst this
      omega
    | succ i =>
      have := ih (i := i) (by simpa using h)
      omega

theorem join13 (x y : List UInt8) : (⟨x.toArray⟩ : ByteArray) ++ (((⟨#[91]⟩ : ByteArray) ++ ⟨y.toArray⟩) ++ ⟨#[93]⟩) = ⟨(x ++ 91 :: (y ++ [93])).toArray⟩ := by
  apply ByteArray.ext
  simp
theorem take_all {l : List Pst} {k : Nat} (hk : k < l.length) : (l.take (k + 1)).all rightB = ((l.take k).all rightB && rightB l[k]) := by
  rw [List.take_succ_eq_append_getElem hk, List.all_append]
  simp
theorem take_flat {l : List Pst} {k : Nat} (hk : k < l.length) : (l.take (k + 1)).flatMap stepT = (l.take k).flatMap stepT ++ stepT l[k] := by
  rw [List.take_succ_eq_append_getElem hk, List.flatMap_append]
  simp
theorem all_not {l : List Pst} {k : Nat} (hk : k < l.length) (h : ¬ rightB l[k] = true) : putP l = [] := by
  unfold putP
  rw [if_neg]
  intro ha
  exact h (List.all_eq_true.1 ha _ (List.getElem_mem hk))
/-- Where Put's loop is. -/
def RelPt (W : World) (l : List Pst) (s i : Value) (wr : World) : Prop :=
  ∃ k : Nat, k ≤ l.length ∧ i = .int .i64 k ∧ (l.take k).all rightB = true ∧ s = .string ⟨(36 :: (l.take k).flatMap stepT).toArray⟩ ∧ Below W.heap.size W wr

set_option maxRecDepth 100000 in
set_option maxHeartbeats 8000000 in
theorem put13_any (l : List Pst) (A : Option Addr) (n c : Nat) (W : World) (hx : RdP W A n l) (hw : wtP l ≤ 1000) :
    Calls Tryd.prog 11 #[.slice A n c] W fun e w' => e = .returned (.string ⟨(putP l).toArray⟩) ∧ Below W.heap.size W w' := by
  have hl : l.length = n := hx.1
  have HX := Lib.hid hx
  clear hx
  go_enter Tryd.func11, Tryd.ntmps11
  go_wp2
  go_loopw [3, 8] (fun s i wr => RelPt W l s i wr) (fun _ i _ => l.length - (intOf i).toNat)
  case atStart => exact ⟨0, Nat.zero_le _, rfl, rfl, rfl, Below.refl _ _⟩
  case round =>
    obtain ⟨k, hk, rfl, hr, rfl, hb⟩ := hrel
    have hk9 : (k : Int) ≤ 1000 := by have := wt_length l; omega
    by_cases hlt : k < l.length
    · have hltI : (k : Int) < n := by omega
      have hX2 := HX.out.stay hb
      obtain ⟨a, rfl, ha, hc⟩ := hX2.2 (by omega)
      obtain ⟨s0, s1, s2⟩ := hc k l[k] (List.getElem?_eq_getElem hlt)
      have HTA := Lib.hid (take_all hlt)
      have HTF := Lib.hid (take_flat hlt)
      have HNO := Lib.hid (fun h => all_not hlt h)
      have hwn := wt_in (List.getElem?_eq_getElem hlt)
      have hsz := flat_le (l.take k) hr
      have hwk := wt_take l k
      generalize hsk : l[k] = sk at *
      have HR := Lib.hid (fun w => rright13_any sk w (by unfold maxLen; omega))
      unfold stpV at HR
      have o1 := Own.fresh wr 26 #[.bool sk.named, .string ⟨sk.name.toArray⟩, .int .i64 sk.index]
      have hbA := hb.trans ((below1 wr (.cells #[.bool sk.named, .string ⟨sk.name.toArray⟩, .int .i64 sk.index] 26)).mono hb.size)
      have HO1 := Lib.hid o1
      have HBA := Lib.hid hbA
      have hS : (⟨(36 :: (l.take k).flatMap stepT).toArray⟩ : ByteArray).size ≤ 30000 := by
        show (36 :: (l.take k).flatMap stepT).length ≤ 30000
        rw [List.length_cons]
        omega
      clear hsk hc hX2 o1 hbA hsz hwk
      by_cases hrs : rightB sk = true
      · rw [hrs] at HR HTA
        cases hnm : sk.named
        · obtain ⟨hq0, h1, h2⟩ := right_index hrs hnm
          clear hq0
          obtain ⟨v, hv⟩ := Int.eq_ofNat_of_zero_le h1
          have HD := Lib.hid (fun w => digits13_any v (by omega) w)
          have hN : (⟨(digN v).toArray⟩ : ByteArray).size ≤ 16 := digN_len 15 v (by simp; omega)
          have HJ := Lib.hid (show (⟨(36 :: (l.take k).flatMap stepT).toArray⟩ : ByteArray) ++ (((⟨#[91]⟩ : ByteArray) ++ ⟨(digN v).toArray⟩) ++ ⟨#[93]⟩) = ⟨(36 :: (l.take (k + 1)).flatMap stepT).toArray⟩ by
            rw [join13, HTF.out]
            unfold stepT
            rw [hnm, if_neg (by decide), hv, Int.toNat_natCast]
            rfl)
          rw [hnm, hv] at HO1
          rw [hnm, hv] at HR
          rw [hnm, hv] at HBA
          clear hrs h1 h2 HTF
          generalize (⟨(36 :: (l.take k).flatMap stepT).toArray⟩ : ByteArray) = S1 at *
          generalize (⟨(digN v).toArray⟩ : ByteArray) = N1 at *
          rw [hnm] at s0
          rw [hv] at s2
          clear hnm hv
          go_wp2_with (first
            | (go_at_call 9
               go_must (
                 refine (HR.out _).mono ?_
                 rintro e w4 ⟨rfl, hb4⟩
                 have o4 := HO1.out.stay hb4 HO1.out.inside
                 have d0 : w4.cell? ⟨wr.heap.size, 0, none⟩ = some (.bool false) := o4.at 0
                 have d2 : w4.cell? ⟨wr.heap.size, 2, none⟩ = some (.int .i64 v) := o4.at 2
                 have HB4 := Lib.hid (HBA.out.trans (hb4.mono HBA.out.size))
                 clear hb4 o4))
            | (go_at_call 23
               go_must (
                 refine (HD.out _).mono ?_
                 rintro e w5 ⟨rfl, hb5⟩
                 have HB5 := Lib.hid (HB4.out.trans (hb5.mono HB4.out.size))
                 clear hb5)))
          go_roundw
          case rel => exact ⟨k + 1, hlt, by go_num, by rw [HTA.out, hr]; rfl, congrArg Value.string HJ.out, HB5.out⟩
          case measure => simp [intOf]; omega
        · have HD := Lib.hid (fun w => name13_any ⟨sk.name.toArray⟩ w (by show sk.name.length ≤ 1000; omega))
          rw [show (⟨sk.name.toArray⟩ : ByteArray).data.toList = sk.name from rfl] at HD
          have hN : (⟨(nameT sk.name).toArray⟩ : ByteArray).size ≤ 10000 := by
            show (nameT sk.name).length ≤ 10000
            have := name_le [] sk.name.length sk.name (Nat.le_refl _)
            unfold nameT
            simp
            omega
          have HJ := Lib.hid (show (⟨(36 :: (l.take k).flatMap stepT).toArray⟩ : ByteArray) ++ (((⟨#[91]⟩ : ByteArray) ++ ⟨(nameT sk.name).toArray⟩) ++ ⟨#[93]⟩) = ⟨(36 :: (l.take (k + 1)).flatMap stepT).toArray⟩ by
            rw [join13, HTF.out]
            unfold stepT
            rw [hnm, if_pos rfl]
            rfl)
          rw [hnm] at HO1
          rw [hnm] at HR
          rw [hnm] at HBA
          clear hrs HTF
          generalize (⟨(36 :: (l.take k).flatMap stepT).toArray⟩ : ByteArray) = S1 at *
          generalize (⟨(nameT sk.name).toArray⟩ : ByteArray) = N1 at *
          rw [hnm] at s0
          clear hnm hwn
          generalize (⟨sk.name.toArray⟩ : ByteArray) = nm at *
          generalize sk.index = ix at *
          go_wp2_with (first
            | (go_at_call 9
               go_must (
                 refine (HR.out _).mono ?_
                 rintro e w4 ⟨rfl, hb4⟩
                 have o4 := HO1.out.stay hb4 HO1.out.inside
                 have d0 : w4.cell? ⟨wr.heap.size, 0, none⟩ = some (.bool true) := o4.at 0
                 have d1 : w4.cell? ⟨wr.heap.size, 1, none⟩ = some (.string nm) := o4.at 1
                 have HB4 := Lib.hid (HBA.out.trans (hb4.mono HBA.out.size))
                 clear hb4 o4))
            | (go_at_call 13
               go_must (
                 refine (HD.out _).mono ?_
                 rintro e w5 ⟨rfl, hb5⟩
                 have HB5 := Lib.hid (HB4.out.trans (hb5.mono HB4.out.size))
                 clear hb5)))
          go_roundw
          case rel => exact ⟨k + 1, hlt, by go_num, by rw [HTA.out, hr]; rfl, congrArg Value.string HJ.out, HB5.out⟩
          case measure => simp [intOf]; omega
      · have HP0 := Lib.hid (HNO.out hrs)
        rw [Bool.eq_false_iff.2 hrs] at HR
        clear hrs HTF HTA
        go_wp2_with (go_at_call 9; refine (HR.out _).mono ?_; rintro e w4 ⟨rfl, hb4⟩; have HB4 := Lib.hid (HBA.out.trans (hb4.mono HBA.out.size)); clear hb4)
        go_ret
        rw [HP0.out]
        exact ⟨rfl, HB4.out⟩
    · have hltI : ¬ (k : Int) < n := by omega
      have ht : l.take k = l := List.take_of_length_le (by omega)
      have HP0 := Lib.hid (show putP l = 36 :: l.flatMap stepT by unfold putP; rw [if_pos (by rw [← ht]; exact hr)])
      rw [ht]
      clear hr
      go_wp2
      go_ret
      rw [HP0.out]
      exact ⟨rfl, hb⟩

end Go.Proofs.YtgcknlfpedanpaaDoor
