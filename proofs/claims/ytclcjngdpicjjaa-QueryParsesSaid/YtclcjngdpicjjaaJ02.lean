/- The contracts of package utf: Walk's Step, Within, Sign, and Bad. -/
import Derived.Test.YtclcjngdpicjjaaJ01
import Derived.Outline
import Derived.Laws.BytesArg
import Derived.Maps.AppendAt
import Derived.Deep.AppendLies
import Derived.RegionTactic
import Derived.OwnWalk
import Derived.Laws.CopyOwn
import Derived.Lib.AppendStr
namespace Go.Proofs.Ytclcjngdpicjjaa
open Go.RowKit

set_option maxHeartbeats 400000 in
theorem within_any (b : Nat) (sg lf : Int) (w : World) (h : Own w b 53 #[.int .i32 sg, .int .i64 lf]) :
    Calls Try.prog 25 #[.pointer (some ⟨b, 0, none⟩)] w fun e w' => e = .returned (.bool (decide (0 < lf))) ∧ w = w' := by
  have c1 := h.at 1
  simp at c1
  go_enter Try.func25, Try.ntmps25
  go_wp2
  go_ret
  exact ⟨rfl, rfl⟩

set_option maxHeartbeats 400000 in
theorem sign_any (b : Nat) (sg lf : Int) (w : World) (h : Own w b 53 #[.int .i32 sg, .int .i64 lf]) :
    Calls Try.prog 73 #[.pointer (some ⟨b, 0, none⟩)] w fun e w' => e = .returned (.int .i32 (if 0 < lf then 0 else sg)) ∧ w = w' := by
  have c0 := h.at 0
  have c1 := h.at 1
  simp at c0 c1
  by_cases hl : 0 < lf
  all_goals
    go_enter Try.func73, Try.ntmps73
    go_wp2_with (go_at_call 25; refine (within_any _ _ _ _ h).mono ?_; rintro e w' ⟨rfl, rfl⟩)
    go_ret
    exact ⟨rfl, rfl⟩

set_option maxHeartbeats 1000000 in
theorem next_any (b : Nat) (sg lf : Int) (w : World) (h : Own w b 53 #[.int .i32 sg, .int .i64 lf]) :
    Calls Try.prog 38 #[.pointer (some ⟨b, 0, none⟩)] w fun e w' => e = .returned (.tuple #[.int .u8 (lowU sg lf), .int .u8 (highU sg lf)]) ∧ w = w' := by
  have c0 := h.at 0
  have c1 := h.at 1
  simp at c0 c1
  by_cases h2 : lf = 2
  · subst h2
    by_cases h0 : sg = 0
    · subst h0
      go_enter Try.func38, Try.ntmps38
      go_wp2
      go_ret2
      exact ⟨rfl, rfl⟩
    · have e0 : (sg == 0) = false := beq_eq_false_iff_ne.2 h0
      by_cases h13 : sg = 13
      · subst h13
        go_enter Try.func38, Try.ntmps38
        go_wp2
        go_ret2
        exact ⟨rfl, rfl⟩
      · have e13 : (sg == 13) = false := beq_eq_false_iff_ne.2 h13
        go_enter Try.func38, Try.ntmps38
        go_wp2
        go_ret2
        exact ⟨by simp [lowU, highU, h0, h13], rfl⟩
  · have e2 : (lf == 2) = false := beq_eq_false_iff_ne.2 h2
    by_cases h3 : lf = 3
    · subst h3
      by_cases h0 : sg = 0
      · subst h0
        go_enter Try.func38, Try.ntmps38
        go_wp2
        go_ret2
        exact ⟨rfl, rfl⟩
      · have e0 : (sg == 0) = false := beq_eq_false_iff_ne.2 h0
        by_cases h4 : sg = 4
        · subst h4
          go_enter Try.func38, Try.ntmps38
          go_wp2
          go_ret2
          exact ⟨rfl, rfl⟩
        · have e4 : (sg == 4) = false := beq_eq_false_iff_ne.2 h4
          go_enter Try.func38, Try.ntmps38
          go_wp2
          go_ret2
          exact ⟨by simp [lowU, highU, h0, h4], rfl⟩
    · have e3 : (lf == 3) = false := beq_eq_false_iff_ne.2 h3
      go_enter Try.func38, Try.ntmps38
      go_wp2
      go_ret2
      exact ⟨by simp [lowU, highU, h2, h3], rfl⟩

theorem two_put {w : World} {b : Nat} {t : Nat} {x y u v : Value} (h : Own w b t #[x, y]) :
    Own ((w.setCell ⟨b, 0, none⟩ u).setCell ⟨b, 1, none⟩ v) b t #[u, v] ∧ Turned b w ((w.setCell ⟨b, 0, none⟩ u).setCell ⟨b, 1, none⟩ v) :=
  ⟨by simpa using (h.put 0 u).put 1 v, ((Turned.refl b w).put 0 u).put 1 v⟩

theorem own_eq {w : World} {b : Nat} {t : Nat} {k1 k2 : IntKind} {a a' c c' : Int} (h : Own w b t #[.int k1 a, .int k2 c]) (e : a = a') (f : c = c') : Own w b t #[.int k1 a', .int k2 c'] := by
  subst e f; exact h

set_option maxHeartbeats 1000000 in
theorem begin_yes (b : Nat) (c sg lf : Int) (w : World) (h : Own w b 53 #[.int .i32 sg, .int .i64 lf]) (h0 : 0 ≤ c) (hk : c < 128 ∨ 194 ≤ c ∧ c < 245) :
    Calls Try.prog 37 #[.pointer (some ⟨b, 0, none⟩), .int .u8 c] w fun e w' => e = .returned (.bool true) ∧ Own w' b 53 #[.int .i32 (sgU sg 0 c), .int .i64 (lfU 0 c)] ∧ Turned b w w' := by
  have c0 := h.at 0
  have c1 := h.at 1
  have f0 := h.free 0
  have f1 := h.free 1
  simp at c0 c1
  have hh : (c < 128) ∨ (194 ≤ c ∧ c < 224) ∨ (224 ≤ c ∧ c < 240) ∨ (240 ≤ c ∧ c < 245) := by omega
  rcases hh with hh | ⟨h1, h2⟩ | ⟨h1, h2⟩ | ⟨h1, h2⟩
  all_goals
    go_enter Try.func37, Try.ntmps37
    go_wp2
    go_ret
    refine ⟨rfl, ?_, (two_put h).2⟩
    refine own_eq (two_put h).1 ?_ ?_ <;> simp [sgU, lfU] <;> (repeat' split) <;> omega

set_option maxHeartbeats 1000000 in
theorem begin_no (b : Nat) (c : Int) (w : World) (hk : ¬ (c < 128 ∨ 194 ≤ c ∧ c < 245)) :
    Calls Try.prog 37 #[.pointer (some ⟨b, 0, none⟩), .int .u8 c] w fun e w' => e = .returned (.bool false) ∧ w = w' := by
  have hh : (128 ≤ c ∧ c < 194) ∨ 245 ≤ c := by omega
  clear hk
  rcases hh with ⟨h1, h2⟩ | h1
  all_goals
    go_enter Try.func37, Try.ntmps37
    go_wp2
    go_ret
    exact ⟨rfl, rfl⟩

set_option maxHeartbeats 1000000 in
theorem step_yes (b : Nat) (c sg lf : Int) (w : World) (h : Own w b 53 #[.int .i32 sg, .int .i64 lf]) (hs : StU sg lf) (h0 : 0 ≤ c) (hk : okU sg lf c = true) :
    Calls Try.prog 24 #[.pointer (some ⟨b, 0, none⟩), .int .u8 c] w fun e w' => e = .returned (.bool true) ∧ Own w' b 53 #[.int .i32 (sgU sg lf c), .int .i64 (lfU lf c)] ∧ Turned b w w' := by
  have c0 := h.at 0
  have c1 := h.at 1
  have f0 := h.free 0
  have f1 := h.free 1
  simp at c0 c1
  by_cases hl : lf = 0
  · subst hl
    have hk' := okU_zero hk
    clear hk
    have HB := Lib.hid (begin_yes b c sg 0 w h h0 hk')
    clear hk'
    go_enter Try.func24, Try.ntmps24
    go_wp2_with (go_at_call 37; refine HB.out.mono ?_; rintro e w' ⟨rfl, hb⟩)
    go_ret
    exact ⟨rfl, hb⟩
  · have el : (lf == 0) = false := beq_eq_false_iff_ne.2 hl
    have e1 : sgU sg lf c = sg * 64 + (c - 128) := by unfold sgU; rw [if_neg hl]
    have e2 : lfU lf c = lf - 1 := by unfold lfU; rw [if_neg hl]
    rw [e1, e2]
    obtain ⟨hk1, hk2⟩ := okU_more hl hk
    obtain ⟨hk3, hk4⟩ := okU_bd hl hk
    have g1 := lowU_in sg lf
    have g2 := highU_in sg lf
    have s0 : 0 ≤ sg := hs.1
    have s9 : sg ≤ 17407 := by unfold StU at hs; omega
    have l0 : 1 ≤ lf := by unfold StU at hs; omega
    have l9 : lf ≤ 3 := by unfold StU at hs; omega
    clear hs hk hl e1 e2
    have HN := Lib.hid (next_any b sg lf w h)
    generalize lowU sg lf = lo at *
    generalize highU sg lf = hi at *
    go_enter Try.func24, Try.ntmps24
    go_wp2_with (go_at_call 38; refine HN.out.mono ?_; rintro e w' ⟨rfl, rfl⟩)
    go_ret
    refine ⟨rfl, own_eq (two_put h).1 (by omega) rfl, (two_put h).2⟩

set_option maxHeartbeats 1000000 in
theorem step_no (b : Nat) (c sg lf : Int) (w : World) (h : Own w b 53 #[.int .i32 sg, .int .i64 lf]) (hk : okU sg lf c = false) :
    Calls Try.prog 24 #[.pointer (some ⟨b, 0, none⟩), .int .u8 c] w fun e w' => e = .returned (.bool false) ∧ w = w' := by
  have c0 := h.at 0
  have c1 := h.at 1
  simp at c0 c1
  by_cases hl : lf = 0
  · subst hl
    have hk' : ¬ (c < 128 ∨ 194 ≤ c ∧ c < 245) := by
      unfold okU at hk
      rw [if_pos rfl] at hk
      exact of_decide_eq_false hk
    clear hk
    have HB := Lib.hid (begin_no b c w hk')
    clear hk'
    go_enter Try.func24, Try.ntmps24
    go_wp2_with (go_at_call 37; refine HB.out.mono ?_; rintro e w' ⟨rfl, rfl⟩)
    go_ret
    exact ⟨rfl, rfl⟩
  · have el : (lf == 0) = false := beq_eq_false_iff_ne.2 hl
    have hk' : ¬ (lowU sg lf ≤ c ∧ c ≤ highU sg lf) := by
      unfold okU at hk
      rw [if_neg hl] at hk
      exact of_decide_eq_false hk
    clear hk
    have HN := Lib.hid (next_any b sg lf w h)
    generalize lowU sg lf = lo at *
    generalize highU sg lf = hi at *
    by_cases hlo : c < lo
    · clear hk' hl
      go_enter Try.func24, Try.ntmps24
      go_wp2_with (go_at_call 38; refine HN.out.mono ?_; rintro e w' ⟨rfl, rfl⟩)
      go_ret
      exact ⟨rfl, rfl⟩
    · have hhi : hi < c := by omega
      have hlo' : lo ≤ c := by omega
      clear hk' hl hlo
      go_enter Try.func24, Try.ntmps24
      go_wp2_with (go_at_call 38; refine HN.out.mono ?_; rintro e w' ⟨rfl, rfl⟩)
      go_ret
      exact ⟨rfl, rfl⟩

theorem runU_cons (sg lf : Int) (l : List UInt8) (k : Nat) (h : k < l.length) (n : Int) :
    runU sg lf (l.drop k) n = if okU sg lf l[k].toNat then runU (sgU sg lf l[k].toNat) (lfU lf l[k].toNat) (l.drop (k + 1)) (n + 1) else n := by
  rw [List.drop_eq_getElem_cons h]; rfl

/-- Where Bad's loop is. -/
def RelBad (s : ByteArray) (W wr : World) (i : Value) : Prop :=
  ∃ (k : Nat) (sg lf : Int), k ≤ s.size ∧ i = .int .i64 k ∧ StU sg lf ∧ Own wr W.heap.size 53 #[.int .i32 sg, .int .i64 lf] ∧ Below W.heap.size W wr ∧ badU s.data.toList = runU sg lf (s.data.toList.drop k) k

set_option maxHeartbeats 1000000 in
theorem bad_any (s : ByteArray) (W : World) (hs : s.size ≤ maxLen) :
    Calls Try.prog 13 #[.string s] W fun e w' => e = .returned (.int .i64 (badU s.data.toList)) ∧ Below W.heap.size W w' := by
  unfold maxLen at hs
  go_enter Try.func13, Try.ntmps13
  go_wp2
  go_loopw [7] (fun i wr => RelBad s W wr i) (fun i _ => s.size - (intOf i).toNat)
  case atStart => exact ⟨0, 0, 0, Nat.zero_le _, rfl, stU_zero, Own.fresh _ _ _, (Below.refl _ _).alloc (Nat.le_refl _) _, rfl⟩
  case round =>
    obtain ⟨k, sg, lf, hk, rfl, hst, hown, hbel, hrun⟩ := hrel
    by_cases hlt : k < s.size
    · have hl : k < s.data.toList.length := hlt
      rw [runU_cons _ _ _ _ hl] at hrun
      have hc : s.data.toList[k] = s[k] := rfl
      rw [hc] at hrun
      by_cases hok : okU sg lf s[k].toNat = true
      · rw [if_pos hok] at hrun
        have HS := Lib.hid (step_yes _ _ sg lf _ hown hst (Int.natCast_nonneg _) hok)
        have hst' := stU_step hst (Int.natCast_nonneg _) hok
        have HR := Lib.hid hrun
        clear hrun hok hc
        go_wp2_with (go_at_call 24; refine HS.out.mono ?_; rintro e w' ⟨rfl, hown', htu⟩)
        go_roundw
        case rel => exact ⟨k + 1, _, _, hlt, by go_num, hst', hown', hbel.trans (htu.below (Nat.le_refl _) hbel.size), HR.out⟩
        case measure => simp [intOf]; omega
      · rw [if_neg hok] at hrun
        have HS := Lib.hid (step_no _ _ sg lf _ hown (by simpa using hok))
        have HR := Lib.hid hrun
        clear hrun hok hc
        go_wp2_with (go_at_call 24; refine HS.out.mono ?_; rintro e w' ⟨rfl, rfl⟩)
        go_ret
        exact ⟨ret_i HR.out.symm, hbel⟩
    · obtain rfl : k = s.size := by omega
      rw [show s.data.toList.drop s.size = [] from List.drop_of_length_le (Nat.le_refl _)] at hrun
      have HR := Lib.hid hrun
      have HW := Lib.hid (within_any _ sg lf _ hown)
      clear hrun
      by_cases hl : 0 < lf
      all_goals
        go_wp2_with (go_at_call 25; refine HW.out.mono ?_; rintro e w' ⟨rfl, rfl⟩)
        go_ret
        exact ⟨ret_i (by rw [HR.out]; simp [runU, hl]), hbel⟩

end Go.Proofs.Ytclcjngdpicjjaa

namespace Go.Proofs.Ytclcjngdpicjjaa
open Go.RowKit

/-- How many bytes a sign has that begins so. -/
def sizeR (c : Int) : Int := if c < 128 then 1 else if 192 ≤ c ∧ c < 224 then 2 else if 224 ≤ c ∧ c < 240 then 3 else if 240 ≤ c ∧ c < 248 then 4 else 0

set_option maxHeartbeats 400000 in
theorem rsize_any (c : Int) (w : World) :
    Calls Try.prog 35 #[.int .u8 c] w fun e w' => e = .returned (.int .i64 (sizeR c)) ∧ w = w' := by
  have hh : c < 128 ∨ (128 ≤ c ∧ c < 192) ∨ (192 ≤ c ∧ c < 224) ∨ (224 ≤ c ∧ c < 240) ∨ (240 ≤ c ∧ c < 248) ∨ 248 ≤ c := by omega
  rcases hh with hh | ⟨h1, h2⟩ | ⟨h1, h2⟩ | ⟨h1, h2⟩ | ⟨h1, h2⟩ | hh
  all_goals
    go_enter Try.func35, Try.ntmps35
    go_wp2
    go_ret
    exact ⟨ret_i (by unfold sizeR; (repeat' split) <;> omega), rfl⟩

/-- The number of as many bytes as its first one tells. -/
def baseR (n : Nat) : Int := if n = 2 then 192 else if n = 3 then 224 else if n = 4 then 240 else 0
def moreR (n : Int) (l : List UInt8) : Int := l.foldl (fun n c => n * 64 + c.toNat - 128) n
def numR (l : List UInt8) : Int := match l with
  | [] => 0
  | c :: t => moreR (c.toNat - baseR l.length) t


theorem byte_le (s : ByteArray) (k : Nat) (h : k < s.size) : 0 ≤ (s[k].toNat : Int) ∧ (s[k].toNat : Int) ≤ 255 := by
  have := UInt8.toNat_lt s[k]
  omega

theorem moreR_snoc (n : Int) (l : List UInt8) (k : Nat) (h : k < l.length) : moreR n (l.take (k + 1)) = moreR n (l.take k) * 64 + l[k].toNat - 128 := by
  rw [List.take_succ_eq_append_getElem h]
  unfold moreR
  rw [List.foldl_append]
  rfl

/-- The number behind k bytes. -/
def upR (s : ByteArray) (k : Nat) : Int := moreR ((s.data.toList.headD 0).toNat - baseR s.size) ((s.data.toList.take k).drop 1)
def bN (k : Nat) : Int := if k ≤ 1 then 256 else if k = 2 then 16640 else if k = 3 then 1081600 else 70304000
theorem bN_up (k : Nat) (h : 1 ≤ k) (h4 : k < 4) : bN k * 64 + 128 ≤ bN (k + 1) ∧ 0 ≤ bN k ∧ bN k ≤ 70304000 := by
  have : k = 1 ∨ k = 2 ∨ k = 3 := by omega
  rcases this with rfl | rfl | rfl <;> decide

theorem upR_one (s : ByteArray) (h : 0 < s.size) : upR s 1 = s[0].toNat - baseR s.size := by
  unfold upR
  have : (s.data.toList.take 1).drop 1 = [] := by
    apply List.drop_of_length_le
    simp
    omega
  rw [this]
  have h0 : s.data.toList.headD 0 = s[0] := by
    have : 0 < s.data.toList.length := h
    cases hl : s.data.toList with
    | nil => rw [hl] at this; simp at this
    | cons a t =>
      have : s.data.toList[0] = a := by simp [hl]
      exact this.symm
  rw [h0]; rfl

theorem upR_more (s : ByteArray) (k : Nat) (h1 : 1 ≤ k) (h : k < s.size) : upR s (k + 1) = upR s k * 64 + s[k].toNat - 128 := by
  unfold upR
  have hk : k < s.data.toList.length := h
  rw [List.take_succ_eq_append_getElem hk, List.drop_append_of_le_length (by simp; omega)]
  unfold moreR
  rw [List.foldl_append]
  rfl

theorem upR_all (s : ByteArray) (h : 0 < s.size) : upR s s.size = numR s.data.toList := by
  unfold upR
  have hl : 0 < s.data.toList.length := h
  have e : s.data.toList.take s.size = s.data.toList := List.take_of_length_le (Nat.le_refl _)
  have es : s.size = s.data.toList.length := rfl
  rw [e, es]
  cases hc : s.data.toList with
  | nil => rw [hc] at hl; simp at hl
  | cons a t => rfl

def RelNum (s : ByteArray) (n i : Value) : Prop :=
  ∃ k : Nat, 1 ≤ k ∧ k ≤ s.size ∧ i = .int .i64 k ∧ n = .int .i64 (upR s k) ∧ -bN k ≤ upR s k ∧ upR s k ≤ bN k

set_option maxHeartbeats 2000000 in
theorem rnumber_any (s : ByteArray) (w : World) (h1 : 0 < s.size) (h4 : s.size ≤ 4) :
    Calls Try.prog 36 #[.string s] w fun e w' => e = .returned (.int .i64 (numR s.data.toList)) ∧ w = w' := by
  obtain ⟨b0, b9⟩ := byte_le s 0 h1
  have hu := upR_one s h1
  have hz : s.size = 1 ∨ s.size = 2 ∨ s.size = 3 ∨ s.size = 4 := by omega
  rcases hz with hz | hz | hz | hz
  all_goals
    rw [hz] at hu
    have HU := Lib.hid hu
    have HZ := Lib.hid hz
    have hb : -bN 1 ≤ upR s 1 ∧ upR s 1 ≤ bN 1 := by rw [hu]; simp [baseR, bN]; omega
    clear hu
    go_enter Try.func36, Try.ntmps36
    go_wp2
    go_loop [3, 4] (fun n i => RelNum s n i) (fun _ i => s.size - (intOf i).toNat)
    case atStart => exact ⟨1, Nat.le_refl _, h1, rfl, by rw [HU.out]; rfl, hb⟩
    case round =>
      obtain ⟨k, hk1, hk, rfl, rfl, hb1, hb2⟩ := hrel
      by_cases hlt : k < s.size
      · obtain ⟨c0, c9⟩ := byte_le s k hlt
        obtain ⟨n0, n1, n2⟩ := bN_up k hk1 (by omega)
        have HM := Lib.hid (upR_more s k hk1 hlt)
        first
          | omega
          | (go_wp2
             go_round
             case rel => exact ⟨k + 1, by omega, hlt, by go_num, by rw [HM.out], by rw [HM.out]; omega, by rw [HM.out]; omega⟩
             case measure => simp [intOf]; omega)
      · have hk' : k = s.size := by omega
        have HA := upR_all s h1
        rw [← hk'] at HA
        have HA' := Lib.hid HA
        clear HA hk'
        go_wp2
        go_ret
        exact ⟨ret_i HA'.out, rfl⟩

def contR (l : List UInt8) : Bool := l.all fun c => decide (128 ≤ c.toNat ∧ c.toNat ≤ 191)
def leastR (n : Nat) : Int := if n = 2 then 128 else if n = 3 then 2048 else if n = 4 then 65536 else 0
def padR (l : List UInt8) (n : Nat) (c : UInt8) : List UInt8 := l ++ List.replicate (n - l.length) c
/-- The answer behind the bytes' looks: from the lowest and the topmost number. -/
def endR (m n : Nat) (a b : Int) : Bool × Bool × Int :=
  if b < leastR n ∨ 1114111 < a ∨ (55296 ≤ a ∧ b ≤ 57343) then (false, false, 0) else if m = n then (true, true, a) else (true, false, 0)
def begR (l : List UInt8) : Bool × Bool × Int := match l with
  | [] => (true, false, 0)
  | c :: t =>
    if sizeR c.toNat = 0 ∨ sizeR c.toNat < (c :: t).length then (false, false, 0) else
    if contR t then endR (c :: t).length (sizeR c.toNat).toNat (numR (padR (c :: t) (sizeR c.toNat).toNat 128)) (numR (padR (c :: t) (sizeR c.toNat).toNat 191)) else (false, false, 0)

/-- The first k bytes but the first one go on within a sign. -/
def ContTo (s : ByteArray) (k : Nat) : Prop := contR ((s.data.toList.take k).drop 1) = true
theorem contTo_one (s : ByteArray) : ContTo s 1 := by
  unfold ContTo
  have : (s.data.toList.take 1).drop 1 = [] := by
    apply List.drop_of_length_le
    simp
    omega
  rw [this]; rfl
theorem cont_snoc (s : ByteArray) (k : Nat) (h1 : 1 ≤ k) (h : k < s.size) : contR ((s.data.toList.take (k + 1)).drop 1) = (contR ((s.data.toList.take k).drop 1) && decide (128 ≤ s[k].toNat ∧ s[k].toNat ≤ 191)) := by
  have hk : k < s.data.toList.length := h
  rw [List.take_succ_eq_append_getElem hk, List.drop_append_of_le_length (by simp; omega)]
  unfold contR
  rw [List.all_append]
  simp
  rfl
def RelCont (s : ByteArray) (i : Value) : Prop := ∃ k : Nat, 1 ≤ k ∧ k ≤ s.size ∧ i = .int .i64 k ∧ ContTo s k

theorem cont_no (l : List UInt8) : ∀ k, contR ((l.take k).drop 1) = false → contR (l.drop 1) = false := by
  intro k h
  have e : l.drop 1 = (l.take k).drop 1 ++ ((l.drop 1).drop (k - 1)) := by
    cases l with
    | nil => simp
    | cons a t =>
      cases k with
      | zero => simp [contR] at h
      | succ k => simp
  rw [e]
  unfold contR at h ⊢
  rw [List.all_append, h]; rfl

end Go.Proofs.Ytclcjngdpicjjaa

namespace Go.Proofs.Ytclcjngdpicjjaa

/-- The bytes since the last sign's end, and the state that they lead to. -/
def InvL (l : List UInt8) (sg lf : Int) : Prop := match l with
  | [] => lf = 0
  | [a] => (194 ≤ a.toNat ∧ a.toNat ≤ 223 ∧ lf = 1 ∧ sg = a.toNat - 192) ∨ (224 ≤ a.toNat ∧ a.toNat ≤ 239 ∧ lf = 2 ∧ sg = a.toNat - 224) ∨ (240 ≤ a.toNat ∧ a.toNat ≤ 244 ∧ lf = 3 ∧ sg = a.toNat - 240)
  | [a, b] => 128 ≤ b.toNat ∧ b.toNat ≤ 191 ∧ ((224 ≤ a.toNat ∧ a.toNat ≤ 239 ∧ lf = 1 ∧ sg = (a.toNat - 224) * 64 + b.toNat - 128 ∧ 32 ≤ sg ∧ (sg < 864 ∨ 896 ≤ sg)) ∨ (240 ≤ a.toNat ∧ a.toNat ≤ 244 ∧ lf = 2 ∧ sg = (a.toNat - 240) * 64 + b.toNat - 128 ∧ 16 ≤ sg ∧ sg ≤ 271))
  | [a, b, c] => 128 ≤ b.toNat ∧ b.toNat ≤ 191 ∧ 128 ≤ c.toNat ∧ c.toNat ≤ 191 ∧ 240 ≤ a.toNat ∧ a.toNat ≤ 244 ∧ lf = 1 ∧ sg = ((a.toNat - 240) * 64 + b.toNat - 128) * 64 + c.toNat - 128 ∧ 1024 ≤ sg ∧ sg ≤ 17407
  | _ => False

theorem begR_val (c : UInt8) (t : List UInt8) (n : Nat) (hn : sizeR c.toNat = n) (h1 : 1 ≤ n) (h : (c :: t).length ≤ n) :
    begR (c :: t) = if contR t then endR (c :: t).length n (numR (padR (c :: t) n 128)) (numR (padR (c :: t) n 191)) else (false, false, 0) := by
  show (if sizeR c.toNat = 0 ∨ sizeR c.toNat < (c :: t).length then (false, false, 0) else
    if contR t then endR (c :: t).length (sizeR c.toNat).toNat (numR (padR (c :: t) (sizeR c.toNat).toNat 128)) (numR (padR (c :: t) (sizeR c.toNat).toNat 191)) else (false, false, 0)) = _
  rw [if_neg (by rw [hn]; omega), hn]
  rfl

theorem sizeR_2 {c : Int} (h : 192 ≤ c) (h' : c < 224) : sizeR c = (2 : Nat) := by unfold sizeR; (repeat' split) <;> omega
theorem sizeR_3 {c : Int} (h : 224 ≤ c) (h' : c < 240) : sizeR c = (3 : Nat) := by unfold sizeR; (repeat' split) <;> omega
theorem sizeR_4 {c : Int} (h : 240 ≤ c) (h' : c < 248) : sizeR c = (4 : Nat) := by unfold sizeR; (repeat' split) <;> omega
theorem sizeR_1 {c : Int} (h' : c < 128) : sizeR c = (1 : Nat) := by unfold sizeR; (repeat' split) <;> omega
theorem sizeR_0 {c : Int} (h : 128 ≤ c ∧ c < 192 ∨ 248 ≤ c) : sizeR c = 0 := by unfold sizeR; (repeat' split) <;> omega
theorem begR_zero (c : UInt8) (t : List UInt8) (h : sizeR c.toNat = 0) : begR (c :: t) = (false, false, 0) := by
  show (if sizeR c.toNat = 0 ∨ sizeR c.toNat < (c :: t).length then (false, false, 0) else
    if contR t then endR (c :: t).length (sizeR c.toNat).toNat (numR (padR (c :: t) (sizeR c.toNat).toNat 128)) (numR (padR (c :: t) (sizeR c.toNat).toNat 191)) else (false, false, 0)) = _
  rw [if_pos (.inl h)]

/-- What the walk's step answers, as Begins says it. -/
def ansU (sg lf c : Int) : Bool × Bool × Int :=
  if okU sg lf c then (if lfU lf c = 0 then (true, true, sgU sg lf c) else (true, false, 0)) else (false, false, 0)

theorem ans_end {m n : Nat} {a b sg lf c : Int} (hr : (b < leastR n ∨ 1114111 < a ∨ (55296 ≤ a ∧ b ≤ 57343)) ↔ okU sg lf c = false)
    (hw : okU sg lf c = true → (m = n ↔ lfU lf c = 0)) (hv : okU sg lf c = true → m = n → sgU sg lf c = a) : endR m n a b = ansU sg lf c := by
  unfold endR ansU
  by_cases hk : okU sg lf c = true
  · rw [if_neg (by rw [hr, hk]; simp), if_pos hk]
    by_cases hm : m = n
    · rw [if_pos hm, if_pos ((hw hk).1 hm), hv hk hm]
    · rw [if_neg hm, if_neg (fun h => hm ((hw hk).2 h))]
  · rw [if_pos (hr.2 (by simpa using hk)), if_neg hk]

theorem okU_iff0 (sg c : Int) : okU sg 0 c = false ↔ ¬ (c < 128 ∨ 194 ≤ c ∧ c < 245) := by
  unfold okU; rw [if_pos rfl]; simp
theorem okU_iff {sg lf c : Int} (h : lf ≠ 0) : okU sg lf c = false ↔ ¬ (lowU sg lf ≤ c ∧ c ≤ highU sg lf) := by
  unfold okU; rw [if_neg h]; simp

theorem beg_one (c : UInt8) (sg : Int) : begR [c] = ansU sg 0 c.toNat := by
  have hc := UInt8.toNat_lt c
  have hh : (c.toNat : Int) < 128 ∨ (192 ≤ (c.toNat : Int) ∧ (c.toNat : Int) < 224) ∨ (224 ≤ (c.toNat : Int) ∧ (c.toNat : Int) < 240) ∨ (240 ≤ (c.toNat : Int) ∧ (c.toNat : Int) < 248) ∨ (128 ≤ (c.toNat : Int) ∧ (c.toNat : Int) < 192 ∨ 248 ≤ (c.toNat : Int)) := by omega
  rcases hh with h | ⟨h, h'⟩ | ⟨h, h'⟩ | ⟨h, h'⟩ | h
  · rw [begR_val c [] 1 (sizeR_1 h) (by omega) (by simp), if_pos (show contR [] = true from rfl)]
    refine ans_end ?_ ?_ ?_
    · rw [okU_iff0]; simp [padR, numR, moreR, leastR, baseR]; omega
    · simp [lfU]; omega
    · simp [sgU, padR, numR, moreR, baseR]; omega
  · rw [begR_val c [] 2 (sizeR_2 h h') (by omega) (by simp), if_pos (show contR [] = true from rfl)]
    refine ans_end ?_ ?_ ?_
    · rw [okU_iff0]; simp [padR, numR, moreR, leastR, baseR]; omega
    · simp [lfU]; omega
    · simp
  · rw [begR_val c [] 3 (sizeR_3 h h') (by omega) (by simp), if_pos (show contR [] = true from rfl)]
    refine ans_end ?_ ?_ ?_
    · rw [okU_iff0]; simp [padR, numR, moreR, leastR, baseR, List.replicate]; omega
    · simp [lfU]; omega
    · simp
  · rw [begR_val c [] 4 (sizeR_4 h h') (by omega) (by simp), if_pos (show contR [] = true from rfl)]
    refine ans_end ?_ ?_ ?_
    · rw [okU_iff0]; simp [padR, numR, moreR, leastR, baseR, List.replicate]; omega
    · simp [lfU]; omega
    · simp
  · rw [begR_zero c [] (sizeR_0 h)]
    unfold ansU
    rw [(okU_iff0 sg c.toNat).2 (by omega)]; rfl

theorem beg_bad (c : UInt8) (t : List UInt8) (n : Nat) (hn : sizeR c.toNat = n) (h1 : 1 ≤ n) (h : (c :: t).length ≤ n) (hb : contR t = false) {sg lf x : Int} (hl : lf ≠ 0) (hx : ¬ (128 ≤ x ∧ x ≤ 191)) :
    begR (c :: t) = ansU sg lf x := by
  rw [begR_val c t n hn h1 h, if_neg (by rw [hb]; simp)]
  unfold ansU
  rw [(okU_iff hl).2 (by have := lowU_in sg lf; have := highU_in sg lf; omega)]; rfl

theorem lowhigh (sg lf c : Int) (h : 128 ≤ c) (h' : c ≤ 191) (hl : lf ≠ 0) :
    okU sg lf c = false ↔ (lf = 2 ∧ sg = 0 ∧ c < 160) ∨ (lf = 3 ∧ sg = 0 ∧ c < 144) ∨ (lf = 2 ∧ sg = 13 ∧ 160 ≤ c) ∨ (lf = 3 ∧ sg = 4 ∧ 144 ≤ c) := by
  rw [okU_iff hl]
  unfold lowU highU
  (repeat' split) <;> omega

theorem beg_more (l : List UInt8) (c : UInt8) (sg lf : Int) (hne : l ≠ []) (h : InvL l sg lf) : begR (l ++ [c]) = ansU sg lf c.toNat := by
  have hc := UInt8.toNat_lt c
  have hlf : lf ≠ 0 := by
    unfold InvL at h
    split at h <;> (first | exact absurd rfl hne | exact h.elim | omega)
  have e2 : lfU lf c.toNat = lf - 1 := by unfold lfU; rw [if_neg hlf]
  have e1 : sgU sg lf c.toNat = sg * 64 + (c.toNat - 128) := by unfold sgU; rw [if_neg hlf]
  match l, h with
  | [a], h =>
    have ha := UInt8.toNat_lt a
    show begR (a :: [c]) = _
    rcases h with ⟨h1, h2, rfl, h3⟩ | ⟨h1, h2, rfl, h3⟩ | ⟨h1, h2, rfl, h3⟩
    all_goals
      by_cases hb : 128 ≤ (c.toNat : Int) ∧ (c.toNat : Int) ≤ 191
      · have hk := lowhigh sg _ c.toNat hb.1 hb.2 hlf
        first
          | rw [begR_val a [c] 2 (sizeR_2 (by omega) (by omega)) (by omega) (by simp), if_pos (by simp [contR]; omega)]
          | rw [begR_val a [c] 3 (sizeR_3 (by omega) (by omega)) (by omega) (by simp), if_pos (by simp [contR]; omega)]
          | rw [begR_val a [c] 4 (sizeR_4 (by omega) (by omega)) (by omega) (by simp), if_pos (by simp [contR]; omega)]
        refine ans_end ?_ ?_ ?_
        · rw [hk]; simp [padR, numR, moreR, leastR, baseR, List.replicate]; omega
        · rw [e2]; simp
        · rw [e1]; simp [padR, numR, moreR, baseR] <;> omega
      · first
          | exact beg_bad a [c] 2 (sizeR_2 (by omega) (by omega)) (by omega) (by simp) (by simp [contR]; omega) hlf hb
          | exact beg_bad a [c] 3 (sizeR_3 (by omega) (by omega)) (by omega) (by simp) (by simp [contR]; omega) hlf hb
          | exact beg_bad a [c] 4 (sizeR_4 (by omega) (by omega)) (by omega) (by simp) (by simp [contR]; omega) hlf hb
  | [a, b], h =>
    have ha := UInt8.toNat_lt a
    have hb := UInt8.toNat_lt b
    show begR (a :: [b, c]) = _
    obtain ⟨g1, g2, ⟨h1, h2, rfl, h3, h4, h5⟩ | ⟨h1, h2, rfl, h3, h4, h5⟩⟩ := h
    all_goals
      by_cases hb : 128 ≤ (c.toNat : Int) ∧ (c.toNat : Int) ≤ 191
      · have hk := lowhigh sg _ c.toNat hb.1 hb.2 hlf
        first
          | rw [begR_val a [b, c] 3 (sizeR_3 (by omega) (by omega)) (by omega) (by simp), if_pos (by simp [contR]; omega)]
          | rw [begR_val a [b, c] 4 (sizeR_4 (by omega) (by omega)) (by omega) (by simp), if_pos (by simp [contR]; omega)]
        refine ans_end ?_ ?_ ?_
        · rw [hk]; simp [padR, numR, moreR, leastR, baseR]; omega
        · rw [e2]; simp
        · rw [e1]; simp [padR, numR, moreR, baseR] <;> omega
      · first
          | exact beg_bad a [b, c] 3 (sizeR_3 (by omega) (by omega)) (by omega) (by simp) (by simp [contR]; omega) hlf hb
          | exact beg_bad a [b, c] 4 (sizeR_4 (by omega) (by omega)) (by omega) (by simp) (by simp [contR]; omega) hlf hb
  | [a, b, d], h =>
    have ha := UInt8.toNat_lt a
    have hb := UInt8.toNat_lt b
    have hd := UInt8.toNat_lt d
    show begR (a :: [b, d, c]) = _
    obtain ⟨g1, g2, g3, g4, h1, h2, rfl, h3, h4, h5⟩ := h
    by_cases hb : 128 ≤ (c.toNat : Int) ∧ (c.toNat : Int) ≤ 191
    · have hk := lowhigh sg _ c.toNat hb.1 hb.2 hlf
      rw [begR_val a [b, d, c] 4 (sizeR_4 (by omega) (by omega)) (by omega) (by simp), if_pos (by simp [contR]; omega)]
      refine ans_end ?_ ?_ ?_
      · rw [hk]; simp [padR, numR, moreR, leastR, baseR]; omega
      · rw [e2]; simp
      · rw [e1]; simp [padR, numR, moreR, baseR]; omega
    · exact beg_bad a [b, d, c] 4 (sizeR_4 (by omega) (by omega)) (by omega) (by simp) (by simp [contR]; omega) hlf hb

theorem beg_any (l : List UInt8) (c : UInt8) (sg lf : Int) (h : InvL l sg lf) : begR (l ++ [c]) = ansU sg lf c.toNat := by
  cases l with
  | nil => obtain rfl : lf = 0 := h; exact beg_one c sg
  | cons a t => exact beg_more _ c sg lf (by simp) h

theorem invL_len {l : List UInt8} {sg lf : Int} (h : InvL l sg lf) : l.length ≤ 3 ∧ (l = [] ↔ lf = 0) := by
  match l, h with
  | [], h => exact ⟨by simp, by simp; exact h⟩
  | [a], h => exact ⟨by simp, by simp; unfold InvL at h; simp at h; omega⟩
  | [a, b], h => exact ⟨by simp, by simp; unfold InvL at h; simp at h; omega⟩
  | [a, b, c], h => exact ⟨by simp, by simp; unfold InvL at h; simp at h; omega⟩

theorem invL_size {l : List UInt8} {sg lf : Int} {c : UInt8} (h : InvL l sg lf) : ∀ a t, l ++ [c] = a :: t → (∃ n : Nat, (n = 1 ∨ n = 2 ∨ n = 3 ∨ n = 4) ∧ (l ++ [c]).length ≤ n ∧ sizeR a.toNat = n) ∨ (sizeR a.toNat = 0) := by
  intro a t e
  match l, h with
  | [], h =>
    have hc := UInt8.toNat_lt c
    simp at e
    obtain ⟨rfl, rfl⟩ := e
    have hh : (c.toNat : Int) < 128 ∨ (192 ≤ (c.toNat : Int) ∧ (c.toNat : Int) < 224) ∨ (224 ≤ (c.toNat : Int) ∧ (c.toNat : Int) < 240) ∨ (240 ≤ (c.toNat : Int) ∧ (c.toNat : Int) < 248) ∨ (128 ≤ (c.toNat : Int) ∧ (c.toNat : Int) < 192 ∨ 248 ≤ (c.toNat : Int)) := by omega
    rcases hh with h | ⟨h, h'⟩ | ⟨h, h'⟩ | ⟨h, h'⟩ | h
    · exact .inl ⟨1, by omega, by simp, sizeR_1 h⟩
    · exact .inl ⟨2, by omega, by simp, sizeR_2 h h'⟩
    · exact .inl ⟨3, by omega, by simp, sizeR_3 h h'⟩
    · exact .inl ⟨4, by omega, by simp, sizeR_4 h h'⟩
    · exact .inr (sizeR_0 h)
  | [b], h =>
    simp at e
    obtain ⟨rfl, rfl⟩ := e
    rcases h with ⟨h1, h2, _, _⟩ | ⟨h1, h2, _, _⟩ | ⟨h1, h2, _, _⟩
    · exact .inl ⟨2, by omega, by simp, sizeR_2 (by omega) (by omega)⟩
    · exact .inl ⟨3, by omega, by simp, sizeR_3 (by omega) (by omega)⟩
    · exact .inl ⟨4, by omega, by simp, sizeR_4 (by omega) (by omega)⟩
  | [b, d], h =>
    simp at e
    obtain ⟨rfl, rfl⟩ := e
    rcases h with ⟨_, _, ⟨h1, h2, _⟩ | ⟨h1, h2, _⟩⟩
    · exact .inl ⟨3, by omega, by simp, sizeR_3 (by omega) (by omega)⟩
    · exact .inl ⟨4, by omega, by simp, sizeR_4 (by omega) (by omega)⟩
  | [b, d, f], h =>
    simp at e
    obtain ⟨rfl, rfl⟩ := e
    obtain ⟨_, _, _, _, h1, h2, _⟩ := h
    exact .inl ⟨4, by omega, by simp, sizeR_4 (by omega) (by omega)⟩

theorem invL_step {l : List UInt8} {sg lf : Int} {c : UInt8} (h : InvL l sg lf) (hk : okU sg lf c.toNat = true) :
    InvL (if lfU lf c.toNat = 0 then [] else l ++ [c]) (sgU sg lf c.toNat) (lfU lf c.toNat) := by
  by_cases hz : lfU lf c.toNat = 0
  · rw [if_pos hz]; exact hz
  · rw [if_neg hz]
    have hc := UInt8.toNat_lt c
    match l, h with
    | [], h =>
      obtain rfl : lf = 0 := h
      have hk' := okU_zero hk
      unfold lfU at hz ⊢
      unfold sgU
      simp only [if_true] at hz ⊢
      show (_ ∨ _)
      split at hz
      · exact absurd rfl hz
      · rename_i h1
        rw [if_neg h1, if_neg h1]
        (repeat' split) <;> omega
    | [a], h =>
      have hlf : lf ≠ 0 := fun e => by have := (invL_len h).2.2 e; cases this
      have e2 : lfU lf c.toNat = lf - 1 := by unfold lfU; rw [if_neg hlf]
      have e1 : sgU sg lf c.toNat = sg * 64 + (c.toNat - 128) := by unfold sgU; rw [if_neg hlf]
      have hb := okU_bd hlf hk
      have hn := (lowhigh sg lf c.toNat hb.1 hb.2 hlf)
      rw [hk] at hn
      simp only [Bool.true_eq_false, false_iff] at hn
      rw [e2] at hz
      rw [e1, e2]
      rcases h with ⟨h1, h2, rfl, h3⟩ | ⟨h1, h2, rfl, h3⟩ | ⟨h1, h2, rfl, h3⟩
      · omega
      · exact ⟨by omega, by omega, .inl ⟨by omega, by omega, by omega, by omega, by omega, by omega⟩⟩
      · exact ⟨by omega, by omega, .inr ⟨by omega, by omega, by omega, by omega, by omega, by omega⟩⟩
    | [a, b], h =>
      have hlf : lf ≠ 0 := fun e => by have := (invL_len h).2.2 e; cases this
      have e2 : lfU lf c.toNat = lf - 1 := by unfold lfU; rw [if_neg hlf]
      have e1 : sgU sg lf c.toNat = sg * 64 + (c.toNat - 128) := by unfold sgU; rw [if_neg hlf]
      have hb := okU_bd hlf hk
      rw [e2] at hz
      rw [e1, e2]
      obtain ⟨g1, g2, ⟨h1, h2, rfl, h3, h4, h5⟩ | ⟨h1, h2, rfl, h3, h4, h5⟩⟩ := h
      · omega
      · exact ⟨by omega, by omega, by omega, by omega, by omega, by omega, by omega, by omega, by omega, by omega⟩
    | [a, b, d], h =>
      have hlf : lf ≠ 0 := fun e => by have := (invL_len h).2.2 e; cases this
      have e2 : lfU lf c.toNat = lf - 1 := by unfold lfU; rw [if_neg hlf]
      rw [e2] at hz
      obtain ⟨g1, g2, g3, g4, h1, h2, rfl, h3, h4, h5⟩ := h
      omega

end Go.Proofs.Ytclcjngdpicjjaa

namespace Go.Proofs.Ytclcjngdpicjjaa
open Go.RowKit

def unitI (n : Int) : Int := if 55296 ≤ n ∧ n < 56320 then 1 else if 56320 ≤ n ∧ n < 57344 then 2 else 0
def hasI (n : Int) : Bool := decide (0 ≤ n ∧ n ≤ 1114111 ∧ (n < 55296 ∨ 57343 < n))
def fixI (n : Int) : Int := if hasI n then n else 65533
def ofI (m : Int) : List Int :=
  if m < 128 then [m] else if m < 2048 then [192 + m / 64, 128 + m % 64] else if m < 65536 then [224 + m / 4096, 128 + m / 64 % 64, 128 + m % 64]
  else [240 + m / 262144, 128 + m / 4096 % 64, 128 + m / 64 % 64, 128 + m % 64]

theorem fixI_in (n : Int) : 0 ≤ fixI n ∧ fixI n ≤ 1114111 ∧ (fixI n < 55296 ∨ 57343 < fixI n) := by
  unfold fixI hasI
  split
  · rename_i h; simpa using h
  · omega

theorem ofI_is {n : Int} : (n < 128 ∧ ofI n = [n]) ∨ (128 ≤ n ∧ n < 2048 ∧ ofI n = [192 + n / 64, 128 + n % 64]) ∨
    (2048 ≤ n ∧ n < 65536 ∧ ofI n = [224 + n / 4096, 128 + n / 64 % 64, 128 + n % 64]) ∨
    (65536 ≤ n ∧ ofI n = [240 + n / 262144, 128 + n / 4096 % 64, 128 + n / 64 % 64, 128 + n % 64]) := by
  unfold ofI
  (repeat' split) <;> simp <;> omega

theorem runU_both (l : List UInt8) : ∀ (sg lf : Int), -1 ≤ runU sg lf l 0 ∧ ∀ k : Int, runU sg lf l k = if runU sg lf l 0 = -1 then -1 else runU sg lf l 0 + k := by
  induction l with
  | nil => intro sg lf; by_cases h : 0 < lf <;> simp [runU, h]
  | cons c l ih =>
    intro sg lf
    show -1 ≤ (if okU sg lf c.toNat then runU _ _ l (0 + 1) else 0) ∧ ∀ k : Int, (if okU sg lf c.toNat then runU _ _ l (k + 1) else k) = if (if okU sg lf c.toNat then runU _ _ l (0 + 1) else 0) = -1 then -1 else (if okU sg lf c.toNat then runU _ _ l (0 + 1) else 0) + k
    by_cases h : okU sg lf c.toNat = true
    · simp only [h, if_true]
      obtain ⟨i1, i2⟩ := ih (sgU sg lf c.toNat) (lfU lf c.toNat)
      rw [i2 (0 + 1)]
      refine ⟨by split <;> omega, fun k => ?_⟩
      rw [i2 (k + 1)]
      (repeat' split) <;> omega
    · simp only [h]
      simp

theorem runU_shift (l : List UInt8) (sg lf k : Int) : runU sg lf l k = if runU sg lf l 0 = -1 then -1 else runU sg lf l 0 + k := (runU_both l sg lf).2 k

theorem runU_ge (l : List UInt8) : ∀ (sg lf : Int), -1 ≤ runU sg lf l 0 ∧ runU sg lf l 0 ≤ l.length := by
  induction l with
  | nil => intro sg lf; show -1 ≤ (if 0 < lf then 0 else -1 : Int) ∧ (if 0 < lf then 0 else -1 : Int) ≤ _; split <;> simp
  | cons c l ih =>
    intro sg lf
    show -1 ≤ (if okU sg lf c.toNat then runU _ _ l (0 + 1) else 0) ∧ (if okU sg lf c.toNat then runU _ _ l (0 + 1) else 0) ≤ ((c :: l).length : Int)
    have e : ((c :: l).length : Int) = l.length + 1 := by simp
    rw [e]
    split
    · rw [runU_shift]
      have := ih (sgU sg lf c.toNat) (lfU lf c.toNat)
      split <;> omega
    · omega

/-- Between two signs the number doesn't matter. -/
theorem runU_zero (l : List UInt8) (sg sg' k : Int) : runU sg 0 l k = runU sg' 0 l k := by
  cases l with
  | nil => rfl
  | cons c l =>
    have e1 : okU sg 0 c.toNat = okU sg' 0 c.toNat := rfl
    have e2 : sgU sg 0 c.toNat = sgU sg' 0 c.toNat := rfl
    show (if okU sg 0 c.toNat then runU _ _ l (k + 1) else k) = (if okU sg' 0 c.toNat then runU _ _ l (k + 1) else k)
    rw [e1, e2]

theorem runU_append (l m : List UInt8) : ∀ (sg lf : Int), StU sg lf →
    (runU sg lf l 0 = -1 → runU sg lf (l ++ m) 0 = runU 0 0 m l.length) ∧
    (0 ≤ runU sg lf l 0 → runU sg lf l 0 < l.length → runU sg lf (l ++ m) 0 = runU sg lf l 0) := by
  induction l with
  | nil =>
    intro sg lf hst
    refine ⟨fun h => ?_, fun _ h => ?_⟩
    · have : lf = 0 := by
        have h : (if 0 < lf then 0 else -1 : Int) = -1 := h
        unfold StU at hst
        split at h <;> omega
      subst this
      exact runU_zero m sg 0 _
    · have h : (if 0 < lf then 0 else -1 : Int) < 0 := h
      have h0 : (0 : Int) ≤ (if 0 < lf then 0 else -1 : Int) := by assumption
      omega
  | cons c l ih =>
    intro sg lf hst
    have e : ((c :: l).length : Int) = l.length + 1 := by simp
    rw [e]
    show ((if okU sg lf c.toNat then runU _ _ l (0 + 1) else 0) = -1 → (if okU sg lf c.toNat then runU _ _ (l ++ m) (0 + 1) else 0) = _) ∧
      (0 ≤ (if okU sg lf c.toNat then runU _ _ l (0 + 1) else 0) → (if okU sg lf c.toNat then runU _ _ l (0 + 1) else 0) < (l.length : Int) + 1 → (if okU sg lf c.toNat then runU _ _ (l ++ m) (0 + 1) else 0) = (if okU sg lf c.toNat then runU _ _ l (0 + 1) else 0))
    by_cases h : okU sg lf c.toNat = true
    · simp only [h, if_true]
      obtain ⟨i1, i2⟩ := ih _ _ (stU_step hst (Int.natCast_nonneg _) h)
      have g := runU_ge l (sgU sg lf c.toNat) (lfU lf c.toNat)
      rw [runU_shift l _ _ (0 + 1), runU_shift (l ++ m) _ _ (0 + 1)]
      refine ⟨fun hh => ?_, fun h0 hh => ?_⟩
      · split at hh
        · rename_i h1
          rw [i1 h1, runU_shift m 0 0 l.length, runU_shift m 0 0 (l.length + 1)]
          have := (runU_ge m 0 0).1
          (repeat' split) <;> omega
        · omega
      · split at hh
        · rw [if_pos (by assumption)] at h0
          omega
        · rename_i h1
          rw [i2 (by omega) (by omega), if_neg h1]
    · simp only [h]
      simp

theorem badU_append (l m : List UInt8) :
    (badU l = -1 → badU (l ++ m) = if badU m = -1 then -1 else badU m + l.length) ∧
    (0 ≤ badU l → badU l < l.length → badU (l ++ m) = badU l) := by
  obtain ⟨h1, h2⟩ := runU_append l m 0 0 stU_zero
  exact ⟨fun h => by rw [show badU (l ++ m) = runU 0 0 (l ++ m) 0 from rfl, h1 h, runU_shift]; rfl, h2⟩

theorem runU_num (sg lf a k : Int) (h0 : 0 ≤ a) (h9 : a < 256) (l : List UInt8) :
    runU sg lf (UInt8.ofNat a.toNat :: l) k = if okU sg lf a then runU (sgU sg lf a) (lfU lf a) l (k + 1) else k := by
  have e : ((UInt8.ofNat a.toNat).toNat : Int) = a := by
    rw [UInt8.toNat_ofNat']
    omega
  show (if okU sg lf ((UInt8.ofNat a.toNat).toNat : Int) then _ else _) = _
  rw [e]

theorem okU_0 (c : Int) (h : c < 128 ∨ 194 ≤ c ∧ c < 245) (sg : Int) : okU sg 0 c = true := by unfold okU; rw [if_pos rfl]; exact decide_eq_true h
theorem okU_n {sg lf c : Int} (hl : lf ≠ 0) (h : lowU sg lf ≤ c ∧ c ≤ highU sg lf) : okU sg lf c = true := by unfold okU; rw [if_neg hl]; exact decide_eq_true h

theorem badU_of (m : Int) (h0 : 0 ≤ m) (h9 : m ≤ 1114111) (hs : m < 55296 ∨ 57343 < m) : badU (strOfNums (ofI m)).data.toList = -1 := by
  rw [strOfNums_data]
  unfold badU
  rcases @ofI_is m with ⟨h, e⟩ | ⟨h, h', e⟩ | ⟨h, h', e⟩ | ⟨h, e⟩
  · rw [e]
    simp only [List.map_cons, List.map_nil]
    rw [runU_num _ _ _ _ (by omega) (by omega), okU_0 _ (by omega), if_pos rfl]
    rw [show lfU 0 m = 0 by unfold lfU; (repeat' split) <;> omega]
    rfl
  · rw [e]
    simp only [List.map_cons, List.map_nil]
    rw [runU_num _ _ _ _ (by omega) (by omega), okU_0 _ (by omega), if_pos rfl]
    rw [show lfU 0 (192 + m / 64) = 1 by unfold lfU; (repeat' split) <;> omega, show sgU 0 0 (192 + m / 64) = m / 64 by unfold sgU; (repeat' split) <;> omega]
    rw [runU_num _ _ _ _ (by omega) (by omega), okU_n (by omega) (by unfold lowU highU; (repeat' split) <;> omega), if_pos rfl]
    rfl
  · rw [e]
    simp only [List.map_cons, List.map_nil]
    rw [runU_num _ _ _ _ (by omega) (by omega), okU_0 _ (by omega), if_pos rfl]
    rw [show lfU 0 (224 + m / 4096) = 2 by unfold lfU; (repeat' split) <;> omega, show sgU 0 0 (224 + m / 4096) = m / 4096 by unfold sgU; (repeat' split) <;> omega]
    rw [runU_num _ _ _ _ (by omega) (by omega), okU_n (by omega) (by unfold lowU highU; (repeat' split) <;> omega), if_pos rfl]
    rw [show lfU 2 (128 + m / 64 % 64) = 1 from rfl, show sgU (m / 4096) 2 (128 + m / 64 % 64) = m / 64 by unfold sgU; (repeat' split) <;> omega]
    rw [runU_num _ _ _ _ (by omega) (by omega), okU_n (by omega) (by unfold lowU highU; (repeat' split) <;> omega), if_pos rfl]
    rfl
  · rw [e]
    simp only [List.map_cons, List.map_nil]
    rw [runU_num _ _ _ _ (by omega) (by omega), okU_0 _ (by omega), if_pos rfl]
    rw [show lfU 0 (240 + m / 262144) = 3 by unfold lfU; (repeat' split) <;> omega, show sgU 0 0 (240 + m / 262144) = m / 262144 by unfold sgU; (repeat' split) <;> omega]
    rw [runU_num _ _ _ _ (by omega) (by omega), okU_n (by omega) (by unfold lowU highU; (repeat' split) <;> omega), if_pos rfl]
    rw [show lfU 3 (128 + m / 4096 % 64) = 2 from rfl, show sgU (m / 262144) 3 (128 + m / 4096 % 64) = m / 4096 by unfold sgU; (repeat' split) <;> omega]
    rw [runU_num _ _ _ _ (by omega) (by omega), okU_n (by omega) (by unfold lowU highU; (repeat' split) <;> omega), if_pos rfl]
    rw [show lfU 2 (128 + m / 64 % 64) = 1 from rfl, show sgU (m / 4096) 2 (128 + m / 64 % 64) = m / 64 by unfold sgU; (repeat' split) <;> omega]
    rw [runU_num _ _ _ _ (by omega) (by omega), okU_n (by omega) (by unfold lowU highU; (repeat' split) <;> omega), if_pos rfl]
    rfl

end Go.Proofs.Ytclcjngdpicjjaa

namespace Go.Proofs.Ytclcjngdpicjjaa
open Go.RowKit

/-- The slice's n elements are these values; its cells lie in a block below B. -/
def Rd (w : World) (B : Nat) (A : Option Addr) (n : Nat) (xs : List Value) : Prop :=
  xs.length = n ∧ (0 < n → ∃ ad : Addr, A = some ad ∧ ad.block < B ∧ ∀ j u, xs[j]? = some u → w.cell? (ad.add j) = some u)

/-- A slice of numbers that came in. -/
def IsRow (k : IntKind) (w : World) (A : Option Addr) (len cap : Nat) (zs : List Int) : Prop :=
  (A = none ∧ len = 0 ∧ cap = 0 ∧ zs = []) ∨
  ∃ ad : Addr, A = some ad ∧ len ≤ cap ∧ cap ≤ maxLen ∧ zs.length = cap ∧ (∀ i, i < zs.length → w.cell? (ad.add i) = some (.int k (zs.getD i 0))) ∧ ∀ n ∈ zs, (Lit.int k n).wf = true

section
variable {w w' : World} {B : Nat} {A : Option Addr} {n : Nat} {xs : List Value}

theorem add_none (b o j : Nat) : (⟨b, o, none⟩ : Addr).add j = ⟨b, o + j, none⟩ := by
  unfold Addr.add
  split
  · subst_vars; rfl
  · rfl
theorem add_block (a : Addr) (j : Nat) : (a.add j).block = a.block := by unfold Addr.add; split <;> rfl
theorem cell_inside {p : Addr} {v : Value} (h : w.cell? p = some v) : p.block < w.heap.size := by
  by_cases hp : p.block < w.heap.size
  · exact hp
  · unfold World.cell? at h
    rw [Array.getElem?_eq_none (by omega)] at h
    simp at h

theorem Rd.zero (w : World) (B : Nat) (A : Option Addr) : Rd w B A 0 [] := ⟨rfl, fun h => absurd h (by omega)⟩
theorem Rd.stay (h : Rd w B A n xs) (hb : Below B w w') : Rd w' B A n xs :=
  ⟨h.1, fun hn => by
    obtain ⟨ad, e, hlt, hc⟩ := h.2 hn
    exact ⟨ad, e, hlt, fun j u hu => (hb.cell (p := ad.add j) (by rw [add_block]; exact hlt)).trans (hc j u hu)⟩⟩
theorem Rd.more {B' : Nat} (h : Rd w B A n xs) (hB : B ≤ B') : Rd w B' A n xs :=
  ⟨h.1, fun hn => by
    obtain ⟨ad, e, hlt, hc⟩ := h.2 hn
    exact ⟨ad, e, by omega, hc⟩⟩
theorem Rd.of_cells {b : Nat} {t : TypeId} {cs : Array Value} (h : Own w b t cs) (off m : Nat) (hm : off + m ≤ cs.size) : Rd w (b + 1) (some ⟨b, off, none⟩) m ((cs.toList.drop off).take m) := by
  refine ⟨by simp; omega, fun _ => ⟨_, rfl, Nat.lt_succ_self _, fun j u hu => ?_⟩⟩
  rw [add_none, h.at]
  rw [List.getElem?_take] at hu
  split at hu
  · rw [List.getElem?_drop] at hu
    simpa using hu
  · cases hu
theorem Rd.of_owned {base : Nat} {e : TypeId} {c : Nat} (h : w.ownsRow base e 1 (.slice A n c) n xs) : Rd w w.heap.size A n xs := by
  refine ⟨by simpa using h.1, fun hn => ?_⟩
  rcases h.2 with ⟨_, h0⟩ | ⟨g, cap, cur, hv, hb, hg, _⟩
  · omega
  · injection hv with hA _ _
    subst hA
    exact ⟨_, rfl, (Array.getElem?_eq_some_iff.1 hg).1, h.cells (g := g) rfl⟩
theorem Rd.of_row {k : IntKind} {len cap : Nat} {zs : List Int} (h : IsRow k w A len cap zs) : Rd w w.heap.size A len ((zs.take len).map (Value.int k)) := by
  rcases h with ⟨rfl, rfl, rfl, rfl⟩ | ⟨ad, rfl, hl, hm, hz, hc, _⟩
  · exact Rd.zero _ _ _
  · refine ⟨by simp; omega, fun hn => ⟨ad, rfl, ?_, fun j u hu => ?_⟩⟩
    · have := cell_inside (hc 0 (by omega))
      rwa [add_block] at this
    · rw [List.getElem?_map, List.getElem?_take] at hu
      split at hu
      · rename_i hj
        have hj' : j < zs.length := by omega
        rw [hc j hj']
        rw [List.getElem?_eq_getElem hj'] at hu
        simpa [hj'] using hu
      · cases hu
theorem IsRow.len_le {k : IntKind} {len cap : Nat} {zs : List Int} (h : IsRow k w A len cap zs) : len ≤ zs.length := by
  rcases h with ⟨_, rfl, _, _⟩ | ⟨_, _, hl, _, hz, _⟩ <;> omega
theorem IsRow.wf {k : IntKind} {len cap : Nat} {zs : List Int} (h : IsRow k w A len cap zs) : ∀ n ∈ zs, (Lit.int k n).wf = true := by
  rcases h with ⟨_, _, _, rfl⟩ | ⟨_, _, _, _, _, _, h⟩
  · intro n hn; cases hn
  · exact h
end

section
variable {P : Program}

theorem run_append_rd (w : World) (base : Nat) (t ty e : TypeId) (i : TypeInfo) (z : Value) (bytes : Nat) (ht : P.underlying t = some (.slice e)) (hi : P.info? e = some i) (hz : i.zero = some z)
    (hsize : i.size = 1) (hby : i.bytes = bytes) (hzs : z.cells.size = 1)
    (v : Value) (n : Nat) (xs : List Value) (hown : w.ownsRow base e 1 v n xs)
    (B : Nat) (A : Option Addr) (m c : Nat) (news : List Value) (hr : Rd w B A m news) (h1 : ∀ u ∈ news, u.oneCell' = true)
    (h63 : n + m ≤ maxLen) (hbytes : (n + m) * bytes ≤ 140737488355328) (hbase : base ≤ w.heap.size) :
    ∃ v' w', (Builtin.append_ #[t, t] ty #[v, .slice A m c]).run P w = .ok v' w' ∧ w'.ownsRow base e 1 v' (n + m) (xs ++ news) ∧ w.grownBy w' v.ownBlock ∧
      (v' = .slice none 0 0 ↔ v = .slice none 0 0 ∧ m = 0) ∧ (v'.ownBlock = v.ownBlock ∨ v'.ownBlock = some w.heap.size) := by
  cases A with
  | none =>
    have hm : m = 0 := by
      by_cases h : 0 < m
      · obtain ⟨ad, e, _⟩ := hr.2 h
        cases e
      · omega
    subst hm
    obtain rfl : news = [] := List.eq_nil_of_length_eq_zero hr.1
    refine ⟨v, w, ?_, by simpa using hown, ⟨rfl, rfl, rfl, Nat.le_refl _, fun _ _ _ => rfl⟩, by simp, .inl rfl⟩
    rcases hown.2 with ⟨rfl, rfl⟩ | ⟨g, cap, cur, rfl, _, _, hnc, _⟩
    · simp [Builtin.append_, run_underlying ht, sizeOf, typeInfo, hi, Builtin.lenOf, Builtin.firstCells]
    · simp [Builtin.append_, run_underlying ht, sizeOf, typeInfo, hi, Builtin.lenOf, Builtin.firstCells, hnc, storeCells]
  | some ad =>
    have hc : ∀ j u, news[j]? = some u → w.cell? (ad.add j) = some u := by
      intro j u hu
      have hm : 0 < m := by
        have := hr.1
        have := (List.getElem?_eq_some_iff.1 hu).1
        omega
      obtain ⟨ad', e, _, h⟩ := hr.2 hm
      injection e with e
      subst e
      exact h j u hu
    exact run_append_own_at (P := P) w base t ty e i z 1 bytes ht hi hz hsize hby hzs (by omega) v n xs hown ad m c news (by simpa using hr.1) hc h1 h63 hbytes hbase

theorem wp_append_rd (w : World) {o : Oper} {a : Act} {K : Act → World → Prop} {Q : Exit → Act → World → Prop} (s x : Operand) (t : TypeId)
    (ho : o.op = .call { callee := .builtin .append, args := #[s, x], argTypes := #[t, t] })
    (base : Nat) (e : TypeId) (i : TypeInfo) (z : Value) (bytes : Nat) (ht : P.underlying t = some (.slice e)) (hi : P.info? e = some i) (hz : i.zero = some z)
    (hsize : i.size = 1) (hby : i.bytes = bytes) (hzs : z.cells.size = 1)
    (v : Value) (n : Nat) (xs : List Value) (hs : a.eval s = v) (hown : w.ownsRow base e 1 v n xs)
    (B : Nat) (A : Option Addr) (m c : Nat) (news : List Value) (hx : a.eval x = .slice A m c) (hr : Rd w B A m news) (h1 : ∀ u ∈ news, u.oneCell' = true)
    (h63 : n + m ≤ maxLen) (hbytes : (n + m) * bytes ≤ 140737488355328) (hbase : base ≤ w.heap.size)
    (h : ∀ v' w', w'.ownsRow base e 1 v' (n + m) (xs ++ news) → w.grownBy w' v.ownBlock → (v' = .slice none 0 0 ↔ v = .slice none 0 0 ∧ m = 0) → (v'.ownBlock = v.ownBlock ∨ v'.ownBlock = some w.heap.size) → K (a.put o.dst v') w') : o.wp P a w K Q := by
  obtain ⟨v', w', hrun, h2, h3, h4, h5⟩ := run_append_rd (P := P) w base t o.type e i z bytes ht hi hz hsize hby hzs v n xs hown B A m c news hr h1 h63 hbytes hbase
  unfold Oper.wp execOp
  simp only [ho, resolve, invoke, builtin, Sem.run_bind, Sem.run_pure, Result.andThen_ok, List.map_toArray, List.map_cons, List.map_nil, hs, hx, hrun]
  exact h v' w' h2 h3 h4 h5

theorem wpList_append_rd (w : World) {ops : Array Oper} {rest : List Oper} {o : Oper} {a : Act} {Q : Exit → Act → World → Prop} (hgd : o.guard = none) (s x : Operand) (t : TypeId)
    (ho : o.op = .call { callee := .builtin .append, args := #[s, x], argTypes := #[t, t] })
    (base : Nat) (e : TypeId) (i : TypeInfo) (z : Value) (bytes : Nat) (ht : P.underlying t = some (.slice e)) (hi : P.info? e = some i) (hz : i.zero = some z)
    (hsize : i.size = 1) (hby : i.bytes = bytes) (hzs : z.cells.size = 1)
    (v : Value) (n : Nat) (xs : List Value) (hs : a.eval s = v) (hown : w.ownsRow base e 1 v n xs)
    (B : Nat) (A : Option Addr) (m c : Nat) (news : List Value) (hx : a.eval x = .slice A m c) (hr : Rd w B A m news) (h1 : ∀ u ∈ news, u.oneCell' = true)
    (h63 : n + m ≤ maxLen) (hbytes : (n + m) * bytes ≤ 140737488355328) (hbase : base ≤ w.heap.size)
    (h : ∀ v' w', w'.ownsRow base e 1 v' (n + m) (xs ++ news) → w.grownBy w' v.ownBlock → (v' = .slice none 0 0 ↔ v = .slice none 0 0 ∧ m = 0) → (v'.ownBlock = v.ownBlock ∨ v'.ownBlock = some w.heap.size) → wpList P ops Q rest (a.put o.dst v') w') : wpList P ops Q (o :: rest) a w :=
  wpList_plain hgd fun _ hK => wp_append_rd w s x t ho base e i z bytes ht hi hz hsize hby hzs v n xs hs hown B A m c news hx hr h1 h63 hbytes hbase fun v' w' h2 h3 h4 h5 => hK _ _ (h v' w' h2 h3 h4 h5)
end

theorem ints_one (k : IntKind) (l : List Int) : ∀ u ∈ l.map (Value.int k), u.oneCell' = true := by
  intro u hu
  obtain ⟨n, _, rfl⟩ := List.mem_map.1 hu
  rfl

theorem byte_info : (Try.prog.info? 5).map (fun i => (i.zero, i.size, i.bytes)) = some (some (.int .u8 0), 1, 1) := by kernel_rfl

/-- Bytes that a slice holds, as a string. -/
theorem conv_rd {w : World} {B b off n c : Nat} {xs : List Int} (h : Rd w B (some ⟨b, off, none⟩) n (xs.map (Value.int .u8))) :
    (convert 49 9 (.slice (some ⟨b, off, none⟩) n c)).run Try.prog w = .ok (.string (strOfNums xs)) w := by
  have hl : xs.length = n := by simpa using h.1
  refine run_convert_bytes_arg _ _ _ Try.underlying49 Try.underlying5 b off n c xs hl (fun i hi => ?_) _ Try.underlying9
  obtain ⟨ad, e, _, hc⟩ := h.2 (by omega)
  injection e with e
  subst e
  have := hc i (.int .u8 (xs.getD i 0)) (by simp [hl, hi])
  rwa [add_none] at this

theorem ownBlock_is {g o n c g' : Nat} (h : (Value.slice (some ⟨g, o, none⟩) n c).ownBlock = some g') : g' = g := by
  simp [Value.ownBlock] at h
  exact h.symm

theorem own_form {w : World} {base : Nat} {e : TypeId} {v : Value} {n : Nat} {xs : List Value} (h : w.ownsRow base e 1 v n xs) (hne : v ≠ .slice none 0 0) :
    ∃ g c : Nat, v = .slice (some ⟨g, 0, none⟩) n c ∧ base ≤ g ∧ g < w.heap.size ∧ n ≤ c ∧ c ≤ maxLen := by
  rcases h.2 with ⟨hv, _⟩ | ⟨g, c, cur, hv, hb, hg, hn, hm, _⟩
  · exact absurd hv hne
  · exact ⟨g, c, hv, hb, (Array.getElem?_eq_some_iff.1 hg).1, hn, hm⟩

theorem own_stay {w w' : World} {base B : Nat} {e : TypeId} {v : Value} {n : Nat} {xs : List Value} (h : w.ownsRow base e 1 v n xs) (hb : Below B w w') (hB : ∀ g, v.ownBlock = some g → g < B) : w'.ownsRow base e 1 v n xs := by
  refine ⟨h.1, ?_⟩
  rcases h.2 with hn | ⟨g, c, cur, rfl, hbg, hg, rest⟩
  · exact .inl hn
  · exact .inr ⟨g, c, cur, rfl, hbg, (hb.block g (hB g rfl)).trans hg, rest⟩

theorem Rd.of_list {w : World} {b : Nat} {t : TypeId} {l : List Value} {k : Nat} (h : Own w b t l.toArray) (hk : l.length = k) : Rd w (b + 1) (some ⟨b, 0, none⟩) k l := by
  have := Rd.of_cells h 0 k (by simp [hk])
  simpa [List.take_of_length_le (Nat.le_of_eq hk)] using this

theorem Rd.of_tail {w : World} {b : Nat} {t : TypeId} {l m : List Value} {j k : Nat} (h : Own w b t (l ++ m).toArray) (hj : l.length = j) (hk : m.length = k) : Rd w (b + 1) (some ⟨b, j, none⟩) k m := by
  subst hj
  have := Rd.of_cells h l.length k (by simp [hk])
  simpa [List.take_of_length_le (Nat.le_of_eq hk)] using this

theorem below_grown {B : Nat} {a w w' : World} {v : Value} (h : Below B a w) (hg : w.grownBy w' v.ownBlock) (hB : B ≤ w.heap.size) (hv : ∀ g, v.ownBlock = some g → B ≤ g) : Below B a w' := h.grown hg hB hv

theorem made_one (v : Value) (n : Nat) : madeCells #[v] n = (List.replicate n v).toArray := by
  apply Array.ext
  · simp [madeCells]
  · intro i h1 h2
    simp [madeCells, Nat.mod_one]

theorem set_tail (xs ys : List Value) (i j : Nat) (v : Value) (h : i = xs.length + j) : ((xs ++ ys).toArray).setIfInBounds i v = (xs ++ ys.set j v).toArray := by
  subst h
  rw [List.setIfInBounds_toArray, List.set_append_right _ _ (by omega)]
  simp

theorem run_copy_rd {P : Program} {w : World} {g o : Nat} {t elem dT ty : TypeId} {cur : List Value} (hown : Own w g t cur.toArray) (dLen dCap sLen sCap B : Nat) (A : Option Addr) (xs : List Value)
    (hu : P.underlying dT = some (.slice elem)) (hs : (P.info? elem).map (·.size) = some 1)
    (hr : Rd w B A sLen xs) (h1 : ∀ u ∈ xs, u.oneCell' = true) (hn : sLen ≤ dLen) (hfit : o + sLen ≤ cur.length) :
    ∃ w', (Builtin.copy_ #[dT, dT] ty #[.slice (some ⟨g, o, none⟩) dLen dCap, .slice A sLen sCap]).run P w = .ok (.int .i64 sLen) w' ∧
      Own w' g t (cur.take o ++ xs ++ cur.drop (o + sLen)).toArray ∧ Turned g w w' := by
  by_cases h0 : 0 < sLen
  · obtain ⟨ad, rfl, _, hc⟩ := hr.2 h0
    have hl : xs.length = sLen := hr.1
    have := run_copy_row (P := P) w dT dT ty elem g o dLen dCap ad sLen sCap cur.toArray t xs hu hs hown (by rw [hl]; exact (Nat.min_eq_left hn).symm) hc (by simpa [hl] using hfit) h1
    rw [hl] at this
    exact ⟨_, this, setRow_heap w g _ _ t _ hown, rfl, rfl, rfl, by simp [World.setRow], fun k _ hk => setRow_other w g k _ hk⟩
  · obtain rfl : sLen = 0 := by omega
    obtain rfl : xs = [] := List.eq_nil_of_length_eq_zero hr.1
    exact ⟨w, run_copy_none (P := P) w dT dT ty elem _ _ dLen dCap 0 sCap hu hs (Nat.min_eq_left hn), by simpa using hown, Turned.refl _ _⟩

end Go.Proofs.Ytclcjngdpicjjaa

namespace Go.Proofs.Ytclcjngdpicjjaa
open Go.RowKit

theorem conv_one (W : World) (x : Int) :
    (convert 49 9 (.slice (some ⟨W.heap.size, 0, none⟩) 1 1)).run Try.prog (W.alloc (.cells #[.int .u8 x] 5)) = .ok (.string (strOfNums [x])) (W.alloc (.cells #[.int .u8 x] 5)) := by
  exact run_convert_bytes_arg _ _ _ Try.underlying49 Try.underlying5 W.heap.size 0 1 1 [x] rfl (fun i hi => by
    obtain rfl : i = 0 := by omega
    simp) _ Try.underlying9
theorem conv_one' (W : World) (o : Obj) (x : Int) :
    (convert 49 9 (.slice (some ⟨W.heap.size + 1, 0, none⟩) 1 1)).run Try.prog ((W.alloc o).alloc (.cells #[.int .u8 x] 5)) = .ok (.string (strOfNums [x])) ((W.alloc o).alloc (.cells #[.int .u8 x] 5)) := by
  have := conv_one (W.alloc o) x
  simpa using this

def sizeOfV : Value → Nat | .string b => b.size | _ => 0
def RelPad (s : ByteArray) (n : Nat) (W wr : World) (lo tp : Value) : Prop :=
  ∃ (k : Nat) (x y : ByteArray), lo = .string x ∧ tp = .string y ∧ x.size = s.size + k ∧ y.size = s.size + k ∧ s.size + k ≤ n ∧
    x.data.toList = s.data.toList ++ List.replicate k 128 ∧ y.data.toList = s.data.toList ++ List.replicate k 191 ∧ Below W.heap.size W wr

theorem least_cell (w : World) (n : Nat) (hn : n = 1 ∨ n = 2 ∨ n = 3 ∨ n = 4) :
    (w.alloc (.cells #[.int .i64 0, .int .i64 0, .int .i64 128, .int .i64 2048, .int .i64 65536] 3)).cell? ⟨w.heap.size, n, none⟩ = some (.int .i64 (leastR n)) := by
  rw [(Own.fresh w 3 _).at n]
  rcases hn with rfl | rfl | rfl | rfl <;> rfl

theorem ret_three {k : IntKind} {x y : Bool} {z : Int} {t : Bool × Bool × Int} (h : (x, y, z) = t) :
    Ending.returned (.tuple #[.bool x, .bool y, .int k z]) = .returned (.tuple #[.bool t.1, .bool t.2.1, .int k t.2.2]) := by subst h; rfl

theorem cons_of (s : ByteArray) (h : 0 < s.size) : ∃ t, s.data.toList = s[0] :: t := by
  have hl : 0 < s.data.toList.length := h
  cases hc : s.data.toList with
  | nil => rw [hc] at hl; simp at hl
  | cons a t =>
    refine ⟨t, ?_⟩
    have : s.data.toList[0] = a := by simp [hc]
    have e : s[0] = a := this
    rw [e]

theorem padR_of (s : ByteArray) (n : Nat) (c : UInt8) : s.data.toList ++ List.replicate (n - s.size) c = padR s.data.toList n c := rfl

theorem begR_cons (c : UInt8) (t : List UInt8) : begR (c :: t) =
    if sizeR c.toNat = 0 ∨ sizeR c.toNat < (c :: t).length then (false, false, 0) else
    if contR t then endR (c :: t).length (sizeR c.toNat).toNat (numR (padR (c :: t) (sizeR c.toNat).toNat 128)) (numR (padR (c :: t) (sizeR c.toNat).toNat 191)) else (false, false, 0) := rfl

theorem begR_end (s : ByteArray) (n : Nat) (h1 : 0 < s.size) (h4 : s.size ≤ n) (hr : sizeR s[0].toNat = n) (hc : ContTo s s.size) :
    begR s.data.toList = endR s.size n (numR (padR s.data.toList n 128)) (numR (padR s.data.toList n 191)) := by
  obtain ⟨t, ht⟩ := cons_of s h1
  have hs : s.size = s.data.toList.length := rfl
  unfold ContTo at hc
  rw [List.take_of_length_le (by rw [hs]; omega)] at hc
  rw [hs] at h4 h1 ⊢
  rw [ht] at hc h4 h1 ⊢
  simp only [List.drop_one, List.tail_cons] at hc
  rw [begR_cons]
  rw [if_neg (by rw [hr]; omega), if_pos hc, hr]
  rfl

theorem begR_not (s : ByteArray) (n k : Nat) (h1 : 0 < s.size) (h4 : s.size ≤ n) (hr : sizeR s[0].toNat = n) (hc : contR ((s.data.toList.take (k + 1)).drop 1) = false) :
    begR s.data.toList = (false, false, 0) := by
  obtain ⟨t, ht⟩ := cons_of s h1
  have hs : s.size = s.data.toList.length := rfl
  have hc' := cont_no _ _ hc
  rw [hs] at h4 h1
  rw [ht] at hc' h4 h1 ⊢
  simp only [List.drop_one, List.tail_cons] at hc'
  rw [begR_cons]
  rw [if_neg (by rw [hr]; omega), if_neg (by rw [hc']; simp)]

set_option maxRecDepth 100000 in
set_option maxHeartbeats 2000000 in
theorem rbegins_core (s : ByteArray) (W : World) (n : Nat) (hn : n = 1 ∨ n = 2 ∨ n = 3 ∨ n = 4) (h1 : 0 < s.size) (h4 : s.size ≤ n) (hr : sizeR s[0].toNat = n) :
    Calls Try.prog 23 #[.string s] W fun e w' => e = .returned (.tuple #[.bool (begR s.data.toList).1, .bool (begR s.data.toList).2.1, .int .i64 (begR s.data.toList).2.2]) ∧ Below W.heap.size W w' := by
  have hcv1 := conv_one
  have hcv2 := conv_one'
  have hlc := fun w => least_cell w n hn
  have z1 : (strOfNums [128]).size = 1 := rfl
  have z2 : (strOfNums [191]).size = 1 := rfl
  have n1 : 1 ≤ n := by omega
  have n4 : n ≤ 4 := by omega
  have n0 : ((n : Int) == 0) = false := beq_eq_false_iff_ne.2 (by omega)
  have hs1 := fun w => rsize_any s[0].toNat w
  rw [hr] at hs1
  have HS := Lib.hid hs1
  have HR := Lib.hid hr
  clear hs1 hr hn
  go_enter Try.func23, Try.ntmps23
  go_wp2_with (first | (go_at_call 35; refine (HS.out _).mono ?_; rintro e w' ⟨rfl, rfl⟩))
  go_loop [6] (fun i => RelCont s i) (fun i => s.size - (intOf i).toNat)
  case atStart => exact ⟨1, Nat.le_refl _, h1, rfl, contTo_one s⟩
  case round =>
    obtain ⟨k, hk1, hk, rfl, hcont⟩ := hrel
    by_cases hlt : k < s.size
    · obtain ⟨c0, c9⟩ := byte_le s k hlt
      have HS := Lib.hid (cont_snoc s k hk1 hlt)
      have HK := Lib.hid hcont
      by_cases hlo : (s[k].toNat : Int) < 128
      · have HB := Lib.hid (begR_not s n k h1 h4 HR.out (by rw [HS.out]; simp; omega))
        clear hcont
        go_wp2
        go_ret3
        exact ⟨ret_three HB.out.symm, Below.refl _ _⟩
      · by_cases hhi : 191 < (s[k].toNat : Int)
        · have HB := Lib.hid (begR_not s n k h1 h4 HR.out (by rw [HS.out]; simp; omega))
          clear hcont
          go_wp2
          go_ret3
          exact ⟨ret_three HB.out.symm, Below.refl _ _⟩
        · clear hcont
          have hlo' : 128 ≤ (s[k].toNat : Int) := by omega
          have hhi' : (s[k].toNat : Int) ≤ 191 := by omega
          go_wp2
          go_round
          case rel => exact ⟨k + 1, by omega, hlt, by go_num, by unfold ContTo; rw [HS.out, show contR ((s.data.toList.take k).drop 1) = true from HK.out]; simp; omega⟩
          case measure => simp [intOf]; omega
    · obtain rfl : k = s.size := by omega
      have HC := Lib.hid hcont
      clear hcont
      go_wp2
      go_loopw [7, 8] (fun lo tp wr => RelPad s n W wr lo tp) (fun lo _ _ => n - sizeOfV lo)
      case atStart => exact ⟨0, s, s, rfl, rfl, rfl, rfl, h4, by simp, by simp, Below.refl _ _⟩
      case round =>
        obtain ⟨j, x, y, rfl, rfl, hx, hy, hj, hxl, hyl, hbel⟩ := hrel
        by_cases hlt : x.size < n
        · have hx1 : x.size ≤ 4 := by omega
          have hy1 : y.size ≤ 4 := by omega
          have hyn : y.size < n := by omega
          have hj' : s.size + (j + 1) ≤ n := by omega
          have HX := Lib.hid hx
          have HY := Lib.hid hy
          have HXL := Lib.hid hxl
          have HYL := Lib.hid hyl
          clear hx hy hxl hyl
          go_wp2
          case roundEnd =>
            refine ⟨⟨j + 1, _, _, rfl, rfl, ?_, ?_, hj', ?_, ?_, (hbel.alloc hbel.size _).alloc (by have := hbel.size; simp; omega) _⟩, ?_⟩
            · rw [ByteArray.size_append, HX.out]; rfl
            · rw [ByteArray.size_append, HY.out]; rfl
            · rw [ByteArray.data_append]; simp [HXL.out, List.replicate_succ']; rfl
            · rw [ByteArray.data_append]; simp [HYL.out, List.replicate_succ']; rfl
            · simp only [sizeOfV, ByteArray.size_append]; rw [z1]; omega
        · have HX := Lib.hid hx
          have HY := Lib.hid hy
          have HXL := Lib.hid hxl
          have HYL := Lib.hid hyl
          have hx1 : x.size ≤ 4 := by omega
          have hy1 : y.size ≤ 4 := by omega
          have hx0 : 0 < x.size := by omega
          have hy0 : 0 < y.size := by omega
          have ha := fun w => rnumber_any x w hx0 hx1
          have hb := fun w => rnumber_any y w hy0 hy1
          have HA := Lib.hid ha
          have HB := Lib.hid hb
          have hjn : j = n - s.size := by omega
          have HE := Lib.hid (begR_end s n h1 h4 HR.out HC.out)
          rw [← padR_of s n, ← padR_of s n, ← hjn, ← hxl, ← hyl] at HE
          clear hx hy hxl hyl ha hb hjn
          generalize numR x.data.toList = a at *
          generalize numR y.data.toList = b at *
          go_wp2_with (first
            | (go_at_call 36; (with_reducible refine (HA.out _).mono ?_); rintro e w' ⟨rfl, rfl⟩)
            | (go_at_call 36; (with_reducible refine (HB.out _).mono ?_); rintro e w' ⟨rfl, rfl⟩))
          all_goals
            go_ret3
            refine ⟨ret_three (Eq.trans ?_ HE.out.symm), hbel.alloc hbel.size _⟩
            unfold endR
            simp only [beq_iff_eq, beq_eq_false_iff_ne] at *
            split <;> (try split) <;> first | rfl | omega
end Go.Proofs.Ytclcjngdpicjjaa

namespace Go.Proofs.Ytclcjngdpicjjaa
open Go.RowKit

set_option maxRecDepth 100000 in
set_option maxHeartbeats 400000 in
theorem rbegins_zero (s : ByteArray) (W : World) (h1 : 0 < s.size) (hr : sizeR s[0].toNat = 0) :
    Calls Try.prog 23 #[.string s] W fun e w' => e = .returned (.tuple #[.bool false, .bool false, .int .i64 0]) ∧ W = w' := by
  have hs1 := fun w => rsize_any s[0].toNat w
  rw [hr] at hs1
  have HS := Lib.hid hs1
  clear hs1 hr
  go_enter Try.func23, Try.ntmps23
  go_wp2_with (first | (go_at_call 35; refine (HS.out _).mono ?_; rintro e w' ⟨rfl, rfl⟩))
  go_ret3
  exact ⟨rfl, rfl⟩

theorem rbegins_step (t : ByteArray) (l : List UInt8) (c : UInt8) (sg lf : Int) (ht : t.data.toList = l ++ [c]) (h : InvL l sg lf) (W : World) {x y : Bool} {z : Int} (hv : ansU sg lf c.toNat = (x, y, z)) :
    Calls Try.prog 23 #[.string t] W fun e w' => e = .returned (.tuple #[.bool x, .bool y, .int .i64 z]) ∧ Below W.heap.size W w' := by
  have hs : t.size = (l ++ [c]).length := by rw [← ht]; rfl
  have h1 : 0 < t.size := by rw [hs]; simp
  obtain ⟨r, hr⟩ := cons_of t h1
  have hb := beg_any l c sg lf h
  rw [← ht, hv] at hb
  rcases invL_size h t[0] r (by rw [← ht, hr]) with ⟨n, hn, hl, hz⟩ | hz
  · have := rbegins_core t W n hn h1 (by rw [hs]; exact hl) hz
    rw [hb] at this
    exact this
  · have e := begR_zero t[0] r hz
    rw [← hr, hb] at e
    simp only [Prod.mk.injEq] at e
    obtain ⟨rfl, rfl, rfl⟩ := e
    exact (rbegins_zero t W h1 hz).mono fun e w' ⟨he, hw⟩ => ⟨he, hw ▸ Below.refl _ _⟩

theorem part_snoc (s : ByteArray) (j k : Nat) (hjk : j ≤ k) (hk : k < s.size) : (s.extract j (k + 1)).data.toList = (s.data.toList.take k).drop j ++ [s[k]] := by
  have hl : k < s.data.toList.length := hk
  rw [ByteArray.data_extract, Array.toList_extract, List.extract_eq_take_drop]
  rw [show s[k] = s.data.toList[k] from rfl, ← List.drop_append_of_le_length (by simp; omega), ← List.take_succ_eq_append_getElem hl, List.drop_take]

/-- Where Bad's loop is: the last sign's end, and the state. -/
def RelRBad (s : ByteArray) (W wr : World) (fr i : Value) : Prop :=
  ∃ (j k : Nat) (sg lf : Int), j ≤ k ∧ k ≤ s.size ∧ (j = k ↔ lf = 0) ∧ fr = .int .i64 j ∧ i = .int .i64 k ∧ StU sg lf ∧ InvL ((s.data.toList.take k).drop j) sg lf ∧ Below W.heap.size W wr ∧ badU s.data.toList = runU sg lf (s.data.toList.drop k) k

set_option maxRecDepth 100000 in
set_option maxHeartbeats 1000000 in
theorem rbad_any (s : ByteArray) (W : World) (hs : s.size ≤ maxLen) :
    Calls Try.prog 12 #[.string s] W fun e w' => e = .returned (.int .i64 (badU s.data.toList)) ∧ Below W.heap.size W w' := by
  unfold maxLen at hs
  go_enter Try.func12, Try.ntmps12
  go_wp2
  go_loopw [3, 4] (fun f i wr => RelRBad s W wr f i) (fun _ i _ => s.size - (intOf i).toNat)
  case atStart => exact ⟨0, 0, 0, 0, by omega, by omega, by simp, rfl, rfl, stU_zero, rfl, Below.refl _ _, rfl⟩
  case round =>
    obtain ⟨j, k, sg, lf, hjk, hk, hjl, rfl, rfl, hst, hinv, hbel, hrun⟩ := hrel
    by_cases hlt : k < s.size
    · have hl : k < s.data.toList.length := hlt
      have hp := part_snoc s j k hjk hlt
      rw [runU_cons _ _ _ _ hl, show s.data.toList[k] = s[k] from rfl] at hrun
      have hkj : j ≤ k + 1 := by omega
      have hks : k + 1 ≤ s.size := by omega
      by_cases hok : okU sg lf s[k].toNat = true
      · have hst' := Lib.hid (stU_step hst (Int.natCast_nonneg _) hok)
        have hinv' := invL_step hinv hok
        rw [if_pos hok] at hrun
        by_cases hz : lfU lf s[k].toNat = 0
        · have HB := Lib.hid (fun w => rbegins_step _ _ _ _ _ hp hinv w (x := true) (y := true) (z := sgU sg lf s[k].toNat) (by unfold ansU; rw [if_pos hok, if_pos hz]))
          rw [if_pos hz] at hinv'
          have HI := Lib.hid hinv'
          have HRun := Lib.hid hrun
          have HZ := Lib.hid hz
          clear hinv' hinv hrun hjl hp hok hz
          go_wp2_with (go_at_call 23; refine (HB.out _).mono ?_; rintro e w' ⟨rfl, hb⟩)
          go_roundw
          case rel => exact ⟨k + 1, k + 1, _, _, Nat.le_refl _, hlt, by simp; exact HZ.out, by go_num, by go_num, hst'.out, (by rw [List.drop_of_length_le (by simp; omega)]; exact HI.out), hbel.trans (hb.mono hbel.size), HRun.out⟩
          case measure => simp [intOf]; omega
        · have HB := Lib.hid (fun w => rbegins_step _ _ _ _ _ hp hinv w (x := true) (y := false) (z := 0) (by unfold ansU; rw [if_pos hok, if_neg hz]))
          rw [if_neg hz] at hinv'
          have HI := Lib.hid hinv'
          have HRun := Lib.hid hrun
          have HZ := Lib.hid hz
          clear hinv' hinv hrun hjl hp hok hz
          go_wp2_with (go_at_call 23; refine (HB.out _).mono ?_; rintro e w' ⟨rfl, hb⟩)
          go_roundw
          case rel => exact ⟨j, k + 1, _, _, hkj, hlt, ⟨fun e => by omega, fun e => absurd e HZ.out⟩, rfl, by go_num, hst'.out, (by rw [List.take_succ_eq_append_getElem hl, List.drop_append_of_le_length (by simp; omega)]; exact HI.out), hbel.trans (hb.mono hbel.size), HRun.out⟩
          case measure => simp [intOf]; omega
      · have HB := Lib.hid (fun w => rbegins_step _ _ _ _ _ hp hinv w (x := false) (y := false) (z := 0) (by unfold ansU; rw [if_neg hok]))
        rw [if_neg hok] at hrun
        have HRun := Lib.hid hrun
        clear hinv hrun hjl hp hok
        go_wp2_with (go_at_call 23; refine (HB.out _).mono ?_; rintro e w' ⟨rfl, hb⟩)
        go_ret
        exact ⟨ret_i HRun.out.symm, hbel.trans (hb.mono hbel.size)⟩
    · obtain rfl : k = s.size := by omega
      rw [show s.data.toList.drop s.size = [] from List.drop_of_length_le (Nat.le_refl _)] at hrun
      have HR := Lib.hid hrun
      have hlf : 0 ≤ lf := by unfold StU at hst; omega
      have HJ := Lib.hid hjl
      clear hrun hinv hjl
      by_cases hj : j < s.size
      all_goals
        go_wp2
        go_ret
        exact ⟨ret_i (by rw [HR.out]; have := HJ.out; first | (rw [show runU sg lf [] s.size = if 0 < lf then (s.size : Int) else -1 from rfl, if_pos (by omega)]) | (rw [show runU sg lf [] s.size = if 0 < lf then (s.size : Int) else -1 from rfl, if_neg (by omega)])), hbel⟩

end Go.Proofs.Ytclcjngdpicjjaa

namespace Go.Proofs.Ytclcjngdpicjjaa
open Go.RowKit

theorem below1 (w : World) (a : Obj) : Below w.heap.size w (w.alloc a) := (Below.refl w.heap.size w).alloc (Nat.le_refl _) a
theorem below2 (w : World) (a b : Obj) : Below w.heap.size w ((w.alloc a).alloc b) :=
  have h := (Below.refl w.heap.size w).alloc (Nat.le_refl _) a
  h.alloc h.size b
theorem below_drewN {B : Nat} {a w : World} (h : Below B a w) (n : Nat) : Below B a (w.drewN n) := ⟨h.os, h.tape, h.output, h.size, h.block⟩

/-- Bytes as cells. -/
def byteCells (l : List UInt8) : List Value := l.map fun c => Value.int .u8 c.toNat

theorem byteCells_nums (l : List UInt8) : byteCells l = (nums l).map (Value.int .u8) := by simp [byteCells, nums]
theorem byteCells_length (l : List UInt8) : (byteCells l).length = l.length := by simp [byteCells]
theorem byteCells_append (l m : List UInt8) : byteCells (l ++ m) = byteCells l ++ byteCells m := by simp [byteCells]
theorem byteCells_one (l : List UInt8) : ∀ u ∈ byteCells l, u.oneCell' = true := by rw [byteCells_nums]; exact ints_one _ _
theorem strOf_nums (l : List UInt8) : strOfNums (nums l) = ⟨l.toArray⟩ := by
  have e : (strOfNums (nums l)).data.toList = l := by
    rw [strOfNums_data]
    unfold nums
    rw [List.map_map]
    conv => rhs; rw [← List.map_id l]
    exact List.map_congr_left fun c _ => by simp
  generalize strOfNums (nums l) = s at *
  cases s with | mk x =>
  have e : x.toList = l := e
  rw [← e]

/-- Bytes that came in. -/
theorem IsRow.bytes {w : World} {A : Option Addr} {len cap : Nat} {zs : List Int} (h : IsRow .u8 w A len cap zs) : ∃ l : List UInt8, Rd w w.heap.size A len (byteCells l) := by
  refine ⟨(zs.take len).map fun z => UInt8.ofNat z.toNat, ?_⟩
  have e : byteCells ((zs.take len).map fun z => UInt8.ofNat z.toNat) = (zs.take len).map (Value.int .u8) := by
    unfold byteCells
    rw [List.map_map]
    refine List.map_congr_left fun z hz => ?_
    have hw := h.wf z (List.mem_of_mem_take hz)
    simp [Lit.wf, IntKind.min, IntKind.max, IntKind.signed, IntKind.bits] at hw
    simp
    omega
  rw [e]
  exact Rd.of_row h

/-- v is a slice of the call's own (its block is none below base) that holds l. -/
def Buf (w : World) (base : Nat) (v : Value) (l : List UInt8) : Prop :=
  ∃ g c : Nat, v = .slice (some ⟨g, 0, none⟩) l.length c ∧ w.ownsRow base 5 1 v l.length (byteCells l)

section
variable {w w' : World} {base : Nat} {v : Value} {l : List UInt8}
theorem Buf.form (h : Buf w base v l) : ∃ g c : Nat, v = .slice (some ⟨g, 0, none⟩) l.length c ∧ base ≤ g ∧ g < w.heap.size := by
  obtain ⟨g, c, rfl, ho⟩ := h
  obtain ⟨g', c', e, h1, h2, _⟩ := own_form ho (by intro e; cases e)
  injection e with e1 _ _
  injection e1 with e1
  injection e1 with e1
  exact ⟨g, c, rfl, by omega, by omega⟩
theorem Buf.stay (h : Buf w base v l) {B : Nat} (hb : Below B w w') (hB : w.heap.size ≤ B) : Buf w' base v l := by
  obtain ⟨g0, c0, e, _, hlt⟩ := h.form
  obtain ⟨g, c, rfl, ho⟩ := h
  refine ⟨g, c, rfl, own_stay ho hb fun k hk => ?_⟩
  injection e with e1 _ _
  injection e1 with e1
  injection e1 with e1
  rw [ownBlock_is hk]
  omega
theorem Buf.rd (h : Buf w base v l) {g c n : Nat} (hv : v = .slice (some ⟨g, 0, none⟩) n c) : Rd w w.heap.size (some ⟨g, 0, none⟩) l.length (byteCells l) := by
  obtain ⟨g', c', rfl, ho⟩ := h
  injection hv with e1 e2 e3
  injection e1 with e1
  injection e1 with e1
  subst e1
  exact Rd.of_owned ho
/-- The buffer as a string. -/
theorem Buf.conv (h : Buf w base v l) : (convert 49 9 v).run Try.prog w = .ok (.string ⟨l.toArray⟩) w := by
  obtain ⟨g, c, rfl, ho⟩ := h
  have := Rd.of_owned ho
  rw [byteCells_nums] at this
  rw [conv_rd this, strOf_nums]
/-- A slice that was just made of constants is one. -/
theorem Buf.made (w : World) (cs : Array Value) (l : List UInt8) (hc : cs = (byteCells l).toArray) (hl : l.length ≤ maxLen) (hb : base ≤ w.heap.size) : Buf (w.alloc (.cells cs 5)) base (.slice (some ⟨w.heap.size, 0, none⟩) l.length l.length) l := by
  subst hc
  refine ⟨_, _, rfl, ⟨by simp [byteCells_length], .inr ⟨w.heap.size, l.length, _, rfl, hb, heap_alloc_new w _, Nat.le_refl _, hl, by simp [byteCells_length], ?_⟩⟩⟩
  simp [List.take_of_length_le, byteCells_length]
end

section
variable {ops : Array Oper} {rest : List Oper} {o : Oper} {a : Act} {Q : Exit → Act → World → Prop}

/-- Appending bytes that lie in a slice. -/
theorem buf_append (w : World) (hgd : o.guard = none) (s x : Operand) (ho : o.op = .call { callee := .builtin .append, args := #[s, x], argTypes := #[49, 49] })
    (base : Nat) (v : Value) (l : List UInt8) (hs : a.eval s = v) (hown : Buf w base v l) (B : Nat) (A : Option Addr) (m c : Nat) (news : List UInt8) (hx : a.eval x = .slice A m c) (hr : Rd w B A m (byteCells news))
    (h63 : l.length + m ≤ 140737488355328 - 4096) (hbase : base ≤ w.heap.size)
    (h : ∀ v' w', Buf w' base v' (l ++ news) → Below base w w' → wpList Try.prog ops Q rest (a.put o.dst v') w') : wpList Try.prog ops Q (o :: rest) a w := by
  obtain ⟨i0, hi, hz0, hz1, hz2⟩ := info_parts byte_info
  have hm : news.length = m := by have := hr.1; rwa [byteCells_length] at this
  obtain ⟨g0, c0, ev, hg0, _⟩ := hown.form
  obtain ⟨g, c', rfl, hown⟩ := hown
  refine wpList_append_rd w hgd s x _ ho base 5 i0 _ 1 Try.underlying49 hi hz0 hz1 hz2 rfl _ l.length (byteCells l) hs hown B A m c (byteCells news) hx hr (byteCells_one _) (by unfold maxLen; omega) (by omega) hbase ?_
  intro v' w' h2 hg hnil hat
  have hne : v' ≠ .slice none 0 0 := fun e => by have := hnil.1 e; simp at this
  obtain ⟨g2, c2, e2, _⟩ := own_form h2 hne
  refine h v' w' ⟨g2, c2, by rw [e2, List.length_append, hm], ?_⟩ ((Below.refl base w).grown hg hbase fun k hk => ?_)
  · rw [List.length_append, hm, byteCells_append]
    exact h2
  · injection ev with e1 _ _
    injection e1 with e1
    injection e1 with e1
    rw [ownBlock_is hk]
    omega

/-- Appending a string's bytes. -/
theorem buf_append_str (w : World) (hgd : o.guard = none) (s x : Operand) (ho : o.op = .call { callee := .builtin .append, args := #[s, x], argTypes := #[49, 9] })
    (base : Nat) (v : Value) (l : List UInt8) (hs : a.eval s = v) (hown : Buf w base v l) (t : ByteArray) (hx : a.eval x = .string t)
    (h63 : l.length + t.size ≤ 140737488355328 - 4096) (hbase : base ≤ w.heap.size)
    (h : ∀ v' w', Buf w' base v' (l ++ t.data.toList) → Below base w w' → wpList Try.prog ops Q rest (a.put o.dst v') w') : wpList Try.prog ops Q (o :: rest) a w := by
  obtain ⟨i0, hi, hz0, hz1, hz2⟩ := info_parts byte_info
  obtain ⟨g0, c0, ev, hg0, _⟩ := hown.form
  obtain ⟨g, c', rfl, hown⟩ := hown
  refine Lib.wpList_append_own_string (w := w) hgd s x _ _ ho base 5 i0 Try.underlying49 Try.underlying9 hi hz0 hz1 hz2 _ l.length (byteCells l) hs hown t hx (by unfold maxLen; omega) (by omega) hbase ?_
  intro v' w' h2 hg hnil
  have hne : v' ≠ .slice none 0 0 := fun e => by have := hnil.1 e; simp at this
  obtain ⟨g2, c2, e2, _⟩ := own_form h2 hne
  have ht : t.data.toList.length = t.size := rfl
  refine h v' w' ⟨g2, c2, by rw [e2, List.length_append, ht], ?_⟩ ((Below.refl base w).grown hg hbase fun k hk => ?_)
  · rw [List.length_append, ht, byteCells_append]
    exact h2
  · injection ev with e1 _ _
    injection e1 with e1
    injection e1 with e1
    rw [ownBlock_is hk]
    omega
end

end Go.Proofs.Ytclcjngdpicjjaa
