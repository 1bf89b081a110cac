/- The contracts of the document's Cut and Same (riffleref03). -/
import Derived.Test.YtcphjojfbihapaaCut
namespace Go.Proofs.Ytcphjojfbihapaa
open Go.RowKit

/-- Where the inner loop is. -/
def RelRIn (xs : List Int) (z : Int) (a0 : Nat) (wo wr : World) (pl v i : Value) : Prop :=
  ∃ kk : Nat, (kk : Int) ≤ max z 0 ∧ a0 + kk ≤ xs.length ∧ pl = .int .i64 ((a0 + kk : Nat) : Int) ∧ i = .int .i64 kk ∧ wr.ownsRow wo.heap.size 5 1 v kk (((xs.drop a0).take kk).map (Value.int .u8)) ∧ Below wo.heap.size wo wr

/-- Where the outer loop is. -/
def RelRCut (xs zs : List Int) (W wr : World) (v pl i : Value) : Prop :=
  ∃ (k a0 : Nat) (d : List (List Int)) (vs : List Value), k ≤ zs.length ∧ i = .int .i64 k ∧ a0 ≤ xs.length ∧ pl = .int .i64 a0 ∧
    wr.ownsRow W.heap.size 22 1 v k vs ∧ Chunks wr W.heap.size vs d ∧ Below W.heap.size W wr ∧ cutM xs zs = d ++ cutM (xs.drop a0) (zs.drop k)

theorem take_more (l : List Int) (a k : Nat) (h : a + k < l.length) : (l.drop a).take (k + 1) = (l.drop a).take k ++ [l.getD (a + k) 0] := by
  rw [List.take_succ_eq_append_getElem (by simp; omega)]
  simp [List.getD, h]

set_option maxRecDepth 100000 in
set_option maxHeartbeats 2000000 in
theorem rcut_any (A1 : Option Addr) (n1 c1 : Nat) (xs : List Int) (A2 : Option Addr) (n2 c2 : Nat) (zs : List Int) (W : World)
    (h1 : Rd W W.heap.size A1 n1 (xs.map (Value.int .u8))) (hc1 : n1 ≤ c1) (hb1 : n1 ≤ 1000000) (h2 : Rd W W.heap.size A2 n2 (zs.map (Value.int .i64))) (hb2 : n2 ≤ 1000000) :
    Calls Try.prog 8 #[.slice A1 n1 c1, .slice A2 n2 c2] W (CutPost W (cutM xs zs)) := by
  obtain ⟨i0, hi, hz0, hz1, hz2⟩ := info_parts slice_info
  obtain ⟨i8, hi8, hy0, hy1, hy2⟩ := info_parts byte_info
  have hl2 : zs.length = n2 := by simpa using h2.1
  have hl1 : xs.length = n1 := by simpa using h1.1
  subst hl2 hl1
  go_enter Try.func8, Try.ntmps8
  go_wp2
  go_loopw [5, 6, 14] (fun v pl i wr => RelRCut xs zs W wr v pl i) (fun _ _ i _ => zs.length - (intOf i).toNat)
  case atStart => exact ⟨0, 0, [], [], Nat.zero_le _, rfl, Nat.zero_le _, rfl, World.ownsRow_made _ _ 0 (Nat.le_refl _) (Nat.zero_le _) rfl, Chunks.nil _ _, (Below.refl _ _).alloc (Nat.le_refl _) _, by simp⟩
  case round =>
    obtain ⟨k, a0, d, vs, hk, rfl, ha0, rfl, hown, hch, hbel, hcut⟩ := hrel
    obtain ⟨wo, rfl⟩ : ∃ wo : World, wo = wr := ⟨_, rfl⟩
    have z0 := hbel.size
    by_cases hlt : k < zs.length
    · obtain ⟨ad2, rfl, hlt2, hc2⟩ := h2.2 (by omega)
      have hz := (hbel.cell (p := ad2.add k) (by rw [add_block]; exact hlt2)).trans (hc2 k (.int .i64 (zs.getD k 0)) (by simp [hlt]))
      have hdc := drop_cons zs k hlt
      generalize zs.getD k 0 = z at hz hdc
      clear hc2
      have HCut := Lib.hid hcut
      have HD := Lib.hid hdc
      clear hcut hdc
      go_wp2
      go_loopw [6, 9, 10] (fun pl v i wr => RelRIn xs z a0 wo wr pl v i) (fun pl _ _ _ => xs.length - (intOf pl).toNat)
      case atStart => exact ⟨0, by omega, ha0, rfl, rfl, World.ownsRow_made _ _ 0 (Nat.le_refl _) (Nat.zero_le _) rfl, (Below.refl _ _).alloc (Nat.le_refl _) _⟩
      case round =>
        obtain ⟨kk, hkz, hka, rfl, rfl, hown', hbel'⟩ := hrel
        have z1 := hbel'.size
        by_cases hin : (kk : Int) < z ∧ a0 + kk < xs.length
        · obtain ⟨hin1, hin2⟩ := hin
          obtain ⟨ad1, rfl, hlt1, hcc1⟩ := h1.2 (by omega)
          have hx := ((hbel.trans (hbel'.mono z0)).cell (p := ad1.add (a0 + kk)) (by rw [add_block]; exact hlt1)).trans (hcc1 (a0 + kk) (.int .u8 (xs.getD (a0 + kk) 0)) (by simp [hin2]))
          have ht := take_more xs a0 kk hin2
          generalize xs.getD (a0 + kk) 0 = y at hx ht
          have HT := Lib.hid ht
          have hin3 : ((a0 + kk : Nat) : Int) < xs.length := by omega
          clear hcc1 ht
          go_wp2_with (
            (at_builtin; go_must (refine wpList_append_rd _ rfl (.tmp 30) (.tmp 35) _ rfl wo.heap.size 5 i8 _ 1 Try.underlying22 hi8 hy0 hy1 hy2 rfl _ kk _ rfl (hown'.alloc _) (wr.heap.size + 1) (some ⟨wr.heap.size, 0, none⟩) 1 1 [.int .u8 y] rfl (Rd.of_list (l := [.int .u8 y]) (Own.fresh _ _ _) rfl) (by intro u hu; simp at hu; subst hu; rfl) (by unfold maxLen; omega) (by omega) (by simp; omega) ?_)
             intro v2 w2 hown2 hg2 hnil2 hat2
             have hb2 := below_push hown' hg2 z1
             clear hnil2 hat2 hg2 hown'))
          go_roundw
          case rel => exact ⟨kk + 1, by omega, by omega, by go_num, by go_num, by rw [HT.out, List.map_append]; exact hown2, hbel'.trans hb2⟩
          case measure => simp [intOf]; omega
        · have hjt : (xs.drop a0).take z.toNat = (xs.drop a0).take kk ∧ (xs.drop a0).drop z.toNat = xs.drop (a0 + kk) := by
            rw [List.drop_drop]
            by_cases h : (kk : Int) < z
            · have : a0 + kk = xs.length := by omega
              exact ⟨by rw [List.take_of_length_le (by simp; omega), List.take_of_length_le (by simp; omega)], by rw [List.drop_eq_nil_of_le (by omega), List.drop_eq_nil_of_le (by omega)]⟩
            · have : z.toNat = kk := by omega
              rw [this]
              exact ⟨rfl, rfl⟩
          have HJ := Lib.hid hjt
          have hkl : ((xs.drop a0).take kk).length = kk := by simp; omega
          have HKL := Lib.hid hkl
          obtain ⟨a1, c1', rfl, hc1n, hc1m⟩ := own_slice hown'
          have hown1 := own_stay hown hbel' (fun g hg => (own_live hown g hg).2)
          have hch1 := hch.stay hbel' (Nat.le_refl _)
          have ho1' := own_base hown' z0
          clear hjt hkl
          have hin' : z ≤ (kk : Int) ∨ ((kk : Int) < z ∧ (xs.length : Int) ≤ ((a0 + kk : Nat) : Int)) := by omega
          clear hin
          rcases hin' with hin1 | ⟨hin1, hin2⟩
          all_goals
            go_wp2_with (
              (at_builtin; go_must (refine wpList_append_rd _ rfl (.tmp 39) (.tmp 41) _ rfl W.heap.size 22 i0 _ 24 Try.underlying25 hi hz0 hz1 hz2 rfl _ k vs rfl (hown1.alloc _) (wr.heap.size + 1) (some ⟨wr.heap.size, 0, none⟩) 1 1 [.slice a1 kk c1'] rfl (Rd.of_list (l := [.slice a1 kk c1']) (Own.fresh _ _ _) rfl) (by intro u hu; simp at hu; subst hu; rfl) (by unfold maxLen; omega) (by omega) (by simp; omega) ?_)
               intro v2 w2 hown2 hg2 hnil2 hat2
               have hch2 := chunks_push (x := (xs.drop a0).take kk) hch1 (by rw [HKL.out]; exact ho1') hown1 hg2
               have hb2 := (hbel'.mono z0).trans (below_push hown1 hg2 (Nat.le_trans z0 z1))
               clear hnil2 hat2 hg2 hch1 ho1' hown' hown1))
            go_roundw
            case rel => exact ⟨k + 1, a0 + kk, d ++ [(xs.drop a0).take kk], _, hlt, by go_num, hka, rfl, hown2, hch2, hbel.trans hb2, by rw [HCut.out, HD.out]; simp only [cutM, HJ.out.1, HJ.out.2, List.append_assoc, List.singleton_append]⟩
            case measure => simp [intOf]; omega
    · obtain rfl : k = zs.length := by omega
      have hdl : d.length = zs.length := by
        have h1 := hch.1
        have h2 := hown.1
        omega
      rw [List.drop_length] at hcut
      have HDL := Lib.hid hdl
      have HCut := Lib.hid hcut
      clear hdl hcut
      by_cases hm0 : a0 < xs.length
      · obtain ⟨A', hlow, hlowR⟩ := slice_low 22 under_ok elem_ok A1 xs.length c1 a0 ha0 hc1
        have hr' := hlowR _ _ _ (h1.stay hbel)
        rw [← List.map_drop] at hr'
        clear hlowR
        have tok : True := trivial
        go_wp2_with (first
          | (at_builtin; have _t := tok; go_must (refine wpList_append_rd _ rfl (.tmp 49) (.tmp 52) _ rfl wo.heap.size 5 i8 _ 1 Try.underlying22 hi8 hy0 hy1 hy2 rfl (.slice (some ⟨wo.heap.size, 0, none⟩) 0 0) 0 [] rfl (World.ownsRow_made _ _ 0 (Nat.le_refl _) (Nat.zero_le _) rfl) W.heap.size A' (xs.length - a0) (c1 - a0) ((xs.drop a0).map (Value.int .u8)) rfl (hr'.stay ((Below.refl _ _).alloc z0 _)) (ints_one _ _) (by unfold maxLen; omega) (by omega) (by simp) ?_)
             intro v1 w1 ho1 hg1 hnil1 hat1
             have hb1 : Below wo.heap.size wo w1 := ((Below.refl _ wo).alloc (Nat.le_refl _) _).grown hg1 (by simp) (by simp [Value.ownBlock])
             have z1 := hb1.size
             simp only [Nat.zero_add, List.nil_append] at ho1
             obtain ⟨a1, c1', rfl, hc1n, hc1m⟩ := own_slice ho1
             have hown1 := own_stay hown hb1 (fun g hg => (own_live hown g hg).2)
             have hch1 := hch.stay hb1 (Nat.le_refl _)
             have ho1' := own_base ho1 z0
             clear hnil1 hat1 hg1 _t tok)
          | (at_builtin; go_must (refine wpList_append_rd _ rfl (.tmp 48) (.tmp 54) _ rfl W.heap.size 22 i0 _ 24 Try.underlying25 hi hz0 hz1 hz2 rfl _ zs.length vs rfl (hown1.alloc _) (w1.heap.size + 1) (some ⟨w1.heap.size, 0, none⟩) 1 1 [.slice a1 (xs.length - a0) c1'] rfl (Rd.of_list (l := [.slice a1 (xs.length - a0) c1']) (Own.fresh _ _ _) rfl) (by intro u hu; simp at hu; subst hu; rfl) (by unfold maxLen; omega) (by omega) (by simp; omega) ?_)
             intro v2 w2 hown2 hg2 hnil2 hat2
             have hch2 := chunks_push (x := xs.drop a0) hch1 (by rw [List.length_drop]; exact ho1') hown1 hg2
             have hb2 := (hb1.mono z0).trans (below_push hown1 hg2 (Nat.le_trans z0 z1))
             clear hnil2 hat2 hg2 hch1 ho1' ho1 hown1))
        go_ret
        have e : cutM xs zs = d ++ [xs.drop a0] := by
          rw [HCut.out]
          cases h : xs.drop a0 with
          | nil =>
            have := congrArg List.length h
            simp at this
            omega
          | cons _ _ => rfl
        refine ⟨v2, _, rfl, ?_, by rw [e]; exact hch2, hbel.trans hb2⟩
        rw [e, List.length_append, HDL.out]
        exact hown2
      · go_wp2
        go_ret
        have e : cutM xs zs = d := by
          rw [HCut.out, List.drop_of_length_le (by omega)]
          simp [cutM]
        exact ⟨_, _, rfl, by rw [e, HDL.out]; exact hown, by rw [e]; exact hch, hbel⟩

end Go.Proofs.Ytcphjojfbihapaa
