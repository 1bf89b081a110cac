/- The contracts of the document's answers for layer 5 (riffleref05). -/
import Derived.Test.YtopodhmchoibfaaDoorLitB
import Derived.Laws.BytesArg
import Derived.StillTailTactics
namespace Go.Proofs.YtopodhmchoibfaaDoor
open Go.RowKit

theorem conv_one (W : World) (x : Int) :
    (convert 31 9 (.slice (some ⟨W.heap.size, 0, none⟩) 1 1)).run Tryd.prog (W.alloc (.cells #[.int .u8 x] 5)) = .ok (.string (strOfNums [x])) (W.alloc (.cells #[.int .u8 x] 5)) := by
  exact run_convert_bytes_arg _ _ _ Tryd.underlying31 Tryd.underlying5 W.heap.size 0 1 1 [x] rfl (fun i hi => by
    obtain rfl : i = 0 := by omega
    simp) _ Tryd.underlying9
theorem one_data (c : UInt8) : (strOfNums [(c.toNat : Int)]).data.toList = [c] := by
  rw [strOfNums_data]; simp
theorem one_is (c : UInt8) : strOfNums [(c.toNat : Int)] = ⟨#[c]⟩ := ba_ext (by rw [one_data])

set_option maxHeartbeats 400000 in
theorem rwords_any (W : World) :
    Calls Tryd.prog 11 #[] W fun e w' => e = .returned (.slice (some ⟨W.heap.size, 0, none⟩) 3 3) ∧ w' = W.alloc (.cells #[.string wT, .string wF, .string wN] 9) := by
  go_enter Tryd.func11, Tryd.ntmps11
  go_wp2
  go_ret
  exact ⟨rfl, rfl⟩

theorem hit_cases (lw l : List UInt8) : hit lw l = 1 ∨ hit lw l = 0 ∨ hit lw l = 2 := by unfold hit; (repeat' split) <;> simp
/-- The tests of one word. -/
theorem opt (w x : ByteArray) :
    ((w.toList == x.toList) = true ∧ hit w.data.toList x.data.toList = 1) ∨
    ((w.toList == x.toList) = false ∧ x.size < w.size ∧ ((w.extract 0 x.size).toList == x.toList) = true ∧ hit w.data.toList x.data.toList = 0) ∨
    ((w.toList == x.toList) = false ∧ x.size < w.size ∧ ((w.extract 0 x.size).toList == x.toList) = false ∧ hit w.data.toList x.data.toList = 2) ∨
    ((w.toList == x.toList) = false ∧ w.size ≤ x.size ∧ hit w.data.toList x.data.toList = 2) := by
  rw [ByteArray.toList_eq, ByteArray.toList_eq, ByteArray.toList_eq, head_list]
  have e1 : w.data.toList.length = w.size := rfl
  have e2 : x.data.toList.length = x.size := rfl
  unfold hit
  by_cases h1 : x.data.toList = w.data.toList
  · exact .inl ⟨by rw [h1]; simp, if_pos h1⟩
  rw [if_neg h1]
  have n1 : (w.data.toList == x.data.toList) = false := beq_eq_false_iff_ne.2 (Ne.symm h1)
  by_cases h2 : x.size < w.size
  · by_cases h3 : w.data.toList.take x.size = x.data.toList
    · exact .inr (.inl ⟨n1, h2, by rw [h3]; simp, if_pos ⟨by omega, h3⟩⟩)
    · exact .inr (.inr (.inl ⟨n1, h2, beq_eq_false_iff_ne.2 h3, if_neg (fun e => h3 e.2)⟩))
  · exact .inr (.inr (.inr ⟨n1, by omega, if_neg (fun e => by omega)⟩))

set_option maxRecDepth 100000 in
set_option maxHeartbeats 4000000 in
theorem rstep_any (P : ByteArray) (c : UInt8) (W : World) (hs : P.size ≤ 400) :
    Calls Tryd.prog 6 #[.string P, .int .u8 c.toNat] W fun e w' => e = .returned (.int .i64 (refL (P.data.toList ++ [c]))) ∧ Below W.heap.size W w' := by
  have hcv := conv_one
  have hz1 : (strOfNums [(c.toNat : Int)]).size = 1 := rfl
  obtain ⟨x, hx⟩ : ∃ x, P ++ strOfNums [(c.toNat : Int)] = x := ⟨_, rfl⟩
  have hxs : x.size ≤ 401 := by rw [← hx, ByteArray.size_append, hz1]; omega
  have hxl : P.data.toList ++ [c] = x.data.toList := by rw [← hx, cat_list, one_data]
  rw [hxl]
  unfold refL
  have HT := Lib.hid (opt wT x)
  have HF := Lib.hid (opt wF x)
  have HN := Lib.hid (opt wN x)
  rw [show wT.data.toList = lT from rfl, zT] at HT
  rw [show wF.data.toList = lF from rfl, zF] at HF
  rw [show wN.data.toList = lN from rfl, zN] at HN
  clear hxl
  generalize hit lT x.data.toList = vT at *
  generalize hit lF x.data.toList = vF at *
  generalize hit lN x.data.toList = vN at *
  generalize (c.toNat : Int) = n at *
  have zt := zT
  have zf := zF
  have zn := zN
  go_enter Tryd.func6, Tryd.ntmps6
  go_wp2_with (go_at_call 11; refine (rwords_any _).mono ?_; rintro e w' ⟨rfl, rfl⟩)
  rcases HT.out with ⟨q1, rfl⟩ | ⟨q1, q2, q3, rfl⟩ | ⟨q1, q2, q3, rfl⟩ | ⟨q1, q2, rfl⟩
  case inl =>
    refine wp_loop_rounds 4 ?_
    rw [rounds_succ]
    go_wp2
    go_ret
    exact ⟨rfl, below2 _ _ _⟩
  case inr.inl =>
    refine wp_loop_rounds 4 ?_
    rw [rounds_succ]
    go_wp2
    go_ret
    exact ⟨rfl, below2 _ _ _⟩
  all_goals
    rcases HF.out with ⟨p1, rfl⟩ | ⟨p1, p2, p3, rfl⟩ | ⟨p1, p2, p3, rfl⟩ | ⟨p1, p2, rfl⟩
    case inl =>
      refine wp_loop_rounds 4 ?_
      rw [rounds_succ]
      go_wp2
      rw [rounds_succ]
      go_wp2
      go_ret
      exact ⟨rfl, below2 _ _ _⟩
    case inr.inl =>
      refine wp_loop_rounds 4 ?_
      rw [rounds_succ]
      go_wp2
      rw [rounds_succ]
      go_wp2
      go_ret
      exact ⟨rfl, below2 _ _ _⟩
    all_goals
      rcases HN.out with ⟨r1, rfl⟩ | ⟨r1, r2, r3, rfl⟩ | ⟨r1, r2, r3, rfl⟩ | ⟨r1, r2, rfl⟩
      all_goals first
        | (exfalso; omega)
        | (refine wp_loop_rounds 4 ?_
           rw [rounds_succ]
           go_wp2
           rw [rounds_succ]
           go_wp2
           rw [rounds_succ]
           go_wp2
           (try (rw [rounds_succ]; go_wp2))
           go_ret
           exact ⟨rfl, below2 _ _ _⟩)

set_option maxHeartbeats 400000 in
theorem rkind_n (w : World) :
    Calls Tryd.prog 10 #[.string wN] w fun e w' => e = .returned (.tuple #[.int .i64 0, .bool true]) ∧ w = w' := by
  have e1 : wN.toList = [110, 117, 108, 108] := by rw [ByteArray.toList_eq]; rfl
  go_enter Tryd.func10, Tryd.ntmps10
  go_wp2
  go_ret2
  exact ⟨rfl, rfl⟩

set_option maxHeartbeats 400000 in
theorem rkind_t (w : World) :
    Calls Tryd.prog 10 #[.string wT] w fun e w' => e = .returned (.tuple #[.int .i64 1, .bool true]) ∧ w = w' := by
  have e1 : wT.toList = [116, 114, 117, 101] := by rw [ByteArray.toList_eq]; rfl
  go_enter Tryd.func10, Tryd.ntmps10
  go_wp2
  go_ret2
  exact ⟨rfl, rfl⟩

set_option maxHeartbeats 400000 in
theorem rkind_f (w : World) :
    Calls Tryd.prog 10 #[.string wF] w fun e w' => e = .returned (.tuple #[.int .i64 1, .bool true]) ∧ w = w' := by
  have e1 : wF.toList = [102, 97, 108, 115, 101] := by rw [ByteArray.toList_eq]; rfl
  go_enter Tryd.func10, Tryd.ntmps10
  go_wp2
  go_ret2
  exact ⟨rfl, rfl⟩

set_option maxHeartbeats 400000 in
theorem rkind_no (s : ByteArray) (h1 : s ≠ wT) (h2 : s ≠ wF) (h3 : s ≠ wN) (w : World) :
    Calls Tryd.prog 10 #[.string s] w fun e w' => e = .returned (.tuple #[.int .i64 0, .bool false]) ∧ w = w' := by
  have g1 : ¬ s.toList = [116, 114, 117, 101] := fun e => h1 (ba_ext (by rw [← ByteArray.toList_eq, e]; rfl))
  have g1b : (s.toList == [116, 114, 117, 101]) = false := beq_eq_false_iff_ne.2 g1
  have g2 : ¬ s.toList = [102, 97, 108, 115, 101] := fun e => h2 (ba_ext (by rw [← ByteArray.toList_eq, e]; rfl))
  have g2b : (s.toList == [102, 97, 108, 115, 101]) = false := beq_eq_false_iff_ne.2 g2
  have g3 : ¬ s.toList = [110, 117, 108, 108] := fun e => h3 (ba_ext (by rw [← ByteArray.toList_eq, e]; rfl))
  have g3b : (s.toList == [110, 117, 108, 108]) = false := beq_eq_false_iff_ne.2 g3
  go_enter Tryd.func10, Tryd.ntmps10
  go_wp2
  go_ret2
  exact ⟨rfl, rfl⟩

end Go.Proofs.YtopodhmchoibfaaDoor
