/- The walk of UtfPuts. -/
import Derived.Test.YtcnhlcnkefnghaaPut
import Derived.OpenShut
import Derived.Outline
import Derived.Deep.DeepMust
namespace Go.Proofs.Ytcnhlcnkefnghaa
open Go.RowKit

theorem runU_num (sg lf a k : Int) (h0 : 0 ≤ a) (h9 : a < 256) (l : List UInt8) :
    runU sg lf (UInt8.ofNat a.toNat :: l) k = if okU sg lf a then runU (sgU sg lf a) (lfU lf a) l (k + 1) else k := by
  have e : ((UInt8.ofNat a.toNat).toNat : Int) = a := by
    rw [UInt8.toNat_ofNat']
    omega
  show (if okU sg lf ((UInt8.ofNat a.toNat).toNat : Int) then _ else _) = _
  rw [e]

theorem okU_0 (c : Int) (h : c < 128 ∨ 194 ≤ c ∧ c < 245) (sg : Int) : okU sg 0 c = true := by unfold okU; rw [if_pos rfl]; exact decide_eq_true h
theorem okU_n {sg lf c : Int} (hl : lf ≠ 0) (h : lowU sg lf ≤ c ∧ c ≤ highU sg lf) : okU sg lf c = true := by unfold okU; rw [if_neg hl]; exact decide_eq_true h

theorem badU_of (m : Int) (h0 : 0 ≤ m) (h9 : m ≤ 1114111) (hs : m < 55296 ∨ 57343 < m) : badU (strOfNums (ofI m)).data.toList = -1 := by
  rw [strOfNums_data]
  unfold badU
  rcases @ofI_is m with ⟨h, e⟩ | ⟨h, h', e⟩ | ⟨h, h', e⟩ | ⟨h, e⟩
  · rw [e]
    simp only [List.map_cons, List.map_nil]
    rw [runU_num _ _ _ _ (by omega) (by omega), okU_0 _ (by omega), if_pos rfl]
    rw [show lfU 0 m = 0 by unfold lfU; (repeat' split) <;> omega]
    rfl
  · rw [e]
    simp only [List.map_cons, List.map_nil]
    rw [runU_num _ _ _ _ (by omega) (by omega), okU_0 _ (by omega), if_pos rfl]
    rw [show lfU 0 (192 + m / 64) = 1 by unfold lfU; (repeat' split) <;> omega, show sgU 0 0 (192 + m / 64) = m / 64 by unfold sgU; (repeat' split) <;> omega]
    rw [runU_num _ _ _ _ (by omega) (by omega), okU_n (by omega) (by unfold lowU highU; (repeat' split) <;> omega), if_pos rfl]
    rfl
  · rw [e]
    simp only [List.map_cons, List.map_nil]
    rw [runU_num _ _ _ _ (by omega) (by omega), okU_0 _ (by omega), if_pos rfl]
    rw [show lfU 0 (224 + m / 4096) = 2 by unfold lfU; (repeat' split) <;> omega, show sgU 0 0 (224 + m / 4096) = m / 4096 by unfold sgU; (repeat' split) <;> omega]
    rw [runU_num _ _ _ _ (by omega) (by omega), okU_n (by omega) (by unfold lowU highU; (repeat' split) <;> omega), if_pos rfl]
    rw [show lfU 2 (128 + m / 64 % 64) = 1 from rfl, show sgU (m / 4096) 2 (128 + m / 64 % 64) = m / 64 by unfold sgU; (repeat' split) <;> omega]
    rw [runU_num _ _ _ _ (by omega) (by omega), okU_n (by omega) (by unfold lowU highU; (repeat' split) <;> omega), if_pos rfl]
    rfl
  · rw [e]
    simp only [List.map_cons, List.map_nil]
    rw [runU_num _ _ _ _ (by omega) (by omega), okU_0 _ (by omega), if_pos rfl]
    rw [show lfU 0 (240 + m / 262144) = 3 by unfold lfU; (repeat' split) <;> omega, show sgU 0 0 (240 + m / 262144) = m / 262144 by unfold sgU; (repeat' split) <;> omega]
    rw [runU_num _ _ _ _ (by omega) (by omega), okU_n (by omega) (by unfold lowU highU; (repeat' split) <;> omega), if_pos rfl]
    rw [show lfU 3 (128 + m / 4096 % 64) = 2 from rfl, show sgU (m / 262144) 3 (128 + m / 4096 % 64) = m / 4096 by unfold sgU; (repeat' split) <;> omega]
    rw [runU_num _ _ _ _ (by omega) (by omega), okU_n (by omega) (by unfold lowU highU; (repeat' split) <;> omega), if_pos rfl]
    rw [show lfU 2 (128 + m / 64 % 64) = 1 from rfl, show sgU (m / 4096) 2 (128 + m / 64 % 64) = m / 64 by unfold sgU; (repeat' split) <;> omega]
    rw [runU_num _ _ _ _ (by omega) (by omega), okU_n (by omega) (by unfold lowU highU; (repeat' split) <;> omega), if_pos rfl]
    rfl

set_option maxRecDepth 100000 in
set_option maxHeartbeats 4000000 in
theorem utfPuts_core (A : Option Addr) (len cap : Nat) (xs : List Int) (n : Int) (W : World) (hx : Rd W W.heap.size A len (xs.map (Value.int .u8))) (hl : len ≤ 200) (n0 : -2147483648 ≤ n) (n9 : n ≤ 2147483647) :
    Calls Try.prog 5 #[.slice A len cap, .int .i32 n] W fun e w' => e = .returned (.bool true) ∧ Below W.heap.size W w' := by
  obtain ⟨i0, hi, hz0, hz1, hz2⟩ := info_parts byte_info
  have hf := fixI_in n
  have hbad := badU_of (fixI n) hf.1 hf.2.1 hf.2.2
  have hk : 1 ≤ (ofI (fixI n)).length ∧ (ofI (fixI n)).length ≤ 4 := by
    rcases @ofI_is (fixI n) with ⟨h, e⟩ | ⟨h, h', e⟩ | ⟨h, h', e⟩ | ⟨h, e⟩ <;> rw [e] <;> simp
  have ko := fun w => of_core n (fixI n) w rfl
  have kp := fun w B c m ys hy hm => put_any n w B m c ys hy hm
  have kb1 := fun w => bad_at (ofI (fixI n)) (-1) hbad (by omega) w
  have kb2 := fun w => rbad_any (strOfNums (ofI (fixI n))) w (by rw [strOfNums_size]; unfold maxLen; omega)
  rw [hbad] at kb2
  clear hbad hf
  generalize ofI (fixI n) = l at *
  obtain ⟨k, hlk⟩ : ∃ k, l.length = k := ⟨_, rfl⟩
  rw [hlk] at hk ko kp
  obtain ⟨k1, k4⟩ := hk
  have hxl : xs.length = len := by simpa using hx.1
  have KO := Lib.hid ko
  have KP := Lib.hid kp
  have KB1 := Lib.hid kb1
  have KB2 := Lib.hid kb2
  have KU1 := Lib.hid (unit_any n)
  have KU2 := Lib.hid (runit_any n)
  generalize unitI n = u at *
  have HL := Lib.hid hlk
  have HXL := Lib.hid hxl
  clear ko kp kb1 kb2 hlk hxl
  have tok : True := trivial
  go_enter Try.func5, Try.ntmps5
  go_wp2_with (first
    | (go_at_call 7; refine (alive2_any _).mono ?_; rintro e w1 ⟨rfl, hb1⟩)
    | (at_builtin; refine wpList_append_rd _ rfl (.tmp 13) (.tmp 14) _ rfl w1.heap.size 5 i0 _ 1 Try.underlying31 hi hz0 hz1 hz2 rfl (.slice (some ⟨w1.heap.size, 0, none⟩) 0 0) 0 [] rfl (World.ownsRow_made _ _ 0 (Nat.le_refl _) (Nat.zero_le _) rfl) W.heap.size A len cap (xs.map (Value.int .u8)) rfl (hx.stay (hb1.alloc hb1.size _)) (ints_one _ _) (by unfold maxLen; omega) (by omega) (by simp) ?_
       intro v2 w2 hown2 hg2 hnil2 hat2
       have hb2 : Below w1.heap.size w1 w2 := ((Below.refl _ w1).alloc (Nat.le_refl _) _).grown hg2 (by simp) (by simp [Value.ownBlock])
       simp only [Nat.zero_add, List.nil_append] at hown2
       obtain ⟨g2, c2, rfl, hg2b, hg2l, hc2, hc2'⟩ := own_form hown2 (fun e => by have := hnil2.1 e; simp at this)
       clear hg2 hnil2 hat2)
    | (go_at_call 14; refine (KP.out _ _ _ _ _ (Rd.of_owned hown2) (by omega)).mono ?_; rintro e w3 ⟨rfl, hown3, hb3⟩)
    | (at_builtin; refine wpList_append_rd _ rfl (.tmp 24) (.tmp 25) _ rfl w3.heap.size 5 i0 _ 1 Try.underlying31 hi hz0 hz1 hz2 rfl (.slice (some ⟨w3.heap.size, 0, none⟩) 0 0) 0 [] rfl (World.ownsRow_made _ _ 0 (Nat.le_refl _) (Nat.zero_le _) rfl) W.heap.size A len cap (xs.map (Value.int .u8)) rfl (((hx.stay (hb1.trans (hb2.mono hb1.size))).stay (hb3.mono (by have := hb1.size; have := hb2.size; omega))).stay ((Below.refl _ _).alloc (by have := hb1.size; have := hb2.size; have := hb3.size; omega) _)) (ints_one _ _) (by unfold maxLen; omega) (by omega) (by simp) ?_
       intro v4 w4 hown4 hg4 hnil4 hat4
       have hb4 : Below w3.heap.size w3 w4 := ((Below.refl _ w3).alloc (Nat.le_refl _) _).grown hg4 (by simp) (by simp [Value.ownBlock])
       simp only [Nat.zero_add, List.nil_append] at hown4
       obtain ⟨g4, c4, rfl, hg4b, hg4l, hc4, hc4'⟩ := own_form hown4 (fun e => by have := hnil4.1 e; simp at this)
       clear hg4 hnil4 hat4)
    | (go_at_call 15; have _t := tok; refine (KO.out _).mono ?_; rintro e w5 ⟨rfl, hown5, hb5⟩; clear tok
       have hown4' := own_stay hown4 hb5 (fun g hg => by rw [ownBlock_is hg]; exact hg4l)
       have hrd5 := Rd.of_list (l := l.map (Value.int .u8)) (k := k) hown5 (by simpa using HL.out)
       have hz5 : w3.heap.size ≤ w5.heap.size := Nat.le_trans hb4.size hb5.size
       have hm5 : len + k ≤ maxLen := by unfold maxLen; omega)
    | (at_builtin
       go_must (
         refine wpList_append_rd _ rfl (.tmp 26) (.tmp 29) _ rfl w3.heap.size 5 i0 _ 1 Try.underlying31 hi hz0 hz1 hz2 rfl (.slice (some ⟨g4, 0, none⟩) len c4) len (xs.map (Value.int .u8)) rfl hown4' (w4.heap.size + 1) (some ⟨w4.heap.size, 0, none⟩) k k (l.map (Value.int .u8)) rfl hrd5 (ints_one _ _) hm5 (by omega) hz5 ?_
         intro v6 w6 hown6 hg6 hnil6 hat6
         have hb6 : Below w3.heap.size w3 w6 := (hb4.trans (hb5.mono hb4.size)).grown hg6 hz5 (fun g hg => by rw [ownBlock_is hg]; exact hg4b)
         obtain ⟨g6, c6, rfl, hg6b, hg6l, hc6, hc6'⟩ := own_form hown6 (fun e => by have := hnil6.1 e; simp at this)
         clear hg6 hnil6 hat6
         have cvo := conv_rd (c := len + k) (Rd.of_list (k := len + k) (hown3.stay hb6 hown3.inside) (by simp [HL.out, HXL.out]))
         rw [← List.map_append] at hown6
         have cvw := conv_rd (c := c6) (Rd.of_owned hown6)
         have z6 : w3.heap.size ≤ w6.heap.size := hb6.size))
    | (go_at_call 15
       refine (KO.out w6).mono ?_
       rintro e w7 ⟨rfl, hown7, hb7⟩
       have cv7 := conv_rd (c := k) (Rd.of_list (l := l.map (Value.int .u8)) (k := k) hown7 (by simpa using HL.out))
       have z7 : w6.heap.size ≤ w7.heap.size := hb7.size)
    | (go_at_call 13
       refine (KB2.out w7).mono ?_
       rintro e w8 ⟨rfl, hb8⟩
       have z3 : w2.heap.size < w3.heap.size := hown3.inside
       have hown8 := ((hown3.stay hb6 z3).stay hb7 (by omega)).stay hb8 (by omega)
       rw [List.map_append] at hown8
       have cv8 := conv_rd (c := k) (Rd.of_tail (j := len) (k := k) hown8 (by simpa using HXL.out) (by simpa using HL.out)))
    | (go_at_call 12; refine (KB1.out _).mono ?_; rintro e w9 ⟨rfl, hb9⟩)
    | (go_at_call 16; refine (KU1.out _).mono ?_; rintro e w' ⟨rfl, rfl⟩)
    | (go_at_call 17; refine (KU2.out _).mono ?_; rintro e w' ⟨rfl, rfl⟩))
  go_ret
  have z1 := hb1.size
  have z2 := hb2.size
  have z3 := hb3.size
  have z8 := hb8.size
  exact ⟨rfl, (((((hb1.trans (hb2.mono z1)).trans (hb3.mono (by omega))).trans (hb6.mono (by omega))).trans (hb7.mono (by omega))).trans (hb8.mono (by omega))).trans (hb9.mono (by omega))⟩

theorem utfPuts_walk (A : Option Addr) (len cap : Nat) (zs : List Int) (n : Int) (W : World) (hA : IsRow .u8 W A len cap zs) (hn : (Lit.int .i32 n).wf = true) :
    Calls Try.prog 5 #[.slice A len cap, .int .i32 n] W fun e w' => e = .returned (.bool true) ∧ Below W.heap.size W w' := by
  have hb := bounds_i32 hn
  by_cases hl : 200 < (len : Int)
  · go_enter Try.func5, Try.ntmps5
    go_wp2_with (first
      | (go_at_call 7; refine (alive2_any _).mono ?_; rintro e w1 ⟨rfl, hb1⟩))
    go_ret
    exact ⟨rfl, hb1⟩
  · exact utfPuts_core A len cap (zs.take len) n W (Rd.of_row hA) (by omega) (by omega) (by omega)

end Go.Proofs.Ytcnhlcnkefnghaa
