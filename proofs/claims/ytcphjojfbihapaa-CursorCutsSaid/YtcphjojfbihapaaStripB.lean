/- The contracts of package cursor's Strip: Get, Add, move, Drop. -/
import Derived.Test.YtcphjojfbihapaaStrip
namespace Go.Proofs.Ytcphjojfbihapaa
open Go.RowKit

/-- s[i:j]. -/
theorem slice_both (t : TypeId) (ht : Try.prog.underlying t = some (.slice (Try.prog.elem t))) (hsz : ∀ w, (sizeOf (Try.prog.elem t)).run Try.prog w = .ok 1 w) (A : Option Addr) (n c : Nat) (l h : Int) (h0 : 0 ≤ l) (h1 : l ≤ h) (h2 : h ≤ n) (hc : n ≤ c) :
    ∃ A', (∀ w, (Instr.slice t (.slice A n c) (some (.int .i64 l)) (some (.int .i64 h)) none).run Try.prog w = .ok (.slice A' (h.toNat - l.toNat) (c - l.toNat)) w) ∧
      ∀ w B xs, Rd w B A n xs → Rd w B A' (h.toNat - l.toNat) ((xs.drop l.toNat).take (h.toNat - l.toNat)) := by
  refine ⟨if c = l.toNat then A else A.map (·.add (l.toNat * 1)), fun w => ?_, fun w B xs hr => ⟨by simp [hr.1]; omega, fun hn => ?_⟩⟩
  · rw [run_slice_lh w t A n c ht .i64 .i64 l h h0 h1 (by omega), hsz]
    simp [Result.andThen, sliced]
  · obtain ⟨ad, rfl, hlt, hcl⟩ := hr.2 (by omega)
    rw [if_neg (by omega)]
    refine ⟨ad.add (l.toNat * 1), rfl, by rw [add_block]; exact hlt, fun j u hu => ?_⟩
    have e : (ad.add (l.toNat * 1)).add j = ad.add (l.toNat + j) := by
      generalize l.toNat = m
      unfold Addr.add
      by_cases h0 : m = 0
      · subst h0; simp
      · rw [if_neg (show ¬ m * 1 = 0 by omega), if_neg (show ¬ m + j = 0 by omega)]
        by_cases hj : j = 0
        · subst hj; simp
        · rw [if_neg hj]
          simp
          omega
    rw [e]
    rw [List.getElem?_take] at hu
    split at hu
    · rw [List.getElem?_drop] at hu
      exact hcl _ _ hu
    · cases hu

section
variable {F : Nat → Prop} {sb : Nat} {p : Int} {A : Option Addr} {c g N : Nat} {all : List Int} (w : World)

set_option maxHeartbeats 2000000 in
theorem get_raw (h : Raw w F sb p A c g N all) (f t : Int) (h1 : p ≤ f) (h2 : f ≤ t) (h3 : t ≤ p + ((N : Int) - g)) (s : ByteArray) (hs : s = strOfNums (((all.drop g).drop (f - p).toNat).take ((t - p).toNat - (f - p).toNat))) :
    Calls Try.prog 13 #[.pointer (some ⟨sb, 0, none⟩), .int .i64 f, .int .i64 t] w fun e w' => e = .returned (.tuple #[.string s, .bool true]) ∧ ∃ q, w' = w.drewN q := by
  have c0 := h.own.at 0
  have c1 := h.own.at 1
  have c2 := h.own.at 2
  simp at c0 c1 c2
  have hb := h.lim
  have hl := h.left
  have p0 := h.p0
  have p9 := h.p9
  obtain ⟨A1, e1, r1⟩ := slice_low 22 under_ok elem_ok A N c g hl h.room
  have hgn : (g : Int) ≤ (N : Int) := by omega
  obtain ⟨A2, e2, r2⟩ := slice_both 22 under_ok elem_ok A1 (N - g) (c - g) (f - p) (t - p) (by omega) (by omega) (by omega) (by have := h.room; omega)
  have hrd := r2 _ _ _ (r1 _ _ _ (Rd.of_owned h.row))
  rw [← List.map_drop, ← List.map_drop, ← List.map_take] at hrd
  have cv := fun m => conv_any (c := c - g - (f - p).toNat) (hrd.same (w' := w.drewN m) rfl)
  rw [← hs] at cv
  have HF := fun m => from_raw (w.drewN m) (h.same rfl)
  have HF0 := from_raw w h
  have HT := fun m => to_raw (w.drewN m) (h.same rfl)
  have HT0 := to_raw w h
  have d1 : IntKind.i64.wrap (f - p) = f - p := IntWalk.i64_in (f - p) (by omega)
  have d2 : IntKind.i64.wrap (t - p) = t - p := IntWalk.i64_in (t - p) (by omega)
  have j1 : (0 : Int) ≤ (g : Int) := by omega
  have j2 : 0 ≤ f - p := by omega
  have j3 : f - p ≤ t - p := by omega
  have j4 : t - p ≤ ((N - g : Nat) : Int) := by omega
  clear r1 r2 hrd hs
  go_enter Try.func13, Try.ntmps13
  go_wp2_with (first
    | (go_at_call 16; refine HF0.mono ?_; rintro e w' ⟨rfl, rfl⟩)
    | (go_at_call 12; refine HT0.mono ?_; rintro e w' ⟨rfl, q, rfl⟩))
  go_quiet (fail)
  go_wp2
  go_quiet (fail)
  go_wp2
  go_ret2
  exact ⟨rfl, by simp only [World.drewN_drewN]; exact ⟨_, rfl⟩⟩

theorem row_past {w2 : World} {sb : Nat} {cs : Array Value} {v : Value} {n : Nat} {xs : List Value} (ho : Own w2 sb 42 cs) (hr : w2.ownsRow 0 5 1 v n xs) (i : Nat) (u : Value) : (w2.setCell ⟨sb, i, none⟩ u).ownsRow 0 5 1 v n xs := by
  refine ((Touch.refl (· = sb) w2).setCell (p := ⟨sb, i, none⟩) (.inl rfl) _).row hr (fun k hk e => ?_)
  subst e
  rcases hr.2 with ⟨hv, _⟩ | ⟨g1, c1, cur1, hv, _, hg1, _⟩
  · rw [hv] at hk; simp [Value.ownBlock] at hk
  · rw [hv] at hk
    simp [Value.ownBlock] at hk
    subst hk
    unfold Own at ho
    rw [hg1] at ho
    injection ho with hh
    injection hh with _ h2
    exact absurd h2 (by decide)

/-- What Add leaves. -/
def AddPost (w : World) (F : Nat → Prop) (sb : Nat) (p : Int) (xs : List Int) (e : Ending) (w' : World) : Prop :=
  e = .returned (.tuple #[]) ∧ Strip w' (fun k => F k ∨ w.heap.size ≤ k) sb p xs ∧ Touch F w w'

set_option maxRecDepth 100000 in
set_option maxHeartbeats 1000000 in
theorem add_any {xs news : List Int} {B : Nat} (h : Strip w F sb p xs) (A1 : Option Addr) (n1 c1 : Nat) (hr : Rd w B A1 n1 (news.map (Value.int .u8))) (hn : xs.length + n1 ≤ 35184372088832) :
    Calls Try.prog 11 #[.pointer (some ⟨sb, 0, none⟩), .slice A1 n1 c1] w (AddPost w F sb p (xs ++ news)) := by
  obtain ⟨A, c, g, N, all, h, hx, hg⟩ := h
  obtain ⟨i8, hi8, hy0, hy1, hy2⟩ := info_parts byte_info
  have c1' := h.own.at 1
  have f1 := h.own.free 1
  simp at c1'
  have hxl : xs.length = N - g := by rw [← hx.out, List.length_drop, h.len]
  have hl := h.left
  have hlim : N + n1 ≤ 70368744177664 := by omega
  have hnl : news.length = n1 := by simpa using hr.1
  have HNL := Lib.hid hnl
  clear hxl hn hnl
  go_enter Try.func11, Try.ntmps11
  go_wp2_with (
    (at_builtin; go_must (refine wpList_append_rd _ rfl (.tmp 8) (.tmp 9) _ rfl 0 5 i8 _ 1 Try.underlying22 hi8 hy0 hy1 hy2 rfl (.slice A N c) N _ rfl h.row B A1 n1 _ _ rfl hr (ints_one _ _) (by unfold maxLen; omega) (by omega) (Nat.zero_le _) ?_)
     intro v2 w2 hown2 hg2 hnil2 hat2
     obtain ⟨A2, c2, rfl, hc2n, hc2m⟩ := own_slice hown2
     have hsb : w2.heap[sb]? = w.heap[sb]? := hg2.block sb h.own.inside (fun e => h.apart sb e.symm rfl)
     have ho2 : Own w2 sb _ _ := hsb.trans h.own
     have k1 := ho2.at 1
     have k1' := ho2.free 1
     simp at k1
     have HO2 := Lib.hid ho2
     clear hsb ho2 hnil2))
  go_end0
  refine ⟨rfl, ⟨A2, c2, g, N + n1, all ++ news, ⟨.inl h.head, by simpa using HO2.out.put 1 (.slice A2 (N + n1) c2), ?_, ?_, hc2n, by omega, hc2m, hlim, h.p0, h.p9⟩, ?_, by omega⟩, ?_⟩
  · rw [List.map_append]
    exact row_past HO2.out hown2 1 _
  · intro k hk
    rcases hat2 with hh | hh
    · rw [hh] at hk
      exact .inl (h.foot k hk)
    · rw [hh] at hk
      injection hk with hk
      exact .inr (by omega)
  · have := hx.out
    show (all ++ news).drop g = xs ++ news
    rw [List.drop_append_of_le_length (by rw [h.len]; exact hl), this]
  · exact ((Touch.refl F w).grown hg2 (fun k hk => .inl (h.foot k hk))).setCell (.inl h.head) _

/-- What move leaves. -/
def MovePost (w : World) (F : Nat → Prop) (sb : Nat) (p : Int) (A : Option Addr) (c N : Nat) (all : List Int) (e : Ending) (w' : World) : Prop :=
  e = .returned (.tuple #[]) ∧ Raw w' F sb p A c 0 N all ∧ Touch F w w'

theorem move_copy (h : Raw w F sb p A c g N all) (A' : Option Addr) (c' : Nat) (ty : TypeId) (hr : Rd w w.heap.size A' (N - g) ((all.drop g).map (Value.int .u8))) :
    ∃ w', (Builtin.copy_ #[22, 22] ty #[.slice A N c, .slice A' (N - g) c']).run Try.prog w = .ok (.int .i64 ((N - g : Nat) : Int)) w' ∧
      w'.ownsRow 0 5 1 (.slice A (N - g) c) (N - g) ((all.drop g).map (Value.int .u8)) ∧ Touch F w w' ∧ Own w' sb 42 #[.int .i64 p, .slice A N c, .int .i64 g] := by
  have hi : (Try.prog.info? 5).map (·.size) = some 1 := by kernel_rfl
  rcases h.row.2 with ⟨hv, h0⟩ | ⟨g1, c1, cur1, hv, _, hg1, hn1, hm1, hs1, ht1⟩
  · injection hv with h1 h2 h3
    subst h1 h2 h3
    have hg0 : g = 0 := by have := h.left; omega
    subst hg0
    have ha : all = [] := List.eq_nil_of_length_eq_zero h.len
    subst ha
    refine ⟨w, run_copy_none (P := Try.prog) w _ _ ty _ _ _ 0 0 0 c' Try.underlying22 hi rfl, World.ownsRow_nil _ _ _ _, Touch.refl _ _, h.own⟩
  · injection hv with h1 h2 h3
    subst h1
    obtain ⟨w', hrun, ho, htu⟩ := run_copy_rd (P := Try.prog) (w := w) (g := g1) (o := 0) (t := 5) (elem := 5) (dT := 22) (ty := ty) (cur := cur1.toList) (by simpa [Own] using hg1) N c (N - g) c' w.heap.size A' _ Try.underlying22 hi hr (ints_one _ _) (by omega) (by have := h.room; simp [hs1]; omega)
    have hsb : sb ≠ g1 := fun e => h.apart g1 rfl e.symm
    refine ⟨w', hrun, ⟨by simp [h.len], .inr ⟨g1, c, _, rfl, Nat.zero_le _, ho, by omega, h.cap, ?_, ?_⟩⟩, Touch.of_turned htu (h.foot g1 rfl), (htu.2.2.2.2 sb h.own.inside hsb).trans h.own⟩
    · have := h.len
      simp [hs1]
      omega
    · show ((cur1.toList.take 0 ++ _ ++ _).toArray.toList.take _) = _
      rw [List.take_zero, List.nil_append, Nat.mul_one]
      exact List.take_left' (by simp [h.len])

set_option maxHeartbeats 1000000 in
theorem move_raw (h : Raw w F sb p A c g N all) :
    Calls Try.prog 19 #[.pointer (some ⟨sb, 0, none⟩)] w (MovePost w F sb p A c (N - g) (all.drop g)) := by
  have c1 := h.own.at 1
  have c2 := h.own.at 2
  simp at c1 c2
  have hb := h.lim
  have hl := h.left
  have hroom := h.room
  obtain ⟨A1, e1, r1⟩ := slice_low 22 under_ok elem_ok A N c g hl h.room
  have hrd := r1 _ _ _ (Rd.of_owned h.row)
  rw [← List.map_drop] at hrd
  obtain ⟨w2, cp, hrow, ht, ho2⟩ := move_copy w.drew (h.same rfl) A1 (c - g) 3 (hrd.same rfl)
  have k1 := ho2.at 1
  have k1' := ho2.free 1
  have k2' := ho2.free 2
  have k2 := ho2.at 2
  simp at k1 k2
  have HO2 := Lib.hid ho2
  have e2 := (slice_high 22 under_ok elem_ok A N c (N - g) (by omega) h.room).1
  clear r1 hrd ho2
  have hml : g + (N - g) ≤ N ∧ N ≤ g + (N - g) := by omega
  generalize N - g = m at *
  have HC := Lib.hid cp
  clear cp
  go_enter Try.func19, Try.ntmps19
  go_wp2
  go_still_tail 13, (by kernel_rfl)
  change wpList _ _ _ _ _ w.drew
  have cp := HC.out
  go_wp2
  go_end0
  refine ⟨rfl, ⟨h.head, ?_, ?_, ?_, by omega, Nat.zero_le _, h.cap, by omega, h.p0, h.p9⟩, ?_⟩
  · simpa using (HO2.out.put 1 (.slice A m c)).put 2 (.int .i64 0)
  · exact row_past (HO2.out.put 1 _) (row_past HO2.out hrow 1 _) 2 _
  · intro k hk
    exact h.foot k (by cases A with
      | none => simp [Value.ownBlock] at hk
      | some a => simpa [Value.ownBlock] using hk)
  · exact ((((Touch.refl F w).drewN 1).trans ht (fun _ _ h => h)).setCell (.inl h.head) _).setCell (.inl h.head) _

/-- What Drop leaves. -/
def DropPost (w : World) (F : Nat → Prop) (sb : Nat) (p : Int) (xs : List Int) (d : Nat) (e : Ending) (w' : World) : Prop :=
  e = .returned (.int .i64 d) ∧ Strip w' F sb (p + d) (xs.drop d) ∧ Touch F w w'

set_option maxHeartbeats 2000000 in
theorem drop_any {xs : List Int} (h : Strip w F sb p xs) (t : Int) (d : Nat) (hd : max 0 (min (t - p) xs.length) = d) (hp : p + xs.length ≤ 4611686018427387904) :
    Calls Try.prog 14 #[.pointer (some ⟨sb, 0, none⟩), .int .i64 t] w (DropPost w F sb p xs d) := by
  obtain ⟨A, c, g, N, all, h, hx, hg⟩ := h
  have hxl : xs.length = N - g := by rw [← hx.out, List.length_drop, h.len]
  have hl := h.left
  have p0 := h.p0
  have p9 := h.p9
  have hlim := h.lim
  have hdn : g + d ≤ N := by omega
  have f0 := h.own.free 0
  have f2 := h.own.free 2
  have c0 := h.own.at 0
  have c2 := h.own.at 2
  simp at c0 c2
  have HF0 := from_raw w h
  have HT0 := to_raw w h
  have ht1 : min (max t p) (p + ((N : Int) - g)) = p + d := by omega
  have HX := Lib.hid hxl
  have HD := Lib.hid hd
  have HT := Lib.hid ht1
  have d1 : p ≤ min (max t p) (p + ((N : Int) - g)) := by omega
  have d2 : min (max t p) (p + ((N : Int) - g)) ≤ p + N := by omega
  clear hxl hd ht1
  go_enter Try.func14, Try.ntmps14
  go_wp2_with (first
    | (go_at_call 16; refine HF0.mono ?_; rintro e w' ⟨rfl, rfl⟩)
    | (go_at_call 12; refine HT0.mono ?_; rintro e w' ⟨rfl, q, rfl⟩))
  obtain ⟨e, he⟩ : ∃ e : Nat, e = g + d := ⟨_, rfl⟩
  have hs1 : (g : Int) + (min (max t p) (p + ((N : Int) - g)) - p) = e := by have := HT.out; omega
  have hs2 : min (max t p) (p + ((N : Int) - g)) - p = d := by have := HT.out; omega
  rw [hs1, hs2]
  have he1 : e ≤ N := by omega
  have HE := Lib.hid he
  clear hs1 hs2 he
  generalize min (max t p) (p + ((N : Int) - g)) = t1 at *
  have hraw : Raw (((w.drewN q).setCell ⟨sb, 0, none⟩ (.int .i64 t1)).setCell ⟨sb, 2, none⟩ (.int .i64 e)) F sb t1 A c e N all := by
    have h' := h.same (w' := w.drewN q) rfl
    exact { h' with own := (by simpa using (h'.own.put 0 (.int .i64 t1)).put 2 (.int .i64 e)), row := row_past (h'.own.put 0 _) (row_past h'.own h'.row 0 _) 2 _, left := he1, p0 := by omega, p9 := by have := HT.out; have := HX.out; omega }
  have htu : Touch F w (((w.drewN q).setCell ⟨sb, 0, none⟩ (.int .i64 t1)).setCell ⟨sb, 2, none⟩ (.int .i64 e)) := (((Touch.refl F w).drewN q).setCell (.inl h.head) _).setCell (.inl h.head) _
  generalize World.setCell (World.setCell (w.drewN q) _ _) _ _ = w2 at *
  have k2 := hraw.own.at 2
  simp at k2
  have HL := fun m => len_raw (w2.drewN m) (hraw.same rfl)
  have HXS : Hid (all.drop e = xs.drop d) := by rw [HE.out, ← hx.out, List.drop_drop]; rfl
  clear c0 c2 f0 f2 HF0 HT0
  go_quiet ((go_at_call 15; exact Calls.quiet_of (HL _)))
  by_cases hmv : (N : Int) - (e : Int) ≤ (e : Int)
  · have HM := move_raw (w2.drewN nq) (hraw.same rfl)
    go_wp2_with (go_at_call 19; refine HM.mono ?_; rintro e' w3 ⟨rfl, hraw3, ht3⟩)
    go_ret
    refine ⟨rfl, ⟨_, _, _, _, _, (by have := HT.out; rw [← this]; exact hraw3), ?_, by omega⟩, (htu.drewN nq).trans ht3 (fun _ _ h => h)⟩
    show List.drop 0 _ = _
    rw [List.drop_zero]
    exact HXS.out
  · go_wp2
    go_ret
    exact ⟨rfl, ⟨_, _, _, _, _, (by have := HT.out; rw [← this]; exact hraw.same rfl), HXS, by omega⟩, htu.drewN nq⟩

end

end Go.Proofs.Ytcphjojfbihapaa
