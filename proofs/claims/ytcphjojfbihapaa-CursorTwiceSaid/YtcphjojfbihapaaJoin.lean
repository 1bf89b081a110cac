/- The contract of package cursor's Join. -/
import Derived.Test.YtcphjojfbihapaaSame03
namespace Go.Proofs.Ytcphjojfbihapaa
open Go.RowKit

theorem bytesOf_cell {x : List Int} (hx : ∀ y ∈ x, 0 ≤ y ∧ y < 256) (i : Nat) (b : UInt8) (h : (Lib.bytesOf x)[i]? = some b) : (x.map (Value.int .u8))[i]? = some (.int .u8 (b.toNat : Int)) := by
  unfold Lib.bytesOf at h
  rw [List.getElem?_map] at h ⊢
  cases hy : x[i]? with
  | none => rw [hy] at h; cases h
  | some y =>
    rw [hy] at h
    simp at h
    subst h
    have := hx y (List.mem_of_getElem? hy)
    simp
    omega

theorem holds_of_rd {w : World} {B c : Nat} {A : Option Addr} {x : List Int} (hx : ∀ y ∈ x, 0 ≤ y ∧ y < 256) (h : Rd w B A x.length (x.map (Value.int .u8))) : Lib.HoldsBytes w (.slice A x.length c) (Lib.bytesOf x) := by
  refine ⟨A, c, by rw [Lib.bytesOf_length], fun e => ?_, fun a e i b hb => ?_⟩
  · subst e
    by_cases h0 : 0 < x.length
    · obtain ⟨ad, e, _⟩ := h.2 h0
      cases e
    · have : x = [] := List.eq_nil_of_length_eq_zero (by omega)
      subst this
      rfl
  · subst e
    have hb' := bytesOf_cell hx i b hb
    have h0 : 0 < x.length := by
      have := (List.getElem?_eq_some_iff.1 hb').1
      simp at this
      omega
    obtain ⟨ad, e, _, hc⟩ := h.2 h0
    injection e with e
    subst e
    exact hc i _ hb'

theorem join_nilsep (ls : List (List UInt8)) : Lib.join ls [] = ls.flatten := by
  unfold Lib.join List.intercalate
  induction ls with
  | nil => rfl
  | cons x ls ih =>
    cases ls with
    | nil => simp
    | cons y ls => simp only [List.intersperse_cons_cons, List.flatten_cons, List.nil_append]; rw [ih]; rfl

theorem bytesOf_flatten (xss : List (List Int)) : (xss.map Lib.bytesOf).flatten = Lib.bytesOf xss.flatten := by
  unfold Lib.bytesOf
  rw [List.map_flatten]

theorem lens_flatten (xss : List (List Int)) : Lib.lens (xss.map Lib.bytesOf) = xss.flatten.length := by
  unfold Lib.lens
  rw [List.length_flatten, List.map_map]
  congr 1
  apply List.map_congr_left
  intro x _
  simp [Lib.bytesOf_length]

theorem str_of_bytes {xs ys : List Int} (h : Lib.bytesOf xs = Lib.bytesOf ys) : strOfNums xs = strOfNums ys := by
  unfold strOfNums
  unfold Lib.bytesOf at h
  rw [h]

/-- What Join leaves. -/
def JoinPost (W : World) (xs : List Int) (e : Ending) (w' : World) : Prop :=
  ∃ A n c, e = .returned (.slice A n c) ∧ (convert 22 9 (.slice A n c)).run Try.prog w' = .ok (.string (strOfNums xs)) w' ∧ Below W.heap.size W w'

theorem post_fresh {W w' : World} {v : Value} {l : List UInt8} {xs : List Int} (h : Lib.FreshBytes W.heap.size w' v l) (hb : Below W.heap.size W w') (e : l = Lib.bytesOf xs) : JoinPost W xs (.returned v) w' := by
  obtain ⟨g, cap, zs, rfl, hg, hlc, hcm, hz, hzr, hzl, hc, hf⟩ := h
  refine ⟨_, _, _, rfl, ?_, hb⟩
  have hr : Rd w' (g + 1) (some ⟨g, 0, none⟩) l.length ((zs.take l.length).map (Value.int .u8)) := by
    refine ⟨by simp; omega, fun _ => ⟨_, rfl, Nat.lt_succ_self _, fun j u hu => ?_⟩⟩
    rw [add_none]
    rw [List.getElem?_map, List.getElem?_take] at hu
    split at hu
    · rename_i hj
      have hj' : j < zs.length := by omega
      rw [Nat.zero_add, hc j (by omega)]
      rw [List.getElem?_eq_getElem hj'] at hu
      simpa [hj'] using hu
    · cases hu
  rw [conv_any hr]
  rw [str_of_bytes (hzl.trans e)]

theorem bjoin_any (A : Option Addr) (n c : Nat) (xss : List (List Int)) (B : Nat) (w : World) (h : RdBB w B A n xss) (hA : ∀ ad, A = some ad → ad.spot = none) (hnc : n ≤ c) (hx : ∀ x ∈ xss, ∀ y ∈ x, 0 ≤ y ∧ y < 256) (hlen : xss.flatten.length ≤ 1000000) (hn : n ≤ 1000000) :
    Calls Try.prog 18 #[.slice A n c, .slice none 0 0] w (JoinPost w xss.flatten) := by
  have hl := h.len
  by_cases h0 : n = 0
  · subst h0
    obtain rfl : xss = [] := List.eq_nil_of_length_eq_zero hl
    refine (Try.bytes_Join_none A c _ w).mono fun e w' ⟨he, hw⟩ => ?_
    subst he hw
    exact ⟨_, _, _, rfl, conv_any (Rd.zero _ 0 _), (Below.refl _ _).alloc (Nat.le_refl _) _⟩
  · obtain ⟨vs, h1, h2, h3⟩ := h
    obtain ⟨⟨b, o, s⟩, e, hlt, hc⟩ := h1.2 (by omega)
    have : s = none := hA _ e
    subst this e
    by_cases hn1 : n = 1
    · subst hn1
      obtain ⟨x, rfl⟩ : ∃ x, xss = [x] := List.length_eq_one_iff.1 hl
      obtain ⟨v, rfl⟩ : ∃ v, vs = [v] := List.length_eq_one_iff.1 h2
      obtain ⟨A', c', rfl, hn, hr⟩ := h3 0 v x rfl rfl
      have hcell := hc 0 (.slice A' x.length c') rfl
      rw [add_none] at hcell
      rw [show [x].flatten = x by simp]
      by_cases hx0 : x.length = 0
      · obtain rfl : x = [] := List.eq_nil_of_length_eq_zero hx0
        refine (Try.bytes_Join_one_empty b o c A' c' _ w hcell).mono fun e w' ⟨he, hw⟩ => ?_
        subst he hw
        exact ⟨_, _, _, rfl, conv_any (Rd.zero _ 0 _), Below.refl _ _⟩
      · obtain ⟨ad0, rfl, _, hc0⟩ := hr.2 (by omega)
        have hxx : ∀ y ∈ x, 0 ≤ y ∧ y < 256 := hx x (by simp)
        refine (Try.bytes_Join_one b o c ad0 c' (Lib.bytesOf x) _ w (by rw [Lib.bytesOf_length]; exact hcell) (fun i y hy => hc0 i _ (bytesOf_cell hxx i y hy)) (by rw [Lib.bytesOf_length]; omega) (by rw [Lib.bytesOf_length]; simp at hlen; omega)).mono fun e w' ⟨v', he, hf, hb⟩ => ?_
        subst he
        exact post_fresh hf hb rfl
    · refine (Try.bytes_Join_many b o n c vs (xss.map Lib.bytesOf) (.slice none 0 0) [] w (by simp [hl]) (by omega) ⟨by simp [h2], fun i v hv => hc i v hv, fun i v l hv hl' => ?_⟩ hnc ⟨none, 0, rfl, fun _ => rfl, fun _ e => by cases e⟩ (by omega) (by rw [lens_flatten]; show _ + 0 * _ ≤ _; rw [Nat.zero_mul]; omega)).mono fun e w' ⟨v', he, hf, hb⟩ => ?_
      · rw [List.getElem?_map] at hl'
        cases hy : xss[i]? with
        | none => rw [hy] at hl'; cases hl'
        | some x =>
          rw [hy] at hl'
          simp at hl'
          subst hl'
          obtain ⟨A', c', rfl, _, hr⟩ := h3 i v x hv hy
          exact holds_of_rd (hx x (List.mem_of_getElem? hy)) hr
      · subst he
        exact post_fresh hf hb (by rw [join_nilsep, bytesOf_flatten])

set_option maxHeartbeats 400000 in
theorem join_any (A : Option Addr) (n c : Nat) (xss : List (List Int)) (B : Nat) (w : World) (h : RdBB w B A n xss) (hA : ∀ ad, A = some ad → ad.spot = none) (hnc : n ≤ c) (hx : ∀ x ∈ xss, ∀ y ∈ x, 0 ≤ y ∧ y < 256) (hlen : xss.flatten.length ≤ 1000000) (hn : n ≤ 1000000) :
    Calls Try.prog 9 #[.slice A n c] w (JoinPost w xss.flatten) := by
  have HB := Lib.hid (bjoin_any A n c xss B w h hA hnc hx hlen hn)
  clear hA hx h
  go_enter Try.func9, Try.ntmps9
  go_wp2_with (go_at_call 18; refine HB.out.mono ?_; rintro e w' ⟨A', n', c', rfl, hcv, hb⟩)
  go_ret
  exact ⟨_, _, _, rfl, hcv, hb⟩

end Go.Proofs.Ytcphjojfbihapaa
