/- The contract of the document's Same (riffleref03), where the chunks are the same. -/
import Derived.Test.YtcphjojfbihapaaCut
namespace Go.Proofs.Ytcphjojfbihapaa
open Go.RowKit

theorem below_drew (B : Nat) (w : World) (q : Nat) : Below B w (w.drewN q) := ⟨rfl, rfl, rfl, Nat.le_refl _, fun _ _ => rfl⟩

/-- The same memory, behind some draws. -/
def Alike (W wr : World) : Prop := Below W.heap.size W wr ∧ wr.heap = W.heap

/-- Chunks that are read only. -/
def RdBB (w : World) (B : Nat) (A : Option Addr) (n : Nat) (xss : List (List Int)) : Prop :=
  ∃ vs, Rd w B A n vs ∧ vs.length = xss.length ∧ ∀ (i : Nat) u x, vs[i]? = some u → xss[i]? = some x → ∃ A' c, u = .slice A' x.length c ∧ x.length ≤ c ∧ Rd w B A' x.length (x.map (Value.int .u8))

theorem RdBB.of_chunks {w : World} {b1 b2 : Nat} {A : Option Addr} {n c : Nat} {vs : List Value} {xss : List (List Int)} {e : TypeId} (h : w.ownsRow b1 e 1 (.slice A n c) n vs) (hc : Chunks w b2 vs xss) : RdBB w w.heap.size A n xss :=
  ⟨vs, Rd.of_owned h, hc.1, fun i u x hu hx => by
    have h' := hc.2 i u x hu hx
    obtain ⟨A', c', rfl, hn, _⟩ := own_slice h'
    exact ⟨A', c', rfl, hn, Rd.of_owned h'⟩⟩

theorem RdBB.stay {w w' : World} {B : Nat} {A : Option Addr} {n : Nat} {xss : List (List Int)} (h : RdBB w B A n xss) (hb : Below B w w') : RdBB w' B A n xss := by
  obtain ⟨vs, h1, h2, h3⟩ := h
  exact ⟨vs, h1.stay hb, h2, fun i u x hu hx => by
    obtain ⟨A', c, e, hn, hr⟩ := h3 i u x hu hx
    exact ⟨A', c, e, hn, hr.stay hb⟩⟩

theorem RdBB.len {w : World} {B : Nat} {A : Option Addr} {n : Nat} {xss : List (List Int)} (h : RdBB w B A n xss) : xss.length = n := by
  obtain ⟨vs, h1, h2, _⟩ := h
  rw [← h2]
  exact h1.1

/-- The k-th chunk. -/
theorem RdBB.get {w : World} {B : Nat} {A : Option Addr} {n : Nat} {xss : List (List Int)} (h : RdBB w B A n xss) (k : Nat) (hk : k < n) :
    ∃ (ad : Addr) (A' : Option Addr) (c : Nat), A = some ad ∧ ad.block < B ∧ w.cell? (ad.add k) = some (.slice A' (xss.getD k []).length c) ∧ (xss.getD k []).length ≤ c ∧ Rd w B A' (xss.getD k []).length ((xss.getD k []).map (Value.int .u8)) := by
  have hl := h.len
  obtain ⟨vs, h1, h2, h3⟩ := h
  obtain ⟨ad, e, hlt, hc⟩ := h1.2 (by omega)
  have hv : k < vs.length := by omega
  have hx : k < xss.length := by omega
  have e2 : xss.getD k [] = xss[k] := by simp [List.getD, hx]
  obtain ⟨A', c, eu, hn, hr⟩ := h3 k vs[k] xss[k] (List.getElem?_eq_getElem hv) (List.getElem?_eq_getElem hx)
  exact ⟨ad, A', c, e, hlt, by rw [hc k vs[k] (List.getElem?_eq_getElem hv), eu, e2], by rw [e2]; exact hn, by rw [e2]; exact hr⟩

set_option maxRecDepth 100000 in
set_option maxHeartbeats 1000000 in
theorem same_yes (A1 : Option Addr) (n1 c1 : Nat) (A2 : Option Addr) (n2 c2 : Nat) (xss : List (List Int)) (B1 B2 : Nat) (W : World) (h1 : RdBB W B1 A1 n1 xss) (h2 : RdBB W B2 A2 n2 xss) (hb : n1 ≤ 2000000) :
    Calls Try.prog 7 #[.slice A1 n1 c1, .slice A2 n2 c2] W fun e w' => e = .returned (.bool true) ∧ Below W.heap.size W w' := by
  have hl1 := h1.len
  have hl2 := h2.len
  subst hl1 hl2
  go_enter Try.func7, Try.ntmps7
  go_wp2
  go_loopw [13] (fun i wr => ∃ k : Nat, k ≤ xss.length ∧ i = .int .i64 k ∧ Alike W wr) (fun i _ => xss.length - (intOf i).toNat)
  case atStart => exact ⟨0, Nat.zero_le _, rfl, Below.refl _ _, rfl⟩
  case round =>
    obtain ⟨k, hk, rfl, hal⟩ := hrel
    by_cases hlt : k < xss.length
    · obtain ⟨ad1, A1', d1, rfl, _, hc1, hn1, hr1⟩ := h1.get k hlt
      obtain ⟨ad2, A2', d2, rfl, _, hc2, hn2, hr2⟩ := h2.get k hlt
      generalize xss.getD k [] = x at *
      have cv1 := fun m => conv_any (c := d1) (hr1.same (w' := wr.drewN m) hal.2)
      have cv2 := fun m => conv_any (c := d2) (hr2.same (w' := wr.drewN m) hal.2)
      have g1 : wr.cell? (ad1.add k) = some (.slice A1' x.length d1) := (World.cell?_of_block (w := W) (by rw [hal.2])).trans hc1
      have g2 : wr.cell? (ad2.add k) = some (.slice A2' x.length d2) := (World.cell?_of_block (w := W) (by rw [hal.2])).trans hc2
      have hlt' : (k : Int) < (xss.length : Int) := by omega
      have hk0 : (0 : Int) ≤ (k : Int) := by omega
      go_wp2_with fail
      go_quiet (fail)
      go_wp2
      go_roundw
      case rel => exact ⟨k + 1, hlt, by go_num, hal.1.trans (below_drew _ _ _), hal.2⟩
      case measure => simp [intOf]; omega
    · obtain rfl : k = xss.length := by omega
      go_wp2
      go_ret
      exact ⟨rfl, hal.1⟩

end Go.Proofs.Ytcphjojfbihapaa
