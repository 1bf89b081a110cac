/- The walks of the statements of layer 6, over what package quote's Put and Read are proved to do: QuotePuts, QuoteBack. T: what they ask of the world (the package's tables). -/
import Derived.Test.YtjnllbgkgdehaaaRef06P
namespace Go.Proofs.Ytjnllbgkgdehaaa
open Go.RowKit

/-- What Put does. -/
def PutC (T : World → Prop) : Prop := ∀ (s : ByteArray) (w : World), s.size ≤ 4000 → T w →
  Calls Try.prog 6 #[.string s] w fun e w' => e = .returned (.string ⟨(34 :: putL s.data.toList ++ [34]).toArray⟩) ∧ Below w.heap.size w w'
/-- What Read does. -/
def ReadC (T : World → Prop) : Prop := ∀ (s : ByteArray) (w : World), s.size ≤ 30000 → T w →
  Calls Try.prog 8 #[.string s] w fun e w' => e = .returned (.tuple #[.string ⟨(readR .plain s.data.toList [] 0).1.toArray⟩, .int .i64 (readR .plain s.data.toList [] 0).2.1, .int .i64 (readR .plain s.data.toList [] 0).2.2]) ∧ Below w.heap.size w w'
/-- It lasts. -/
def Lasts (T : World → Prop) : Prop := ∀ w w', T w → Below w.heap.size w w' → T w'

theorem read_at {T : World → Prop} (hR : ReadC T) (l t : List UInt8) (n : Nat) (k : Int) (h : readR .plain l [] 0 = (t, n, k)) (hl : l.length ≤ 30000) (w : World) (hT : T w) :
    Calls Try.prog 8 #[.string ⟨l.toArray⟩] w fun e w' => e = .returned (.tuple #[.string ⟨t.toArray⟩, .int .i64 n, .int .i64 k]) ∧ Below w.heap.size w w' := by
  have := hR ⟨l.toArray⟩ w hl hT
  rw [show (ByteArray.mk l.toArray).data.toList = l from rfl, h] at this
  exact this

set_option maxHeartbeats 1000000 in
theorem alive6_any {T : World → Prop} (hL : Lasts T) (hR : ReadC T) (W : World) (hT : T W) :
    Calls Try.prog 5 #[] W fun e w' => e = .returned (.bool true) ∧ Below W.heap.size W w' := by
  have K1 := Lib.hid (fun w h => read_at hR [97, 92, 110, 34] [97, 10] 4 1 (by decide +kernel) (by decide) w h)
  have K2 := Lib.hid (fun w h => read_at hR [92, 117, 100, 56, 51, 100, 120] [] 6 4 (by decide +kernel) (by decide) w h)
  have K3 := Lib.hid (fun w h => read_at hR [92, 117, 100, 99] [] 3 4 (by decide +kernel) (by decide) w h)
  have t1 : True := trivial
  have t2 : True := trivial
  have t3 : True := trivial
  clear hR
  go_enter Try.func5, Try.ntmps5
  go_wp2_with (first
    | (go_at_call 8; clear t1; refine (K1.out _ hT).mono ?_; rintro e w1 ⟨rfl, hb1⟩; have hT1 := hL _ _ hT hb1)
    | (go_at_call 8; clear t2; refine (K2.out _ hT1).mono ?_; rintro e w2 ⟨rfl, hb2⟩; have hT2 := hL _ _ hT1 hb2)
    | (go_at_call 8; clear t3; refine (K3.out _ hT2).mono ?_; rintro e w3 ⟨rfl, hb3⟩))
  go_ret
  have z1 := hb1.size
  have z2 := hb2.size
  exact ⟨rfl, (hb1.trans (hb2.mono z1)).trans (hb3.mono (by omega))⟩

set_option maxHeartbeats 1000000 in
theorem quotePuts_core {T : World → Prop} (hL : Lasts T) (hP : PutC T) (hR : ReadC T) (s : ByteArray) (W : World) (hT : T W) (hs : s.size ≤ maxLen) :
    Calls Try.prog 3 #[.string s] W fun e w' => e = .returned (.bool true) ∧ Below W.heap.size W w' := by
  unfold maxLen at hs
  by_cases h2 : 1000 < (s.size : Int)
  · go_enter Try.func3, Try.ntmps3
    go_wp2_with (first
      | (go_at_call 5; refine (alive6_any hL hR _ hT).mono ?_; rintro e w1 ⟨rfl, hb1⟩))
    go_ret
    exact ⟨rfl, hb1⟩
  have h2' : (s.size : Int) ≤ 1000 := by omega
  have KP := fun w h => hP s w (by omega) h
  have KR := fun w => rput_any s w (by omega)
  generalize (ByteArray.mk (34 :: putL s.data.toList ++ [34]).toArray) = x at *
  have gx : (x.toList == x.toList) = true := by simp
  have KP := Lib.hid KP
  have KR := Lib.hid KR
  have KA := Lib.hid (fun w h => alive6_any hL hR w h)
  clear hP hR
  go_enter Try.func3, Try.ntmps3
  go_wp2_with (first
    | (go_at_call 5; refine (KA.out _ hT).mono ?_; rintro e w1 ⟨rfl, hb1⟩; have hT1 := hL _ _ hT hb1)
    | (go_at_call 6; refine (KP.out _ hT1).mono ?_; rintro e w2 ⟨rfl, hb2⟩)
    | (go_at_call 7; refine (KR.out _).mono ?_; rintro e w3 ⟨rfl, hb3⟩))
  go_ret
  have z1 := hb1.size
  have z2 := hb2.size
  exact ⟨rfl, (hb1.trans (hb2.mono z1)).trans (hb3.mono (by omega))⟩

end Go.Proofs.Ytjnllbgkgdehaaa
