/- The document's All (riffleref12), whatever the selector. -/
import Derived.Test.YtkianpaihdidnaaRef12D
namespace Go.Proofs.Ytkianpaihdidnaa
open Go.RowKit

theorem rall_any (s : Sel) (n : Nat) (W : World) (hs : RightI s) (hn : n ≤ 1000) :
    Calls Try.prog 17 #[.agg (selV s), .int .i64 n] W fun e w' => ∃ A c, e = .returned (.slice A (allI s n).length c) ∧ Rd w' w'.heap.size A (allI s n).length (idxs (allI s n)) ∧ Below W.heap.size W w' := by
  by_cases hk : s.kind = 2
  · by_cases h0 : placeI s.index n < 0
    · exact rall_below s n W hs hn hk h0
    by_cases h1 : (n : Int) ≤ placeI s.index n
    · exact rall_above s n W hs hn hk h1
    obtain ⟨m, hm⟩ := Int.eq_ofNat_of_zero_le (show 0 ≤ placeI s.index n by omega)
    exact rall_in s n m W hs hn hk (by omega) hm
  by_cases h3 : s.kind = 3
  · by_cases hst : s.stride = 0
    · exact rall_zero s n W hs hn h3 hst
    by_cases hp : 0 < s.stride
    · exact rall_up s n W hs hn h3 hp
    · exact rall_down s n W hs hn h3 (by omega)
  · exact rall_other s n W hs hn hk h3

end Go.Proofs.Ytkianpaihdidnaa
