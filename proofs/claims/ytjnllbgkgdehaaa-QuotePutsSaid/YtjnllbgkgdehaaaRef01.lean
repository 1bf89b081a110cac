/- The contracts of the document's answers for layer 1 (riffleref01): each answers what package octet's functions answer. -/
import Derived.Test.YtjnllbgkgdehaaaOctet
namespace Go.Proofs.Ytjnllbgkgdehaaa
open Go.RowKit

def isBlankI (c : Int) : Bool := decide (c = 32) || decide (c = 9) || decide (c = 10) || decide (c = 13)

set_option maxHeartbeats 400000 in
theorem rlower_any (n : Int) (w : World) :
    Calls Try.prog 15 #[.int .i64 n] w fun e w' => e = .returned (.int .u8 (lowI n)) ∧ w = w' := by
  by_cases h1 : 10 ≤ n <;> by_cases h2 : n ≤ 15 <;> by_cases h3 : 0 ≤ n <;> by_cases h4 : n ≤ 9
  all_goals first
    | omega
    | (go_enter Try.func15, Try.ntmps15
       go_wp2
       go_ret
       exact ⟨ret_int (by unfold lowI; (repeat' split) <;> omega), rfl⟩)

theorem ret_two' {k : IntKind} {a b : Int} {x y : Bool} (h : a = b) (g : x = y) :
    Ending.returned (.tuple #[.int k a, .bool x]) = .returned (.tuple #[.int k b, .bool y]) := by rw [h, g]

end Go.Proofs.Ytjnllbgkgdehaaa
