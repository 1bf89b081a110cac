/- The contracts of the document's answers for layer 1 (riffleref01): each answers what package octet's functions answer. -/
import Derived.Test.YtoahnbjpmbhpfaaDoorOctet
namespace Go.Proofs.YtoahnbjpmbhpfaaDoor
open Go.RowKit

def isBlankI (c : Int) : Bool := decide (c = 32) || decide (c = 9) || decide (c = 10) || decide (c = 13)

theorem ret_two' {k : IntKind} {a b : Int} {x y : Bool} (h : a = b) (g : x = y) :
    Ending.returned (.tuple #[.int k a, .bool x]) = .returned (.tuple #[.int k b, .bool y]) := by rw [h, g]

end Go.Proofs.YtoahnbjpmbhpfaaDoor
