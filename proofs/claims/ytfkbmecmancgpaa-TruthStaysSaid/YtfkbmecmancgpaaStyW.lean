/- TruthStays' walk, as the frame asks it. -/
import Derived.Test.YtfkbmecmancgpaaLawT18
import Derived.Test.YtfkbmecmancgpaaActF
namespace Go.Proofs.Ytfkbmecmancgpaa
open Go.RowKit
theorem truthStays_walk (a0 : Option Addr) (len0 cap0 : Nat) (z0 : List ActV) (a1 : Option Addr) (len1 cap1 : Nat) (z1 : List Bool) (W : World) (h0 : z0.length = len0 ∧ ActsAt W a0 z0) (h1 : IsBools W a1 len1 cap1 z1) :
    Calls Try.prog 4 #[.slice a0 len0 cap0, .slice a1 len1 cap1] W fun e w' => e = .returned (.bool true) ∧ Below W.heap.size W w' :=
  stays_walk z0 z1 W a0 a1 len0 cap0 len1 cap1 h0.1 h0.2 h1.rd
end Go.Proofs.Ytfkbmecmancgpaa
