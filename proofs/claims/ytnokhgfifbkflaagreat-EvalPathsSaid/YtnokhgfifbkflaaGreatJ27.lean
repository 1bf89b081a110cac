/- Lemmas. -/
import Derived.Test.YtnokhgfifbkflaaGreatProg
import Derived.Test.YtnokhgfifbkflaaGreatJ18
import Derived.Lib.OwnBridge
import Derived.Lib.RuneBytes
import Derived.Shelf.Slices.Cells
import Derived.Shelf.Small.Bits
import Derived.Shelf.Small.Strs
import Derived.Shelf.Small.Wraps
import Derived.Shelf.Strings.BuilderK
import Derived.Shelf.Strings.OnBuilder
import Derived.StillTailTactics
set_option maxRecDepth 100000
set_option maxHeartbeats 8000000
set_option linter.unusedVariables false
namespace Go.Proofs.YtnokhgfifbkflaaGreat
section
open Go.RowKit
def QaEnd (l:List UInt8) (W:World) (e:Ending) (w':World):Prop :=
 ∃ A n c,e=.returned (.tuple #[.slice A n c,.bool (queQ l).isSome])∧QRd w' A n ((queQ l).getD [])∧n≤l.length∧Below W.heap.size W w'
theorem qa_of {l:List UInt8} {W w':World} {e:Ending} (h:QpEnd l W e w'):QaEnd l W e w':=by
 unfold QpEnd at h
 cases hq:queQ l with
 | none =>
   rw[hq] at h
   obtain ⟨rfl,hb⟩:=h
   exact ⟨none,0,0,by rw[hq];rfl,by rw[hq];exact ⟨rfl,fun h=>absurd h (by omega)⟩,Nat.zero_le _,hb⟩
 | some xs =>
   rw[hq] at h
   obtain ⟨⟨v,rfl,hr,hl⟩,hb⟩:=h
   obtain ⟨A,c,rfl,hrd⟩:=qrd_of hr
   exact ⟨A,xs.length,c,by rw[hq];rfl,by rw[hq];exact hrd,hl,hb⟩
structure QueC (G:World→Prop):Prop where
 stay:∀ w w',G w→Below w.heap.size w w'→G w'
 int:∀ (s:ByteArray) (w:World),G w→s.size≤100000→Calls Tryz.prog 123 #[.string s] w (InEnd s.data.toList w)
 parse:∀ (s:ByteArray) (w:World),G w→s.size≤100000→Calls Tryz.prog 15 #[.string s] w (QaEnd s.data.toList w)
end
end Go.Proofs.YtnokhgfifbkflaaGreat
