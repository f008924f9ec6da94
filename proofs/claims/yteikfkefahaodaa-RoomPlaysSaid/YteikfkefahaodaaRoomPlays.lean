/-
  RoomPlays: for every input the law answers true, and each argument reads behind the call as it read before. No condition.
-/
import Derived.Test.YteikfkefahaodaaRows
import Derived.Test.YteikfkefahaodaaRoomPlaysW
import Derived.Test.YteikfkefahaodaaRoomPlaysX
import Derived.WalkKit
import Derived.ProofKit
import Derived.OpenShut
import Derived.Carry
namespace Go.Proofs.Yteikfkefahaodaa.roomPlays
open Go.ChangeShapes Go.WideShapes Go.ChangeAt Go.RowKit
set_option linter.unusedVariables false

theorem own : ownKnob Try.prog.godebug = none := by kernel_rfl
theorem laidOut : laidOutB Try.prog = true := by kernel_rfl

#print axioms proved
end Go.Proofs.Yteikfkefahaodaa.roomPlays
