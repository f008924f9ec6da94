/-
  RoomPlays: the walk with two maps (the law's other half).
-/
import Derived.Test.YteikfkefahaodaaRoomPlaysW
import Derived.Test.YteikfkefahaodaaRoomT
namespace Go.Proofs.Yteikfkefahaodaa.roomPlays
open Go.RowKit Go.ChangeShapes Go.WideShapes Go.ChangeAt Go.Deep
set_option linter.unusedVariables false

end Go.Proofs.Yteikfkefahaodaa.roomPlays
