/-
  calc.Mul: the product, or 0 and the error 9; the world is left alone.
-/
import Derived.Test.YtcloajmcfacfnabDoorCalcMul0
namespace Go.Proofs.YtcloajmcfacfnabDoor
open Go.RowKit

end Go.Proofs.YtcloajmcfacfnabDoor
