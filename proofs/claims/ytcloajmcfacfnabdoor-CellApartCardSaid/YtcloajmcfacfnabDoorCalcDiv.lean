/-
  calc.Div, calc.Mod, calc.extend: the number, or 0 and the error; the world is left alone.
-/
import Derived.Test.YtcloajmcfacfnabDoorCalcMul
import Derived.Lib.Hide
namespace Go.Proofs.YtcloajmcfacfnabDoor
open Go.RowKit

/-- What Div answers. -/
def divv (a b : Int) : Int := if b = 0 then 0 else okv (a.tdiv b)
def dive (a b : Int) : Int := if b = 0 then 10 else oke (a.tdiv b)
/-- What Mod answers. -/
def modv (a b : Int) : Int := if b = 0 then 0 else a.tmod b
def mode (b : Int) : Int := if b = 0 then 10 else 0

theorem tmod_bounds (a b : Int) (a0 : -9223372036854775808 ≤ a) (a1 : a ≤ 9223372036854775807) (b0 : -9223372036854775808 ≤ b) (b1 : b ≤ 9223372036854775807) (hz : b ≠ 0) : -9223372036854775808 ≤ a.tmod b ∧ a.tmod b ≤ 9223372036854775807 := by
  have h2 : (a.tmod b).natAbs < b.natAbs := by
    rw [Int.natAbs_tmod]; exact Nat.mod_lt _ (by omega)
  have h3 : (a.tmod b).natAbs ≤ a.natAbs := by
    rw [Int.natAbs_tmod]; exact Nat.mod_le _ _
  omega

/-- A number to which one more digit is set. -/
theorem ext_out {n d : Int} (n0 : 0 ≤ n) (d0 : 0 ≤ d) (h : ¬ In64 (n * 10)) : ¬ In64 (n * 10 + d) := by
  unfold In64 at *; omega

end Go.Proofs.YtcloajmcfacfnabDoor
