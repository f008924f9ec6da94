/-
  Pages: which versions are right: validNext, valid.
-/
import Derived.Test.YteikfkefahaodaaPageC
namespace Go.Proofs.Yteikfkefahaodaa
open Go.RowKit

def vnB (p s : Int) : Bool := decide ((p = -1 ∧ s = -1) ∨ (0 ≤ p ∧ p ≤ 65535 ∧ 0 ≤ s ∧ s ≤ 65534))
/-- A version: row, xmin, xmax, next, and how many bytes of data; is it right? -/
def vdB (r x m : Nat) (p s : Int) (n : Nat) : Bool := decide (r ≤ 1099511627776 ∧ x ≤ 1099511627776 ∧ m ≤ 1099511627776 ∧ vnB p s = true ∧ n ≤ 200)
end Go.Proofs.Yteikfkefahaodaa
