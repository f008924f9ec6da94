/-
  The plain numbers of calc: what fits 64 bits, with a sign; else the error's number. No program in sight.
-/
import Derived.WalkKit
namespace Go.Proofs.Ytpnkmkenmpbekaa
open Go.RowKit

/-- A number of 64 bits with its sign. -/
def In64 (x : Int) : Prop := -9223372036854775808 ≤ x ∧ x ≤ 9223372036854775807

/-- The number itself where it fits, else 0. -/
def okv (x : Int) : Int := if -9223372036854775808 ≤ x ∧ x ≤ 9223372036854775807 then x else 0

/-- The error's number: 0 where it fits, else 9. -/
def oke (x : Int) : Int := if -9223372036854775808 ≤ x ∧ x ≤ 9223372036854775807 then 0 else 9

theorem okv_in {x : Int} (h : In64 x) : okv x = x := if_pos h
theorem oke_in {x : Int} (h : In64 x) : oke x = 0 := if_pos h
theorem okv_out {x : Int} (h : ¬ In64 x) : okv x = 0 := if_neg h
theorem oke_out {x : Int} (h : ¬ In64 x) : oke x = 9 := if_neg h
theorem in64 {x : Int} (h0 : -9223372036854775808 ≤ x) (h1 : x ≤ 9223372036854775807) : In64 x := ⟨h0, h1⟩

theorem okv_bounds (x : Int) : -9223372036854775808 ≤ okv x ∧ okv x ≤ 9223372036854775807 := by
  unfold okv; split <;> omega
theorem oke_cases (x : Int) : oke x = 0 ∨ oke x = 9 := by unfold oke; split <;> simp
end Go.Proofs.Ytpnkmkenmpbekaa
