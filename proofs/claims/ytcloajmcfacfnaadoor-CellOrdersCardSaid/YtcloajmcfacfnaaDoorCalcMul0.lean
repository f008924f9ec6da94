/-
  calc.Mul, calc.Div, calc.Mod: each answers the number, or 0 and the error, and leaves the world alone.
-/
import Derived.Test.YtcloajmcfacfnaaDoorCalcSub
namespace Go.Proofs.YtcloajmcfacfnaaDoor
open Go.RowKit

/-- What is left of a product that was cut to 64 bits, divided again, is never the first factor, unless it fits. -/
theorem cut_back (a b p : Int) (hb0 : b ≠ 0) (b0 : -9223372036854775808 ≤ b) (b1 : b ≤ 9223372036854775807)
    (hp : ∃ k : Int, p = a * b + k * 18446744073709551616) (hne : p ≠ a * b) : p.tdiv b ≠ a := by
  intro hq
  obtain ⟨k, hk⟩ := hp
  have h1 := Int.tmod_add_mul_tdiv p b
  rw [hq] at h1
  have h2 : (p.tmod b).natAbs < b.natAbs := by
    rw [Int.natAbs_tmod]; exact Nat.mod_lt _ (by omega)
  have h3 : b * a = a * b := Int.mul_comm b a
  have hk0 : k ≠ 0 := by intro h; apply hne; rw [hk, h]; omega
  omega

theorem wrap64_cut (x : Int) : ∃ k : Int, wrap64 x = x + k * 18446744073709551616 := by
  unfold wrap64
  exact ⟨-((x + 9223372036854775808) / 18446744073709551616), by omega⟩
theorem wrap64_bounds (x : Int) : -9223372036854775808 ≤ wrap64 x ∧ wrap64 x ≤ 9223372036854775807 := by
  unfold wrap64; omega

theorem tdiv_bounds (p b : Int) (p0 : -9223372036854775808 ≤ p) (p1 : p ≤ 9223372036854775807) (hb : b ≠ -1) : -9223372036854775808 ≤ p.tdiv b ∧ p.tdiv b ≤ 9223372036854775807 := by
  have h1 : (p.tdiv b).natAbs = p.natAbs / b.natAbs := Int.natAbs_tdiv p b
  have h2 : p.natAbs / b.natAbs ≤ p.natAbs := Nat.div_le_self _ _
  by_cases hp : p = -9223372036854775808
  · by_cases hb0 : b.natAbs ≤ 1
    · have : b = 0 ∨ b = 1 := by omega
      rcases this with rfl | rfl
      · simp
      · simp; omega
    · have h3 : p.natAbs / b.natAbs ≤ p.natAbs / 2 := Nat.div_le_div_left (by omega) (by omega)
      omega
  · omega

end Go.Proofs.YtcloajmcfacfnaaDoor
