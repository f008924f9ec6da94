/-
  The document's own products (ref01): Mul, Div, Mod.
-/
import Derived.Test.YtcloajmcfacfnaaRefB
import Derived.Test.YtcloajmcfacfnaaShelf
namespace Go.Proofs.Ytcloajmcfacfnaa
open Go.RowKit

/-- The upper and the lower half of 128 bits. -/
def hi64 (p : Int) : Int := p / 18446744073709551616
def lo64 (p : Int) : Int := p % 18446744073709551616

theorem mul64_any (x y : Int) (x0 : 0 ≤ x) (x1 : x ≤ 18446744073709551615) (y0 : 0 ≤ y) (y1 : y ≤ 18446744073709551615) (w : World) :
    Calls Try.prog 26 #[.int .u64 x, .int .u64 y] w fun e w' => e = .returned (.tuple #[.int .u64 (hi64 (x * y)), .int .u64 (lo64 (x * y))]) ∧ w = w' := by
  obtain ⟨x, rfl⟩ := Int.eq_ofNat_of_zero_le x0
  obtain ⟨y, rfl⟩ := Int.eq_ofNat_of_zero_le y0
  refine (Try.bits_Mul64 x y (by omega) (by omega) w).mono fun e w' ⟨he, hw⟩ => ⟨?_, hw.symm⟩
  rw [he]
  have e1 : ((x * y / 18446744073709551616 : Nat) : Int) = hi64 ((x : Int) * (y : Int)) := by simp [hi64]
  have e2 : ((x * y % 18446744073709551616 : Nat) : Int) = lo64 ((x : Int) * (y : Int)) := by simp [lo64]
  rw [e1, e2]

theorem sgn_mul (a b : Int) : sgn (mag a * mag b) (!(decide (a < 0) == decide (b < 0))) = a * b := by
  unfold sgn mag
  by_cases ha : a < 0 <;> by_cases hb : b < 0 <;> simp [ha, hb, Int.neg_mul, Int.mul_neg]
theorem sgn_div (a b : Int) : sgn (mag a / mag b) (!(decide (a < 0) == decide (b < 0))) = a.tdiv b := by
  show sgn (mag a / mag b) (decide (a < 0) != decide (b < 0)) = a.tdiv b
  unfold sgn mag
  by_cases ha : a < 0 <;> by_cases hb : b < 0 <;> simp only [ha, hb, if_true, if_false, decide_true, decide_false, bne_self_eq_false, Bool.false_eq_true]
  · rw [← Int.tdiv_eq_ediv_of_nonneg (by omega), Int.neg_tdiv_neg]
  · rw [← Int.tdiv_eq_ediv_of_nonneg (by omega), Int.neg_tdiv]; simp
  · rw [← Int.tdiv_eq_ediv_of_nonneg (by omega), Int.tdiv_neg]; simp
  · rw [← Int.tdiv_eq_ediv_of_nonneg (by omega)]
theorem sgn_mod (a b : Int) : sgn (mag a % mag b) (decide (a < 0)) = a.tmod b := by
  unfold sgn mag
  by_cases ha : a < 0 <;> by_cases hb : b < 0 <;> simp only [ha, hb, if_true, if_false, decide_true, decide_false, Bool.false_eq_true]
  · rw [← Int.tmod_eq_emod_of_nonneg (by omega), Int.neg_tmod, Int.tmod_neg]; simp
  · rw [← Int.tmod_eq_emod_of_nonneg (by omega), Int.neg_tmod]; simp
  · rw [← Int.tmod_eq_emod_of_nonneg (by omega), Int.tmod_neg]
  · rw [← Int.tmod_eq_emod_of_nonneg (by omega)]

theorem mag_mul_nonneg (a b : Int) (m0 : 0 ≤ mag a) (n0 : 0 ≤ mag b) : 0 ≤ mag a * mag b := Int.mul_nonneg m0 n0
theorem sgn_small {p : Int} {t : Bool} (p0 : 0 ≤ p) (h : In64 (sgn p t)) : p ≤ 9223372036854775808 := by
  unfold sgn In64 at h; cases t <;> simp at h <;> omega
theorem lo64_bounds (p : Int) : 0 ≤ lo64 p ∧ lo64 p ≤ 18446744073709551615 := by unfold lo64; omega
theorem hi64_pos {p : Int} (h : 18446744073709551616 ≤ p) : 1 ≤ hi64 p := by unfold hi64; omega
theorem hi64_small {p : Int} (h0 : 0 ≤ p) (h : p < 18446744073709551616) : hi64 p = 0 := by unfold hi64; omega
theorem lo64_small {p : Int} (h0 : 0 ≤ p) (h : p < 18446744073709551616) : lo64 p = p := by unfold lo64; omega
end Go.Proofs.Ytcloajmcfacfnaa
