/-
  calc.Sub, calc.Neg: each answers the number, or 0 and the error 9, and leaves the world alone.
-/
import Derived.Test.YtcloajmcfacfnaaCalcAdd
namespace Go.Proofs.Ytcloajmcfacfnaa
open Go.RowKit

set_option maxHeartbeats 400000 in
theorem sub_any (a b : Int) (a0 : -9223372036854775808 ≤ a) (a1 : a ≤ 9223372036854775807) (b0 : -9223372036854775808 ≤ b) (b1 : b ≤ 9223372036854775807) (w : World) :
    Calls Try.prog 11 #[.int .i64 a, .int .i64 b] w fun e w' => e = .returned (.tuple #[.int .i64 (okv (a - b)), .int .i64 (oke (a - b))]) ∧ w = w' := by
  by_cases h : In64 (a - b)
  · rw [okv_in h, oke_in h]
    obtain ⟨h0, h1⟩ := h
    by_cases hb : 0 < b
    · go_enter Try.func11, Try.ntmps11
      go_wp2
      go_ret2
      exact ⟨rfl, rfl⟩
    · by_cases hb' : b < 0
      · go_enter Try.func11, Try.ntmps11
        go_wp2
        go_ret2
        exact ⟨rfl, rfl⟩
      · go_enter Try.func11, Try.ntmps11
        go_wp2
        go_ret2
        exact ⟨rfl, rfl⟩
  · rw [okv_out h, oke_out h]
    by_cases hb : 0 < b
    · have h1 : a < -9223372036854775808 + b := by
        apply Classical.byContradiction; intro hc; exact h (in64 (by omega) (by omega))
      clear h
      go_enter Try.func11, Try.ntmps11
      go_wp2
      go_ret2
      exact ⟨rfl, rfl⟩
    · have hb' : b < 0 := by
        apply Classical.byContradiction; intro hc; exact h (in64 (by omega) (by omega))
      have h1 : 9223372036854775807 + b < a := by
        apply Classical.byContradiction; intro hc; exact h (in64 (by omega) (by omega))
      clear h
      go_enter Try.func11, Try.ntmps11
      go_wp2
      go_ret2
      exact ⟨rfl, rfl⟩

set_option maxHeartbeats 400000 in
theorem neg_any (a : Int) (a0 : -9223372036854775808 ≤ a) (a1 : a ≤ 9223372036854775807) (w : World) :
    Calls Try.prog 13 #[.int .i64 a] w fun e w' => e = .returned (.tuple #[.int .i64 (okv (-a)), .int .i64 (oke (-a))]) ∧ w = w' := by
  by_cases h : a = -9223372036854775808
  · subst h
    have e1 : okv (-(-9223372036854775808)) = 0 := okv_out (by unfold In64; omega)
    have e2 : oke (-(-9223372036854775808)) = 9 := oke_out (by unfold In64; omega)
    rw [e1, e2]
    clear e1 e2
    go_enter Try.func13, Try.ntmps13
    go_wp2
    go_ret2
    exact ⟨rfl, rfl⟩
  · have e1 : In64 (-a) := in64 (by omega) (by omega)
    rw [okv_in e1, oke_in e1]
    clear e1
    have h' : -9223372036854775808 < a := by omega
    clear h
    go_enter Try.func13, Try.ntmps13
    go_wp2
    go_ret2
    exact ⟨rfl, rfl⟩
end Go.Proofs.Ytcloajmcfacfnaa
