/-
  calc.Mul: the product, or 0 and the error 9; the world is left alone.
-/
import Derived.Test.YtcloajmcfacfnaaDoorCalcMul0
namespace Go.Proofs.YtcloajmcfacfnaaDoor
open Go.RowKit

set_option maxHeartbeats 400000 in
theorem mul_any (a b : Int) (a0 : -9223372036854775808 ≤ a) (a1 : a ≤ 9223372036854775807) (b0 : -9223372036854775808 ≤ b) (b1 : b ≤ 9223372036854775807) (w : World) :
    Calls Tryd.prog 51 #[.int .i64 a, .int .i64 b] w fun e w' => e = .returned (.tuple #[.int .i64 (okv (a * b)), .int .i64 (oke (a * b))]) ∧ w = w' := by
  by_cases hm : b = -1
  · subst hm
    have e1 : a * -1 = -a := by omega
    rw [e1]
    clear e1
    go_enter Tryd.func51, Tryd.ntmps51
    go_wp2_with (go_at_call 50; refine (neg_any _ a0 a1 _).mono ?_; rintro e w' ⟨rfl, rfl⟩)
    go_ret2
    exact ⟨rfl, rfl⟩
  · by_cases hz : b = 0
    · subst hz
      have e1 : okv (a * 0) = 0 := by rw [Int.mul_zero]; rfl
      have e2 : oke (a * 0) = 0 := by rw [Int.mul_zero]; rfl
      rw [e1, e2]
      clear e1 e2
      go_enter Tryd.func51, Tryd.ntmps51
      go_wp2
      go_ret2
      exact ⟨rfl, rfl⟩
    · have hb1 : (b == -1) = false := by simpa using hm
      have hb2 : (b == 0) = false := by simpa using hz
      have hb3 : (b != 0) = true := by simpa using hz
      by_cases h : In64 (a * b)
      · rw [okv_in h, oke_in h]
        obtain ⟨h0, h1⟩ := h
        have hq : (a * b).tdiv b = a := Int.mul_tdiv_cancel a hz
        go_enter Tryd.func51, Tryd.ntmps51
        go_wp2
        go_ret2
        exact ⟨rfl, rfl⟩
      · rw [okv_out h, oke_out h]
        have hw := wrap64_bounds (a * b)
        have hne : wrap64 (a * b) ≠ a * b := by
          intro hc; rw [hc] at hw; exact h hw
        have ht := tdiv_bounds (wrap64 (a * b)) b hw.1 hw.2 hm
        have hq : ((wrap64 (a * b)).tdiv b != a) = true := by
          simpa using cut_back a b _ hz b0 b1 (wrap64_cut _) hne
        obtain ⟨t0, t1⟩ := ht
        obtain ⟨w0, w1⟩ := hw
        clear h hne
        go_enter Tryd.func51, Tryd.ntmps51
        go_wp2
        go_ret2
        exact ⟨rfl, rfl⟩
end Go.Proofs.YtcloajmcfacfnaaDoor
