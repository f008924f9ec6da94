/-
  The document's own products (ref01): Mul, Div, Mod: the walks.
-/
import Derived.Test.YtcloajmcfacfnaaRefC
namespace Go.Proofs.Ytcloajmcfacfnaa
open Go.RowKit

set_option maxHeartbeats 1000000 in
theorem rmul_any (a b : Int) (a0 : -9223372036854775808 ≤ a) (a1 : a ≤ 9223372036854775807) (b0 : -9223372036854775808 ≤ b) (b1 : b ≤ 9223372036854775807) (w : World) :
    Calls Try.prog 16 #[.int .i64 a, .int .i64 b] w fun e w' => e = .returned (.tuple #[.int .i64 (okv (a * b)), .int .i64 (oke (a * b))]) ∧ w = w' := by
  obtain ⟨m0, m1⟩ := mag_bounds a0 a1
  obtain ⟨n0, n1⟩ := mag_bounds b0 b1
  have p0 := mag_mul_nonneg a b m0 n0
  have h64 := mul64_any (mag a) (mag b) m0 (by omega) n0 (by omega)
  obtain ⟨t, ht⟩ : ∃ t, (!(decide (a < 0) == decide (b < 0))) = t := ⟨_, rfl⟩
  have hs := sgn_mul a b
  rw [ht] at hs
  by_cases hsm : mag a * mag b < 18446744073709551616
  · rw [hi64_small p0 hsm, lo64_small p0 hsm] at h64
    have H64 := Lib.hid h64
    have H := Lib.hid hs
    obtain ⟨p, hp⟩ : ∃ p, mag a * mag b = p := ⟨_, rfl⟩
    rw [hp] at p0 hsm hs
    by_cases hfit : In64 (a * b)
    · have hk : okb (sgn p t) = true := by rw [hs]; exact okb_in hfit
      have K := Lib.hid hfit
      clear hs hfit h64
      rw [hp] at H64 H
      clear hp
      go_enter Try.func16, Try.ntmps16
      go_wp2_with (first | (go_at_call 23; (with_reducible refine (size_any a a0 a1 _).mono ?_); rintro e w' ⟨rfl, rfl⟩) | (go_at_call 23; (with_reducible refine (size_any b b0 b1 _).mono ?_); rintro e w' ⟨rfl, rfl⟩) | (go_at_call 26; refine (H64.out _).mono ?_; rintro e w' ⟨rfl, rfl⟩) | (go_at_call 24; refine (sign_any _ _ (by omega) (by omega) _).mono ?_; rintro e w' ⟨rfl, rfl⟩) | (go_at_call 25; refine (answer_yes _ _).mono ?_; rintro e w' ⟨rfl, rfl⟩))
      go_ret2
      rw [H.out, oke_in K.out]
      exact ⟨rfl, rfl⟩
    · have hk : okb (sgn p t) = false := by rw [hs]; exact okb_out hfit
      have K := Lib.hid hfit
      clear hs hfit h64
      rw [hp] at H64 H
      clear hp
      go_enter Try.func16, Try.ntmps16
      go_wp2_with (first | (go_at_call 23; (with_reducible refine (size_any a a0 a1 _).mono ?_); rintro e w' ⟨rfl, rfl⟩) | (go_at_call 23; (with_reducible refine (size_any b b0 b1 _).mono ?_); rintro e w' ⟨rfl, rfl⟩) | (go_at_call 26; refine (H64.out _).mono ?_; rintro e w' ⟨rfl, rfl⟩) | (go_at_call 24; refine (sign_any _ _ (by omega) (by omega) _).mono ?_; rintro e w' ⟨rfl, rfl⟩) | (go_at_call 25; refine (answer_no _ _).mono ?_; rintro e w' ⟨rfl, rfl⟩))
      go_ret2
      rw [okv_out K.out, oke_out K.out]
      exact ⟨rfl, rfl⟩
  · have hfit : ¬ In64 (a * b) := by
      intro h; rw [← hs] at h; exact hsm (by have := sgn_small p0 h; omega)
    rw [okv_out hfit, oke_out hfit]
    have H64 := Lib.hid h64
    have hh := hi64_pos (p := mag a * mag b) (by omega)
    have hl := lo64_bounds (mag a * mag b)
    clear hs hfit h64 hsm p0
    generalize hi64 (mag a * mag b) = h at H64 hh
    generalize lo64 (mag a * mag b) = l at H64 hl
    obtain ⟨l0, l1⟩ := hl
    have hz : (h == 0) = false := by simp; omega
    cases hk : okb (sgn l t)
    all_goals
      go_enter Try.func16, Try.ntmps16
      go_wp2_with (first | (go_at_call 23; (with_reducible refine (size_any a a0 a1 _).mono ?_); rintro e w' ⟨rfl, rfl⟩) | (go_at_call 23; (with_reducible refine (size_any b b0 b1 _).mono ?_); rintro e w' ⟨rfl, rfl⟩) | (go_at_call 26; refine (H64.out _).mono ?_; rintro e w' ⟨rfl, rfl⟩) | (go_at_call 24; refine (sign_any _ _ (by omega) (by omega) _).mono ?_; rintro e w' ⟨rfl, rfl⟩) | (go_at_call 25; refine (answer_no _ _).mono ?_; rintro e w' ⟨rfl, rfl⟩))
      go_ret2
      exact ⟨rfl, rfl⟩

theorem tdiv_zero_ok (a : Int) : divv a 0 = 0 ∧ dive a 0 = 10 := ⟨rfl, rfl⟩
theorem mag_pos_of {b : Int} (h : ¬ b = 0) : 1 ≤ mag b := by unfold mag; split <;> omega
theorem ediv_bounds {x y : Int} (x0 : 0 ≤ x) (y1 : 1 ≤ y) : 0 ≤ x / y ∧ x / y ≤ x := ⟨Int.ediv_nonneg x0 (by omega), Int.ediv_le_self _ x0⟩
theorem emod_bounds {x y : Int} (y1 : 1 ≤ y) : 0 ≤ x % y ∧ x % y < y := ⟨Int.emod_nonneg _ (by omega), Int.emod_lt_of_pos _ (by omega)⟩

set_option maxHeartbeats 1000000 in
theorem rdiv_any (a b : Int) (a0 : -9223372036854775808 ≤ a) (a1 : a ≤ 9223372036854775807) (b0 : -9223372036854775808 ≤ b) (b1 : b ≤ 9223372036854775807) (w : World) :
    Calls Try.prog 18 #[.int .i64 a, .int .i64 b] w fun e w' => e = .returned (.tuple #[.int .i64 (divv a b), .int .i64 (dive a b)]) ∧ w = w' := by
  obtain ⟨m0, m1⟩ := mag_bounds a0 a1
  obtain ⟨n0, n1⟩ := mag_bounds b0 b1
  by_cases hz : b = 0
  · subst hz
    rw [(tdiv_zero_ok a).1, (tdiv_zero_ok a).2]
    go_enter Try.func18, Try.ntmps18
    go_wp2
    go_ret2
    exact ⟨rfl, rfl⟩
  · have e1 : divv a b = okv (a.tdiv b) := if_neg hz
    have e2 : dive a b = oke (a.tdiv b) := if_neg hz
    rw [e1, e2]
    clear e1 e2
    have hb2 : (b == 0) = false := by simpa using hz
    have n2 := mag_pos_of hz
    obtain ⟨q0, q1⟩ := ediv_bounds m0 n2
    have H := Lib.hid (sgn_div a b)
    clear hz
    obtain ⟨t, ht⟩ : ∃ t, (!(decide (a < 0) == decide (b < 0))) = t := ⟨_, rfl⟩
    rw [ht] at H
    go_enter Try.func18, Try.ntmps18
    go_wp2_with (first | (go_at_call 23; (with_reducible refine (size_any a a0 a1 _).mono ?_); rintro e w' ⟨rfl, rfl⟩) | (go_at_call 23; (with_reducible refine (size_any b b0 b1 _).mono ?_); rintro e w' ⟨rfl, rfl⟩) | (go_at_call 24; refine (sign_any _ _ (by omega) (by omega) _).mono ?_; rintro e w' ⟨rfl, rfl⟩) | (go_at_call 25; refine (answer_ok _ _).mono ?_; rintro e w' ⟨rfl, rfl⟩))
    go_ret2
    rw [H.out]
    exact ⟨rfl, rfl⟩

set_option maxHeartbeats 1000000 in
theorem rmod_any (a b : Int) (a0 : -9223372036854775808 ≤ a) (a1 : a ≤ 9223372036854775807) (b0 : -9223372036854775808 ≤ b) (b1 : b ≤ 9223372036854775807) (w : World) :
    Calls Try.prog 20 #[.int .i64 a, .int .i64 b] w fun e w' => e = .returned (.tuple #[.int .i64 (modv a b), .int .i64 (mode b)]) ∧ w = w' := by
  obtain ⟨m0, m1⟩ := mag_bounds a0 a1
  obtain ⟨n0, n1⟩ := mag_bounds b0 b1
  by_cases hz : b = 0
  · subst hz
    rw [show modv a 0 = 0 from rfl, show mode 0 = 10 from rfl]
    go_enter Try.func20, Try.ntmps20
    go_wp2
    go_ret2
    exact ⟨rfl, rfl⟩
  · have hin := tmod_bounds a b a0 a1 b0 b1 hz
    have e1 : modv a b = okv (a.tmod b) := by rw [okv_in hin]; exact if_neg hz
    have e2 : mode b = oke (a.tmod b) := by rw [oke_in hin]; exact if_neg hz
    rw [e1, e2]
    clear e1 e2 hin
    have hb2 : (b == 0) = false := by simpa using hz
    have n2 := mag_pos_of hz
    obtain ⟨q0, q1⟩ := emod_bounds (x := mag a) n2
    have H := Lib.hid (sgn_mod a b)
    clear hz
    obtain ⟨t, ht⟩ : ∃ t, decide (a < 0) = t := ⟨_, rfl⟩
    rw [ht] at H
    go_enter Try.func20, Try.ntmps20
    go_wp2_with (first | (go_at_call 23; (with_reducible refine (size_any a a0 a1 _).mono ?_); rintro e w' ⟨rfl, rfl⟩) | (go_at_call 23; (with_reducible refine (size_any b b0 b1 _).mono ?_); rintro e w' ⟨rfl, rfl⟩) | (go_at_call 24; refine (sign_any _ _ (by omega) (by omega) _).mono ?_; rintro e w' ⟨rfl, rfl⟩) | (go_at_call 25; refine (answer_ok _ _).mono ?_; rintro e w' ⟨rfl, rfl⟩))
    go_ret2
    rw [H.out]
    exact ⟨rfl, rfl⟩
end Go.Proofs.Ytcloajmcfacfnaa
