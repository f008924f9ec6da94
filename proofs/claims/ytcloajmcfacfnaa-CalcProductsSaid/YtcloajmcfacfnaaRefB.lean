/-
  The document's own sums (ref01): Neg, Add, Sub.
-/
import Derived.Test.YtcloajmcfacfnaaRefA
import Derived.Laws.Externs
namespace Go.Proofs.Ytcloajmcfacfnaa
open Go.RowKit

theorem add64_any (x y : Int) (hx : 0 ≤ x) (hy : 0 ≤ y) (w : World) : (callFunc 22 #[.int .u64 x, .int .u64 y, .int .u64 0]).run Try.prog w = .ok (.value (.tuple #[.int .u64 ((x + y) % 18446744073709551616), .int .u64 ((x + y) / 18446744073709551616)])) w := by
  rw [run_callFunc_extern Try.func22 (by kernel_rfl) (by kernel_rfl) (by kernel_rfl) (e := add64Entry) (by kernel_rfl), run_add64 x y 0 hx hy (by omega) (by omega)]
  simp [Result.andThen]
theorem add64_s (x y : Int) (hx : 0 ≤ x) (hy : 0 ≤ y) (h : x + y ≤ 18446744073709551615) (w : World) : (callFunc 22 #[.int .u64 x, .int .u64 y, .int .u64 0]).run Try.prog w = .ok (.value (.tuple #[.int .u64 (x + y), .int .u64 0])) w := by
  rw [add64_any x y hx hy w, Int.emod_eq_of_lt (by omega) (by omega), Int.ediv_eq_zero_of_lt (by omega) (by omega)]
theorem add64_o (x y : Int) (hx : 0 ≤ x) (hy : 0 ≤ y) (h : Hid (x + y = 18446744073709551616)) (w : World) : (callFunc 22 #[.int .u64 x, .int .u64 y, .int .u64 0]).run Try.prog w = .ok (.value (.tuple #[.int .u64 0, .int .u64 1])) w := by
  rw [add64_any x y hx hy w, h.out]; rfl

theorem mag_neg {a : Int} (h : a < 0) : mag a = -a := if_pos h
theorem mag_pos {a : Int} (h : ¬ a < 0) : mag a = a := if_neg h

set_option maxHeartbeats 400000 in
theorem rneg_any (a : Int) (a0 : -9223372036854775808 ≤ a) (a1 : a ≤ 9223372036854775807) (w : World) :
    Calls Try.prog 14 #[.int .i64 a] w fun e w' => e = .returned (.tuple #[.int .i64 (okv (-a)), .int .i64 (oke (-a))]) ∧ w = w' := by
  obtain ⟨m0, m1⟩ := mag_bounds a0 a1
  have hs : sgn (mag a) (decide (0 < a)) = -a := by
    unfold sgn mag; by_cases h : a < 0 <;> by_cases h' : 0 < a <;> simp [h, h'] <;> omega
  have H := Lib.hid hs
  clear hs
  go_enter Try.func14, Try.ntmps14
  go_wp2_with (first | (go_at_call 23; (with_reducible refine (size_any a a0 a1 _).mono ?_); rintro e w' ⟨rfl, rfl⟩) | (go_at_call 24; refine (sign_any _ _ (by omega) (by omega) _).mono ?_; rintro e w' ⟨rfl, rfl⟩) | (go_at_call 25; refine (answer_ok _ _).mono ?_; rintro e w' ⟨rfl, rfl⟩))
  go_ret2
  rw [H.out]
  exact ⟨rfl, rfl⟩

set_option maxHeartbeats 1000000 in
theorem radd_any (a b : Int) (a0 : -9223372036854775808 ≤ a) (a1 : a ≤ 9223372036854775807) (b0 : -9223372036854775808 ≤ b) (b1 : b ≤ 9223372036854775807) (w : World) :
    Calls Try.prog 10 #[.int .i64 a, .int .i64 b] w fun e w' => e = .returned (.tuple #[.int .i64 (okv (a + b)), .int .i64 (oke (a + b))]) ∧ w = w' := by
  obtain ⟨m0, m1⟩ := mag_bounds a0 a1
  obtain ⟨n0, n1⟩ := mag_bounds b0 b1
  by_cases ha : a < 0
  · have ea := mag_neg ha
    by_cases hb : b < 0
    · have eb := mag_neg hb
      by_cases hx : a = -9223372036854775808 ∧ b = -9223372036854775808
      · have hs : okv (a + b) = 0 := okv_out (by unfold In64; omega)
        have he : oke (a + b) = 9 := oke_out (by unfold In64; omega)
        have hl : mag a + mag b = 18446744073709551616 := by rw [ea, eb]; omega
        have H := Lib.hid hl
        rw [hs, he]
        clear hs he ea eb hl hx
        go_enter Try.func10, Try.ntmps10
        go_wp2_with (first | (go_at_call 23; (with_reducible refine (size_any a a0 a1 _).mono ?_); rintro e w' ⟨rfl, rfl⟩) | (go_at_call 23; (with_reducible refine (size_any b b0 b1 _).mono ?_); rintro e w' ⟨rfl, rfl⟩) | simp only [add64_o (mag a) (mag b) m0 n0 H] | (go_at_call 24; refine (sign_any _ _ (by omega) (by omega) _).mono ?_; rintro e w' ⟨rfl, rfl⟩) | (go_at_call 25; refine (answer_no _ _).mono ?_; rintro e w' ⟨rfl, rfl⟩))
        go_ret2
        exact ⟨rfl, rfl⟩
      · by_cases hfit : In64 (a + b)
        · have hs : sgn (mag a + mag b) true = a + b := by unfold sgn; rw [ea, eb]; simp <;> omega
          have hl : mag a + mag b ≤ 18446744073709551615 := by rw [ea, eb]; omega
          have hk : okb (sgn (mag a + mag b) true) = true := by rw [hs]; exact okb_in hfit
          have H := Lib.hid hs
          have K := Lib.hid hfit
          clear hs ea eb hfit
          go_enter Try.func10, Try.ntmps10
          go_wp2_with (first | (go_at_call 23; (with_reducible refine (size_any a a0 a1 _).mono ?_); rintro e w' ⟨rfl, rfl⟩) | (go_at_call 23; (with_reducible refine (size_any b b0 b1 _).mono ?_); rintro e w' ⟨rfl, rfl⟩) | simp only [add64_s (mag a) (mag b) m0 n0 hl] | (go_at_call 24; refine (sign_any _ _ (by omega) (by omega) _).mono ?_; rintro e w' ⟨rfl, rfl⟩) | (go_at_call 25; refine (answer_yes _ _).mono ?_; rintro e w' ⟨rfl, rfl⟩))
          go_ret2
          rw [H.out, oke_in K.out]
          exact ⟨rfl, rfl⟩
        · have hs : sgn (mag a + mag b) true = a + b := by unfold sgn; rw [ea, eb]; simp <;> omega
          have hl : mag a + mag b ≤ 18446744073709551615 := by rw [ea, eb]; omega
          have hk : okb (sgn (mag a + mag b) true) = false := by rw [hs]; exact okb_out hfit
          have H := Lib.hid hs
          have K := Lib.hid hfit
          clear hs ea eb hfit
          go_enter Try.func10, Try.ntmps10
          go_wp2_with (first | (go_at_call 23; (with_reducible refine (size_any a a0 a1 _).mono ?_); rintro e w' ⟨rfl, rfl⟩) | (go_at_call 23; (with_reducible refine (size_any b b0 b1 _).mono ?_); rintro e w' ⟨rfl, rfl⟩) | simp only [add64_s (mag a) (mag b) m0 n0 hl] | (go_at_call 24; refine (sign_any _ _ (by omega) (by omega) _).mono ?_; rintro e w' ⟨rfl, rfl⟩) | (go_at_call 25; refine (answer_no _ _).mono ?_; rintro e w' ⟨rfl, rfl⟩))
          go_ret2
          rw [okv_out K.out, oke_out K.out]
          exact ⟨rfl, rfl⟩
    · have eb := mag_pos hb
      have hbF : decide (b < 0) = false := decide_eq_false hb
      by_cases hc : mag b ≤ mag a
      · have hs : sgn (mag a - mag b) true = a + b := by unfold sgn; rw [ea, eb]; simp <;> omega
        have H := Lib.hid hs
        clear hs ea eb
        go_enter Try.func10, Try.ntmps10
        go_wp2_with (first | (go_at_call 23; (with_reducible refine (size_any a a0 a1 _).mono ?_); rintro e w' ⟨rfl, rfl⟩) | (go_at_call 23; (with_reducible refine (size_any b b0 b1 _).mono ?_); rintro e w' ⟨rfl, rfl⟩) | (go_at_call 24; refine (sign_any _ _ (by omega) (by omega) _).mono ?_; rintro e w' ⟨rfl, rfl⟩) | (go_at_call 25; refine (answer_ok _ _).mono ?_; rintro e w' ⟨rfl, rfl⟩))
        go_ret2
        rw [H.out]
        exact ⟨rfl, rfl⟩
      · have hs : sgn (mag b - mag a) false = a + b := by unfold sgn; rw [ea, eb]; simp <;> omega
        have H := Lib.hid hs
        clear hs ea eb
        go_enter Try.func10, Try.ntmps10
        go_wp2_with (first | (go_at_call 23; (with_reducible refine (size_any a a0 a1 _).mono ?_); rintro e w' ⟨rfl, rfl⟩) | (go_at_call 23; (with_reducible refine (size_any b b0 b1 _).mono ?_); rintro e w' ⟨rfl, rfl⟩) | (go_at_call 24; refine (sign_any _ _ (by omega) (by omega) _).mono ?_; rintro e w' ⟨rfl, rfl⟩) | (go_at_call 25; refine (answer_ok _ _).mono ?_; rintro e w' ⟨rfl, rfl⟩))
        go_ret2
        rw [H.out]
        exact ⟨rfl, rfl⟩
  · have ea := mag_pos ha
    have haF : decide (a < 0) = false := decide_eq_false ha
    by_cases hb : b < 0
    · have eb := mag_neg hb
      by_cases hc : mag b ≤ mag a
      · have hs : sgn (mag a - mag b) false = a + b := by unfold sgn; rw [ea, eb]; simp <;> omega
        have H := Lib.hid hs
        clear hs ea eb
        go_enter Try.func10, Try.ntmps10
        go_wp2_with (first | (go_at_call 23; (with_reducible refine (size_any a a0 a1 _).mono ?_); rintro e w' ⟨rfl, rfl⟩) | (go_at_call 23; (with_reducible refine (size_any b b0 b1 _).mono ?_); rintro e w' ⟨rfl, rfl⟩) | (go_at_call 24; refine (sign_any _ _ (by omega) (by omega) _).mono ?_; rintro e w' ⟨rfl, rfl⟩) | (go_at_call 25; refine (answer_ok _ _).mono ?_; rintro e w' ⟨rfl, rfl⟩))
        go_ret2
        rw [H.out]
        exact ⟨rfl, rfl⟩
      · have hs : sgn (mag b - mag a) true = a + b := by unfold sgn; rw [ea, eb]; simp <;> omega
        have H := Lib.hid hs
        clear hs ea eb
        go_enter Try.func10, Try.ntmps10
        go_wp2_with (first | (go_at_call 23; (with_reducible refine (size_any a a0 a1 _).mono ?_); rintro e w' ⟨rfl, rfl⟩) | (go_at_call 23; (with_reducible refine (size_any b b0 b1 _).mono ?_); rintro e w' ⟨rfl, rfl⟩) | (go_at_call 24; refine (sign_any _ _ (by omega) (by omega) _).mono ?_; rintro e w' ⟨rfl, rfl⟩) | (go_at_call 25; refine (answer_ok _ _).mono ?_; rintro e w' ⟨rfl, rfl⟩))
        go_ret2
        rw [H.out]
        exact ⟨rfl, rfl⟩
    · have eb := mag_pos hb
      have hbF : decide (b < 0) = false := decide_eq_false hb
      by_cases hfit : In64 (a + b)
      · have hs : sgn (mag a + mag b) false = a + b := by unfold sgn; rw [ea, eb]; simp <;> omega
        have hl : mag a + mag b ≤ 18446744073709551615 := by rw [ea, eb]; omega
        have hk : okb (sgn (mag a + mag b) false) = true := by rw [hs]; exact okb_in hfit
        have H := Lib.hid hs
        have K := Lib.hid hfit
        clear hs ea eb hfit
        go_enter Try.func10, Try.ntmps10
        go_wp2_with (first | (go_at_call 23; (with_reducible refine (size_any a a0 a1 _).mono ?_); rintro e w' ⟨rfl, rfl⟩) | (go_at_call 23; (with_reducible refine (size_any b b0 b1 _).mono ?_); rintro e w' ⟨rfl, rfl⟩) | simp only [add64_s (mag a) (mag b) m0 n0 hl] | (go_at_call 24; refine (sign_any _ _ (by omega) (by omega) _).mono ?_; rintro e w' ⟨rfl, rfl⟩) | (go_at_call 25; refine (answer_yes _ _).mono ?_; rintro e w' ⟨rfl, rfl⟩))
        go_ret2
        rw [H.out, oke_in K.out]
        exact ⟨rfl, rfl⟩
      · have hs : sgn (mag a + mag b) false = a + b := by unfold sgn; rw [ea, eb]; simp <;> omega
        have hl : mag a + mag b ≤ 18446744073709551615 := by rw [ea, eb]; omega
        have hk : okb (sgn (mag a + mag b) false) = false := by rw [hs]; exact okb_out hfit
        have H := Lib.hid hs
        have K := Lib.hid hfit
        clear hs ea eb hfit
        go_enter Try.func10, Try.ntmps10
        go_wp2_with (first | (go_at_call 23; (with_reducible refine (size_any a a0 a1 _).mono ?_); rintro e w' ⟨rfl, rfl⟩) | (go_at_call 23; (with_reducible refine (size_any b b0 b1 _).mono ?_); rintro e w' ⟨rfl, rfl⟩) | simp only [add64_s (mag a) (mag b) m0 n0 hl] | (go_at_call 24; refine (sign_any _ _ (by omega) (by omega) _).mono ?_; rintro e w' ⟨rfl, rfl⟩) | (go_at_call 25; refine (answer_no _ _).mono ?_; rintro e w' ⟨rfl, rfl⟩))
        go_ret2
        rw [okv_out K.out, oke_out K.out]
        exact ⟨rfl, rfl⟩

set_option maxHeartbeats 1000000 in
theorem rsub_any (a b : Int) (a0 : -9223372036854775808 ≤ a) (a1 : a ≤ 9223372036854775807) (b0 : -9223372036854775808 ≤ b) (b1 : b ≤ 9223372036854775807) (w : World) :
    Calls Try.prog 12 #[.int .i64 a, .int .i64 b] w fun e w' => e = .returned (.tuple #[.int .i64 (okv (a - b)), .int .i64 (oke (a - b))]) ∧ w = w' := by
  obtain ⟨m0, m1⟩ := mag_bounds a0 a1
  obtain ⟨n0, n1⟩ := mag_bounds b0 b1
  by_cases ha : a < 0
  · have ea := mag_neg ha
    have ha2 : decide (0 ≤ a) = false := by simp; omega
    by_cases hb : b < 0
    · have eb := mag_neg hb
      by_cases hc : mag b ≤ mag a
      · have hs : sgn (mag a - mag b) true = a - b := by unfold sgn; rw [ea, eb]; simp <;> omega
        have H := Lib.hid hs
        clear hs ea eb
        go_enter Try.func12, Try.ntmps12
        go_wp2_with (first | (go_at_call 23; (with_reducible refine (size_any a a0 a1 _).mono ?_); rintro e w' ⟨rfl, rfl⟩) | (go_at_call 23; (with_reducible refine (size_any b b0 b1 _).mono ?_); rintro e w' ⟨rfl, rfl⟩) | (go_at_call 24; refine (sign_any _ _ (by omega) (by omega) _).mono ?_; rintro e w' ⟨rfl, rfl⟩) | (go_at_call 25; refine (answer_ok _ _).mono ?_; rintro e w' ⟨rfl, rfl⟩))
        go_ret2
        rw [H.out]
        exact ⟨rfl, rfl⟩
      · have hs : sgn (mag b - mag a) false = a - b := by unfold sgn; rw [ea, eb]; simp <;> omega
        have H := Lib.hid hs
        clear hs ea eb
        go_enter Try.func12, Try.ntmps12
        go_wp2_with (first | (go_at_call 23; (with_reducible refine (size_any a a0 a1 _).mono ?_); rintro e w' ⟨rfl, rfl⟩) | (go_at_call 23; (with_reducible refine (size_any b b0 b1 _).mono ?_); rintro e w' ⟨rfl, rfl⟩) | (go_at_call 24; refine (sign_any _ _ (by omega) (by omega) _).mono ?_; rintro e w' ⟨rfl, rfl⟩) | (go_at_call 25; refine (answer_ok _ _).mono ?_; rintro e w' ⟨rfl, rfl⟩))
        go_ret2
        rw [H.out]
        exact ⟨rfl, rfl⟩
    · have eb := mag_pos hb
      have hbF : decide (b < 0) = false := decide_eq_false hb
      by_cases hfit : In64 (a - b)
      · have hs : sgn (mag a + mag b) true = a - b := by unfold sgn; rw [ea, eb]; simp <;> omega
        have hl : mag a + mag b ≤ 18446744073709551615 := by rw [ea, eb]; omega
        have hk : okb (sgn (mag a + mag b) true) = true := by rw [hs]; exact okb_in hfit
        have H := Lib.hid hs
        have K := Lib.hid hfit
        clear hs ea eb hfit
        go_enter Try.func12, Try.ntmps12
        go_wp2_with (first | (go_at_call 23; (with_reducible refine (size_any a a0 a1 _).mono ?_); rintro e w' ⟨rfl, rfl⟩) | (go_at_call 23; (with_reducible refine (size_any b b0 b1 _).mono ?_); rintro e w' ⟨rfl, rfl⟩) | simp only [add64_s (mag a) (mag b) m0 n0 hl] | (go_at_call 24; refine (sign_any _ _ (by omega) (by omega) _).mono ?_; rintro e w' ⟨rfl, rfl⟩) | (go_at_call 25; refine (answer_yes _ _).mono ?_; rintro e w' ⟨rfl, rfl⟩))
        go_ret2
        rw [H.out, oke_in K.out]
        exact ⟨rfl, rfl⟩
      · have hs : sgn (mag a + mag b) true = a - b := by unfold sgn; rw [ea, eb]; simp <;> omega
        have hl : mag a + mag b ≤ 18446744073709551615 := by rw [ea, eb]; omega
        have hk : okb (sgn (mag a + mag b) true) = false := by rw [hs]; exact okb_out hfit
        have H := Lib.hid hs
        have K := Lib.hid hfit
        clear hs ea eb hfit
        go_enter Try.func12, Try.ntmps12
        go_wp2_with (first | (go_at_call 23; (with_reducible refine (size_any a a0 a1 _).mono ?_); rintro e w' ⟨rfl, rfl⟩) | (go_at_call 23; (with_reducible refine (size_any b b0 b1 _).mono ?_); rintro e w' ⟨rfl, rfl⟩) | simp only [add64_s (mag a) (mag b) m0 n0 hl] | (go_at_call 24; refine (sign_any _ _ (by omega) (by omega) _).mono ?_; rintro e w' ⟨rfl, rfl⟩) | (go_at_call 25; refine (answer_no _ _).mono ?_; rintro e w' ⟨rfl, rfl⟩))
        go_ret2
        rw [okv_out K.out, oke_out K.out]
        exact ⟨rfl, rfl⟩
  · have ea := mag_pos ha
    have ha2 : decide (0 ≤ a) = true := by simp; omega
    have haF : decide (a < 0) = false := decide_eq_false ha
    by_cases hb : b < 0
    · have eb := mag_neg hb
      by_cases hfit : In64 (a - b)
      · have hs : sgn (mag a + mag b) false = a - b := by unfold sgn; rw [ea, eb]; simp <;> omega
        have hl : mag a + mag b ≤ 18446744073709551615 := by rw [ea, eb]; omega
        have hk : okb (sgn (mag a + mag b) false) = true := by rw [hs]; exact okb_in hfit
        have H := Lib.hid hs
        have K := Lib.hid hfit
        clear hs ea eb hfit
        go_enter Try.func12, Try.ntmps12
        go_wp2_with (first | (go_at_call 23; (with_reducible refine (size_any a a0 a1 _).mono ?_); rintro e w' ⟨rfl, rfl⟩) | (go_at_call 23; (with_reducible refine (size_any b b0 b1 _).mono ?_); rintro e w' ⟨rfl, rfl⟩) | simp only [add64_s (mag a) (mag b) m0 n0 hl] | (go_at_call 24; refine (sign_any _ _ (by omega) (by omega) _).mono ?_; rintro e w' ⟨rfl, rfl⟩) | (go_at_call 25; refine (answer_yes _ _).mono ?_; rintro e w' ⟨rfl, rfl⟩))
        go_ret2
        rw [H.out, oke_in K.out]
        exact ⟨rfl, rfl⟩
      · have hs : sgn (mag a + mag b) false = a - b := by unfold sgn; rw [ea, eb]; simp <;> omega
        have hl : mag a + mag b ≤ 18446744073709551615 := by rw [ea, eb]; omega
        have hk : okb (sgn (mag a + mag b) false) = false := by rw [hs]; exact okb_out hfit
        have H := Lib.hid hs
        have K := Lib.hid hfit
        clear hs ea eb hfit
        go_enter Try.func12, Try.ntmps12
        go_wp2_with (first | (go_at_call 23; (with_reducible refine (size_any a a0 a1 _).mono ?_); rintro e w' ⟨rfl, rfl⟩) | (go_at_call 23; (with_reducible refine (size_any b b0 b1 _).mono ?_); rintro e w' ⟨rfl, rfl⟩) | simp only [add64_s (mag a) (mag b) m0 n0 hl] | (go_at_call 24; refine (sign_any _ _ (by omega) (by omega) _).mono ?_; rintro e w' ⟨rfl, rfl⟩) | (go_at_call 25; refine (answer_no _ _).mono ?_; rintro e w' ⟨rfl, rfl⟩))
        go_ret2
        rw [okv_out K.out, oke_out K.out]
        exact ⟨rfl, rfl⟩
    · have eb := mag_pos hb
      have hbF : decide (b < 0) = false := decide_eq_false hb
      by_cases hc : mag b ≤ mag a
      · have hs : sgn (mag a - mag b) false = a - b := by unfold sgn; rw [ea, eb]; simp <;> omega
        have H := Lib.hid hs
        clear hs ea eb
        go_enter Try.func12, Try.ntmps12
        go_wp2_with (first | (go_at_call 23; (with_reducible refine (size_any a a0 a1 _).mono ?_); rintro e w' ⟨rfl, rfl⟩) | (go_at_call 23; (with_reducible refine (size_any b b0 b1 _).mono ?_); rintro e w' ⟨rfl, rfl⟩) | (go_at_call 24; refine (sign_any _ _ (by omega) (by omega) _).mono ?_; rintro e w' ⟨rfl, rfl⟩) | (go_at_call 25; refine (answer_ok _ _).mono ?_; rintro e w' ⟨rfl, rfl⟩))
        go_ret2
        rw [H.out]
        exact ⟨rfl, rfl⟩
      · have hs : sgn (mag b - mag a) true = a - b := by unfold sgn; rw [ea, eb]; simp <;> omega
        have H := Lib.hid hs
        clear hs ea eb
        go_enter Try.func12, Try.ntmps12
        go_wp2_with (first | (go_at_call 23; (with_reducible refine (size_any a a0 a1 _).mono ?_); rintro e w' ⟨rfl, rfl⟩) | (go_at_call 23; (with_reducible refine (size_any b b0 b1 _).mono ?_); rintro e w' ⟨rfl, rfl⟩) | (go_at_call 24; refine (sign_any _ _ (by omega) (by omega) _).mono ?_; rintro e w' ⟨rfl, rfl⟩) | (go_at_call 25; refine (answer_ok _ _).mono ?_; rintro e w' ⟨rfl, rfl⟩))
        go_ret2
        rw [H.out]
        exact ⟨rfl, rfl⟩
end Go.Proofs.Ytcloajmcfacfnaa
