/-
  calc.Div, calc.Mod, calc.extend: the number, or 0 and the error; the world is left alone.
-/
import Derived.Test.YtcloajmcfacfnaaDoorCalcMul
import Derived.Lib.Hide
namespace Go.Proofs.YtcloajmcfacfnaaDoor
open Go.RowKit

/-- What Div answers. -/
def divv (a b : Int) : Int := if b = 0 then 0 else okv (a.tdiv b)
def dive (a b : Int) : Int := if b = 0 then 10 else oke (a.tdiv b)
/-- What Mod answers. -/
def modv (a b : Int) : Int := if b = 0 then 0 else a.tmod b
def mode (b : Int) : Int := if b = 0 then 10 else 0

set_option maxHeartbeats 400000 in
theorem div_any (a b : Int) (a0 : -9223372036854775808 ≤ a) (a1 : a ≤ 9223372036854775807) (b0 : -9223372036854775808 ≤ b) (b1 : b ≤ 9223372036854775807) (w : World) :
    Calls Tryd.prog 33 #[.int .i64 a, .int .i64 b] w fun e w' => e = .returned (.tuple #[.int .i64 (divv a b), .int .i64 (dive a b)]) ∧ w = w' := by
  by_cases hz : b = 0
  · subst hz
    have e1 : divv a 0 = 0 := rfl
    have e2 : dive a 0 = 10 := rfl
    rw [e1, e2]
    clear e1 e2
    go_enter Tryd.func33, Tryd.ntmps33
    go_wp2
    go_ret2
    exact ⟨rfl, rfl⟩
  · have e1 : divv a b = okv (a.tdiv b) := if_neg hz
    have e2 : dive a b = oke (a.tdiv b) := if_neg hz
    rw [e1, e2]
    clear e1 e2
    by_cases hm : b = -1
    · subst hm
      have e1 : a.tdiv (-1) = -a := by rw [Int.tdiv_neg, Int.tdiv_one]
      rw [e1]
      clear e1 hz
      go_enter Tryd.func33, Tryd.ntmps33
      go_wp2_with (go_at_call 50; refine (neg_any _ a0 a1 _).mono ?_; rintro e w' ⟨rfl, rfl⟩)
      go_ret2
      exact ⟨rfl, rfl⟩
    · obtain ⟨t0, t1⟩ := tdiv_bounds a b a0 a1 hm
      rw [okv_in (in64 t0 t1), oke_in (in64 t0 t1)]
      have hb1 : (b == -1) = false := by simpa using hm
      have hb2 : (b == 0) = false := by simpa using hz
      go_enter Tryd.func33, Tryd.ntmps33
      go_wp2
      go_ret2
      exact ⟨rfl, rfl⟩

theorem tmod_bounds (a b : Int) (a0 : -9223372036854775808 ≤ a) (a1 : a ≤ 9223372036854775807) (b0 : -9223372036854775808 ≤ b) (b1 : b ≤ 9223372036854775807) (hz : b ≠ 0) : -9223372036854775808 ≤ a.tmod b ∧ a.tmod b ≤ 9223372036854775807 := by
  have h2 : (a.tmod b).natAbs < b.natAbs := by
    rw [Int.natAbs_tmod]; exact Nat.mod_lt _ (by omega)
  have h3 : (a.tmod b).natAbs ≤ a.natAbs := by
    rw [Int.natAbs_tmod]; exact Nat.mod_le _ _
  omega

set_option maxHeartbeats 400000 in
theorem mod_any (a b : Int) (a0 : -9223372036854775808 ≤ a) (a1 : a ≤ 9223372036854775807) (b0 : -9223372036854775808 ≤ b) (b1 : b ≤ 9223372036854775807) (w : World) :
    Calls Tryd.prog 34 #[.int .i64 a, .int .i64 b] w fun e w' => e = .returned (.tuple #[.int .i64 (modv a b), .int .i64 (mode b)]) ∧ w = w' := by
  by_cases hz : b = 0
  · subst hz
    have e1 : modv a 0 = 0 := rfl
    have e2 : mode 0 = 10 := rfl
    rw [e1, e2]
    clear e1 e2
    go_enter Tryd.func34, Tryd.ntmps34
    go_wp2
    go_ret2
    exact ⟨rfl, rfl⟩
  · have e1 : modv a b = a.tmod b := if_neg hz
    have e2 : mode b = 0 := if_neg hz
    rw [e1, e2]
    clear e1 e2
    obtain ⟨t0, t1⟩ := tmod_bounds a b a0 a1 b0 b1 hz
    have hb2 : (b == 0) = false := by simpa using hz
    go_enter Tryd.func34, Tryd.ntmps34
    go_wp2
    go_ret2
    exact ⟨rfl, rfl⟩

/-- A number to which one more digit is set. -/
theorem ext_out {n d : Int} (n0 : 0 ≤ n) (d0 : 0 ≤ d) (h : ¬ In64 (n * 10)) : ¬ In64 (n * 10 + d) := by
  unfold In64 at *; omega

set_option maxHeartbeats 400000 in
theorem extend_any (n d : Int) (n0 : 0 ≤ n) (n1 : n ≤ 9223372036854775807) (d0 : 0 ≤ d) (d1 : d ≤ 9) (w : World) :
    Calls Tryd.prog 35 #[.int .i64 n, .int .i64 d] w fun e w' => e = .returned (.tuple #[.int .i64 (okv (n * 10 + d)), .int .i64 (oke (n * 10 + d))]) ∧ w = w' := by
  by_cases h : In64 (n * 10)
  · have e1 := okv_in h
    have e2 := oke_in h
    have hm := mul_any n 10 (by omega) n1 (by omega) (by omega)
    rw [e1, e2] at hm
    clear e1 e2
    have H := Lib.hid hm
    clear hm
    obtain ⟨h0, h1⟩ := h
    go_enter Tryd.func35, Tryd.ntmps35
    go_wp2_with (first | (go_at_call 51; refine (H.out _).mono ?_; rintro e w' ⟨rfl, rfl⟩) | (go_at_call 32; refine (add_any _ _ (by omega) (by omega) (by omega) (by omega) _).mono ?_; rintro e w' ⟨rfl, rfl⟩))
    go_ret2
    exact ⟨rfl, rfl⟩
  · rw [okv_out (ext_out n0 d0 h), oke_out (ext_out n0 d0 h)]
    have e1 := okv_out h
    have e2 := oke_out h
    have hm := mul_any n 10 (by omega) n1 (by omega) (by omega)
    rw [e1, e2] at hm
    clear e1 e2 h
    have H := Lib.hid hm
    clear hm
    go_enter Tryd.func35, Tryd.ntmps35
    go_wp2_with (go_at_call 51; refine (H.out _).mono ?_; rintro e w' ⟨rfl, rfl⟩)
    go_ret2
    exact ⟨rfl, rfl⟩
end Go.Proofs.YtcloajmcfacfnaaDoor
