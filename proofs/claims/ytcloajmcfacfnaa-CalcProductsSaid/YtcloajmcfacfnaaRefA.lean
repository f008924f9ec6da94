/-
  The document's own halves (ref01): size, sign, answer: what each answers; the world is left alone.
-/
import Derived.Test.YtcloajmcfacfnaaCalcDiv
namespace Go.Proofs.Ytcloajmcfacfnaa
open Go.RowKit

/-- How great a number is, without its sign. -/
def mag (n : Int) : Int := if n < 0 then -n else n
/-- Does it fit 64 bits with a sign? -/
def okb (x : Int) : Bool := decide (-9223372036854775808 ≤ x ∧ x ≤ 9223372036854775807)
/-- A size with its sign. -/
def sgn (s : Int) (b : Bool) : Int := if b = true then -s else s

theorem okb_in {x : Int} (h : In64 x) : okb x = true := decide_eq_true h
theorem okb_out {x : Int} (h : ¬ In64 x) : okb x = false := decide_eq_false h
theorem mag_bounds {n : Int} (a0 : -9223372036854775808 ≤ n) (a1 : n ≤ 9223372036854775807) : 0 ≤ mag n ∧ mag n ≤ 9223372036854775808 := by
  unfold mag; split <;> omega

set_option maxHeartbeats 400000 in
theorem size_any (a : Int) (a0 : -9223372036854775808 ≤ a) (a1 : a ≤ 9223372036854775807) (w : World) :
    Calls Try.prog 23 #[.int .i64 a] w fun e w' => e = .returned (.int .u64 (mag a)) ∧ w = w' := by
  by_cases h : a < 0
  · have e1 : mag a = -(a + 1) + 1 := by unfold mag; rw [if_pos h]; omega
    rw [e1]
    clear e1
    go_enter Try.func23, Try.ntmps23
    go_wp2
    go_ret
    exact ⟨rfl, rfl⟩
  · have e1 : mag a = a := if_neg h
    rw [e1]
    clear e1
    go_enter Try.func23, Try.ntmps23
    go_wp2
    go_ret
    exact ⟨rfl, rfl⟩

set_option maxHeartbeats 400000 in
theorem sign_any (s : Int) (b : Bool) (s0 : 0 ≤ s) (s1 : s ≤ 18446744073709551615) (w : World) :
    Calls Try.prog 24 #[.int .u64 s, .bool b] w fun e w' => e = .returned (.tuple #[.int .i64 (okv (sgn s b)), .bool (okb (sgn s b))]) ∧ w = w' := by
  cases b with
  | true =>
    have e0 : sgn s true = -s := rfl
    rw [e0]
    clear e0
    by_cases h1 : 9223372036854775808 < s
    · have h : ¬ In64 (-s) := by unfold In64; omega
      rw [okv_out h, okb_out h]
      clear h
      go_enter Try.func24, Try.ntmps24
      go_wp2
      go_ret2
      exact ⟨rfl, rfl⟩
    · have h : In64 (-s) := by unfold In64; omega
      rw [okv_in h, okb_in h]
      clear h
      by_cases h2 : s = 9223372036854775808
      · subst h2
        go_enter Try.func24, Try.ntmps24
        go_wp2
        go_ret2
        exact ⟨rfl, rfl⟩
      · have h3 : s < 9223372036854775808 := by omega
        clear h1 h2
        go_enter Try.func24, Try.ntmps24
        go_wp2
        go_ret2
        exact ⟨rfl, rfl⟩
  | false =>
    have e0 : sgn s false = s := rfl
    rw [e0]
    clear e0
    by_cases h1 : 9223372036854775808 ≤ s
    · have h : ¬ In64 s := by unfold In64; omega
      rw [okv_out h, okb_out h]
      clear h
      go_enter Try.func24, Try.ntmps24
      go_wp2
      go_ret2
      exact ⟨rfl, rfl⟩
    · have h : In64 s := by unfold In64; omega
      rw [okv_in h, okb_in h]
      clear h
      have h3 : s < 9223372036854775808 := by omega
      clear h1
      go_enter Try.func24, Try.ntmps24
      go_wp2
      go_ret2
      exact ⟨rfl, rfl⟩

set_option maxHeartbeats 400000 in
theorem answer_yes (n : Int) (w : World) :
    Calls Try.prog 25 #[.int .i64 n, .bool true] w fun e w' => e = .returned (.tuple #[.int .i64 n, .int .i64 0]) ∧ w = w' := by
  go_enter Try.func25, Try.ntmps25
  go_wp2
  go_ret2
  exact ⟨rfl, rfl⟩
set_option maxHeartbeats 400000 in
theorem answer_no (n : Int) (w : World) :
    Calls Try.prog 25 #[.int .i64 n, .bool false] w fun e w' => e = .returned (.tuple #[.int .i64 0, .int .i64 9]) ∧ w = w' := by
  go_enter Try.func25, Try.ntmps25
  go_wp2
  go_ret2
  exact ⟨rfl, rfl⟩
theorem answer_ok (v : Int) (w : World) :
    Calls Try.prog 25 #[.int .i64 (okv v), .bool (okb v)] w fun e w' => e = .returned (.tuple #[.int .i64 (okv v), .int .i64 (oke v)]) ∧ w = w' := by
  by_cases h : In64 v
  · rw [okv_in h, okb_in h, oke_in h]; exact answer_yes v w
  · rw [okv_out h, okb_out h, oke_out h]; exact answer_no 0 w
end Go.Proofs.Ytcloajmcfacfnaa
