/-
  The document's own halves (ref01): size, sign, answer: what each answers; the world is left alone.
-/
import Derived.Test.YtcloajmcfacfnaaDoorCalcDiv
namespace Go.Proofs.YtcloajmcfacfnaaDoor
open Go.RowKit

/-- How great a number is, without its sign. -/
def mag (n : Int) : Int := if n < 0 then -n else n
/-- Does it fit 64 bits with a sign? -/
def okb (x : Int) : Bool := decide (-9223372036854775808 ≤ x ∧ x ≤ 9223372036854775807)
/-- A size with its sign. -/
def sgn (s : Int) (b : Bool) : Int := if b = true then -s else s

theorem okb_in {x : Int} (h : In64 x) : okb x = true := decide_eq_true h
theorem okb_out {x : Int} (h : ¬ In64 x) : okb x = false := decide_eq_false h
theorem mag_bounds {n : Int} (a0 : -9223372036854775808 ≤ n) (a1 : n ≤ 9223372036854775807) : 0 ≤ mag n ∧ mag n ≤ 9223372036854775808 := by
  unfold mag; split <;> omega

set_option maxHeartbeats 400000 in
theorem size_any (a : Int) (a0 : -9223372036854775808 ≤ a) (a1 : a ≤ 9223372036854775807) (w : World) :
    Calls Tryd.prog 37 #[.int .i64 a] w fun e w' => e = .returned (.int .u64 (mag a)) ∧ w = w' := by
  by_cases h : a < 0
  · have e1 : mag a = -(a + 1) + 1 := by unfold mag; rw [if_pos h]; omega
    rw [e1]
    clear e1
    go_enter Tryd.func37, Tryd.ntmps37
    go_wp2
    go_ret
    exact ⟨rfl, rfl⟩
  · have e1 : mag a = a := if_neg h
    rw [e1]
    clear e1
    go_enter Tryd.func37, Tryd.ntmps37
    go_wp2
    go_ret
    exact ⟨rfl, rfl⟩


end Go.Proofs.YtcloajmcfacfnaaDoor
