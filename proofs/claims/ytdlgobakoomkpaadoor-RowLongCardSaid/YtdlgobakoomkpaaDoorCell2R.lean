/-
  The document's own answer for cell (ref02): Right.
-/
import Derived.Test.YtdlgobakoomkpaaDoorCellEnv
import Derived.Test.YtdlgobakoomkpaaDoorValidW
import Derived.Deep.QuietTactic
import Derived.BigQuiet
namespace Go.Proofs.YtdlgobakoomkpaaDoor
open Go.RowKit

/-- Is it a value? -/
def rightB (v : Val) : Bool :=
  if v.k = 0 then (v.i == 0) && (v.s.toList.isEmpty && !v.b)
  else if v.k = 1 then v.s.toList.isEmpty && !v.b
  else if v.k = 2 then ((v.i == 0) && !v.b) && soundB v.s
  else if v.k = 3 then (v.i == 0) && v.s.toList.isEmpty
  else false

set_option maxHeartbeats 4000000 in
theorem rright_any (v : Val) (hs : v.s.size ≤ 9223372036854775807) (w : World) :
    Calls Tryd.prog 30 #[.agg #[.int .u8 v.k, .int .i64 v.i, .string v.s, .bool v.b]] w fun e w' => e = .returned (.bool (rightB v)) ∧ Below w.heap.size w w' := by
  obtain ⟨k, i, s, b⟩ := v
  have hs' : s.size ≤ 9223372036854775807 := hs
  clear hs
  show Calls _ _ #[.agg #[.int .u8 k, .int .i64 i, .string s, .bool b]] _ _
  by_cases h2 : k = 2
  · subst h2
    have hv : rightB ⟨2, i, s, b⟩ = (((i == 0) && !b) && (decide (s.size ≤ 60) && whole s.data.toList)) := rfl
    rw [hv]
    clear hv
    have gv := fun h => valid_any s h
    cases he : s.toList.isEmpty <;> cases hi : (i == 0) <;> cases b
    all_goals first
      | (rw [Bool.false_and, Bool.false_and]
         clear gv
         go_enter Tryd.func30, Tryd.ntmps30
         go_wp2
         go_quiet (fail)
         go_wp2
         go_ret
         exact ⟨rfl, (by repeat (first | exact Below.refl _ _ | refine Below.drew ?_ | refine below_drewN ?_ _ | refine Below.al ?_ _ | refine Below.next ?_ (by assumption)))⟩)
      | (rw [Bool.not_true, Bool.and_false, Bool.false_and]
         clear gv
         go_enter Tryd.func30, Tryd.ntmps30
         go_wp2
         go_quiet (fail)
         go_wp2
         go_ret
         exact ⟨rfl, (by repeat (first | exact Below.refl _ _ | refine Below.drew ?_ | refine below_drewN ?_ _ | refine Below.al ?_ _ | refine Below.next ?_ (by assumption)))⟩)
      | (rw [Bool.not_false, Bool.and_true, Bool.true_and]
         by_cases h60 : s.size ≤ 60
         · rw [decide_eq_true h60, Bool.true_and]
           have gv := gv (by omega)
           generalize whole s.data.toList = x at *
           have GV := Lib.hid gv
           clear gv
           go_enter Tryd.func30, Tryd.ntmps30
           go_wp2
           go_quiet (fail)
           go_wp2_with (go_at_call 45; (with_reducible refine (GV.out _).mono ?_); rintro e w' ⟨rfl, rfl⟩)
           go_ret
           exact ⟨rfl, (by repeat (first | exact Below.refl _ _ | refine Below.drew ?_ | refine below_drewN ?_ _ | refine Below.al ?_ _ | refine Below.next ?_ (by assumption)))⟩
         · rw [decide_eq_false h60, Bool.false_and]
           clear gv
           go_enter Tryd.func30, Tryd.ntmps30
           go_wp2
           go_quiet (fail)
           go_wp2
           go_ret
           exact ⟨rfl, (by repeat (first | exact Below.refl _ _ | refine Below.drew ?_ | refine below_drewN ?_ _ | refine Below.al ?_ _ | refine Below.next ?_ (by assumption)))⟩)
  · have g2 : (k == 2) = false := by simpa using h2
    by_cases h0 : k = 0
    · subst h0
      have hv : rightB ⟨0, i, s, b⟩ = ((i == 0) && (s.toList.isEmpty && !b)) := rfl
      rw [hv]
      clear hv h2 g2 hs'
      cases he : s.toList.isEmpty <;> cases hi : (i == 0) <;> cases b
      all_goals
        go_enter Tryd.func30, Tryd.ntmps30
        go_wp2
        go_quiet (fail)
        go_wp2
        go_ret
        exact ⟨rfl, (by repeat (first | exact Below.refl _ _ | refine Below.drew ?_ | refine below_drewN ?_ _ | refine Below.al ?_ _ | refine Below.next ?_ (by assumption)))⟩
    · have g0 : (k == 0) = false := by simpa using h0
      by_cases h1 : k = 1
      · subst h1
        have hv : rightB ⟨1, i, s, b⟩ = (s.toList.isEmpty && !b) := rfl
        rw [hv]
        clear hv h2 g2 h0 g0 hs'
        cases he : s.toList.isEmpty <;> cases b
        all_goals
          go_enter Tryd.func30, Tryd.ntmps30
          go_wp2
          go_quiet (fail)
          go_wp2
          go_ret
          exact ⟨rfl, (by repeat (first | exact Below.refl _ _ | refine Below.drew ?_ | refine below_drewN ?_ _ | refine Below.al ?_ _ | refine Below.next ?_ (by assumption)))⟩
      · have g1 : (k == 1) = false := by simpa using h1
        by_cases h3 : k = 3
        · subst h3
          have hv : rightB ⟨3, i, s, b⟩ = ((i == 0) && s.toList.isEmpty) := rfl
          rw [hv]
          clear hv h2 g2 h0 g0 h1 g1 hs'
          cases he : s.toList.isEmpty <;> cases hi : (i == 0)
          all_goals
            go_enter Tryd.func30, Tryd.ntmps30
            go_wp2
            go_quiet (fail)
            go_wp2
            go_ret
            exact ⟨rfl, (by repeat (first | exact Below.refl _ _ | refine Below.drew ?_ | refine below_drewN ?_ _ | refine Below.al ?_ _ | refine Below.next ?_ (by assumption)))⟩
        · have g3 : (k == 3) = false := by simpa using h3
          have hv : rightB ⟨k, i, s, b⟩ = false := by unfold rightB; simp only []; rw [if_neg h0, if_neg h1, if_neg h2, if_neg h3]
          rw [hv]
          clear hv h2 h0 h1 h3 hs'
          go_enter Tryd.func30, Tryd.ntmps30
          go_wp2
          go_quiet (fail)
          go_wp2
          go_ret
          exact ⟨rfl, (by repeat (first | exact Below.refl _ _ | refine Below.drew ?_ | refine below_drewN ?_ _ | refine Below.al ?_ _ | refine Below.next ?_ (by assumption)))⟩
end Go.Proofs.YtdlgobakoomkpaaDoor
