/-
  CalcTurns: for every input the law answers true, and each argument reads behind the call as it read before. No condition.
-/
import Derived.Test.YtcloajmcfacfnaaRows
import Derived.Test.YtcloajmcfacfnaaAwake1
import Derived.WalkKit
import Derived.ProofKit
import Derived.OpenShut
namespace Go.Proofs.Ytcloajmcfacfnaa.calcTurns
open Go.ChangeShapes Go.WideShapes Go.ChangeAt Go.RowKit
set_option linter.unusedVariables false

theorem own : ownKnob Try.prog.godebug = none := by kernel_rfl

set_option maxHeartbeats 1000000 in
theorem walk (a0 : Int) (a1 : Int) (w0 : (Lit.int .i64 a0).wf = true) (w1 : (Lit.int .i64 a1).wf = true) (w : World) :
    Calls Try.prog 7 #[.int .i64 a0, .int .i64 a1] w fun e w' => e = .returned (.bool true) ∧ Below w.heap.size w w' := by
  have hA := bounds_i64 w0
  have hB := bounds_i64 w1
  clear w0 w1
  obtain ⟨x0, x1⟩ := hA
  obtain ⟨y0, y1⟩ := hB
  have HX0 : ∀ w, Calls Try.prog 9 #[.int .i64 a0, .int .i64 a1] w fun e w' => e = .returned (.tuple #[.int .i64 (okv (a0 + a1)), .int .i64 (oke (a0 + a1))]) ∧ w = w' := fun w => add_any a0 a1 x0 x1 y0 y1 w
  have HX := Lib.hid HX0
  clear HX0
  have HY0 : ∀ w, Calls Try.prog 9 #[.int .i64 a1, .int .i64 a0] w fun e w' => e = .returned (.tuple #[.int .i64 (okv (a0 + a1)), .int .i64 (oke (a0 + a1))]) ∧ w = w' := by
    intro w
    have h := add_any a1 a0 y0 y1 x0 x1 w
    rw [Int.add_comm] at h
    exact h
  have HY := Lib.hid HY0
  clear HY0
  have HP0 : ∀ w, Calls Try.prog 15 #[.int .i64 a0, .int .i64 a1] w fun e w' => e = .returned (.tuple #[.int .i64 (okv (a0 * a1)), .int .i64 (oke (a0 * a1))]) ∧ w = w' := fun w => mul_any a0 a1 x0 x1 y0 y1 w
  have HP := Lib.hid HP0
  clear HP0
  have HQ0 : ∀ w, Calls Try.prog 15 #[.int .i64 a1, .int .i64 a0] w fun e w' => e = .returned (.tuple #[.int .i64 (okv (a0 * a1)), .int .i64 (oke (a0 * a1))]) ∧ w = w' := by
    intro w
    have h := mul_any a1 a0 y0 y1 x0 x1 w
    rw [Int.mul_comm] at h
    exact h
  have HQ := Lib.hid HQ0
  clear HQ0
  generalize okv (a0 + a1) = v1 at *
  generalize oke (a0 + a1) = e1 at *
  generalize okv (a0 * a1) = v2 at *
  generalize oke (a0 * a1) = e2 at *
  by_cases h1 : In64 (a0 - a1)
  · by_cases h2 : In64 (a1 - a0)
    · have HD0 : ∀ w, Calls Try.prog 11 #[.int .i64 a0, .int .i64 a1] w fun e w' => e = .returned (.tuple #[.int .i64 (a0 - a1), .int .i64 0]) ∧ w = w' := by
        intro w
        have h := sub_any a0 a1 x0 x1 y0 y1 w
        rw [okv_in h1, oke_in h1] at h
        exact h
      have HD := Lib.hid HD0
      clear HD0
      have HE0 : ∀ w, Calls Try.prog 11 #[.int .i64 a1, .int .i64 a0] w fun e w' => e = .returned (.tuple #[.int .i64 (a1 - a0), .int .i64 0]) ∧ w = w' := by
        intro w
        have h := sub_any a1 a0 y0 y1 x0 x1 w
        rw [okv_in h2, oke_in h2] at h
        exact h
      have HE := Lib.hid HE0
      clear HE0
      have HN0 := fun w => neg_any (a0 - a1) h1.1 h1.2 w
      rw [show -(a0 - a1) = a1 - a0 by omega, okv_in h2, oke_in h2] at HN0
      have HN := Lib.hid HN0
      clear HN0
      generalize a0 - a1 = d at *
      generalize a1 - a0 = m at *
      clear h1 h2
      go_enter Try.func7, Try.ntmps7
      go_wp2_with (first | (go_at_call 8; refine (awake1_any _).mono ?_; rintro e w' ⟨rfl, hb⟩) | (go_at_call 9; (with_reducible refine (HX.out _).mono ?_); rintro e w' ⟨rfl, rfl⟩) | (go_at_call 9; (with_reducible refine (HY.out _).mono ?_); rintro e w' ⟨rfl, rfl⟩) | (go_at_call 15; (with_reducible refine (HP.out _).mono ?_); rintro e w' ⟨rfl, rfl⟩) | (go_at_call 15; (with_reducible refine (HQ.out _).mono ?_); rintro e w' ⟨rfl, rfl⟩) | (go_at_call 11; (with_reducible refine (HD.out _).mono ?_); rintro e w' ⟨rfl, rfl⟩) | (go_at_call 11; (with_reducible refine (HE.out _).mono ?_); rintro e w' ⟨rfl, rfl⟩) | (go_at_call 13; (with_reducible refine (HN.out _).mono ?_); rintro e w' ⟨rfl, rfl⟩))
      go_ret
      exact ⟨rfl, ‹_›⟩
    · have HD0 : ∀ w, Calls Try.prog 11 #[.int .i64 a0, .int .i64 a1] w fun e w' => e = .returned (.tuple #[.int .i64 (a0 - a1), .int .i64 0]) ∧ w = w' := by
        intro w
        have h := sub_any a0 a1 x0 x1 y0 y1 w
        rw [okv_in h1, oke_in h1] at h
        exact h
      have HD := Lib.hid HD0
      clear HD0
      have HE0 : ∀ w, Calls Try.prog 11 #[.int .i64 a1, .int .i64 a0] w fun e w' => e = .returned (.tuple #[.int .i64 0, .int .i64 9]) ∧ w = w' := by
        intro w
        have h := sub_any a1 a0 y0 y1 x0 x1 w
        rw [okv_out h2, oke_out h2] at h
        exact h
      have HE := Lib.hid HE0
      clear HE0
      clear h1 h2
      go_enter Try.func7, Try.ntmps7
      go_wp2_with (first | (go_at_call 8; refine (awake1_any _).mono ?_; rintro e w' ⟨rfl, hb⟩) | (go_at_call 9; (with_reducible refine (HX.out _).mono ?_); rintro e w' ⟨rfl, rfl⟩) | (go_at_call 9; (with_reducible refine (HY.out _).mono ?_); rintro e w' ⟨rfl, rfl⟩) | (go_at_call 15; (with_reducible refine (HP.out _).mono ?_); rintro e w' ⟨rfl, rfl⟩) | (go_at_call 15; (with_reducible refine (HQ.out _).mono ?_); rintro e w' ⟨rfl, rfl⟩) | (go_at_call 11; (with_reducible refine (HD.out _).mono ?_); rintro e w' ⟨rfl, rfl⟩) | (go_at_call 11; (with_reducible refine (HE.out _).mono ?_); rintro e w' ⟨rfl, rfl⟩))
      go_ret
      exact ⟨rfl, ‹_›⟩
  · have HD0 : ∀ w, Calls Try.prog 11 #[.int .i64 a0, .int .i64 a1] w fun e w' => e = .returned (.tuple #[.int .i64 0, .int .i64 9]) ∧ w = w' := by
      intro w
      have h := sub_any a0 a1 x0 x1 y0 y1 w
      rw [okv_out h1, oke_out h1] at h
      exact h
    have HD := Lib.hid HD0
    clear HD0
    have HE := Lib.hid (fun w => sub_any a1 a0 y0 y1 x0 x1 w)
    clear h1
    go_enter Try.func7, Try.ntmps7
    go_wp2_with (first | (go_at_call 8; refine (awake1_any _).mono ?_; rintro e w' ⟨rfl, hb⟩) | (go_at_call 9; (with_reducible refine (HX.out _).mono ?_); rintro e w' ⟨rfl, rfl⟩) | (go_at_call 9; (with_reducible refine (HY.out _).mono ?_); rintro e w' ⟨rfl, rfl⟩) | (go_at_call 15; (with_reducible refine (HP.out _).mono ?_); rintro e w' ⟨rfl, rfl⟩) | (go_at_call 15; (with_reducible refine (HQ.out _).mono ?_); rintro e w' ⟨rfl, rfl⟩) | (go_at_call 11; (with_reducible refine (HD.out _).mono ?_); rintro e w' ⟨rfl, rfl⟩) | (go_at_call 11; (with_reducible refine (HE.out _).mono ?_); rintro e w' ⟨rfl, rfl⟩))
    go_ret
    exact ⟨rfl, ‹_›⟩

set_option maxRecDepth 100000 in
theorem lifted (os : Os) (started : os.Started) (H : Type) (enc : TypeId × Value → H) :
    ReturnsInHanded {} Try.checked os 7 .any (Rows.calcTurnsSpec.pre6 enc Try.prog Try.f7 Rows.calcTurnsRow.domain false) (Rows.calcTurnsSpec.post enc Try.prog Try.f7 false true false false) := by
  refine returnsInHanded_of_change (C := Try.checked) own started (by kernel_rfl) Try.func7
    (ChangeSpec.witness6 (enc := enc) (C := Try.checked) false ⟨#[], #[.int .i64 0, .int .i64 0], []⟩ 8 (by kernel_rfl) (by kernel_rfl) (by kernel_rfl) (by kernel_rfl)) ?_
  intro W base args ds gs before hval0 hW hcnd _
  have hval : ∀ (j : Nat) t v, Try.f7.params[j]? = some t → args[j]? = some v → Value.okWide Try.prog W .any base t v := hval0
  have hW' := hW
  obtain ⟨p, q, hA0, hV, rfl, hfz, hnd⟩ := hW
  have hA : DataW.TrodAll enc Try.prog W 0 (fun _ => true) true Try.f7.params.toList args.toList ds p := hA0
  rw [Try.params7] at hA hval
  obtain ⟨v0, vs0, d0, ds0, p0, q0, hargs, rfl, rfl, h0, r0⟩ := trodAll_cons hA
  obtain ⟨v1, vs1, d1, ds1, p1, q1, rfl, rfl, rfl, h1, r1⟩ := trodAll_cons r0
  obtain ⟨rfl, rfl, rfl⟩ := trodAll_nil r1
  obtain rfl : args = #[v0, v1] := by cases args; simp_all
  obtain ⟨rfl, rfl⟩ := trodVars_none hV
  obtain ⟨a0, rfl, rfl, rfl, w0⟩ := open_int Try.underlying2 (hval 0 2 v0 rfl rfl) h0
  obtain ⟨a1, rfl, rfl, rfl, w1⟩ := open_int Try.underlying2 (hval 1 2 v1 rfl rfl) h1
  clear hA0 hval0
  simp only [List.append_nil] at hW'
  refine (walk a0 a1 w0 w1 W).mono fun e W' ⟨he, hg⟩ => ?_
  subst he
  exact ⟨_, rfl, _, _, _, [], [], [], hW', (trodAll_cons_mk (shut_bool Try.underlying4 _) trodAll_mk0), (trodAll_cons_mk (shut_int Try.underlying2 w0) (trodAll_cons_mk (shut_int Try.underlying2 w1) trodAll_mk0)), rfl, hg.frame _, fun h => by cases h⟩

theorem over : Rows.calcTurnsRow.holds Try.pinned (OpenSpec.ofChange Rows.calcTurnsSpec) :=
  OpenClaim.holds_of_wide 7 Try.f7 rfl rfl rfl rfl rfl rfl rfl ⟨rfl, rfl, rfl, rfl, rfl⟩ rfl rfl rfl rfl rfl (by kernel_rfl) Try.func7 (by kernel_rfl)
    (of_decide_eq_true (by kernel_rfl)) (by unfold Func.isWrapper; first | (rw [if_pos (by decide +kernel)]; kernel_rfl) | (rw [if_neg (by decide +kernel)]; exact ⟨rfl, rfl⟩))
    (fun os started H enc _ => lifted os started H enc)

/-- The given statement. -/
theorem proved : Rows.CalcTurnsSaid :=
  over
#print axioms proved
end Go.Proofs.Ytcloajmcfacfnaa.calcTurns
