/-
  CalcOrders: for every input the law answers true, and each argument reads behind the call as it read before. No condition.
-/
import Derived.Test.YtcloajmcfacfnaaRows
import Derived.Test.YtcloajmcfacfnaaAwake1
import Derived.WalkKit
import Derived.ProofKit
import Derived.OpenShut
namespace Go.Proofs.Ytcloajmcfacfnaa.calcOrders
open Go.ChangeShapes Go.WideShapes Go.ChangeAt Go.RowKit
set_option linter.unusedVariables false

theorem own : ownKnob Try.prog.godebug = none := by kernel_rfl

set_option maxHeartbeats 1000000 in
theorem walk (a0 : Int) (a1 : Int) (a2 : Int) (w0 : (Lit.int .i64 a0).wf = true) (w1 : (Lit.int .i64 a1).wf = true) (w2 : (Lit.int .i64 a2).wf = true) (w : World) :
    Calls Try.prog 6 #[.int .i64 a0, .int .i64 a1, .int .i64 a2] w fun e w' => e = .returned (.bool true) ∧ Below w.heap.size w w' := by
  have hA := bounds_i64 w0
  have hB := bounds_i64 w1
  have hC := bounds_i64 w2
  clear w0 w1 w2
  obtain ⟨x0, x1⟩ := hA
  obtain ⟨y0, y1⟩ := hB
  obtain ⟨z0, z1⟩ := hC
  by_cases h1 : In64 (a0 + a2)
  · by_cases h2 : In64 (a1 + a2)
    · have HX0 : ∀ w, Calls Try.prog 9 #[.int .i64 a0, .int .i64 a2] w fun e w' => e = .returned (.tuple #[.int .i64 (a0 + a2), .int .i64 0]) ∧ w = w' := by
        intro w
        have h := add_any a0 a2 x0 x1 z0 z1 w
        rw [okv_in h1, oke_in h1] at h
        exact h
      have HX := Lib.hid HX0
      clear HX0
      have HY0 : ∀ w, Calls Try.prog 9 #[.int .i64 a1, .int .i64 a2] w fun e w' => e = .returned (.tuple #[.int .i64 (a1 + a2), .int .i64 0]) ∧ w = w' := by
        intro w
        have h := add_any a1 a2 y0 y1 z0 z1 w
        rw [okv_in h2, oke_in h2] at h
        exact h
      have HY := Lib.hid HY0
      clear HY0
      have t1 : (decide (a0 + a2 < a1 + a2) == decide (a0 < a1)) = true := by
        by_cases h : a0 < a1
        · rw [decide_eq_true h, decide_eq_true (by omega)]; rfl
        · rw [decide_eq_false h, decide_eq_false (by omega)]; rfl
      have t2 : ((a0 + a2 == a1 + a2) == (a0 == a1)) = true := by
        by_cases h : a0 = a1
        · rw [h]; simp
        · have e1 : (a0 == a1) = false := beq_eq_false_iff_ne.2 h
          have e2 : (a0 + a2 == a1 + a2) = false := beq_eq_false_iff_ne.2 (by omega)
          rw [e1, e2]; rfl
      have T1 := Lib.hid t1
      have T2 := Lib.hid t2
      obtain ⟨x, hx⟩ : ∃ x, a0 + a2 = x := ⟨_, rfl⟩
      obtain ⟨y, hy⟩ : ∃ y, a1 + a2 = y := ⟨_, rfl⟩
      rw [hx] at HX T1 T2
      rw [hy] at HY T1 T2
      clear hx hy t1 t2 h1 h2
      have t1 := T1.out
      have t2 := T2.out
      go_enter Try.func6, Try.ntmps6
      go_wp2_with (first | (go_at_call 8; refine (awake1_any _).mono ?_; rintro e w' ⟨rfl, hb⟩) | (go_at_call 9; (with_reducible refine (HX.out _).mono ?_); rintro e w' ⟨rfl, rfl⟩) | (go_at_call 9; (with_reducible refine (HY.out _).mono ?_); rintro e w' ⟨rfl, rfl⟩))
      go_ret
      exact ⟨rfl, ‹_›⟩
    · have HX0 : ∀ w, Calls Try.prog 9 #[.int .i64 a0, .int .i64 a2] w fun e w' => e = .returned (.tuple #[.int .i64 (a0 + a2), .int .i64 0]) ∧ w = w' := by
        intro w
        have h := add_any a0 a2 x0 x1 z0 z1 w
        rw [okv_in h1, oke_in h1] at h
        exact h
      have HX := Lib.hid HX0
      clear HX0
      have HY0 : ∀ w, Calls Try.prog 9 #[.int .i64 a1, .int .i64 a2] w fun e w' => e = .returned (.tuple #[.int .i64 0, .int .i64 9]) ∧ w = w' := by
        intro w
        have h := add_any a1 a2 y0 y1 z0 z1 w
        rw [okv_out h2, oke_out h2] at h
        exact h
      have HY := Lib.hid HY0
      clear HY0
      clear h1 h2
      go_enter Try.func6, Try.ntmps6
      go_wp2_with (first | (go_at_call 8; refine (awake1_any _).mono ?_; rintro e w' ⟨rfl, hb⟩) | (go_at_call 9; (with_reducible refine (HX.out _).mono ?_); rintro e w' ⟨rfl, rfl⟩) | (go_at_call 9; (with_reducible refine (HY.out _).mono ?_); rintro e w' ⟨rfl, rfl⟩))
      go_ret
      exact ⟨rfl, ‹_›⟩
  · have HX0 : ∀ w, Calls Try.prog 9 #[.int .i64 a0, .int .i64 a2] w fun e w' => e = .returned (.tuple #[.int .i64 0, .int .i64 9]) ∧ w = w' := by
      intro w
      have h := add_any a0 a2 x0 x1 z0 z1 w
      rw [okv_out h1, oke_out h1] at h
      exact h
    have HX := Lib.hid HX0
    clear HX0
    have HY := Lib.hid (fun w => add_any a1 a2 y0 y1 z0 z1 w)
    clear h1
    go_enter Try.func6, Try.ntmps6
    go_wp2_with (first | (go_at_call 8; refine (awake1_any _).mono ?_; rintro e w' ⟨rfl, hb⟩) | (go_at_call 9; (with_reducible refine (HX.out _).mono ?_); rintro e w' ⟨rfl, rfl⟩) | (go_at_call 9; (with_reducible refine (HY.out _).mono ?_); rintro e w' ⟨rfl, rfl⟩))
    go_ret
    exact ⟨rfl, ‹_›⟩

set_option maxRecDepth 100000 in
theorem lifted (os : Os) (started : os.Started) (H : Type) (enc : TypeId × Value → H) :
    ReturnsInHanded {} Try.checked os 6 .any (Rows.calcOrdersSpec.pre6 enc Try.prog Try.f6 Rows.calcOrdersRow.domain false) (Rows.calcOrdersSpec.post enc Try.prog Try.f6 false true false false) := by
  refine returnsInHanded_of_change (C := Try.checked) own started (by kernel_rfl) Try.func6
    (ChangeSpec.witness6 (enc := enc) (C := Try.checked) false ⟨#[], #[.int .i64 0, .int .i64 0, .int .i64 0], []⟩ 8 (by kernel_rfl) (by kernel_rfl) (by kernel_rfl) (by kernel_rfl)) ?_
  intro W base args ds gs before hval0 hW hcnd _
  have hval : ∀ (j : Nat) t v, Try.f6.params[j]? = some t → args[j]? = some v → Value.okWide Try.prog W .any base t v := hval0
  have hW' := hW
  obtain ⟨p, q, hA0, hV, rfl, hfz, hnd⟩ := hW
  have hA : DataW.TrodAll enc Try.prog W 0 (fun _ => true) true Try.f6.params.toList args.toList ds p := hA0
  rw [Try.params6] at hA hval
  obtain ⟨v0, vs0, d0, ds0, p0, q0, hargs, rfl, rfl, h0, r0⟩ := trodAll_cons hA
  obtain ⟨v1, vs1, d1, ds1, p1, q1, rfl, rfl, rfl, h1, r1⟩ := trodAll_cons r0
  obtain ⟨v2, vs2, d2, ds2, p2, q2, rfl, rfl, rfl, h2, r2⟩ := trodAll_cons r1
  obtain ⟨rfl, rfl, rfl⟩ := trodAll_nil r2
  obtain rfl : args = #[v0, v1, v2] := by cases args; simp_all
  obtain ⟨rfl, rfl⟩ := trodVars_none hV
  obtain ⟨a0, rfl, rfl, rfl, w0⟩ := open_int Try.underlying2 (hval 0 2 v0 rfl rfl) h0
  obtain ⟨a1, rfl, rfl, rfl, w1⟩ := open_int Try.underlying2 (hval 1 2 v1 rfl rfl) h1
  obtain ⟨a2, rfl, rfl, rfl, w2⟩ := open_int Try.underlying2 (hval 2 2 v2 rfl rfl) h2
  clear hA0 hval0
  simp only [List.append_nil] at hW'
  refine (walk a0 a1 a2 w0 w1 w2 W).mono fun e W' ⟨he, hg⟩ => ?_
  subst he
  exact ⟨_, rfl, _, _, _, [], [], [], hW', (trodAll_cons_mk (shut_bool Try.underlying4 _) trodAll_mk0), (trodAll_cons_mk (shut_int Try.underlying2 w0) (trodAll_cons_mk (shut_int Try.underlying2 w1) (trodAll_cons_mk (shut_int Try.underlying2 w2) trodAll_mk0))), rfl, hg.frame _, fun h => by cases h⟩

theorem over : Rows.calcOrdersRow.holds Try.pinned (OpenSpec.ofChange Rows.calcOrdersSpec) :=
  OpenClaim.holds_of_wide 6 Try.f6 rfl rfl rfl rfl rfl rfl rfl ⟨rfl, rfl, rfl, rfl, rfl⟩ rfl rfl rfl rfl rfl (by kernel_rfl) Try.func6 (by kernel_rfl)
    (of_decide_eq_true (by kernel_rfl)) (by unfold Func.isWrapper; first | (rw [if_pos (by decide +kernel)]; kernel_rfl) | (rw [if_neg (by decide +kernel)]; exact ⟨rfl, rfl⟩))
    (fun os started H enc _ => lifted os started H enc)

/-- The given statement. -/
theorem proved : Rows.CalcOrdersSaid :=
  over
#print axioms proved
end Go.Proofs.Ytcloajmcfacfnaa.calcOrders
