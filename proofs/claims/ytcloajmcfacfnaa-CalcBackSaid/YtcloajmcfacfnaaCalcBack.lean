/-
  CalcBack: for every input the law answers true, and each argument reads behind the call as it read before. No condition.
-/
import Derived.Test.YtcloajmcfacfnaaRows
import Derived.Test.YtcloajmcfacfnaaAwake1
import Derived.WalkKit
import Derived.ProofKit
import Derived.OpenShut
namespace Go.Proofs.Ytcloajmcfacfnaa.calcBack
open Go.ChangeShapes Go.WideShapes Go.ChangeAt Go.RowKit
set_option linter.unusedVariables false

theorem own : ownKnob Try.prog.godebug = none := by kernel_rfl

set_option maxHeartbeats 1000000 in
theorem walk (a0 : Int) (a1 : Int) (w0 : (Lit.int .i64 a0).wf = true) (w1 : (Lit.int .i64 a1).wf = true) (w : World) :
    Calls Try.prog 5 #[.int .i64 a0, .int .i64 a1] w fun e w' => e = .returned (.bool true) ∧ Below w.heap.size w w' := by
  have hA := bounds_i64 w0
  have hB := bounds_i64 w1
  clear w0 w1
  obtain ⟨x0, x1⟩ := hA
  obtain ⟨y0, y1⟩ := hB
  by_cases hs : In64 (a0 + a1)
  · have hs2 : In64 (a0 + a1 - a1) := by rw [show a0 + a1 - a1 = a0 by omega]; exact ⟨x0, x1⟩
    have HA0 : ∀ w, Calls Try.prog 9 #[.int .i64 a0, .int .i64 a1] w fun e w' => e = .returned (.tuple #[.int .i64 (a0 + a1), .int .i64 0]) ∧ w = w' := by
      intro w
      have h := add_any a0 a1 x0 x1 y0 y1 w
      rw [okv_in hs, oke_in hs] at h
      exact h
    have HA := Lib.hid HA0
    clear HA0
    obtain ⟨c, hcc⟩ : ∃ c, a0 + a1 = c := ⟨_, rfl⟩
    rw [hcc] at hs hs2 HA
    have HS0 : ∀ w, Calls Try.prog 11 #[.int .i64 c, .int .i64 a1] w fun e w' => e = .returned (.tuple #[.int .i64 a0, .int .i64 0]) ∧ w = w' := by
      intro w
      have h := sub_any c a1 hs.1 hs.2 y0 y1 w
      rw [okv_in hs2, oke_in hs2, show c - a1 = a0 by omega] at h
      exact h
    have HS := Lib.hid HS0
    clear HS0
    clear hs hs2 hcc
    by_cases hz : a1 = 0
    · subst hz
      have HD0 : ∀ w, Calls Try.prog 17 #[.int .i64 a0, .int .i64 0] w fun e w' => e = .returned (.tuple #[.int .i64 0, .int .i64 10]) ∧ w = w' := fun w => div_any a0 0 x0 x1 y0 y1 w
      have HD := Lib.hid HD0
      clear HD0
      go_enter Try.func5, Try.ntmps5
      go_wp2_with (first | (go_at_call 8; refine (awake1_any _).mono ?_; rintro e w' ⟨rfl, hb⟩) | (go_at_call 9; (with_reducible refine (HA.out _).mono ?_); rintro e w' ⟨rfl, rfl⟩) | (go_at_call 11; (with_reducible refine (HS.out _).mono ?_); rintro e w' ⟨rfl, rfl⟩) | (go_at_call 17; (with_reducible refine (HD.out _).mono ?_); rintro e w' ⟨rfl, rfl⟩))
      go_ret
      exact ⟨rfl, ‹_›⟩
    · by_cases hm : a0 = -9223372036854775808 ∧ a1 = -1
      · obtain ⟨rfl, rfl⟩ := hm
        have HD0 : ∀ w, Calls Try.prog 17 #[.int .i64 (-9223372036854775808), .int .i64 (-1)] w fun e w' => e = .returned (.tuple #[.int .i64 0, .int .i64 9]) ∧ w = w' := fun w => div_any (-9223372036854775808) (-1) x0 x1 y0 y1 w
        have HD := Lib.hid HD0
        clear HD0
        clear hz
        go_enter Try.func5, Try.ntmps5
        go_wp2_with (first | (go_at_call 8; refine (awake1_any _).mono ?_; rintro e w' ⟨rfl, hb⟩) | (go_at_call 9; (with_reducible refine (HA.out _).mono ?_); rintro e w' ⟨rfl, rfl⟩) | (go_at_call 11; (with_reducible refine (HS.out _).mono ?_); rintro e w' ⟨rfl, rfl⟩) | (go_at_call 17; (with_reducible refine (HD.out _).mono ?_); rintro e w' ⟨rfl, rfl⟩))
        go_ret
        exact ⟨rfl, ‹_›⟩
      · have hq : In64 (a0.tdiv a1) := by
          by_cases h1 : a1 = -1
          · subst h1; rw [show a0.tdiv (-1) = -a0 by rw [Int.tdiv_neg, Int.tdiv_one]]; exact in64 (by omega) (by omega)
          · exact tdiv_bounds a0 a1 x0 x1 h1
        have hpr := Int.tmod_add_mul_tdiv a0 a1
        have hrb := tmod_bounds a0 a1 x0 x1 y0 y1 hz
        have hp : In64 (a0.tdiv a1 * a1) := by
          rw [Int.mul_comm] at hpr ⊢
          have h1 : (a0.tmod a1).natAbs ≤ a0.natAbs := by rw [Int.natAbs_tmod]; exact Nat.mod_le _ _
          have h2 : 0 ≤ a0 → 0 ≤ a0.tmod a1 := fun h => Int.tmod_nonneg _ h
          have h3 : a0 ≤ 0 → a0.tmod a1 ≤ 0 := fun h => by
            have := Int.tmod_nonneg (a := -a0) a1 (by omega)
            rw [Int.neg_tmod] at this; omega
          rw [Int.mul_comm] at hpr ⊢
          rw [Int.mul_comm] at hpr
          unfold In64; omega
        rw [Int.mul_comm] at hpr
        have HD0 : ∀ w, Calls Try.prog 17 #[.int .i64 a0, .int .i64 a1] w fun e w' => e = .returned (.tuple #[.int .i64 (a0.tdiv a1), .int .i64 0]) ∧ w = w' := by
          intro w
          have h := div_any a0 a1 x0 x1 y0 y1 w
          rw [show divv a0 a1 = okv (a0.tdiv a1) from if_neg hz, show dive a0 a1 = oke (a0.tdiv a1) from if_neg hz, okv_in hq, oke_in hq] at h
          exact h
        have HD := Lib.hid HD0
        clear HD0
        have HM0 : ∀ w, Calls Try.prog 19 #[.int .i64 a0, .int .i64 a1] w fun e w' => e = .returned (.tuple #[.int .i64 (a0.tmod a1), .int .i64 0]) ∧ w = w' := by
          intro w
          have h := mod_any a0 a1 x0 x1 y0 y1 w
          rw [show modv a0 a1 = a0.tmod a1 from if_neg hz, show mode a1 = 0 from if_neg hz] at h
          exact h
        have HM := Lib.hid HM0
        clear HM0
        generalize a0.tdiv a1 = q at *
        generalize a0.tmod a1 = r at *
        have HP0 : ∀ w, Calls Try.prog 15 #[.int .i64 q, .int .i64 a1] w fun e w' => e = .returned (.tuple #[.int .i64 (q * a1), .int .i64 0]) ∧ w = w' := by
          intro w
          have h := mul_any q a1 hq.1 hq.2 y0 y1 w
          rw [okv_in hp, oke_in hp] at h
          exact h
        have HP := Lib.hid HP0
        clear HP0
        generalize q * a1 = p at *
        have HT0 : ∀ w, Calls Try.prog 9 #[.int .i64 p, .int .i64 r] w fun e w' => e = .returned (.tuple #[.int .i64 a0, .int .i64 0]) ∧ w = w' := by
          intro w
          have h := add_any p r hp.1 hp.2 hrb.1 hrb.2 w
          have e1 : p + r = a0 := by omega
          rw [e1, okv_in ⟨x0, x1⟩, oke_in ⟨x0, x1⟩] at h
          exact h
        have HT := Lib.hid HT0
        clear HT0
        clear hq hp hrb hpr hm hz
        go_enter Try.func5, Try.ntmps5
        go_wp2_with (first | (go_at_call 8; refine (awake1_any _).mono ?_; rintro e w' ⟨rfl, hb⟩) | (go_at_call 9; (with_reducible refine (HA.out _).mono ?_); rintro e w' ⟨rfl, rfl⟩) | (go_at_call 11; (with_reducible refine (HS.out _).mono ?_); rintro e w' ⟨rfl, rfl⟩) | (go_at_call 17; (with_reducible refine (HD.out _).mono ?_); rintro e w' ⟨rfl, rfl⟩) | (go_at_call 19; (with_reducible refine (HM.out _).mono ?_); rintro e w' ⟨rfl, rfl⟩) | (go_at_call 15; (with_reducible refine (HP.out _).mono ?_); rintro e w' ⟨rfl, rfl⟩) | (go_at_call 9; (with_reducible refine (HT.out _).mono ?_); rintro e w' ⟨rfl, rfl⟩))
        go_ret
        exact ⟨rfl, ‹_›⟩
  · have HA0 := fun w => add_any a0 a1 x0 x1 y0 y1 w
    rw [okv_out hs, oke_out hs] at HA0
    have HA := Lib.hid HA0
    clear HA0 hs
    by_cases hz : a1 = 0
    · subst hz
      have HD0 : ∀ w, Calls Try.prog 17 #[.int .i64 a0, .int .i64 0] w fun e w' => e = .returned (.tuple #[.int .i64 0, .int .i64 10]) ∧ w = w' := fun w => div_any a0 0 x0 x1 y0 y1 w
      have HD := Lib.hid HD0
      clear HD0
      go_enter Try.func5, Try.ntmps5
      go_wp2_with (first | (go_at_call 8; refine (awake1_any _).mono ?_; rintro e w' ⟨rfl, hb⟩) | (go_at_call 9; (with_reducible refine (HA.out _).mono ?_); rintro e w' ⟨rfl, rfl⟩) | (go_at_call 17; (with_reducible refine (HD.out _).mono ?_); rintro e w' ⟨rfl, rfl⟩))
      go_ret
      exact ⟨rfl, ‹_›⟩
    · by_cases hm : a0 = -9223372036854775808 ∧ a1 = -1
      · obtain ⟨rfl, rfl⟩ := hm
        have HD0 : ∀ w, Calls Try.prog 17 #[.int .i64 (-9223372036854775808), .int .i64 (-1)] w fun e w' => e = .returned (.tuple #[.int .i64 0, .int .i64 9]) ∧ w = w' := fun w => div_any (-9223372036854775808) (-1) x0 x1 y0 y1 w
        have HD := Lib.hid HD0
        clear HD0
        clear hz
        go_enter Try.func5, Try.ntmps5
        go_wp2_with (first | (go_at_call 8; refine (awake1_any _).mono ?_; rintro e w' ⟨rfl, hb⟩) | (go_at_call 9; (with_reducible refine (HA.out _).mono ?_); rintro e w' ⟨rfl, rfl⟩) | (go_at_call 17; (with_reducible refine (HD.out _).mono ?_); rintro e w' ⟨rfl, rfl⟩))
        go_ret
        exact ⟨rfl, ‹_›⟩
      · have hq : In64 (a0.tdiv a1) := by
          by_cases h1 : a1 = -1
          · subst h1; rw [show a0.tdiv (-1) = -a0 by rw [Int.tdiv_neg, Int.tdiv_one]]; exact in64 (by omega) (by omega)
          · exact tdiv_bounds a0 a1 x0 x1 h1
        have hpr := Int.tmod_add_mul_tdiv a0 a1
        have hrb := tmod_bounds a0 a1 x0 x1 y0 y1 hz
        have hp : In64 (a0.tdiv a1 * a1) := by
          rw [Int.mul_comm] at hpr ⊢
          have h1 : (a0.tmod a1).natAbs ≤ a0.natAbs := by rw [Int.natAbs_tmod]; exact Nat.mod_le _ _
          have h2 : 0 ≤ a0 → 0 ≤ a0.tmod a1 := fun h => Int.tmod_nonneg _ h
          have h3 : a0 ≤ 0 → a0.tmod a1 ≤ 0 := fun h => by
            have := Int.tmod_nonneg (a := -a0) a1 (by omega)
            rw [Int.neg_tmod] at this; omega
          rw [Int.mul_comm] at hpr ⊢
          rw [Int.mul_comm] at hpr
          unfold In64; omega
        rw [Int.mul_comm] at hpr
        have HD0 : ∀ w, Calls Try.prog 17 #[.int .i64 a0, .int .i64 a1] w fun e w' => e = .returned (.tuple #[.int .i64 (a0.tdiv a1), .int .i64 0]) ∧ w = w' := by
          intro w
          have h := div_any a0 a1 x0 x1 y0 y1 w
          rw [show divv a0 a1 = okv (a0.tdiv a1) from if_neg hz, show dive a0 a1 = oke (a0.tdiv a1) from if_neg hz, okv_in hq, oke_in hq] at h
          exact h
        have HD := Lib.hid HD0
        clear HD0
        have HM0 : ∀ w, Calls Try.prog 19 #[.int .i64 a0, .int .i64 a1] w fun e w' => e = .returned (.tuple #[.int .i64 (a0.tmod a1), .int .i64 0]) ∧ w = w' := by
          intro w
          have h := mod_any a0 a1 x0 x1 y0 y1 w
          rw [show modv a0 a1 = a0.tmod a1 from if_neg hz, show mode a1 = 0 from if_neg hz] at h
          exact h
        have HM := Lib.hid HM0
        clear HM0
        generalize a0.tdiv a1 = q at *
        generalize a0.tmod a1 = r at *
        have HP0 : ∀ w, Calls Try.prog 15 #[.int .i64 q, .int .i64 a1] w fun e w' => e = .returned (.tuple #[.int .i64 (q * a1), .int .i64 0]) ∧ w = w' := by
          intro w
          have h := mul_any q a1 hq.1 hq.2 y0 y1 w
          rw [okv_in hp, oke_in hp] at h
          exact h
        have HP := Lib.hid HP0
        clear HP0
        generalize q * a1 = p at *
        have HT0 : ∀ w, Calls Try.prog 9 #[.int .i64 p, .int .i64 r] w fun e w' => e = .returned (.tuple #[.int .i64 a0, .int .i64 0]) ∧ w = w' := by
          intro w
          have h := add_any p r hp.1 hp.2 hrb.1 hrb.2 w
          have e1 : p + r = a0 := by omega
          rw [e1, okv_in ⟨x0, x1⟩, oke_in ⟨x0, x1⟩] at h
          exact h
        have HT := Lib.hid HT0
        clear HT0
        clear hq hp hrb hpr hm hz
        go_enter Try.func5, Try.ntmps5
        go_wp2_with (first | (go_at_call 8; refine (awake1_any _).mono ?_; rintro e w' ⟨rfl, hb⟩) | (go_at_call 9; (with_reducible refine (HA.out _).mono ?_); rintro e w' ⟨rfl, rfl⟩) | (go_at_call 17; (with_reducible refine (HD.out _).mono ?_); rintro e w' ⟨rfl, rfl⟩) | (go_at_call 19; (with_reducible refine (HM.out _).mono ?_); rintro e w' ⟨rfl, rfl⟩) | (go_at_call 15; (with_reducible refine (HP.out _).mono ?_); rintro e w' ⟨rfl, rfl⟩) | (go_at_call 9; (with_reducible refine (HT.out _).mono ?_); rintro e w' ⟨rfl, rfl⟩))
        go_ret
        exact ⟨rfl, ‹_›⟩

set_option maxRecDepth 100000 in
theorem lifted (os : Os) (started : os.Started) (H : Type) (enc : TypeId × Value → H) :
    ReturnsInHanded {} Try.checked os 5 .any (Rows.calcBackSpec.pre6 enc Try.prog Try.f5 Rows.calcBackRow.domain false) (Rows.calcBackSpec.post enc Try.prog Try.f5 false true false false) := by
  refine returnsInHanded_of_change (C := Try.checked) own started (by kernel_rfl) Try.func5
    (ChangeSpec.witness6 (enc := enc) (C := Try.checked) false ⟨#[], #[.int .i64 0, .int .i64 0], []⟩ 8 (by kernel_rfl) (by kernel_rfl) (by kernel_rfl) (by kernel_rfl)) ?_
  intro W base args ds gs before hval0 hW hcnd _
  have hval : ∀ (j : Nat) t v, Try.f5.params[j]? = some t → args[j]? = some v → Value.okWide Try.prog W .any base t v := hval0
  have hW' := hW
  obtain ⟨p, q, hA0, hV, rfl, hfz, hnd⟩ := hW
  have hA : DataW.TrodAll enc Try.prog W 0 (fun _ => true) true Try.f5.params.toList args.toList ds p := hA0
  rw [Try.params5] at hA hval
  obtain ⟨v0, vs0, d0, ds0, p0, q0, hargs, rfl, rfl, h0, r0⟩ := trodAll_cons hA
  obtain ⟨v1, vs1, d1, ds1, p1, q1, rfl, rfl, rfl, h1, r1⟩ := trodAll_cons r0
  obtain ⟨rfl, rfl, rfl⟩ := trodAll_nil r1
  obtain rfl : args = #[v0, v1] := by cases args; simp_all
  obtain ⟨rfl, rfl⟩ := trodVars_none hV
  obtain ⟨a0, rfl, rfl, rfl, w0⟩ := open_int Try.underlying2 (hval 0 2 v0 rfl rfl) h0
  obtain ⟨a1, rfl, rfl, rfl, w1⟩ := open_int Try.underlying2 (hval 1 2 v1 rfl rfl) h1
  clear hA0 hval0
  simp only [List.append_nil] at hW'
  refine (walk a0 a1 w0 w1 W).mono fun e W' ⟨he, hg⟩ => ?_
  subst he
  exact ⟨_, rfl, _, _, _, [], [], [], hW', (trodAll_cons_mk (shut_bool Try.underlying4 _) trodAll_mk0), (trodAll_cons_mk (shut_int Try.underlying2 w0) (trodAll_cons_mk (shut_int Try.underlying2 w1) trodAll_mk0)), rfl, hg.frame _, fun h => by cases h⟩

theorem over : Rows.calcBackRow.holds Try.pinned (OpenSpec.ofChange Rows.calcBackSpec) :=
  OpenClaim.holds_of_wide 5 Try.f5 rfl rfl rfl rfl rfl rfl rfl ⟨rfl, rfl, rfl, rfl, rfl⟩ rfl rfl rfl rfl rfl (by kernel_rfl) Try.func5 (by kernel_rfl)
    (of_decide_eq_true (by kernel_rfl)) (by unfold Func.isWrapper; first | (rw [if_pos (by decide +kernel)]; kernel_rfl) | (rw [if_neg (by decide +kernel)]; exact ⟨rfl, rfl⟩))
    (fun os started H enc _ => lifted os started H enc)

/-- The given statement. -/
theorem proved : Rows.CalcBackSaid :=
  over
#print axioms proved
end Go.Proofs.Ytcloajmcfacfnaa.calcBack
