/-
  CellLiterals: the walk: where the library's tables hold what its text lays, the law answers true; of what was there nothing has turned.
-/
import Derived.Test.YtcloajmcfacfnaaDoorDoorEnv
import Derived.Test.YtcloajmcfacfnaaDoorAwake2
import Derived.Test.YtcloajmcfacfnaaDoorCell2R
import Derived.Test.YtcloajmcfacfnaaDoorValid0
import Derived.Test.YtcloajmcfacfnaaDoorLit2
import Derived.Test.YtcloajmcfacfnaaDoorHeld
import Derived.Deep.RegionHeld3
import Derived.Deep.RegionWith
import Derived.WalkKit
namespace Go.Proofs.YtcloajmcfacfnaaDoor.cellLiterals
open Go.ChangeShapes Go.WideShapes Go.ChangeAt Go.RowKit
set_option linter.unusedVariables false

theorem lit_same {a : Val} (h : rightB a = true) : rlit a = litL (opn a) := by
  rcases right_cases h with rfl | ⟨i, rfl⟩ | ⟨s, rfl, _⟩ | ⟨x, rfl⟩ <;> first | rfl | (cases x <;> rfl)
theorem right_size {a : Val} (h : rightB a = true) : a.s.size ≤ 60 := by
  rcases right_cases h with rfl | ⟨i, rfl⟩ | ⟨s, rfl, h2⟩ | ⟨x, rfl⟩
  · show (0 : Nat) ≤ 60; decide
  · show (0 : Nat) ≤ 60; decide
  · unfold soundB at h2
    rw [Bool.and_eq_true] at h2
    exact of_decide_eq_true h2.1
  · show (0 : Nat) ≤ 60; decide

set_option maxHeartbeats 2000000 in
theorem walk (a : Val) (oa : ValOk a) (w : World) (hE : Env w) :
    Calls Tryd.prog 9 #[.agg #[.int .u8 a.k, .int .i64 a.i, .string a.s, .bool a.b]] w fun e w' => e = .returned (.bool true) ∧ Below w.heap.size w w' := by
  have ga := rright_any a (by have := oa.s; unfold maxLen at this; exact this)
  have hi := bounds_i64 oa.i
  cases ra : rightB a with
  | false =>
    rw [ra] at ga
    have GA := Lib.hid ga
    clear ga ra hi
    go_enter Tryd.func9, Tryd.ntmps9
    go_wp2_with (go_at_call 15; (with_reducible refine (awake2_any _ (hE.next (by repeat (first | exact Below.refl _ _ | refine Below.drew ?_ | refine below_drewN ?_ _ | refine Below.al ?_ _ | refine Below.next ?_ (by assumption))))).mono ?_); rintro e w1 ⟨rfl, hb1⟩; obtain ⟨hc1, hf1⟩ := bcell hb1; have z1_0 : w.heap.size < w1.heap.size := (by have := hb1.size; (try simp at this); omega))
    go_wp2
    go_region_with (go_at_call 17; (with_reducible refine (GA.out _).mono ?_); rintro e w2 ⟨rfl, hb2⟩; obtain ⟨hc2, hf2⟩ := bcell hb2; have z2_0 : w.heap.size < w2.heap.size := (by have := hb2.size; (try simp at this); omega))
    all_goals
      go_wp2
      go_ret
      exact ⟨rfl, (by repeat (first | exact Below.refl _ _ | refine Below.drew ?_ | refine below_drewN ?_ _ | refine Below.al ?_ _ | refine Below.next ?_ (by assumption)))⟩
  | true =>
    have hs := right_size ra
    have g1 := literal_any a hi (by omega)
    have g2 := rliteral_any a hi (by omega)
    rw [lit_same ra] at g2
    rw [ra] at ga
    generalize litL (opn a) = l at *
    have GA := Lib.hid ga
    have G1 := Lib.hid g1
    have G2 := Lib.hid g2
    clear ga g1 g2 ra hi hs
    go_enter Tryd.func9, Tryd.ntmps9
    go_wp2_with (go_at_call 15; (with_reducible refine (awake2_any _ (hE.next (by repeat (first | exact Below.refl _ _ | refine Below.drew ?_ | refine below_drewN ?_ _ | refine Below.al ?_ _ | refine Below.next ?_ (by assumption))))).mono ?_); rintro e w1 ⟨rfl, hb1⟩; obtain ⟨hc1, hf1⟩ := bcell hb1; have z1_0 : w.heap.size < w1.heap.size := (by have := hb1.size; (try simp at this); omega))
    go_wp2
    go_region_held3 (fun w' => w.heap.size < w'.heap.size ∧ w'.cell? ⟨w.heap.size, 0, none⟩ = some (.int .u8 a.k) ∧ w'.cell? ⟨w.heap.size, 1, none⟩ = some (.int .i64 a.i) ∧ w'.cell? ⟨w.heap.size, 2, none⟩ = some (.string a.s) ∧ w'.cell? ⟨w.heap.size, 3, none⟩ = some (.bool a.b)) (first | assumption | simp [*, go_sem]) (first | (go_at_call 17; (with_reducible refine (GA.out _).mono ?_); rintro e w9 ⟨rfl, hb⟩; have hS := held1 (a := a) (by assumption) hb) | (go_at_call 30; (with_reducible refine (G1.out _ (hE.next (by repeat (first | exact Below.refl _ _ | refine Below.drew ?_ | refine below_drewN ?_ _ | refine Below.al ?_ _ | refine Below.next ?_ (by assumption))))).mono ?_); rintro e w9 ⟨rfl, hb⟩; have hS := held1 (a := a) (by assumption) hb) | (go_at_call 31; (with_reducible refine (G2.out _).mono ?_); rintro e w9 ⟨rfl, hb⟩; have hS := held1 (a := a) (by assumption) hb))
    go_wp2
    go_ret
    exact ⟨rfl, (by repeat (first | exact Below.refl _ _ | refine Below.drew ?_ | refine below_drewN ?_ _ | refine Below.al ?_ _ | refine Below.next ?_ (by assumption)))⟩
end Go.Proofs.YtcloajmcfacfnaaDoor.cellLiterals
