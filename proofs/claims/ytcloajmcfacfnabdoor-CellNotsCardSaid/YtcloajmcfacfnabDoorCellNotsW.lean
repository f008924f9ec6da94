/-
  CellNots: the walk: where the library's tables hold what its text lays, the law answers true; of what was there nothing has turned.
-/
import Derived.Test.YtcloajmcfacfnabDoorDoorEnv
import Derived.Test.YtcloajmcfacfnabDoorAwake2
import Derived.Test.YtcloajmcfacfnabDoorCell2R
import Derived.Test.YtcloajmcfacfnabDoorValid0
import Derived.WalkKit
namespace Go.Proofs.YtcloajmcfacfnabDoor.cellNots
open Go.ChangeShapes Go.WideShapes Go.ChangeAt Go.RowKit
set_option linter.unusedVariables false


set_option maxHeartbeats 2000000 in
theorem walk (a : Val) (oa : ValOk a) (w : World) (hE : Env w) :
    Calls Tryd.prog 5 #[.agg #[.int .u8 a.k, .int .i64 a.i, .string a.s, .bool a.b]] w fun e w' => e = .returned (.bool true) ∧ Below w.heap.size w w' := by
  have ga := rright_any a (by have := oa.s; unfold maxLen at this; exact this)
  cases ra : rightB a with
  | false =>
    rw [ra] at ga
    have GA := Lib.hid ga
    clear ga ra
    go_enter Tryd.func5, Tryd.ntmps5
    go_wp2_with (go_at_call 6; (with_reducible refine (awake2_any _ (hE.next (by repeat (first | exact Below.refl _ _ | refine Below.drew ?_ | refine below_drewN ?_ _ | refine Below.al ?_ _ | refine Below.next ?_ (by assumption))))).mono ?_); rintro e w1 ⟨rfl, hb1⟩; obtain ⟨hc1, hf1⟩ := bcell hb1; have z1_0 : w.heap.size < w1.heap.size := (by have := hb1.size; (try simp at this); omega))
    go_wp2_with (go_at_call 7; (with_reducible refine (GA.out _).mono ?_); rintro e w2 ⟨rfl, hb2⟩; obtain ⟨hc2, hf2⟩ := bcell hb2; have z2_0 : w.heap.size < w2.heap.size := (by have := hb2.size; (try simp at this); omega))
    go_wp2
    go_ret
    exact ⟨rfl, (by repeat (first | exact Below.refl _ _ | refine Below.drew ?_ | refine below_drewN ?_ _ | refine Below.al ?_ _ | refine Below.next ?_ (by assumption)))⟩
  | true =>
    rw [ra] at ga
    rcases right_cases ra with rfl | ⟨i, rfl⟩ | ⟨s, rfl, _⟩ | ⟨x, rfl⟩
    all_goals simp only [] at ga
    all_goals have GA := Lib.hid ga
    all_goals clear ga
    · skip
      have G30 : ∀ w, Calls Tryd.prog 12 #[.agg #[.int .u8 0, .int .i64 0, .string ⟨#[]⟩, .bool false]] w fun e w' => e = .returned (.tuple #[.agg #[.int .u8 0, .int .i64 0, .string ⟨#[]⟩, .bool false], .int .i64 0]) ∧ Below w.heap.size w w' := fun w => not_any ⟨0, 0, ⟨#[]⟩, false⟩ w
      have G3 := Lib.hid G30
      clear G30
      have G40 : ∀ w, Calls Tryd.prog 12 #[.agg #[.int .u8 0, .int .i64 0, .string ⟨#[]⟩, .bool false]] w fun e w' => e = .returned (.tuple #[.agg #[.int .u8 0, .int .i64 0, .string ⟨#[]⟩, .bool false], .int .i64 0]) ∧ Below w.heap.size w w' := fun w => not_any ⟨0, 0, ⟨#[]⟩, false⟩ w
      have G4 := Lib.hid G40
      clear G40
      have G50 : ∀ w, Calls Tryd.prog 13 #[.agg #[.int .u8 0, .int .i64 0, .string ⟨#[]⟩, .bool false], .agg #[.int .u8 0, .int .i64 0, .string ⟨#[]⟩, .bool false]] w fun e w' => e = .returned (.tuple #[.agg #[.int .u8 0, .int .i64 0, .string ⟨#[]⟩, .bool false], .int .i64 0]) ∧ Below w.heap.size w w' := fun w => and_any ⟨0, 0, ⟨#[]⟩, false⟩ ⟨0, 0, ⟨#[]⟩, false⟩ w
      have G5 := Lib.hid G50
      clear G50
      have G60 : ∀ w, Calls Tryd.prog 14 #[.agg #[.int .u8 0, .int .i64 0, .string ⟨#[]⟩, .bool false], .agg #[.int .u8 0, .int .i64 0, .string ⟨#[]⟩, .bool false]] w fun e w' => e = .returned (.tuple #[.agg #[.int .u8 0, .int .i64 0, .string ⟨#[]⟩, .bool false], .int .i64 0]) ∧ Below w.heap.size w w' := fun w => or_any ⟨0, 0, ⟨#[]⟩, false⟩ ⟨0, 0, ⟨#[]⟩, false⟩ w
      have G6 := Lib.hid G60
      clear G60
      have qe := eqval 0 0 ⟨#[]⟩ false 0 0 ⟨#[]⟩ false
      clear ra oa
      go_enter Tryd.func5, Tryd.ntmps5
      go_wp2_with (go_at_call 6; (with_reducible refine (awake2_any _ (hE.next (by repeat (first | exact Below.refl _ _ | refine Below.drew ?_ | refine below_drewN ?_ _ | refine Below.al ?_ _ | refine Below.next ?_ (by assumption))))).mono ?_); rintro e w1 ⟨rfl, hb1⟩; obtain ⟨hc1, hf1⟩ := bcell hb1; have z1_0 : w.heap.size < w1.heap.size := (by have := hb1.size; (try simp at this); omega))
      go_wp2_with (go_at_call 7; (with_reducible refine (GA.out _).mono ?_); rintro e w2 ⟨rfl, hb2⟩; obtain ⟨hc2, hf2⟩ := bcell hb2; have z2_0 : w.heap.size < w2.heap.size := (by have := hb2.size; (try simp at this); omega))
      go_wp2_with (go_at_call 12; (with_reducible refine (G3.out _).mono ?_); rintro e w3 ⟨rfl, hb3⟩; obtain ⟨hc3, hf3⟩ := bcell hb3; have z3_0 : w.heap.size < w3.heap.size := (by have := hb3.size; (try simp at this); omega); clear G3)
      go_wp2_with (go_at_call 12; (with_reducible refine (G4.out _).mono ?_); rintro e w4 ⟨rfl, hb4⟩; obtain ⟨hc4, hf4⟩ := bcell hb4; have z4_0 : w.heap.size < w4.heap.size := (by have := hb4.size; (try simp at this); omega); have z4_1 : w3.heap.size < w4.heap.size := (by have := hb4.size; (try simp at this); omega))
      go_wp2_with (go_at_call 13; (with_reducible refine (G5.out _).mono ?_); rintro e w5 ⟨rfl, hb5⟩; obtain ⟨hc5, hf5⟩ := bcell hb5; have z5_0 : w.heap.size < w5.heap.size := (by have := hb5.size; (try simp at this); omega); have z5_1 : w3.heap.size < w5.heap.size := (by have := hb5.size; (try simp at this); omega); have z5_2 : w4.heap.size < w5.heap.size := (by have := hb5.size; (try simp at this); omega))
      go_wp2_with (go_at_call 14; (with_reducible refine (G6.out _).mono ?_); rintro e w6 ⟨rfl, hb6⟩; obtain ⟨hc6, hf6⟩ := bcell hb6; have z6_0 : w.heap.size < w6.heap.size := (by have := hb6.size; (try simp at this); omega); have z6_1 : w3.heap.size < w6.heap.size := (by have := hb6.size; (try simp at this); omega); have z6_2 : w4.heap.size < w6.heap.size := (by have := hb6.size; (try simp at this); omega); have z6_3 : w5.heap.size < w6.heap.size := (by have := hb6.size; (try simp at this); omega))
      go_wp2
      go_ret
      exact ⟨rfl, (by repeat (first | exact Below.refl _ _ | refine Below.drew ?_ | refine below_drewN ?_ _ | refine Below.al ?_ _ | refine Below.next ?_ (by assumption)))⟩
    · skip
      have G3 : ∀ w, Calls Tryd.prog 12 #[.agg #[.int .u8 1, .int .i64 i, .string ⟨#[]⟩, .bool false]] w fun e w' => e = .returned (.tuple #[.agg #[.int .u8 0, .int .i64 0, .string ⟨#[]⟩, .bool false], .int .i64 8]) ∧ Below w.heap.size w w' := fun w => not_any ⟨1, i, ⟨#[]⟩, false⟩ w
      have qe := eqval 0 0 ⟨#[]⟩ false 0 0 ⟨#[]⟩ false
      have H3 := Lib.hid G3
      clear ra oa G3
      go_enter Tryd.func5, Tryd.ntmps5
      go_wp2_with (go_at_call 6; (with_reducible refine (awake2_any _ (hE.next (by repeat (first | exact Below.refl _ _ | refine Below.drew ?_ | refine below_drewN ?_ _ | refine Below.al ?_ _ | refine Below.next ?_ (by assumption))))).mono ?_); rintro e w1 ⟨rfl, hb1⟩; obtain ⟨hc1, hf1⟩ := bcell hb1; have z1_0 : w.heap.size < w1.heap.size := (by have := hb1.size; (try simp at this); omega))
      go_wp2_with (go_at_call 7; (with_reducible refine (GA.out _).mono ?_); rintro e w2 ⟨rfl, hb2⟩; obtain ⟨hc2, hf2⟩ := bcell hb2; have z2_0 : w.heap.size < w2.heap.size := (by have := hb2.size; (try simp at this); omega))
      go_wp2_with (go_at_call 12; (with_reducible refine (H3.out _).mono ?_); rintro e w3 ⟨rfl, hb3⟩; obtain ⟨hc3, hf3⟩ := bcell hb3; have z3_0 : w.heap.size < w3.heap.size := (by have := hb3.size; (try simp at this); omega))
      go_wp2
      go_ret
      exact ⟨rfl, (by repeat (first | exact Below.refl _ _ | refine Below.drew ?_ | refine below_drewN ?_ _ | refine Below.al ?_ _ | refine Below.next ?_ (by assumption)))⟩
    · skip
      have G3 : ∀ w, Calls Tryd.prog 12 #[.agg #[.int .u8 2, .int .i64 0, .string s, .bool false]] w fun e w' => e = .returned (.tuple #[.agg #[.int .u8 0, .int .i64 0, .string ⟨#[]⟩, .bool false], .int .i64 8]) ∧ Below w.heap.size w w' := fun w => not_any ⟨2, 0, s, false⟩ w
      have qe := eqval 0 0 ⟨#[]⟩ false 0 0 ⟨#[]⟩ false
      have H3 := Lib.hid G3
      clear ra oa G3
      go_enter Tryd.func5, Tryd.ntmps5
      go_wp2_with (go_at_call 6; (with_reducible refine (awake2_any _ (hE.next (by repeat (first | exact Below.refl _ _ | refine Below.drew ?_ | refine below_drewN ?_ _ | refine Below.al ?_ _ | refine Below.next ?_ (by assumption))))).mono ?_); rintro e w1 ⟨rfl, hb1⟩; obtain ⟨hc1, hf1⟩ := bcell hb1; have z1_0 : w.heap.size < w1.heap.size := (by have := hb1.size; (try simp at this); omega))
      go_wp2_with (go_at_call 7; (with_reducible refine (GA.out _).mono ?_); rintro e w2 ⟨rfl, hb2⟩; obtain ⟨hc2, hf2⟩ := bcell hb2; have z2_0 : w.heap.size < w2.heap.size := (by have := hb2.size; (try simp at this); omega))
      go_wp2_with (go_at_call 12; (with_reducible refine (H3.out _).mono ?_); rintro e w3 ⟨rfl, hb3⟩; obtain ⟨hc3, hf3⟩ := bcell hb3; have z3_0 : w.heap.size < w3.heap.size := (by have := hb3.size; (try simp at this); omega))
      go_wp2
      go_ret
      exact ⟨rfl, (by repeat (first | exact Below.refl _ _ | refine Below.drew ?_ | refine below_drewN ?_ _ | refine Below.al ?_ _ | refine Below.next ?_ (by assumption)))⟩
    · cases x
      · skip
        have G30 : ∀ w, Calls Tryd.prog 12 #[.agg #[.int .u8 3, .int .i64 0, .string ⟨#[]⟩, .bool false]] w fun e w' => e = .returned (.tuple #[.agg #[.int .u8 3, .int .i64 0, .string ⟨#[]⟩, .bool true], .int .i64 0]) ∧ Below w.heap.size w w' := fun w => not_any ⟨3, 0, ⟨#[]⟩, false⟩ w
        have G3 := Lib.hid G30
        clear G30
        have G40 : ∀ w, Calls Tryd.prog 12 #[.agg #[.int .u8 3, .int .i64 0, .string ⟨#[]⟩, .bool true]] w fun e w' => e = .returned (.tuple #[.agg #[.int .u8 3, .int .i64 0, .string ⟨#[]⟩, .bool false], .int .i64 0]) ∧ Below w.heap.size w w' := fun w => not_any ⟨3, 0, ⟨#[]⟩, true⟩ w
        have G4 := Lib.hid G40
        clear G40
        have G50 : ∀ w, Calls Tryd.prog 13 #[.agg #[.int .u8 3, .int .i64 0, .string ⟨#[]⟩, .bool false], .agg #[.int .u8 3, .int .i64 0, .string ⟨#[]⟩, .bool true]] w fun e w' => e = .returned (.tuple #[.agg #[.int .u8 3, .int .i64 0, .string ⟨#[]⟩, .bool false], .int .i64 0]) ∧ Below w.heap.size w w' := fun w => and_any ⟨3, 0, ⟨#[]⟩, false⟩ ⟨3, 0, ⟨#[]⟩, true⟩ w
        have G5 := Lib.hid G50
        clear G50
        have G60 : ∀ w, Calls Tryd.prog 14 #[.agg #[.int .u8 3, .int .i64 0, .string ⟨#[]⟩, .bool false], .agg #[.int .u8 3, .int .i64 0, .string ⟨#[]⟩, .bool true]] w fun e w' => e = .returned (.tuple #[.agg #[.int .u8 3, .int .i64 0, .string ⟨#[]⟩, .bool true], .int .i64 0]) ∧ Below w.heap.size w w' := fun w => or_any ⟨3, 0, ⟨#[]⟩, false⟩ ⟨3, 0, ⟨#[]⟩, true⟩ w
        have G6 := Lib.hid G60
        clear G60
        have qe := eqval 3 0 ⟨#[]⟩ false 3 0 ⟨#[]⟩ false
        clear ra oa
        go_enter Tryd.func5, Tryd.ntmps5
        go_wp2_with (go_at_call 6; (with_reducible refine (awake2_any _ (hE.next (by repeat (first | exact Below.refl _ _ | refine Below.drew ?_ | refine below_drewN ?_ _ | refine Below.al ?_ _ | refine Below.next ?_ (by assumption))))).mono ?_); rintro e w1 ⟨rfl, hb1⟩; obtain ⟨hc1, hf1⟩ := bcell hb1; have z1_0 : w.heap.size < w1.heap.size := (by have := hb1.size; (try simp at this); omega))
        go_wp2_with (go_at_call 7; (with_reducible refine (GA.out _).mono ?_); rintro e w2 ⟨rfl, hb2⟩; obtain ⟨hc2, hf2⟩ := bcell hb2; have z2_0 : w.heap.size < w2.heap.size := (by have := hb2.size; (try simp at this); omega))
        go_wp2_with (go_at_call 12; (with_reducible refine (G3.out _).mono ?_); rintro e w3 ⟨rfl, hb3⟩; obtain ⟨hc3, hf3⟩ := bcell hb3; have z3_0 : w.heap.size < w3.heap.size := (by have := hb3.size; (try simp at this); omega); clear G3)
        go_wp2_with (go_at_call 12; (with_reducible refine (G4.out _).mono ?_); rintro e w4 ⟨rfl, hb4⟩; obtain ⟨hc4, hf4⟩ := bcell hb4; have z4_0 : w.heap.size < w4.heap.size := (by have := hb4.size; (try simp at this); omega); have z4_1 : w3.heap.size < w4.heap.size := (by have := hb4.size; (try simp at this); omega))
        go_wp2_with (go_at_call 13; (with_reducible refine (G5.out _).mono ?_); rintro e w5 ⟨rfl, hb5⟩; obtain ⟨hc5, hf5⟩ := bcell hb5; have z5_0 : w.heap.size < w5.heap.size := (by have := hb5.size; (try simp at this); omega); have z5_1 : w3.heap.size < w5.heap.size := (by have := hb5.size; (try simp at this); omega); have z5_2 : w4.heap.size < w5.heap.size := (by have := hb5.size; (try simp at this); omega))
        go_wp2_with (go_at_call 14; (with_reducible refine (G6.out _).mono ?_); rintro e w6 ⟨rfl, hb6⟩; obtain ⟨hc6, hf6⟩ := bcell hb6; have z6_0 : w.heap.size < w6.heap.size := (by have := hb6.size; (try simp at this); omega); have z6_1 : w3.heap.size < w6.heap.size := (by have := hb6.size; (try simp at this); omega); have z6_2 : w4.heap.size < w6.heap.size := (by have := hb6.size; (try simp at this); omega); have z6_3 : w5.heap.size < w6.heap.size := (by have := hb6.size; (try simp at this); omega))
        go_wp2
        go_ret
        exact ⟨rfl, (by repeat (first | exact Below.refl _ _ | refine Below.drew ?_ | refine below_drewN ?_ _ | refine Below.al ?_ _ | refine Below.next ?_ (by assumption)))⟩
      · skip
        have G30 : ∀ w, Calls Tryd.prog 12 #[.agg #[.int .u8 3, .int .i64 0, .string ⟨#[]⟩, .bool true]] w fun e w' => e = .returned (.tuple #[.agg #[.int .u8 3, .int .i64 0, .string ⟨#[]⟩, .bool false], .int .i64 0]) ∧ Below w.heap.size w w' := fun w => not_any ⟨3, 0, ⟨#[]⟩, true⟩ w
        have G3 := Lib.hid G30
        clear G30
        have G40 : ∀ w, Calls Tryd.prog 12 #[.agg #[.int .u8 3, .int .i64 0, .string ⟨#[]⟩, .bool false]] w fun e w' => e = .returned (.tuple #[.agg #[.int .u8 3, .int .i64 0, .string ⟨#[]⟩, .bool true], .int .i64 0]) ∧ Below w.heap.size w w' := fun w => not_any ⟨3, 0, ⟨#[]⟩, false⟩ w
        have G4 := Lib.hid G40
        clear G40
        have G50 : ∀ w, Calls Tryd.prog 13 #[.agg #[.int .u8 3, .int .i64 0, .string ⟨#[]⟩, .bool true], .agg #[.int .u8 3, .int .i64 0, .string ⟨#[]⟩, .bool false]] w fun e w' => e = .returned (.tuple #[.agg #[.int .u8 3, .int .i64 0, .string ⟨#[]⟩, .bool false], .int .i64 0]) ∧ Below w.heap.size w w' := fun w => and_any ⟨3, 0, ⟨#[]⟩, true⟩ ⟨3, 0, ⟨#[]⟩, false⟩ w
        have G5 := Lib.hid G50
        clear G50
        have G60 : ∀ w, Calls Tryd.prog 14 #[.agg #[.int .u8 3, .int .i64 0, .string ⟨#[]⟩, .bool true], .agg #[.int .u8 3, .int .i64 0, .string ⟨#[]⟩, .bool false]] w fun e w' => e = .returned (.tuple #[.agg #[.int .u8 3, .int .i64 0, .string ⟨#[]⟩, .bool true], .int .i64 0]) ∧ Below w.heap.size w w' := fun w => or_any ⟨3, 0, ⟨#[]⟩, true⟩ ⟨3, 0, ⟨#[]⟩, false⟩ w
        have G6 := Lib.hid G60
        clear G60
        have qe := eqval 3 0 ⟨#[]⟩ true 3 0 ⟨#[]⟩ true
        clear ra oa
        go_enter Tryd.func5, Tryd.ntmps5
        go_wp2_with (go_at_call 6; (with_reducible refine (awake2_any _ (hE.next (by repeat (first | exact Below.refl _ _ | refine Below.drew ?_ | refine below_drewN ?_ _ | refine Below.al ?_ _ | refine Below.next ?_ (by assumption))))).mono ?_); rintro e w1 ⟨rfl, hb1⟩; obtain ⟨hc1, hf1⟩ := bcell hb1; have z1_0 : w.heap.size < w1.heap.size := (by have := hb1.size; (try simp at this); omega))
        go_wp2_with (go_at_call 7; (with_reducible refine (GA.out _).mono ?_); rintro e w2 ⟨rfl, hb2⟩; obtain ⟨hc2, hf2⟩ := bcell hb2; have z2_0 : w.heap.size < w2.heap.size := (by have := hb2.size; (try simp at this); omega))
        go_wp2_with (go_at_call 12; (with_reducible refine (G3.out _).mono ?_); rintro e w3 ⟨rfl, hb3⟩; obtain ⟨hc3, hf3⟩ := bcell hb3; have z3_0 : w.heap.size < w3.heap.size := (by have := hb3.size; (try simp at this); omega); clear G3)
        go_wp2_with (go_at_call 12; (with_reducible refine (G4.out _).mono ?_); rintro e w4 ⟨rfl, hb4⟩; obtain ⟨hc4, hf4⟩ := bcell hb4; have z4_0 : w.heap.size < w4.heap.size := (by have := hb4.size; (try simp at this); omega); have z4_1 : w3.heap.size < w4.heap.size := (by have := hb4.size; (try simp at this); omega))
        go_wp2_with (go_at_call 13; (with_reducible refine (G5.out _).mono ?_); rintro e w5 ⟨rfl, hb5⟩; obtain ⟨hc5, hf5⟩ := bcell hb5; have z5_0 : w.heap.size < w5.heap.size := (by have := hb5.size; (try simp at this); omega); have z5_1 : w3.heap.size < w5.heap.size := (by have := hb5.size; (try simp at this); omega); have z5_2 : w4.heap.size < w5.heap.size := (by have := hb5.size; (try simp at this); omega))
        go_wp2_with (go_at_call 14; (with_reducible refine (G6.out _).mono ?_); rintro e w6 ⟨rfl, hb6⟩; obtain ⟨hc6, hf6⟩ := bcell hb6; have z6_0 : w.heap.size < w6.heap.size := (by have := hb6.size; (try simp at this); omega); have z6_1 : w3.heap.size < w6.heap.size := (by have := hb6.size; (try simp at this); omega); have z6_2 : w4.heap.size < w6.heap.size := (by have := hb6.size; (try simp at this); omega); have z6_3 : w5.heap.size < w6.heap.size := (by have := hb6.size; (try simp at this); omega))
        go_wp2
        go_ret
        exact ⟨rfl, (by repeat (first | exact Below.refl _ _ | refine Below.drew ?_ | refine below_drewN ?_ _ | refine Below.al ?_ _ | refine Below.next ?_ (by assumption)))⟩
end Go.Proofs.YtcloajmcfacfnabDoor.cellNots
