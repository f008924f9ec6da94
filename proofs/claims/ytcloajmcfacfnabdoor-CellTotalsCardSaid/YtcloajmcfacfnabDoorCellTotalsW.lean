/-
  CellTotals: the walk: where the library's tables hold what its text lays, the law answers true; of what was there nothing has turned.
-/
import Derived.Test.YtcloajmcfacfnabDoorDoorEnv
import Derived.Test.YtcloajmcfacfnabDoorAwake2
import Derived.Test.YtcloajmcfacfnabDoorCell2R
import Derived.Test.YtcloajmcfacfnabDoorOrder
import Derived.Test.YtcloajmcfacfnabDoorHeld
import Derived.Deep.RegionHeld3
import Derived.Outline
import Derived.WalkKit
namespace Go.Proofs.YtcloajmcfacfnabDoor.cellTotals
open Go.ChangeShapes Go.WideShapes Go.ChangeAt Go.RowKit
set_option linter.unusedVariables false


set_option maxHeartbeats 2000000 in
theorem walk (a : Val) (oa : ValOk a) (b : Val) (ob : ValOk b) (w : World) (hE : Env w) :
    Calls Tryd.prog 3 #[.agg #[.int .u8 a.k, .int .i64 a.i, .string a.s, .bool a.b], .agg #[.int .u8 b.k, .int .i64 b.i, .string b.s, .bool b.b]] w fun e w' => e = .returned (.bool true) ∧ Below w.heap.size w w' := by
  have ga := rright_any a (by have := oa.s; unfold maxLen at this; exact this)
  have gb := rright_any b (by have := ob.s; unfold maxLen at this; exact this)
  cases ra : rightB a with
  | false =>
    rw [ra] at ga
    have GA := Lib.hid ga
    clear ga gb ra
    go_enter Tryd.func3, Tryd.ntmps3
    go_wp2_with (go_at_call 6; (with_reducible refine (awake2_any _ (hE.next (by repeat (first | exact Below.refl _ _ | refine Below.drew ?_ | refine below_drewN ?_ _ | refine Below.al ?_ _ | refine Below.next ?_ (by assumption))))).mono ?_); rintro e w1 ⟨rfl, hb1⟩; obtain ⟨hc1, hf1⟩ := bcell hb1; have z1_0 : w.heap.size < w1.heap.size := (by have := hb1.size; (try simp at this); omega); have z1_1 : w.heap.size + 1 < w1.heap.size := (by have := hb1.size; (try simp at this); omega))
    go_wp2_with (go_at_call 7; (with_reducible refine (GA.out _).mono ?_); rintro e w2 ⟨rfl, hb2⟩; obtain ⟨hc2, hf2⟩ := bcell hb2; have z2_0 : w.heap.size < w2.heap.size := (by have := hb2.size; (try simp at this); omega); have z2_1 : w.heap.size + 1 < w2.heap.size := (by have := hb2.size; (try simp at this); omega))
    go_wp2
    go_ret
    exact ⟨rfl, (by repeat (first | exact Below.refl _ _ | refine Below.drew ?_ | refine below_drewN ?_ _ | refine Below.al ?_ _ | refine Below.next ?_ (by assumption)))⟩
  | true =>
    rw [ra] at ga
    have GA := Lib.hid ga
    clear ga
    cases rb : rightB b with
    | false =>
      rw [rb] at gb
      have GB := Lib.hid gb
      clear gb ra rb
      go_enter Tryd.func3, Tryd.ntmps3
      go_wp2_with (go_at_call 6; (with_reducible refine (awake2_any _ (hE.next (by repeat (first | exact Below.refl _ _ | refine Below.drew ?_ | refine below_drewN ?_ _ | refine Below.al ?_ _ | refine Below.next ?_ (by assumption))))).mono ?_); rintro e w1 ⟨rfl, hb1⟩; obtain ⟨hc1, hf1⟩ := bcell hb1; have z1_0 : w.heap.size < w1.heap.size := (by have := hb1.size; (try simp at this); omega); have z1_1 : w.heap.size + 1 < w1.heap.size := (by have := hb1.size; (try simp at this); omega))
      go_wp2_with (go_at_call 7; (with_reducible refine (GA.out _).mono ?_); rintro e w2 ⟨rfl, hb2⟩; obtain ⟨hc2, hf2⟩ := bcell hb2; have z2_0 : w.heap.size < w2.heap.size := (by have := hb2.size; (try simp at this); omega); have z2_1 : w.heap.size + 1 < w2.heap.size := (by have := hb2.size; (try simp at this); omega))
      go_wp2_with (go_at_call 7; (with_reducible refine (GB.out _).mono ?_); rintro e w3 ⟨rfl, hb3⟩; obtain ⟨hc3, hf3⟩ := bcell hb3; have z3_0 : w.heap.size < w3.heap.size := (by have := hb3.size; (try simp at this); omega); have z3_1 : w.heap.size + 1 < w3.heap.size := (by have := hb3.size; (try simp at this); omega))
      go_wp2
      go_ret
      exact ⟨rfl, (by repeat (first | exact Below.refl _ _ | refine Below.drew ?_ | refine below_drewN ?_ _ | refine Below.al ?_ _ | refine Below.next ?_ (by assumption)))⟩
    | true =>
      rw [rb] at gb
      have GB := Lib.hid gb
      clear gb
      have hn := fun h => anti ra rb h
      have hir := irrefl ra
      have g1 := less_any a b
      have g2 := less_any b a
      have g3 := same_any a b
      have g4 := same_any a a
      have g5 := less_any a a
      rw [show csame a a = true by unfold csame; rw [hir]; rfl] at g4
      rw [hir] at g5
      unfold csame at g3
      generalize cless a b = l1 at *
      generalize cless b a = l2 at *
      have G4 := Lib.hid g4
      have G5 := Lib.hid g5
      clear g4 g5 hir ra rb
      cases l1 with
      | true =>
        obtain rfl := hn rfl
        clear hn
        simp only [Bool.not_true, Bool.not_false, Bool.false_and] at g3
        have G1 := Lib.hid g1
        have G2 := Lib.hid g2
        have G3 := Lib.hid g3
        clear g1 g2 g3
        go_enter Tryd.func3, Tryd.ntmps3
        go_wp2_with (go_at_call 6; (with_reducible refine (awake2_any _ (hE.next (by repeat (first | exact Below.refl _ _ | refine Below.drew ?_ | refine below_drewN ?_ _ | refine Below.al ?_ _ | refine Below.next ?_ (by assumption))))).mono ?_); rintro e w1 ⟨rfl, hb1⟩; obtain ⟨hc1, hf1⟩ := bcell hb1; have z1_0 : w.heap.size < w1.heap.size := (by have := hb1.size; (try simp at this); omega); have z1_1 : w.heap.size + 1 < w1.heap.size := (by have := hb1.size; (try simp at this); omega))
        go_wp2_with (go_at_call 7; (with_reducible refine (GA.out _).mono ?_); rintro e w2 ⟨rfl, hb2⟩; obtain ⟨hc2, hf2⟩ := bcell hb2; have z2_0 : w.heap.size < w2.heap.size := (by have := hb2.size; (try simp at this); omega); have z2_1 : w.heap.size + 1 < w2.heap.size := (by have := hb2.size; (try simp at this); omega))
        go_wp2_with (go_at_call 7; (with_reducible refine (GB.out _).mono ?_); rintro e w3 ⟨rfl, hb3⟩; obtain ⟨hc3, hf3⟩ := bcell hb3; have z3_0 : w.heap.size < w3.heap.size := (by have := hb3.size; (try simp at this); omega); have z3_1 : w.heap.size + 1 < w3.heap.size := (by have := hb3.size; (try simp at this); omega))
        go_wp2
        go_region_held3 (fun w' => w.heap.size + 1 < w'.heap.size ∧ w'.cell? ⟨w.heap.size, 0, none⟩ = some (.int .u8 a.k) ∧ w'.cell? ⟨w.heap.size, 1, none⟩ = some (.int .i64 a.i) ∧ w'.cell? ⟨w.heap.size, 2, none⟩ = some (.string a.s) ∧ w'.cell? ⟨w.heap.size, 3, none⟩ = some (.bool a.b) ∧ w'.cell? ⟨w.heap.size + 1, 0, none⟩ = some (.int .u8 b.k) ∧ w'.cell? ⟨w.heap.size + 1, 1, none⟩ = some (.int .i64 b.i) ∧ w'.cell? ⟨w.heap.size + 1, 2, none⟩ = some (.string b.s) ∧ w'.cell? ⟨w.heap.size + 1, 3, none⟩ = some (.bool b.b)) (first | assumption | exact held2 (a := a) (b := b) (by assumption) ((Below.refl _ _).alloc (Nat.le_refl _) _) | simp [*, go_sem]) (first | (go_at_call 8; (with_reducible refine (G1.out _).mono ?_); rintro e w9 ⟨rfl, hb⟩; obtain ⟨hc, hf⟩ := bcell hb; have hS := held2 (a := a) (b := b) (by assumption) hb) | (go_at_call 8; (with_reducible refine (G2.out _).mono ?_); rintro e w9 ⟨rfl, hb⟩; obtain ⟨hc, hf⟩ := bcell hb; have hS := held2 (a := a) (b := b) (by assumption) hb) | (go_at_call 9; (with_reducible refine (G3.out _).mono ?_); rintro e w9 ⟨rfl, hb⟩; obtain ⟨hc, hf⟩ := bcell hb; have hS := held2 (a := a) (b := b) (by assumption) hb))
        go_wp2
        have hS9 : w.heap.size + 1 < w9.heap.size ∧ w9.cell? ⟨w.heap.size, 0, none⟩ = some (.int .u8 a.k) ∧ w9.cell? ⟨w.heap.size, 1, none⟩ = some (.int .i64 a.i) ∧ w9.cell? ⟨w.heap.size, 2, none⟩ = some (.string a.s) ∧ w9.cell? ⟨w.heap.size, 3, none⟩ = some (.bool a.b) ∧ w9.cell? ⟨w.heap.size + 1, 0, none⟩ = some (.int .u8 b.k) ∧ w9.cell? ⟨w.heap.size + 1, 1, none⟩ = some (.int .i64 b.i) ∧ w9.cell? ⟨w.heap.size + 1, 2, none⟩ = some (.string b.s) ∧ w9.cell? ⟨w.heap.size + 1, 3, none⟩ = some (.bool b.b) := by assumption
        obtain ⟨y0, c0, c1, c2, c3, c4, c5, c6, c7⟩ := hS9
        have y1 : w.heap.size < w9.heap.size := by omega
        refine wp_loop_rounds 4 ?_
        rw [rounds_succ]
        go_wp2
        rw [rounds_succ]
        go_wp2
        rw [rounds_succ]
        go_wp2
        rw [rounds_succ]
        go_wp2_with (go_at_call 9; (with_reducible refine (G4.out _).mono ?_); rintro e w10 ⟨rfl, hb10⟩; obtain ⟨hc10, hf10⟩ := bcell hb10; have z10_0 : w.heap.size < w10.heap.size := (by have := hb10.size; (try simp at this); omega); have z10_1 : w.heap.size + 1 < w10.heap.size := (by have := hb10.size; (try simp at this); omega))
        go_wp2_with (go_at_call 8; (with_reducible refine (G5.out _).mono ?_); rintro e w11 ⟨rfl, hb11⟩; obtain ⟨hc11, hf11⟩ := bcell hb11; have z11_0 : w.heap.size < w11.heap.size := (by have := hb11.size; (try simp at this); omega); have z11_1 : w.heap.size + 1 < w11.heap.size := (by have := hb11.size; (try simp at this); omega))
        go_wp2
        go_ret
        exact ⟨rfl, (by repeat (first | exact Below.refl _ _ | refine Below.drew ?_ | refine below_drewN ?_ _ | refine Below.al ?_ _ | refine Below.next ?_ (by assumption)))⟩
      | false =>
        clear hn
        cases l2
        all_goals
          simp only [Bool.not_true, Bool.not_false, Bool.true_and] at g3
          have G1 := Lib.hid g1
          have G2 := Lib.hid g2
          have G3 := Lib.hid g3
          clear g1 g2 g3
          go_enter Tryd.func3, Tryd.ntmps3
          go_wp2_with (go_at_call 6; (with_reducible refine (awake2_any _ (hE.next (by repeat (first | exact Below.refl _ _ | refine Below.drew ?_ | refine below_drewN ?_ _ | refine Below.al ?_ _ | refine Below.next ?_ (by assumption))))).mono ?_); rintro e w1 ⟨rfl, hb1⟩; obtain ⟨hc1, hf1⟩ := bcell hb1; have z1_0 : w.heap.size < w1.heap.size := (by have := hb1.size; (try simp at this); omega); have z1_1 : w.heap.size + 1 < w1.heap.size := (by have := hb1.size; (try simp at this); omega))
          go_wp2_with (go_at_call 7; (with_reducible refine (GA.out _).mono ?_); rintro e w2 ⟨rfl, hb2⟩; obtain ⟨hc2, hf2⟩ := bcell hb2; have z2_0 : w.heap.size < w2.heap.size := (by have := hb2.size; (try simp at this); omega); have z2_1 : w.heap.size + 1 < w2.heap.size := (by have := hb2.size; (try simp at this); omega))
          go_wp2_with (go_at_call 7; (with_reducible refine (GB.out _).mono ?_); rintro e w3 ⟨rfl, hb3⟩; obtain ⟨hc3, hf3⟩ := bcell hb3; have z3_0 : w.heap.size < w3.heap.size := (by have := hb3.size; (try simp at this); omega); have z3_1 : w.heap.size + 1 < w3.heap.size := (by have := hb3.size; (try simp at this); omega))
          go_wp2
          go_region_held3 (fun w' => w.heap.size + 1 < w'.heap.size ∧ w'.cell? ⟨w.heap.size, 0, none⟩ = some (.int .u8 a.k) ∧ w'.cell? ⟨w.heap.size, 1, none⟩ = some (.int .i64 a.i) ∧ w'.cell? ⟨w.heap.size, 2, none⟩ = some (.string a.s) ∧ w'.cell? ⟨w.heap.size, 3, none⟩ = some (.bool a.b) ∧ w'.cell? ⟨w.heap.size + 1, 0, none⟩ = some (.int .u8 b.k) ∧ w'.cell? ⟨w.heap.size + 1, 1, none⟩ = some (.int .i64 b.i) ∧ w'.cell? ⟨w.heap.size + 1, 2, none⟩ = some (.string b.s) ∧ w'.cell? ⟨w.heap.size + 1, 3, none⟩ = some (.bool b.b)) (first | assumption | exact held2 (a := a) (b := b) (by assumption) ((Below.refl _ _).alloc (Nat.le_refl _) _) | simp [*, go_sem]) (first | (go_at_call 8; (with_reducible refine (G1.out _).mono ?_); rintro e w9 ⟨rfl, hb⟩; obtain ⟨hc, hf⟩ := bcell hb; have hS := held2 (a := a) (b := b) (by assumption) hb) | (go_at_call 8; (with_reducible refine (G2.out _).mono ?_); rintro e w9 ⟨rfl, hb⟩; obtain ⟨hc, hf⟩ := bcell hb; have hS := held2 (a := a) (b := b) (by assumption) hb) | (go_at_call 9; (with_reducible refine (G3.out _).mono ?_); rintro e w9 ⟨rfl, hb⟩; obtain ⟨hc, hf⟩ := bcell hb; have hS := held2 (a := a) (b := b) (by assumption) hb))
          go_wp2
          have hS9 : w.heap.size + 1 < w9.heap.size ∧ w9.cell? ⟨w.heap.size, 0, none⟩ = some (.int .u8 a.k) ∧ w9.cell? ⟨w.heap.size, 1, none⟩ = some (.int .i64 a.i) ∧ w9.cell? ⟨w.heap.size, 2, none⟩ = some (.string a.s) ∧ w9.cell? ⟨w.heap.size, 3, none⟩ = some (.bool a.b) ∧ w9.cell? ⟨w.heap.size + 1, 0, none⟩ = some (.int .u8 b.k) ∧ w9.cell? ⟨w.heap.size + 1, 1, none⟩ = some (.int .i64 b.i) ∧ w9.cell? ⟨w.heap.size + 1, 2, none⟩ = some (.string b.s) ∧ w9.cell? ⟨w.heap.size + 1, 3, none⟩ = some (.bool b.b) := by assumption
          obtain ⟨y0, c0, c1, c2, c3, c4, c5, c6, c7⟩ := hS9
          have y1 : w.heap.size < w9.heap.size := by omega
          refine wp_loop_rounds 4 ?_
          rw [rounds_succ]
          go_wp2
          rw [rounds_succ]
          go_wp2
          rw [rounds_succ]
          go_wp2
          rw [rounds_succ]
          go_wp2_with (go_at_call 9; (with_reducible refine (G4.out _).mono ?_); rintro e w10 ⟨rfl, hb10⟩; obtain ⟨hc10, hf10⟩ := bcell hb10; have z10_0 : w.heap.size < w10.heap.size := (by have := hb10.size; (try simp at this); omega); have z10_1 : w.heap.size + 1 < w10.heap.size := (by have := hb10.size; (try simp at this); omega))
          go_wp2_with (go_at_call 8; (with_reducible refine (G5.out _).mono ?_); rintro e w11 ⟨rfl, hb11⟩; obtain ⟨hc11, hf11⟩ := bcell hb11; have z11_0 : w.heap.size < w11.heap.size := (by have := hb11.size; (try simp at this); omega); have z11_1 : w.heap.size + 1 < w11.heap.size := (by have := hb11.size; (try simp at this); omega))
          go_wp2
          go_ret
          exact ⟨rfl, (by repeat (first | exact Below.refl _ _ | refine Below.drew ?_ | refine below_drewN ?_ _ | refine Below.al ?_ _ | refine Below.next ?_ (by assumption)))⟩
end Go.Proofs.YtcloajmcfacfnabDoor.cellTotals
