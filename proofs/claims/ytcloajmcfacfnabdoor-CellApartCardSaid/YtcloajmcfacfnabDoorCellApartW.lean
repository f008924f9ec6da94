/-
  CellApart: the walk: where the library's tables hold what its text lays, the law answers true; of what was there nothing has turned.
-/
import Derived.Test.YtcloajmcfacfnabDoorDoorEnv
import Derived.Test.YtcloajmcfacfnabDoorAwake2
import Derived.Test.YtcloajmcfacfnabDoorCell2R
import Derived.Test.YtcloajmcfacfnabDoorOrder
import Derived.Test.YtcloajmcfacfnabDoorHeld
import Derived.Test.YtcloajmcfacfnabDoorApartP
import Derived.Deep.RegionHeld3
import Derived.WalkKit
namespace Go.Proofs.YtcloajmcfacfnabDoor.cellApart
open Go.ChangeShapes Go.WideShapes Go.ChangeAt Go.RowKit
set_option linter.unusedVariables false
set_option linter.unusedSimpArgs false

theorem right_size2 {a : Val} (h : rightB a = true) : a.s.size ≤ 60 := by
  rcases right_cases h with rfl | ⟨i, rfl⟩ | ⟨s, rfl, h2⟩ | ⟨x, rfl⟩
  · show (0 : Nat) ≤ 60; decide
  · show (0 : Nat) ≤ 60; decide
  · unfold soundB at h2
    rw [Bool.and_eq_true] at h2
    exact of_decide_eq_true h2.1
  · show (0 : Nat) ≤ 60; decide

set_option maxHeartbeats 2000000 in
theorem walk (a : Val) (oa : ValOk a) (b : Val) (ob : ValOk b) (w : World) (hE : Env w) :
    Calls Tryd.prog 4 #[.agg #[.int .u8 a.k, .int .i64 a.i, .string a.s, .bool a.b], .agg #[.int .u8 b.k, .int .i64 b.i, .string b.s, .bool b.b]] w fun e w' => e = .returned (.bool true) ∧ Below w.heap.size w w' := by
  have ga := rright_any a (by have := oa.s; unfold maxLen at this; exact this)
  have gb := rright_any b (by have := ob.s; unfold maxLen at this; exact this)
  cases ra : rightB a with
  | false =>
    rw [ra] at ga
    have GA := Lib.hid ga
    clear ga gb ra
    go_enter Tryd.func4, Tryd.ntmps4
    go_wp2_with (go_at_call 6; (with_reducible refine (awake2_any _ (hE.next (by repeat (first | exact Below.refl _ _ | refine Below.drew ?_ | refine below_drewN ?_ _ | refine Below.al ?_ _ | refine Below.next ?_ (by assumption))))).mono ?_); rintro e w1 ⟨rfl, hb1⟩; obtain ⟨hc1, hf1⟩ := bcell hb1; have z1_0 : w.heap.size < w1.heap.size := (by have := hb1.size; (try simp at this); omega); have z1_1 : w.heap.size + 1 < w1.heap.size := (by have := hb1.size; (try simp at this); omega))
    go_wp2_with (go_at_call 7; (with_reducible refine (GA.out _).mono ?_); rintro e w2 ⟨rfl, hb2⟩; obtain ⟨hc2, hf2⟩ := bcell hb2; have z2_0 : w.heap.size < w2.heap.size := (by have := hb2.size; (try simp at this); omega); have z2_1 : w.heap.size + 1 < w2.heap.size := (by have := hb2.size; (try simp at this); omega))
    go_wp2
    go_ret
    exact ⟨rfl, (by repeat (first | exact Below.refl _ _ | refine Below.drew ?_ | refine below_drewN ?_ _ | refine Below.al ?_ _ | refine Below.next ?_ (by assumption)))⟩
  | true =>
    rw [ra] at ga
    have GA := Lib.hid ga
    clear ga
    cases rb : rightB b with
    | false =>
      rw [rb] at gb
      have GB := Lib.hid gb
      clear gb ra rb
      go_enter Tryd.func4, Tryd.ntmps4
      go_wp2_with (go_at_call 6; (with_reducible refine (awake2_any _ (hE.next (by repeat (first | exact Below.refl _ _ | refine Below.drew ?_ | refine below_drewN ?_ _ | refine Below.al ?_ _ | refine Below.next ?_ (by assumption))))).mono ?_); rintro e w1 ⟨rfl, hb1⟩; obtain ⟨hc1, hf1⟩ := bcell hb1; have z1_0 : w.heap.size < w1.heap.size := (by have := hb1.size; (try simp at this); omega); have z1_1 : w.heap.size + 1 < w1.heap.size := (by have := hb1.size; (try simp at this); omega))
      go_wp2_with (go_at_call 7; (with_reducible refine (GA.out _).mono ?_); rintro e w2 ⟨rfl, hb2⟩; obtain ⟨hc2, hf2⟩ := bcell hb2; have z2_0 : w.heap.size < w2.heap.size := (by have := hb2.size; (try simp at this); omega); have z2_1 : w.heap.size + 1 < w2.heap.size := (by have := hb2.size; (try simp at this); omega))
      go_wp2_with (go_at_call 7; (with_reducible refine (GB.out _).mono ?_); rintro e w3 ⟨rfl, hb3⟩; obtain ⟨hc3, hf3⟩ := bcell hb3; have z3_0 : w.heap.size < w3.heap.size := (by have := hb3.size; (try simp at this); omega); have z3_1 : w.heap.size + 1 < w3.heap.size := (by have := hb3.size; (try simp at this); omega))
      go_wp2
      go_ret
      exact ⟨rfl, (by repeat (first | exact Below.refl _ _ | refine Below.drew ?_ | refine below_drewN ?_ _ | refine Below.al ?_ _ | refine Below.next ?_ (by assumption)))⟩
    | true =>
      rw [rb] at gb
      have GB := Lib.hid gb
      clear gb
      have hi := bounds_i64 oa.i
      have hj := bounds_i64 ob.i
      have hsa := right_size2 ra
      have hsb := right_size2 rb
      have l1 := fun w h => literal_any a hi (by omega) w h
      have l2 := fun w h => literal_any b hj (by omega) w h
      have g6 := rsame_any a b
      rw [same_eq ra rb] at g6
      have hinj := fun h => lit_inj ra rb h
      cases hs : csame a b with
      | true =>
        obtain rfl := same_is ra rb hs
        rw [hs] at g6
        generalize litL (opn a) = l at *
        have L1 := Lib.hid l1
        have L2 := Lib.hid l2
        have G6 := Lib.hid g6
        clear l1 l2 g6 hs hinj ra rb hi hj hsa hsb
        go_enter Tryd.func4, Tryd.ntmps4
        go_wp2_with (go_at_call 6; (with_reducible refine (awake2_any _ (hE.next (by repeat (first | exact Below.refl _ _ | refine Below.drew ?_ | refine below_drewN ?_ _ | refine Below.al ?_ _ | refine Below.next ?_ (by assumption))))).mono ?_); rintro e w1 ⟨rfl, hb1⟩; obtain ⟨hc1, hf1⟩ := bcell hb1; have z1_0 : w.heap.size < w1.heap.size := (by have := hb1.size; (try simp at this); omega); have z1_1 : w.heap.size + 1 < w1.heap.size := (by have := hb1.size; (try simp at this); omega))
        go_wp2_with (go_at_call 7; (with_reducible refine (GA.out _).mono ?_); rintro e w2 ⟨rfl, hb2⟩; obtain ⟨hc2, hf2⟩ := bcell hb2; have z2_0 : w.heap.size < w2.heap.size := (by have := hb2.size; (try simp at this); omega); have z2_1 : w.heap.size + 1 < w2.heap.size := (by have := hb2.size; (try simp at this); omega))
        go_wp2_with (go_at_call 7; (with_reducible refine (GB.out _).mono ?_); rintro e w3 ⟨rfl, hb3⟩; obtain ⟨hc3, hf3⟩ := bcell hb3; have z3_0 : w.heap.size < w3.heap.size := (by have := hb3.size; (try simp at this); omega); have z3_1 : w.heap.size + 1 < w3.heap.size := (by have := hb3.size; (try simp at this); omega))
        go_wp2
        go_region_held3 (fun w' => w.heap.size + 1 < w'.heap.size ∧ w'.cell? ⟨w.heap.size, 0, none⟩ = some (.int .u8 a.k) ∧ w'.cell? ⟨w.heap.size, 1, none⟩ = some (.int .i64 a.i) ∧ w'.cell? ⟨w.heap.size, 2, none⟩ = some (.string a.s) ∧ w'.cell? ⟨w.heap.size, 3, none⟩ = some (.bool a.b) ∧ w'.cell? ⟨w.heap.size + 1, 0, none⟩ = some (.int .u8 a.k) ∧ w'.cell? ⟨w.heap.size + 1, 1, none⟩ = some (.int .i64 a.i) ∧ w'.cell? ⟨w.heap.size + 1, 2, none⟩ = some (.string a.s) ∧ w'.cell? ⟨w.heap.size + 1, 3, none⟩ = some (.bool a.b)) (first | assumption | simp [*, go_sem]) (first | (go_at_call 10; (with_reducible refine (L1.out _ (hE.next (by repeat (first | exact Below.refl _ _ | refine Below.drew ?_ | refine below_drewN ?_ _ | refine Below.al ?_ _ | refine Below.next ?_ (by assumption))))).mono ?_); rintro e w9 ⟨rfl, hb⟩; obtain ⟨hc, hf⟩ := bcell hb; have hS := held2 (a := a) (b := a) (by assumption) hb) | (go_at_call 10; (with_reducible refine (L2.out _ (hE.next (by repeat (first | exact Below.refl _ _ | refine Below.drew ?_ | refine below_drewN ?_ _ | refine Below.al ?_ _ | refine Below.next ?_ (by assumption))))).mono ?_); rintro e w9 ⟨rfl, hb⟩; obtain ⟨hc, hf⟩ := bcell hb; have hS := held2 (a := a) (b := a) (by assumption) hb) | (go_at_call 11; (with_reducible refine (G6.out _).mono ?_); rintro e w9 ⟨rfl, hb⟩; obtain ⟨hc, hf⟩ := bcell hb; have hS := held2 (a := a) (b := a) (by assumption) hb))
        go_wp2
        go_ret
        exact ⟨by simp [*], (by repeat (first | exact Below.refl _ _ | refine Below.drew ?_ | refine below_drewN ?_ _ | refine Below.al ?_ _ | refine Below.next ?_ (by assumption)))⟩
      | false =>
        have hne : litL (opn a) ≠ litL (opn b) := fun e => by
          have hab := hinj e
          subst hab
          unfold csame at hs
          rw [irrefl ra] at hs
          cases hs
        rw [hs] at g6
        generalize litL (opn a) = l at *
        generalize litL (opn b) = m at *
        have hlm : (l == m) = false := by simpa using hne
        have L1 := Lib.hid l1
        have L2 := Lib.hid l2
        have G6 := Lib.hid g6
        clear l1 l2 g6 hs hinj ra rb hi hj hsa hsb hne
        cases hk : (a.k == b.k) with
        | true =>
          go_enter Tryd.func4, Tryd.ntmps4
          go_wp2_with (go_at_call 6; (with_reducible refine (awake2_any _ (hE.next (by repeat (first | exact Below.refl _ _ | refine Below.drew ?_ | refine below_drewN ?_ _ | refine Below.al ?_ _ | refine Below.next ?_ (by assumption))))).mono ?_); rintro e w1 ⟨rfl, hb1⟩; obtain ⟨hc1, hf1⟩ := bcell hb1; have z1_0 : w.heap.size < w1.heap.size := (by have := hb1.size; (try simp at this); omega); have z1_1 : w.heap.size + 1 < w1.heap.size := (by have := hb1.size; (try simp at this); omega))
          go_wp2_with (go_at_call 7; (with_reducible refine (GA.out _).mono ?_); rintro e w2 ⟨rfl, hb2⟩; obtain ⟨hc2, hf2⟩ := bcell hb2; have z2_0 : w.heap.size < w2.heap.size := (by have := hb2.size; (try simp at this); omega); have z2_1 : w.heap.size + 1 < w2.heap.size := (by have := hb2.size; (try simp at this); omega))
          go_wp2_with (go_at_call 7; (with_reducible refine (GB.out _).mono ?_); rintro e w3 ⟨rfl, hb3⟩; obtain ⟨hc3, hf3⟩ := bcell hb3; have z3_0 : w.heap.size < w3.heap.size := (by have := hb3.size; (try simp at this); omega); have z3_1 : w.heap.size + 1 < w3.heap.size := (by have := hb3.size; (try simp at this); omega))
          go_wp2
          go_region_held3 (fun w' => w.heap.size + 1 < w'.heap.size ∧ w'.cell? ⟨w.heap.size, 0, none⟩ = some (.int .u8 a.k) ∧ w'.cell? ⟨w.heap.size, 1, none⟩ = some (.int .i64 a.i) ∧ w'.cell? ⟨w.heap.size, 2, none⟩ = some (.string a.s) ∧ w'.cell? ⟨w.heap.size, 3, none⟩ = some (.bool a.b) ∧ w'.cell? ⟨w.heap.size + 1, 0, none⟩ = some (.int .u8 b.k) ∧ w'.cell? ⟨w.heap.size + 1, 1, none⟩ = some (.int .i64 b.i) ∧ w'.cell? ⟨w.heap.size + 1, 2, none⟩ = some (.string b.s) ∧ w'.cell? ⟨w.heap.size + 1, 3, none⟩ = some (.bool b.b)) (first | assumption | simp [*, go_sem]) (first | (go_at_call 10; (with_reducible refine (L1.out _ (hE.next (by repeat (first | exact Below.refl _ _ | refine Below.drew ?_ | refine below_drewN ?_ _ | refine Below.al ?_ _ | refine Below.next ?_ (by assumption))))).mono ?_); rintro e w9 ⟨rfl, hb⟩; obtain ⟨hc, hf⟩ := bcell hb; have hS := held2 (a := a) (b := b) (by assumption) hb) | (go_at_call 10; (with_reducible refine (L2.out _ (hE.next (by repeat (first | exact Below.refl _ _ | refine Below.drew ?_ | refine below_drewN ?_ _ | refine Below.al ?_ _ | refine Below.next ?_ (by assumption))))).mono ?_); rintro e w9 ⟨rfl, hb⟩; obtain ⟨hc, hf⟩ := bcell hb; have hS := held2 (a := a) (b := b) (by assumption) hb) | (go_at_call 11; (with_reducible refine (G6.out _).mono ?_); rintro e w9 ⟨rfl, hb⟩; obtain ⟨hc, hf⟩ := bcell hb; have hS := held2 (a := a) (b := b) (by assumption) hb))
          go_wp2
          go_ret
          exact ⟨by simp [*], (by repeat (first | exact Below.refl _ _ | refine Below.drew ?_ | refine below_drewN ?_ _ | refine Below.al ?_ _ | refine Below.next ?_ (by assumption)))⟩
        | false =>
          go_enter Tryd.func4, Tryd.ntmps4
          go_wp2_with (go_at_call 6; (with_reducible refine (awake2_any _ (hE.next (by repeat (first | exact Below.refl _ _ | refine Below.drew ?_ | refine below_drewN ?_ _ | refine Below.al ?_ _ | refine Below.next ?_ (by assumption))))).mono ?_); rintro e w1 ⟨rfl, hb1⟩; obtain ⟨hc1, hf1⟩ := bcell hb1; have z1_0 : w.heap.size < w1.heap.size := (by have := hb1.size; (try simp at this); omega); have z1_1 : w.heap.size + 1 < w1.heap.size := (by have := hb1.size; (try simp at this); omega))
          go_wp2_with (go_at_call 7; (with_reducible refine (GA.out _).mono ?_); rintro e w2 ⟨rfl, hb2⟩; obtain ⟨hc2, hf2⟩ := bcell hb2; have z2_0 : w.heap.size < w2.heap.size := (by have := hb2.size; (try simp at this); omega); have z2_1 : w.heap.size + 1 < w2.heap.size := (by have := hb2.size; (try simp at this); omega))
          go_wp2_with (go_at_call 7; (with_reducible refine (GB.out _).mono ?_); rintro e w3 ⟨rfl, hb3⟩; obtain ⟨hc3, hf3⟩ := bcell hb3; have z3_0 : w.heap.size < w3.heap.size := (by have := hb3.size; (try simp at this); omega); have z3_1 : w.heap.size + 1 < w3.heap.size := (by have := hb3.size; (try simp at this); omega))
          go_wp2
          refine wp_region_held_drew (S := (fun w' => w.heap.size + 1 < w'.heap.size ∧ w'.cell? ⟨w.heap.size, 0, none⟩ = some (.int .u8 a.k) ∧ w'.cell? ⟨w.heap.size, 1, none⟩ = some (.int .i64 a.i) ∧ w'.cell? ⟨w.heap.size, 2, none⟩ = some (.string a.s) ∧ w'.cell? ⟨w.heap.size, 3, none⟩ = some (.bool a.b) ∧ w'.cell? ⟨w.heap.size + 1, 0, none⟩ = some (.int .u8 b.k) ∧ w'.cell? ⟨w.heap.size + 1, 1, none⟩ = some (.int .i64 b.i) ∧ w'.cell? ⟨w.heap.size + 1, 2, none⟩ = some (.string b.s) ∧ w'.cell? ⟨w.heap.size + 1, 3, none⟩ = some (.bool b.b))) (by kernel_rfl) ?_ (fun hHeld => ?_)
          · (first | assumption | simp [*, go_sem])
          refine wpAnyH_take (i := 0) (oi := { dst := some 15, op := Go.Op.load 24 (Go.Operand.tmp 2), type := 24, pos := "law.go:131", after := #[], guard := none }) (v := ?v1) rfl (by kernel_rfl) (by kernel_rfl) (by kernel_rfl) (fun _ _ _ h => h) (Or.inl ⟨by rfl, ?hy1⟩) (by assumption) ?rest1
          case hy1 => (intro w' hSw; (try dsimp only at hSw); go_simp <;> with_reducible rfl)
          (try simp only [Act.put, List.setIfInBounds_toArray, List.set_cons_zero, List.set_cons_succ])
          refine wpAnyH_take (i := 2) (oi := { dst := some 17, op := Go.Op.load 24 (Go.Operand.tmp 3), type := 24, pos := "law.go:131", after := #[], guard := none }) (v := ?v2) rfl (by kernel_rfl) (by kernel_rfl) (by kernel_rfl) (fun _ _ _ h => h) (Or.inl ⟨by rfl, ?hy2⟩) (by assumption) ?rest2
          case hy2 => (intro w' hSw; (try dsimp only at hSw); go_simp <;> with_reducible rfl)
          (try simp only [Act.put, List.setIfInBounds_toArray, List.set_cons_zero, List.set_cons_succ])
          refine wpAnyH_take (i := 5) (oi := { dst := some 20, op := Go.Op.fieldAddr 24 (Go.Operand.tmp 2) 0, type := 0, pos := "law.go:131", after := #[], guard := none }) (v := ?v3) rfl (by kernel_rfl) (by kernel_rfl) (by kernel_rfl) (fun _ _ _ h => h) (Or.inl ⟨by rfl, ?hy3⟩) (by assumption) ?rest3
          case hy3 => (intro w' hSw; (try dsimp only at hSw); go_simp <;> with_reducible rfl)
          (try simp only [Act.put, List.setIfInBounds_toArray, List.set_cons_zero, List.set_cons_succ])
          refine wpAnyH_take (i := 6) (oi := { dst := some 21, op := Go.Op.load 22 (Go.Operand.tmp 20), type := 22, pos := "law.go:131", after := #[{ on := 5, ground := Go.Ground.data }], guard := none }) (v := ?v4) rfl (by kernel_rfl) (by kernel_rfl) (by kernel_rfl) (fun _ _ _ h => h) (Or.inl ⟨by rfl, ?hy4⟩) (by assumption) ?rest4
          case hy4 => (intro w' hSw; (try dsimp only at hSw); go_simp <;> with_reducible rfl)
          (try simp only [Act.put, List.setIfInBounds_toArray, List.set_cons_zero, List.set_cons_succ])
          refine wpAnyH_take (i := 7) (oi := { dst := some 22, op := Go.Op.fieldAddr 24 (Go.Operand.tmp 3) 0, type := 0, pos := "law.go:131", after := #[], guard := none }) (v := ?v5) rfl (by kernel_rfl) (by kernel_rfl) (by kernel_rfl) (fun _ _ _ h => h) (Or.inl ⟨by rfl, ?hy5⟩) (by assumption) ?rest5
          case hy5 => (intro w' hSw; (try dsimp only at hSw); go_simp <;> with_reducible rfl)
          (try simp only [Act.put, List.setIfInBounds_toArray, List.set_cons_zero, List.set_cons_succ])
          refine wpAnyH_take (i := 8) (oi := { dst := some 23, op := Go.Op.load 22 (Go.Operand.tmp 22), type := 22, pos := "law.go:131", after := #[{ on := 7, ground := Go.Ground.data }], guard := none }) (v := ?v6) rfl (by kernel_rfl) (by kernel_rfl) (by kernel_rfl) (fun _ _ _ h => h) (Or.inl ⟨by rfl, ?hy6⟩) (by assumption) ?rest6
          case hy6 => (intro w' hSw; (try dsimp only at hSw); go_simp <;> with_reducible rfl)
          (try simp only [Act.put, List.setIfInBounds_toArray, List.set_cons_zero, List.set_cons_succ])
          refine wpAnyH_take (i := 9) (oi := { dst := some 24, op := Go.Op.binOp Go.BinOp.eql 22 (Go.Operand.tmp 21) (Go.Operand.tmp 23) 22, type := 4, pos := "law.go:131", after := #[{ on := 6, ground := Go.Ground.data }, { on := 8, ground := Go.Ground.data }], guard := none }) (v := ?v7) rfl (by kernel_rfl) (by kernel_rfl) (by kernel_rfl) (fun _ _ _ h => h) (Or.inl ⟨by rfl, ?hy7⟩) (by assumption) ?rest7
          case hy7 => (intro w' hSw; (try dsimp only at hSw); go_simp <;> with_reducible rfl)
          (try simp only [Act.put, List.setIfInBounds_toArray, List.set_cons_zero, List.set_cons_succ])
          refine wpAnyH_ready (rs := [1]) (by kernel_rfl) (by simp) ?_
          refine AllReadyH.cons (o := { dst := some 16, op := Go.Op.call { callee := Go.Callee.value (Go.Operand.func 10), args := #[Go.Operand.tmp 15], argTypes := #[24] }, type := 9, pos := "law.go:131", after := #[{ on := 0, ground := Go.Ground.data }], guard := none }) rfl (fun K hK => ?_) AllReadyH.nil
          go_simp
          (go_at_call 10; (with_reducible refine (L1.out _ (hE.next (by repeat (first | exact Below.refl _ _ | refine Below.drew ?_ | refine below_drewN ?_ _ | refine Below.al ?_ _ | refine Below.next ?_ (by assumption))))).mono ?_); rintro e w9 ⟨rfl, hb⟩; obtain ⟨hc, hf⟩ := bcell hb; have hS := held2 (a := a) (b := b) (by assumption) hb)
          refine hK.out _ _ ?_ (fun hHeld => ?_)
          · (first | assumption | simp [*, go_sem])
          clear hK K
          (try simp only [Act.put, List.setIfInBounds_toArray, List.set_cons_zero, List.set_cons_succ])
          refine wpAnyH_ready (rs := [3]) (by kernel_rfl) (by simp) ?_
          refine AllReadyH.cons (o := { dst := some 18, op := Go.Op.call { callee := Go.Callee.value (Go.Operand.func 10), args := #[Go.Operand.tmp 17], argTypes := #[24] }, type := 9, pos := "law.go:131", after := #[{ on := 2, ground := Go.Ground.data }, { on := 1, ground := Go.Ground.chain }], guard := none }) rfl (fun K hK => ?_) AllReadyH.nil
          go_simp
          (go_at_call 10; (with_reducible refine (L2.out _ (hE.next (by repeat (first | exact Below.refl _ _ | refine Below.drew ?_ | refine below_drewN ?_ _ | refine Below.al ?_ _ | refine Below.next ?_ (by assumption))))).mono ?_); rintro e w9 ⟨rfl, hb⟩; obtain ⟨hc, hf⟩ := bcell hb; have hS := held2 (a := a) (b := b) (by assumption) hb)
          refine hK.out _ _ ?_ (fun hHeld => ?_)
          · (first | assumption | simp [*, go_sem])
          clear hK K
          (try simp only [Act.put, List.setIfInBounds_toArray, List.set_cons_zero, List.set_cons_succ])
          refine wpAnyH_take (i := 4) (oi := { dst := some 19, op := Go.Op.binOp Go.BinOp.eql 9 (Go.Operand.tmp 16) (Go.Operand.tmp 18) 9, type := 4, pos := "law.go:131", after := #[{ on := 1, ground := Go.Ground.data }, { on := 3, ground := Go.Ground.data }], guard := none }) (v := ?v8) rfl (by kernel_rfl) (by kernel_rfl) (by kernel_rfl) (fun _ _ _ h => h) (Or.inl ⟨by rfl, ?hy8⟩) (by assumption) ?rest8
          case hy8 => (intro w' hSw; (try dsimp only at hSw); go_simp <;> with_reducible rfl)
          (try simp only [Act.put, List.setIfInBounds_toArray, List.set_cons_zero, List.set_cons_succ])
          refine wpAnyH_take (i := 10) (oi := { dst := some 25, op := Go.Op.move (Go.Operand.tmp 24), type := 4, pos := "law.go:131", after := #[{ on := 9, ground := Go.Ground.data }, { on := 3, ground := Go.Ground.chain }], guard := none }) (v := ?v9) rfl (by kernel_rfl) (by kernel_rfl) (by kernel_rfl) (fun _ _ _ h => h) (Or.inl ⟨by rfl, ?hy9⟩) (by assumption) ?rest9
          case hy9 => (intro w' hSw; (try dsimp only at hSw); go_simp <;> with_reducible rfl)
          (try simp only [Act.put, List.setIfInBounds_toArray, List.set_cons_zero, List.set_cons_succ])
          refine wpAnyH_take (i := 11) (oi := { dst := some 26, op := Go.Op.load 24 (Go.Operand.tmp 2), type := 24, pos := "law.go:131", after := #[{ on := 10, ground := Go.Ground.guard }], guard := some (10, true) }) (v := undef) rfl (by kernel_rfl) (by kernel_rfl) (by kernel_rfl) (fun _ _ _ h => h) (Or.inr ⟨by rfl, rfl⟩) (by assumption) ?_
          (try simp only [Act.put, List.setIfInBounds_toArray, List.set_cons_zero, List.set_cons_succ])
          refine wpAnyH_take (i := 12) (oi := { dst := some 27, op := Go.Op.load 24 (Go.Operand.tmp 3), type := 24, pos := "law.go:131", after := #[{ on := 10, ground := Go.Ground.guard }], guard := some (10, true) }) (v := undef) rfl (by kernel_rfl) (by kernel_rfl) (by kernel_rfl) (fun _ _ _ h => h) (Or.inr ⟨by rfl, rfl⟩) (by assumption) ?_
          (try simp only [Act.put, List.setIfInBounds_toArray, List.set_cons_zero, List.set_cons_succ])
          refine wpAnyH_take (i := 13) (oi := { dst := some 28, op := Go.Op.call { callee := Go.Callee.value (Go.Operand.func 11), args := #[Go.Operand.tmp 26, Go.Operand.tmp 27], argTypes := #[24, 24] }, type := 4, pos := "law.go:131", after := #[{ on := 11, ground := Go.Ground.data }, { on := 12, ground := Go.Ground.data }, { on := 10, ground := Go.Ground.chain }, { on := 10, ground := Go.Ground.guard }], guard := some (10, true) }) (v := undef) rfl (by kernel_rfl) (by kernel_rfl) (by kernel_rfl) (fun _ _ _ h => h) (Or.inr ⟨by rfl, rfl⟩) (by assumption) ?_
          (try simp only [Act.put, List.setIfInBounds_toArray, List.set_cons_zero, List.set_cons_succ])
          refine wpAnyH_take (i := 14) (oi := { dst := some 29, op := Go.Op.pick (Go.Operand.tmp 25) (Go.Operand.tmp 28) (Go.Operand.const (Go.Value.bool false)), type := 4, pos := "law.go:131", after := #[{ on := 10, ground := Go.Ground.data }, { on := 13, ground := Go.Ground.data }], guard := none }) (v := ?v10) rfl (by kernel_rfl) (by kernel_rfl) (by kernel_rfl) (fun _ _ _ h => h) (Or.inl ⟨by rfl, ?hy10⟩) (by assumption) ?rest10
          case hy10 => (intro w' hSw; (try dsimp only at hSw); go_simp <;> with_reducible rfl)
          (try simp only [Act.put, List.setIfInBounds_toArray, List.set_cons_zero, List.set_cons_succ])
          refine wpAnyH_take (i := 15) (oi := { dst := some 30, op := Go.Op.binOp Go.BinOp.eql 4 (Go.Operand.tmp 19) (Go.Operand.tmp 29) 4, type := 4, pos := "law.go:131", after := #[{ on := 4, ground := Go.Ground.data }, { on := 14, ground := Go.Ground.data }], guard := none }) (v := ?v11) rfl (by kernel_rfl) (by kernel_rfl) (by kernel_rfl) (fun _ _ _ h => h) (Or.inl ⟨by rfl, ?hy11⟩) (by assumption) ?rest11
          case hy11 => (intro w' hSw; (try dsimp only at hSw); go_simp <;> with_reducible rfl)
          (try simp only [Act.put, List.setIfInBounds_toArray, List.set_cons_zero, List.set_cons_succ])
          refine wpAnyH_take (i := 16) (oi := { dst := some 4, op := Go.Op.assign (Go.Operand.tmp 30), type := 4, pos := "law.go:131", after := #[{ on := 15, ground := Go.Ground.data }, { on := 13, ground := Go.Ground.chain }, { on := 0, ground := Go.Ground.phase }, { on := 1, ground := Go.Ground.phase }, { on := 2, ground := Go.Ground.phase }, { on := 3, ground := Go.Ground.phase }, { on := 4, ground := Go.Ground.phase }, { on := 5, ground := Go.Ground.phase }, { on := 6, ground := Go.Ground.phase }, { on := 7, ground := Go.Ground.phase }, { on := 8, ground := Go.Ground.phase }, { on := 9, ground := Go.Ground.phase }, { on := 10, ground := Go.Ground.phase }, { on := 11, ground := Go.Ground.phase }, { on := 12, ground := Go.Ground.phase }, { on := 13, ground := Go.Ground.phase }, { on := 14, ground := Go.Ground.phase }, { on := 15, ground := Go.Ground.phase }], guard := none }) (v := ?v12) rfl (by kernel_rfl) (by kernel_rfl) (by kernel_rfl) (fun _ _ _ h => h) (Or.inl ⟨by rfl, ?hy12⟩) (by assumption) ?rest12
          case hy12 => (intro w' hSw; (try dsimp only at hSw); go_simp <;> with_reducible rfl)
          (try simp only [Act.put, List.setIfInBounds_toArray, List.set_cons_zero, List.set_cons_succ])
          refine wpAnyH_done (by kernel_rfl) ?_ _
          go_wp2
          go_ret
          exact ⟨by simp [*], (by repeat (first | exact Below.refl _ _ | refine Below.drew ?_ | refine below_drewN ?_ _ | refine Below.al ?_ _ | refine Below.next ?_ (by assumption)))⟩
end Go.Proofs.YtcloajmcfacfnabDoor.cellApart
