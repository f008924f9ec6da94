/-
  CellMorgan: the walk: where the library's tables hold what its text lays, the law answers true; of what was there nothing has turned.
-/
import Derived.Test.YtcloajmcfacfnaaDoorDoorEnv
import Derived.Test.YtcloajmcfacfnaaDoorAwake2
import Derived.Test.YtcloajmcfacfnaaDoorCell2R
import Derived.WalkKit
namespace Go.Proofs.YtcloajmcfacfnaaDoor.cellMorgan
open Go.ChangeShapes Go.WideShapes Go.ChangeAt Go.RowKit
set_option linter.unusedVariables false


theorem morgan {a b : Val} (he : joine (opn a) (opn b) = 0) : note (opn a) = 0 ∧ note (opn b) = 0 ∧ joine (opn (notv (opn a))) (opn (notv (opn b))) = 0 ∧
    joinv (opn (notv (opn a))) (opn (notv (opn b))) true = notv (opn (joinv (opn a) (opn b) false)) := by
  generalize opn a = x at *
  generalize opn b = y at *
  cases x with
  | nil => cases y with
    | nil => exact ⟨rfl, rfl, rfl, rfl⟩
    | bool b => cases b <;> exact ⟨rfl, rfl, rfl, rfl⟩
    | int _ => exact absurd he (by simp [joine, isTruth])
    | text _ => exact absurd he (by simp [joine, isTruth])
    | kind _ => exact absurd he (by simp [joine, isTruth])
  | bool a => cases y with
    | nil => cases a <;> exact ⟨rfl, rfl, rfl, rfl⟩
    | bool b => cases a <;> cases b <;> exact ⟨rfl, rfl, rfl, rfl⟩
    | int _ => exact absurd he (by simp [joine, isTruth])
    | text _ => exact absurd he (by simp [joine, isTruth])
    | kind _ => exact absurd he (by simp [joine, isTruth])
  | int _ => exact absurd he (by simp [joine, isTruth])
  | text _ => exact absurd he (by simp [joine, isTruth])
  | kind _ => exact absurd he (by simp [joine, isTruth])
theorem joine_cases (x y : Held) : joine x y = 0 ∨ joine x y = 8 := by unfold joine; split <;> simp

set_option maxHeartbeats 2000000 in
theorem walk (a : Val) (oa : ValOk a) (b : Val) (ob : ValOk b) (w : World) (hE : Env w) :
    Calls Tryd.prog 8 #[.agg #[.int .u8 a.k, .int .i64 a.i, .string a.s, .bool a.b], .agg #[.int .u8 b.k, .int .i64 b.i, .string b.s, .bool b.b]] w fun e w' => e = .returned (.bool true) ∧ Below w.heap.size w w' := by
  have ga := rright_any a (by have := oa.s; unfold maxLen at this; exact this)
  have gb := rright_any b (by have := ob.s; unfold maxLen at this; exact this)
  cases ra : rightB a with
  | false =>
    rw [ra] at ga
    have GA := Lib.hid ga
    clear ga gb ra
    go_enter Tryd.func8, Tryd.ntmps8
    go_wp2_with (go_at_call 15; (with_reducible refine (awake2_any _ (hE.next (by repeat (first | exact Below.refl _ _ | refine Below.drew ?_ | refine below_drewN ?_ _ | refine Below.al ?_ _ | refine Below.next ?_ (by assumption))))).mono ?_); rintro e w1 ⟨rfl, hb1⟩; obtain ⟨hc1, hf1⟩ := bcell hb1; have z1_0 : w.heap.size < w1.heap.size := (by have := hb1.size; (try simp at this); omega); have z1_1 : w.heap.size + 1 < w1.heap.size := (by have := hb1.size; (try simp at this); omega))
    go_wp2_with (go_at_call 17; (with_reducible refine (GA.out _).mono ?_); rintro e w2 ⟨rfl, hb2⟩; obtain ⟨hc2, hf2⟩ := bcell hb2; have z2_0 : w.heap.size < w2.heap.size := (by have := hb2.size; (try simp at this); omega); have z2_1 : w.heap.size + 1 < w2.heap.size := (by have := hb2.size; (try simp at this); omega))
    go_wp2
    go_ret
    exact ⟨rfl, (by repeat (first | exact Below.refl _ _ | refine Below.drew ?_ | refine below_drewN ?_ _ | refine Below.al ?_ _ | refine Below.next ?_ (by assumption)))⟩
  | true =>
    rw [ra] at ga
    have GA := Lib.hid ga
    clear ga
    cases rb : rightB b with
    | false =>
      rw [rb] at gb
      have GB := Lib.hid gb
      clear gb ra rb
      go_enter Tryd.func8, Tryd.ntmps8
      go_wp2_with (go_at_call 15; (with_reducible refine (awake2_any _ (hE.next (by repeat (first | exact Below.refl _ _ | refine Below.drew ?_ | refine below_drewN ?_ _ | refine Below.al ?_ _ | refine Below.next ?_ (by assumption))))).mono ?_); rintro e w1 ⟨rfl, hb1⟩; obtain ⟨hc1, hf1⟩ := bcell hb1; have z1_0 : w.heap.size < w1.heap.size := (by have := hb1.size; (try simp at this); omega); have z1_1 : w.heap.size + 1 < w1.heap.size := (by have := hb1.size; (try simp at this); omega))
      go_wp2_with (go_at_call 17; (with_reducible refine (GA.out _).mono ?_); rintro e w2 ⟨rfl, hb2⟩; obtain ⟨hc2, hf2⟩ := bcell hb2; have z2_0 : w.heap.size < w2.heap.size := (by have := hb2.size; (try simp at this); omega); have z2_1 : w.heap.size + 1 < w2.heap.size := (by have := hb2.size; (try simp at this); omega))
      go_wp2_with (go_at_call 17; (with_reducible refine (GB.out _).mono ?_); rintro e w3 ⟨rfl, hb3⟩; obtain ⟨hc3, hf3⟩ := bcell hb3; have z3_0 : w.heap.size < w3.heap.size := (by have := hb3.size; (try simp at this); omega); have z3_1 : w.heap.size + 1 < w3.heap.size := (by have := hb3.size; (try simp at this); omega))
      go_wp2
      go_ret
      exact ⟨rfl, (by repeat (first | exact Below.refl _ _ | refine Below.drew ?_ | refine below_drewN ?_ _ | refine Below.al ?_ _ | refine Below.next ?_ (by assumption)))⟩
    | true =>
      rw [rb] at gb
      have GB := Lib.hid gb
      clear gb
      have g1 := and_any a b
      rcases joine_cases (opn a) (opn b) with he | he
      · obtain ⟨m1, m2, m3, m4⟩ := morgan he
        have g2 := not_any (joinv (opn a) (opn b) false)
        have g3 := not_any a
        have g4 := not_any b
        have g5 := or_any (notv (opn a)) (notv (opn b))
        rw [he] at g1
        rw [m1] at g3
        rw [m2] at g4
        rw [m3, m4] at g5
        generalize note (opn (joinv (opn a) (opn b) false)) = e2 at *
        generalize hnx : notv (opn (joinv (opn a) (opn b) false)) = nx at *
        generalize joinv (opn a) (opn b) false = x at *
        generalize notv (opn a) = na at *
        generalize notv (opn b) = nb at *
        have qe := eqval nx.k nx.i nx.s nx.b nx.k nx.i nx.s nx.b
        have G1 := Lib.hid g1
        have G2 := Lib.hid g2
        have G3 := Lib.hid g3
        have G4 := Lib.hid g4
        have G5 := Lib.hid g5
        clear g1 g2 g3 g4 g5 m1 m2 m3 m4 he ra rb hnx
        go_enter Tryd.func8, Tryd.ntmps8
        go_wp2_with (go_at_call 15; (with_reducible refine (awake2_any _ (hE.next (by repeat (first | exact Below.refl _ _ | refine Below.drew ?_ | refine below_drewN ?_ _ | refine Below.al ?_ _ | refine Below.next ?_ (by assumption))))).mono ?_); rintro e w1 ⟨rfl, hb1⟩; obtain ⟨hc1, hf1⟩ := bcell hb1; have z1_0 : w.heap.size < w1.heap.size := (by have := hb1.size; (try simp at this); omega); have z1_1 : w.heap.size + 1 < w1.heap.size := (by have := hb1.size; (try simp at this); omega))
        go_wp2_with (go_at_call 17; (with_reducible refine (GA.out _).mono ?_); rintro e w2 ⟨rfl, hb2⟩; obtain ⟨hc2, hf2⟩ := bcell hb2; have z2_0 : w.heap.size < w2.heap.size := (by have := hb2.size; (try simp at this); omega); have z2_1 : w.heap.size + 1 < w2.heap.size := (by have := hb2.size; (try simp at this); omega))
        go_wp2_with (go_at_call 17; (with_reducible refine (GB.out _).mono ?_); rintro e w3 ⟨rfl, hb3⟩; obtain ⟨hc3, hf3⟩ := bcell hb3; have z3_0 : w.heap.size < w3.heap.size := (by have := hb3.size; (try simp at this); omega); have z3_1 : w.heap.size + 1 < w3.heap.size := (by have := hb3.size; (try simp at this); omega))
        go_wp2_with (go_at_call 24; (with_reducible refine (G1.out _).mono ?_); rintro e w4 ⟨rfl, hb4⟩; obtain ⟨hc4, hf4⟩ := bcell hb4; have z4_0 : w.heap.size < w4.heap.size := (by have := hb4.size; (try simp at this); omega); have z4_1 : w.heap.size + 1 < w4.heap.size := (by have := hb4.size; (try simp at this); omega))
        go_wp2_with (go_at_call 25; (with_reducible refine (G2.out _).mono ?_); rintro e w5 ⟨rfl, hb5⟩; obtain ⟨hc5, hf5⟩ := bcell hb5; have z5_0 : w.heap.size < w5.heap.size := (by have := hb5.size; (try simp at this); omega); have z5_1 : w.heap.size + 1 < w5.heap.size := (by have := hb5.size; (try simp at this); omega); have z5_2 : w4.heap.size < w5.heap.size := (by have := hb5.size; (try simp at this); omega))
        go_wp2_with (go_at_call 25; (with_reducible refine (G3.out _).mono ?_); rintro e w6 ⟨rfl, hb6⟩; obtain ⟨hc6, hf6⟩ := bcell hb6; have z6_0 : w.heap.size < w6.heap.size := (by have := hb6.size; (try simp at this); omega); have z6_1 : w.heap.size + 1 < w6.heap.size := (by have := hb6.size; (try simp at this); omega); have z6_2 : w4.heap.size < w6.heap.size := (by have := hb6.size; (try simp at this); omega); have z6_3 : w5.heap.size < w6.heap.size := (by have := hb6.size; (try simp at this); omega))
        go_wp2_with (go_at_call 25; (with_reducible refine (G4.out _).mono ?_); rintro e w7 ⟨rfl, hb7⟩; obtain ⟨hc7, hf7⟩ := bcell hb7; have z7_0 : w.heap.size < w7.heap.size := (by have := hb7.size; (try simp at this); omega); have z7_1 : w.heap.size + 1 < w7.heap.size := (by have := hb7.size; (try simp at this); omega); have z7_2 : w4.heap.size < w7.heap.size := (by have := hb7.size; (try simp at this); omega); have z7_3 : w5.heap.size < w7.heap.size := (by have := hb7.size; (try simp at this); omega); have z7_4 : w6.heap.size < w7.heap.size := (by have := hb7.size; (try simp at this); omega))
        go_wp2_with (go_at_call 27; (with_reducible refine (G5.out _).mono ?_); rintro e w8 ⟨rfl, hb8⟩; obtain ⟨hc8, hf8⟩ := bcell hb8; have z8_0 : w.heap.size < w8.heap.size := (by have := hb8.size; (try simp at this); omega); have z8_1 : w.heap.size + 1 < w8.heap.size := (by have := hb8.size; (try simp at this); omega); have z8_2 : w4.heap.size < w8.heap.size := (by have := hb8.size; (try simp at this); omega); have z8_3 : w5.heap.size < w8.heap.size := (by have := hb8.size; (try simp at this); omega); have z8_4 : w6.heap.size < w8.heap.size := (by have := hb8.size; (try simp at this); omega); have z8_5 : w7.heap.size < w8.heap.size := (by have := hb8.size; (try simp at this); omega))
        go_wp2
        go_ret
        exact ⟨rfl, (by repeat (first | exact Below.refl _ _ | refine Below.drew ?_ | refine below_drewN ?_ _ | refine Below.al ?_ _ | refine Below.next ?_ (by assumption)))⟩
      · rw [he] at g1
        have G1 := Lib.hid g1
        clear g1 he ra rb
        go_enter Tryd.func8, Tryd.ntmps8
        go_wp2_with (go_at_call 15; (with_reducible refine (awake2_any _ (hE.next (by repeat (first | exact Below.refl _ _ | refine Below.drew ?_ | refine below_drewN ?_ _ | refine Below.al ?_ _ | refine Below.next ?_ (by assumption))))).mono ?_); rintro e w1 ⟨rfl, hb1⟩; obtain ⟨hc1, hf1⟩ := bcell hb1; have z1_0 : w.heap.size < w1.heap.size := (by have := hb1.size; (try simp at this); omega); have z1_1 : w.heap.size + 1 < w1.heap.size := (by have := hb1.size; (try simp at this); omega))
        go_wp2_with (go_at_call 17; (with_reducible refine (GA.out _).mono ?_); rintro e w2 ⟨rfl, hb2⟩; obtain ⟨hc2, hf2⟩ := bcell hb2; have z2_0 : w.heap.size < w2.heap.size := (by have := hb2.size; (try simp at this); omega); have z2_1 : w.heap.size + 1 < w2.heap.size := (by have := hb2.size; (try simp at this); omega))
        go_wp2_with (go_at_call 17; (with_reducible refine (GB.out _).mono ?_); rintro e w3 ⟨rfl, hb3⟩; obtain ⟨hc3, hf3⟩ := bcell hb3; have z3_0 : w.heap.size < w3.heap.size := (by have := hb3.size; (try simp at this); omega); have z3_1 : w.heap.size + 1 < w3.heap.size := (by have := hb3.size; (try simp at this); omega))
        go_wp2_with (go_at_call 24; (with_reducible refine (G1.out _).mono ?_); rintro e w4 ⟨rfl, hb4⟩; obtain ⟨hc4, hf4⟩ := bcell hb4; have z4_0 : w.heap.size < w4.heap.size := (by have := hb4.size; (try simp at this); omega); have z4_1 : w.heap.size + 1 < w4.heap.size := (by have := hb4.size; (try simp at this); omega))
        go_wp2
        go_ret
        exact ⟨rfl, (by repeat (first | exact Below.refl _ _ | refine Below.drew ?_ | refine below_drewN ?_ _ | refine Below.al ?_ _ | refine Below.next ?_ (by assumption)))⟩
end Go.Proofs.YtcloajmcfacfnaaDoor.cellMorgan
