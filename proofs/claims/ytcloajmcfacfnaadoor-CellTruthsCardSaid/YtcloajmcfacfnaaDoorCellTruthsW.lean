/-
  CellTruths: the walk: where the library's tables hold what its text lays, the law answers true; of what was there nothing has turned.
-/
import Derived.Test.YtcloajmcfacfnaaDoorDoorEnv
import Derived.Test.YtcloajmcfacfnaaDoorAwake2
import Derived.Test.YtcloajmcfacfnaaDoorCell2R
import Derived.Test.YtcloajmcfacfnaaDoorValid0
import Derived.WalkKit
namespace Go.Proofs.YtcloajmcfacfnaaDoor.cellTruths
open Go.ChangeShapes Go.WideShapes Go.ChangeAt Go.RowKit
set_option linter.unusedVariables false


set_option maxHeartbeats 2000000 in
theorem walk (a : Val) (oa : ValOk a) (b : Val) (ob : ValOk b) (w : World) (hE : Env w) :
    Calls Tryd.prog 7 #[.agg #[.int .u8 a.k, .int .i64 a.i, .string a.s, .bool a.b], .agg #[.int .u8 b.k, .int .i64 b.i, .string b.s, .bool b.b]] w fun e w' => e = .returned (.bool true) ∧ Below w.heap.size w w' := by
  have ga := rright_any a (by have := oa.s; unfold maxLen at this; exact this)
  have gb := rright_any b (by have := ob.s; unfold maxLen at this; exact this)
  cases ra : rightB a with
  | false =>
    rw [ra] at ga
    have GA := Lib.hid ga
    clear ga gb ra
    have G1 := Lib.hid (and_any a b)
    have G2 := Lib.hid (not_any a)
    go_enter Tryd.func7, Tryd.ntmps7
    go_wp2_with (go_at_call 15; (with_reducible refine (awake2_any _ (hE.next (by repeat (first | exact Below.refl _ _ | refine Below.drew ?_ | refine below_drewN ?_ _ | refine Below.al ?_ _ | refine Below.next ?_ (by assumption))))).mono ?_); rintro e w1 ⟨rfl, hb1⟩; obtain ⟨hc1, hf1⟩ := bcell hb1; have z1_0 : w.heap.size < w1.heap.size := (by have := hb1.size; (try simp at this); omega); have z1_1 : w.heap.size + 1 < w1.heap.size := (by have := hb1.size; (try simp at this); omega))
    go_wp2_with (go_at_call 17; (with_reducible refine (GA.out _).mono ?_); rintro e w2 ⟨rfl, hb2⟩; obtain ⟨hc2, hf2⟩ := bcell hb2; have z2_0 : w.heap.size < w2.heap.size := (by have := hb2.size; (try simp at this); omega); have z2_1 : w.heap.size + 1 < w2.heap.size := (by have := hb2.size; (try simp at this); omega))
    go_wp2_with (go_at_call 24; (with_reducible refine (G1.out _).mono ?_); rintro e w4 ⟨rfl, hb4⟩; obtain ⟨hc4, hf4⟩ := bcell hb4; have z4_0 : w.heap.size < w4.heap.size := (by have := hb4.size; (try simp at this); omega); have z4_1 : w.heap.size + 1 < w4.heap.size := (by have := hb4.size; (try simp at this); omega))
    go_wp2_with (go_at_call 25; (with_reducible refine (G2.out _).mono ?_); rintro e w5 ⟨rfl, hb5⟩; obtain ⟨hc5, hf5⟩ := bcell hb5; have z5_0 : w.heap.size < w5.heap.size := (by have := hb5.size; (try simp at this); omega); have z5_1 : w.heap.size + 1 < w5.heap.size := (by have := hb5.size; (try simp at this); omega))
    go_wp2
    go_ret
    exact ⟨rfl, (by repeat (first | exact Below.refl _ _ | refine Below.drew ?_ | refine below_drewN ?_ _ | refine Below.al ?_ _ | refine Below.next ?_ (by assumption)))⟩
  | true =>
    rw [ra] at ga
    have GA := Lib.hid ga
    clear ga
    cases rb : rightB b with
    | false =>
      rw [rb] at gb
      have GB := Lib.hid gb
      clear gb ra rb
      have G1 := Lib.hid (and_any a b)
      have G2 := Lib.hid (not_any a)
      go_enter Tryd.func7, Tryd.ntmps7
      go_wp2_with (go_at_call 15; (with_reducible refine (awake2_any _ (hE.next (by repeat (first | exact Below.refl _ _ | refine Below.drew ?_ | refine below_drewN ?_ _ | refine Below.al ?_ _ | refine Below.next ?_ (by assumption))))).mono ?_); rintro e w1 ⟨rfl, hb1⟩; obtain ⟨hc1, hf1⟩ := bcell hb1; have z1_0 : w.heap.size < w1.heap.size := (by have := hb1.size; (try simp at this); omega); have z1_1 : w.heap.size + 1 < w1.heap.size := (by have := hb1.size; (try simp at this); omega))
      go_wp2_with (go_at_call 17; (with_reducible refine (GA.out _).mono ?_); rintro e w2 ⟨rfl, hb2⟩; obtain ⟨hc2, hf2⟩ := bcell hb2; have z2_0 : w.heap.size < w2.heap.size := (by have := hb2.size; (try simp at this); omega); have z2_1 : w.heap.size + 1 < w2.heap.size := (by have := hb2.size; (try simp at this); omega))
      go_wp2_with (go_at_call 17; (with_reducible refine (GB.out _).mono ?_); rintro e w3 ⟨rfl, hb3⟩; obtain ⟨hc3, hf3⟩ := bcell hb3; have z3_0 : w.heap.size < w3.heap.size := (by have := hb3.size; (try simp at this); omega); have z3_1 : w.heap.size + 1 < w3.heap.size := (by have := hb3.size; (try simp at this); omega))
      go_wp2_with (go_at_call 24; (with_reducible refine (G1.out _).mono ?_); rintro e w4 ⟨rfl, hb4⟩; obtain ⟨hc4, hf4⟩ := bcell hb4; have z4_0 : w.heap.size < w4.heap.size := (by have := hb4.size; (try simp at this); omega); have z4_1 : w.heap.size + 1 < w4.heap.size := (by have := hb4.size; (try simp at this); omega))
      go_wp2_with (go_at_call 25; (with_reducible refine (G2.out _).mono ?_); rintro e w5 ⟨rfl, hb5⟩; obtain ⟨hc5, hf5⟩ := bcell hb5; have z5_0 : w.heap.size < w5.heap.size := (by have := hb5.size; (try simp at this); omega); have z5_1 : w.heap.size + 1 < w5.heap.size := (by have := hb5.size; (try simp at this); omega))
      go_wp2
      go_ret
      exact ⟨rfl, (by repeat (first | exact Below.refl _ _ | refine Below.drew ?_ | refine below_drewN ?_ _ | refine Below.al ?_ _ | refine Below.next ?_ (by assumption)))⟩
    | true =>
      rw [rb] at gb
      have GB := Lib.hid gb
      clear gb
      obtain ⟨m1, m2, m3⟩ := and_same ra rb
      obtain ⟨m4, m5⟩ := not_same ra
      have g1 := and_any a b
      have g2 := rand_any a b
      have g3 := or_any a b
      have g4 := ror_any a b
      have g5 := not_any a
      have g6 := rnot_any a
      rw [m1, m3] at g2
      rw [m2, m3] at g4
      rw [m4, m5] at g6
      generalize joinv (opn a) (opn b) false = x at *
      generalize joinv (opn a) (opn b) true = y at *
      generalize joine (opn a) (opn b) = e1 at *
      generalize notv (opn a) = z at *
      generalize note (opn a) = e2 at *
      have q1 := eqval x.k x.i x.s x.b x.k x.i x.s x.b
      have q2 := eqval y.k y.i y.s y.b y.k y.i y.s y.b
      have q3 := eqval z.k z.i z.s z.b z.k z.i z.s z.b
      have G1 := Lib.hid g1
      have G2 := Lib.hid g2
      have G3 := Lib.hid g3
      have G4 := Lib.hid g4
      have G5 := Lib.hid g5
      have G6 := Lib.hid g6
      clear g1 g2 g3 g4 g5 g6 m1 m2 m3 m4 m5 ra rb
      go_enter Tryd.func7, Tryd.ntmps7
      go_wp2_with (go_at_call 15; (with_reducible refine (awake2_any _ (hE.next (by repeat (first | exact Below.refl _ _ | refine Below.drew ?_ | refine below_drewN ?_ _ | refine Below.al ?_ _ | refine Below.next ?_ (by assumption))))).mono ?_); rintro e w1 ⟨rfl, hb1⟩; obtain ⟨hc1, hf1⟩ := bcell hb1; have z1_0 : w.heap.size < w1.heap.size := (by have := hb1.size; (try simp at this); omega); have z1_1 : w.heap.size + 1 < w1.heap.size := (by have := hb1.size; (try simp at this); omega))
      go_wp2_with (go_at_call 17; (with_reducible refine (GA.out _).mono ?_); rintro e w2 ⟨rfl, hb2⟩; obtain ⟨hc2, hf2⟩ := bcell hb2; have z2_0 : w.heap.size < w2.heap.size := (by have := hb2.size; (try simp at this); omega); have z2_1 : w.heap.size + 1 < w2.heap.size := (by have := hb2.size; (try simp at this); omega))
      go_wp2_with (go_at_call 17; (with_reducible refine (GB.out _).mono ?_); rintro e w3 ⟨rfl, hb3⟩; obtain ⟨hc3, hf3⟩ := bcell hb3; have z3_0 : w.heap.size < w3.heap.size := (by have := hb3.size; (try simp at this); omega); have z3_1 : w.heap.size + 1 < w3.heap.size := (by have := hb3.size; (try simp at this); omega))
      go_wp2_with (go_at_call 24; (with_reducible refine (G1.out _).mono ?_); rintro e w4 ⟨rfl, hb4⟩; obtain ⟨hc4, hf4⟩ := bcell hb4; have z4_0 : w.heap.size < w4.heap.size := (by have := hb4.size; (try simp at this); omega); have z4_1 : w.heap.size + 1 < w4.heap.size := (by have := hb4.size; (try simp at this); omega))
      go_wp2_with (go_at_call 26; (with_reducible refine (G2.out _).mono ?_); rintro e w5 ⟨rfl, hb5⟩; obtain ⟨hc5, hf5⟩ := bcell hb5; have z5_0 : w.heap.size < w5.heap.size := (by have := hb5.size; (try simp at this); omega); have z5_1 : w.heap.size + 1 < w5.heap.size := (by have := hb5.size; (try simp at this); omega); have z5_2 : w4.heap.size < w5.heap.size := (by have := hb5.size; (try simp at this); omega))
      go_wp2_with (go_at_call 27; (with_reducible refine (G3.out _).mono ?_); rintro e w6 ⟨rfl, hb6⟩; obtain ⟨hc6, hf6⟩ := bcell hb6; have z6_0 : w.heap.size < w6.heap.size := (by have := hb6.size; (try simp at this); omega); have z6_1 : w.heap.size + 1 < w6.heap.size := (by have := hb6.size; (try simp at this); omega); have z6_2 : w4.heap.size < w6.heap.size := (by have := hb6.size; (try simp at this); omega); have z6_3 : w5.heap.size < w6.heap.size := (by have := hb6.size; (try simp at this); omega))
      go_wp2_with (go_at_call 28; (with_reducible refine (G4.out _).mono ?_); rintro e w7 ⟨rfl, hb7⟩; obtain ⟨hc7, hf7⟩ := bcell hb7; have z7_0 : w.heap.size < w7.heap.size := (by have := hb7.size; (try simp at this); omega); have z7_1 : w.heap.size + 1 < w7.heap.size := (by have := hb7.size; (try simp at this); omega); have z7_2 : w4.heap.size < w7.heap.size := (by have := hb7.size; (try simp at this); omega); have z7_3 : w5.heap.size < w7.heap.size := (by have := hb7.size; (try simp at this); omega); have z7_4 : w6.heap.size < w7.heap.size := (by have := hb7.size; (try simp at this); omega))
      go_wp2_with (go_at_call 25; (with_reducible refine (G5.out _).mono ?_); rintro e w8 ⟨rfl, hb8⟩; obtain ⟨hc8, hf8⟩ := bcell hb8; have z8_0 : w.heap.size < w8.heap.size := (by have := hb8.size; (try simp at this); omega); have z8_1 : w.heap.size + 1 < w8.heap.size := (by have := hb8.size; (try simp at this); omega); have z8_2 : w4.heap.size < w8.heap.size := (by have := hb8.size; (try simp at this); omega); have z8_3 : w5.heap.size < w8.heap.size := (by have := hb8.size; (try simp at this); omega); have z8_4 : w6.heap.size < w8.heap.size := (by have := hb8.size; (try simp at this); omega); have z8_5 : w7.heap.size < w8.heap.size := (by have := hb8.size; (try simp at this); omega))
      go_wp2_with (go_at_call 29; (with_reducible refine (G6.out _).mono ?_); rintro e w9 ⟨rfl, hb9⟩; obtain ⟨hc9, hf9⟩ := bcell hb9; have z9_0 : w.heap.size < w9.heap.size := (by have := hb9.size; (try simp at this); omega); have z9_1 : w.heap.size + 1 < w9.heap.size := (by have := hb9.size; (try simp at this); omega); have z9_2 : w4.heap.size < w9.heap.size := (by have := hb9.size; (try simp at this); omega); have z9_3 : w5.heap.size < w9.heap.size := (by have := hb9.size; (try simp at this); omega); have z9_4 : w6.heap.size < w9.heap.size := (by have := hb9.size; (try simp at this); omega); have z9_5 : w7.heap.size < w9.heap.size := (by have := hb9.size; (try simp at this); omega); have z9_6 : w8.heap.size < w9.heap.size := (by have := hb9.size; (try simp at this); omega))
      go_wp2
      go_ret
      exact ⟨rfl, (by repeat (first | exact Below.refl _ _ | refine Below.drew ?_ | refine below_drewN ?_ _ | refine Below.al ?_ _ | refine Below.next ?_ (by assumption)))⟩
end Go.Proofs.YtcloajmcfacfnaaDoor.cellTruths
