/-
  Package cell: join, And, Or, Not.
-/
import Derived.Test.YtcloajmcfacfnaaDoorCellC
namespace Go.Proofs.YtcloajmcfacfnaaDoor
open Go.RowKit

/-- What And and Or answer: a value, and the error's number. -/
def joinv (x y : Held) (strong : Bool) : Val :=
  if isTruth x = false ∨ isTruth y = false then ⟨0, 0, ⟨#[]⟩, false⟩
  else if isIt x strong = true ∨ isIt y strong = true then ⟨3, 0, ⟨#[]⟩, strong⟩
  else if isNil x = true ∨ isNil y = true then ⟨0, 0, ⟨#[]⟩, false⟩
  else ⟨3, 0, ⟨#[]⟩, !strong⟩
def joine (x y : Held) : Int := if isTruth x = false ∨ isTruth y = false then 8 else 0

set_option maxHeartbeats 400000 in
theorem join_any (x y : Held) (strong : Bool) (w : World) :
    Calls Tryd.prog 45 #[x.val, y.val, .bool strong] w fun e w' => e = .returned (.tuple #[.agg #[.int .u8 (joinv x y strong).k, .int .i64 (joinv x y strong).i, .string (joinv x y strong).s, .bool (joinv x y strong).b], .int .i64 (joine x y)]) ∧ Below w.heap.size w w' := by
  have q1 := eqnil x
  have q2 := eqnil y
  have q3 := eqg x
  have q4 := eqg y
  unfold joinv joine
  cases tx : isTruth x with
  | false =>
    rw [if_pos (.inl rfl), if_pos (.inl rfl)]
    have g := truth_any x
    rw [tx] at g
    have G := Lib.hid g
    clear g q1 q2 q3 q4 tx
    go_enter Tryd.func45, Tryd.ntmps45
    go_wp2_with (go_at_call 46; (with_reducible refine (G.out _).mono ?_); rintro e w' ⟨rfl, rfl⟩)
    refine bodyPost_ret (v := .tuple #[.agg #[.int .u8 0, .int .i64 0, .string ⟨#[]⟩, .bool false], .int .i64 8]) (by simp [results, Tryd.results45, go_sem]) rfl ?_
    exact ⟨rfl, (Below.refl _ _).alloc (Nat.le_refl _) _⟩
  | true =>
    have g := truth_any x
    rw [tx] at g
    have G := Lib.hid g
    clear g
    cases ty : isTruth y with
    | false =>
      rw [if_pos (.inr rfl), if_pos (.inr rfl)]
      have g := truth_any y
      rw [ty] at g
      have G2 := Lib.hid g
      clear g q1 q2 q3 q4 tx ty
      go_enter Tryd.func45, Tryd.ntmps45
      go_wp2_with (first | (go_at_call 46; (with_reducible refine (G.out _).mono ?_); rintro e w' ⟨rfl, rfl⟩) | (go_at_call 46; (with_reducible refine (G2.out _).mono ?_); rintro e w' ⟨rfl, rfl⟩))
      refine bodyPost_ret (v := .tuple #[.agg #[.int .u8 0, .int .i64 0, .string ⟨#[]⟩, .bool false], .int .i64 8]) (by simp [results, Tryd.results45, go_sem]) rfl ?_
      exact ⟨rfl, (Below.refl _ _).alloc (Nat.le_refl _) _⟩
    | true =>
      rw [if_neg (show ¬ (true = false ∨ true = false) by simp), if_neg (show ¬ (true = false ∨ true = false) by simp)]
      have g := truth_any y
      rw [ty] at g
      have G2 := Lib.hid g
      clear g
      cases ix : isIt x strong with
      | true =>
        rw [if_pos (.inl rfl)]
        have g := is_any x strong
        rw [ix] at g
        have G3 := Lib.hid g
        clear g q1 q2 q3 q4 tx ty ix
        go_enter Tryd.func45, Tryd.ntmps45
        go_wp2_with (first | (go_at_call 46; (with_reducible refine (G.out _).mono ?_); rintro e w' ⟨rfl, rfl⟩) | (go_at_call 46; (with_reducible refine (G2.out _).mono ?_); rintro e w' ⟨rfl, rfl⟩) | (go_at_call 58; (with_reducible refine (G3.out _).mono ?_); rintro e w' ⟨rfl, rfl⟩) | (go_at_call 40; (with_reducible refine (pack_bool strong _).mono ?_); rintro e w' ⟨rfl, o1, rfl⟩))
        refine bodyPost_ret (v := .tuple #[.agg #[.int .u8 3, .int .i64 0, .string ⟨#[]⟩, .bool strong], .int .i64 0]) (by simp [results, Tryd.results45, go_sem]) rfl ?_
        exact ⟨rfl, by repeat (first | exact Below.refl _ _ | refine Below.drew ?_ | refine Below.alloc ?_ (by simp <;> omega) _)⟩
      | false =>
        have g := is_any x strong
        rw [ix] at g
        have G3 := Lib.hid g
        clear g
        cases iy : isIt y strong with
        | true =>
          rw [if_pos (.inr rfl)]
          have g := is_any y strong
          rw [iy] at g
          have G4 := Lib.hid g
          clear g q1 q2 q3 q4 tx ty ix iy
          go_enter Tryd.func45, Tryd.ntmps45
          go_wp2_with (first | (go_at_call 46; (with_reducible refine (G.out _).mono ?_); rintro e w' ⟨rfl, rfl⟩) | (go_at_call 46; (with_reducible refine (G2.out _).mono ?_); rintro e w' ⟨rfl, rfl⟩) | (go_at_call 58; (with_reducible refine (G3.out _).mono ?_); rintro e w' ⟨rfl, rfl⟩) | (go_at_call 58; (with_reducible refine (G4.out _).mono ?_); rintro e w' ⟨rfl, rfl⟩) | (go_at_call 40; (with_reducible refine (pack_bool strong _).mono ?_); rintro e w' ⟨rfl, o1, rfl⟩))
          refine bodyPost_ret (v := .tuple #[.agg #[.int .u8 3, .int .i64 0, .string ⟨#[]⟩, .bool strong], .int .i64 0]) (by simp [results, Tryd.results45, go_sem]) rfl ?_
          exact ⟨rfl, by repeat (first | exact Below.refl _ _ | refine Below.drew ?_ | refine Below.alloc ?_ (by simp <;> omega) _)⟩
        | false =>
          rw [if_neg (by simp)]
          have g := is_any y strong
          rw [iy] at g
          have G4 := Lib.hid g
          clear g tx ty ix iy
          cases nx : isNil x with
          | true =>
            rw [nx] at q1
            rw [if_pos (.inl rfl)]
            clear nx q2 q4
            go_enter Tryd.func45, Tryd.ntmps45
            go_wp2_with (first | (go_at_call 46; (with_reducible refine (G.out _).mono ?_); rintro e w' ⟨rfl, rfl⟩) | (go_at_call 46; (with_reducible refine (G2.out _).mono ?_); rintro e w' ⟨rfl, rfl⟩) | (go_at_call 58; (with_reducible refine (G3.out _).mono ?_); rintro e w' ⟨rfl, rfl⟩) | (go_at_call 58; (with_reducible refine (G4.out _).mono ?_); rintro e w' ⟨rfl, rfl⟩) | (go_at_call 40; (with_reducible refine (pack_nil _).mono ?_); rintro e w' ⟨rfl, o1, rfl⟩))
            refine bodyPost_ret (v := .tuple #[.agg #[.int .u8 0, .int .i64 0, .string ⟨#[]⟩, .bool false], .int .i64 0]) (by simp [results, Tryd.results45, go_sem]) rfl ?_
            exact ⟨rfl, by repeat (first | exact Below.refl _ _ | refine Below.drew ?_ | refine Below.alloc ?_ (by simp <;> omega) _)⟩
          | false =>
            rw [nx] at q1
            cases ny : isNil y with
            | true =>
              rw [ny] at q2
              rw [if_pos (.inr rfl)]
              clear nx ny
              go_enter Tryd.func45, Tryd.ntmps45
              go_wp2_with (first | (go_at_call 46; (with_reducible refine (G.out _).mono ?_); rintro e w' ⟨rfl, rfl⟩) | (go_at_call 46; (with_reducible refine (G2.out _).mono ?_); rintro e w' ⟨rfl, rfl⟩) | (go_at_call 58; (with_reducible refine (G3.out _).mono ?_); rintro e w' ⟨rfl, rfl⟩) | (go_at_call 58; (with_reducible refine (G4.out _).mono ?_); rintro e w' ⟨rfl, rfl⟩) | (go_at_call 40; (with_reducible refine (pack_nil _).mono ?_); rintro e w' ⟨rfl, o1, rfl⟩))
              refine bodyPost_ret (v := .tuple #[.agg #[.int .u8 0, .int .i64 0, .string ⟨#[]⟩, .bool false], .int .i64 0]) (by simp [results, Tryd.results45, go_sem]) rfl ?_
              exact ⟨rfl, by repeat (first | exact Below.refl _ _ | refine Below.drew ?_ | refine Below.alloc ?_ (by simp <;> omega) _)⟩
            | false =>
              rw [ny] at q2
              rw [if_neg (by simp)]
              clear nx ny
              go_enter Tryd.func45, Tryd.ntmps45
              go_wp2_with (first | (go_at_call 46; (with_reducible refine (G.out _).mono ?_); rintro e w' ⟨rfl, rfl⟩) | (go_at_call 46; (with_reducible refine (G2.out _).mono ?_); rintro e w' ⟨rfl, rfl⟩) | (go_at_call 58; (with_reducible refine (G3.out _).mono ?_); rintro e w' ⟨rfl, rfl⟩) | (go_at_call 58; (with_reducible refine (G4.out _).mono ?_); rintro e w' ⟨rfl, rfl⟩) | (go_at_call 40; (with_reducible refine (pack_bool (!strong) _).mono ?_); rintro e w' ⟨rfl, o1, rfl⟩))
              refine bodyPost_ret (v := .tuple #[.agg #[.int .u8 3, .int .i64 0, .string ⟨#[]⟩, .bool (!strong)], .int .i64 0]) (by simp [results, Tryd.results45, go_sem]) rfl ?_
              exact ⟨rfl, by repeat (first | exact Below.refl _ _ | refine Below.drew ?_ | refine Below.alloc ?_ (by simp <;> omega) _)⟩
end Go.Proofs.YtcloajmcfacfnaaDoor
