/-
  Package cell: And, Or, Not.
-/
import Derived.Test.YtcloajmcfacfnaaDoorCellD
namespace Go.Proofs.YtcloajmcfacfnaaDoor
open Go.RowKit

set_option maxHeartbeats 400000 in
theorem and_any (a b : Val) (w : World) :
    Calls Tryd.prog 24 #[.agg #[.int .u8 a.k, .int .i64 a.i, .string a.s, .bool a.b], .agg #[.int .u8 b.k, .int .i64 b.i, .string b.s, .bool b.b]] w fun e w' => e = .returned (.tuple #[.agg #[.int .u8 (joinv (opn a) (opn b) false).k, .int .i64 (joinv (opn a) (opn b) false).i, .string (joinv (opn a) (opn b) false).s, .bool (joinv (opn a) (opn b) false).b], .int .i64 (joine (opn a) (opn b))]) ∧ Below w.heap.size w w' := by
  have g1 := open_any a
  have g2 := open_any b
  have g3 := join_any (opn a) (opn b) false
  generalize opn a = x at *
  generalize opn b = y at *
  have G1 := Lib.hid g1
  have G2 := Lib.hid g2
  have G3 := Lib.hid g3
  clear g1 g2 g3
  go_enter Tryd.func24, Tryd.ntmps24
  go_wp2
  go_region_held3 (fun w' => w'.cell? ⟨w.heap.size, 0, none⟩ = some (.int .u8 a.k) ∧ w'.cell? ⟨w.heap.size, 1, none⟩ = some (.int .i64 a.i) ∧ w'.cell? ⟨w.heap.size, 2, none⟩ = some (.string a.s) ∧ w'.cell? ⟨w.heap.size, 3, none⟩ = some (.bool a.b) ∧ w'.cell? ⟨w.heap.size + 1, 0, none⟩ = some (.int .u8 b.k) ∧ w'.cell? ⟨w.heap.size + 1, 1, none⟩ = some (.int .i64 b.i) ∧ w'.cell? ⟨w.heap.size + 1, 2, none⟩ = some (.string b.s) ∧ w'.cell? ⟨w.heap.size + 1, 3, none⟩ = some (.bool b.b)) (simp [*, go_sem, World.cell?_alloc_past])
    (first | (go_at_call 38; (with_reducible refine (G1.out _).mono ?_); rintro e w' ⟨rfl, o1, rfl⟩) | (go_at_call 38; (with_reducible refine (G2.out _).mono ?_); rintro e w' ⟨rfl, o1, rfl⟩) | (go_at_call 45; (with_reducible refine (G3.out _).mono ?_); rintro e w1 ⟨rfl, hb⟩; obtain ⟨hc, hf⟩ := bcell hb))
  go_wp2
  refine bodyPost_ret (v := .tuple #[.agg #[.int .u8 (joinv x y false).k, .int .i64 (joinv x y false).i, .string (joinv x y false).s, .bool (joinv x y false).b], .int .i64 (joine x y)]) (by simp [results, Tryd.results24, go_sem, hc]) rfl ?_
  exact ⟨rfl, by repeat (first | exact Below.refl _ _ | refine Below.setCell ?_ (by simp <;> omega) _ | refine Below.drew ?_ | refine Below.alloc ?_ (by simp <;> omega) _ | refine Below.trans ?_ (hb.mono (by simp <;> omega)))⟩

set_option maxHeartbeats 400000 in
theorem or_any (a b : Val) (w : World) :
    Calls Tryd.prog 27 #[.agg #[.int .u8 a.k, .int .i64 a.i, .string a.s, .bool a.b], .agg #[.int .u8 b.k, .int .i64 b.i, .string b.s, .bool b.b]] w fun e w' => e = .returned (.tuple #[.agg #[.int .u8 (joinv (opn a) (opn b) true).k, .int .i64 (joinv (opn a) (opn b) true).i, .string (joinv (opn a) (opn b) true).s, .bool (joinv (opn a) (opn b) true).b], .int .i64 (joine (opn a) (opn b))]) ∧ Below w.heap.size w w' := by
  have g1 := open_any a
  have g2 := open_any b
  have g3 := join_any (opn a) (opn b) true
  generalize opn a = x at *
  generalize opn b = y at *
  have G1 := Lib.hid g1
  have G2 := Lib.hid g2
  have G3 := Lib.hid g3
  clear g1 g2 g3
  go_enter Tryd.func27, Tryd.ntmps27
  go_wp2
  go_region_held3 (fun w' => w'.cell? ⟨w.heap.size, 0, none⟩ = some (.int .u8 a.k) ∧ w'.cell? ⟨w.heap.size, 1, none⟩ = some (.int .i64 a.i) ∧ w'.cell? ⟨w.heap.size, 2, none⟩ = some (.string a.s) ∧ w'.cell? ⟨w.heap.size, 3, none⟩ = some (.bool a.b) ∧ w'.cell? ⟨w.heap.size + 1, 0, none⟩ = some (.int .u8 b.k) ∧ w'.cell? ⟨w.heap.size + 1, 1, none⟩ = some (.int .i64 b.i) ∧ w'.cell? ⟨w.heap.size + 1, 2, none⟩ = some (.string b.s) ∧ w'.cell? ⟨w.heap.size + 1, 3, none⟩ = some (.bool b.b)) (simp [*, go_sem, World.cell?_alloc_past])
    (first | (go_at_call 38; (with_reducible refine (G1.out _).mono ?_); rintro e w' ⟨rfl, o1, rfl⟩) | (go_at_call 38; (with_reducible refine (G2.out _).mono ?_); rintro e w' ⟨rfl, o1, rfl⟩) | (go_at_call 45; (with_reducible refine (G3.out _).mono ?_); rintro e w1 ⟨rfl, hb⟩; obtain ⟨hc, hf⟩ := bcell hb))
  go_wp2
  refine bodyPost_ret (v := .tuple #[.agg #[.int .u8 (joinv x y true).k, .int .i64 (joinv x y true).i, .string (joinv x y true).s, .bool (joinv x y true).b], .int .i64 (joine x y)]) (by simp [results, Tryd.results27, go_sem, hc]) rfl ?_
  exact ⟨rfl, by repeat (first | exact Below.refl _ _ | refine Below.setCell ?_ (by simp <;> omega) _ | refine Below.drew ?_ | refine Below.alloc ?_ (by simp <;> omega) _ | refine Below.trans ?_ (hb.mono (by simp <;> omega)))⟩

/-- What Not answers. -/
def notv (x : Held) : Val :=
  match x with
  | .bool b => ⟨3, 0, ⟨#[]⟩, !b⟩
  | _ => ⟨0, 0, ⟨#[]⟩, false⟩
def note (x : Held) : Int := if isTruth x = true then 0 else 8

set_option maxHeartbeats 400000 in
theorem not_any (a : Val) (w : World) :
    Calls Tryd.prog 25 #[.agg #[.int .u8 a.k, .int .i64 a.i, .string a.s, .bool a.b]] w fun e w' => e = .returned (.tuple #[.agg #[.int .u8 (notv (opn a)).k, .int .i64 (notv (opn a)).i, .string (notv (opn a)).s, .bool (notv (opn a)).b], .int .i64 (note (opn a))]) ∧ Below w.heap.size w w' := by
  have g1 := open_any a
  unfold note
  generalize opn a = x at *
  have G1 := Lib.hid g1
  clear g1
  cases tx : isTruth x with
  | false =>
    have g := truth_any x
    rw [tx] at g
    have G := Lib.hid g
    rw [if_neg (show ¬ false = true by simp), show notv x = ⟨0, 0, ⟨#[]⟩, false⟩ by cases x <;> simp [isTruth] at tx <;> rfl]
    clear g tx
    go_enter Tryd.func25, Tryd.ntmps25
    go_wp2_with (first | (go_at_call 38; (with_reducible refine (G1.out _).mono ?_); rintro e w' ⟨rfl, o1, rfl⟩) | (go_at_call 46; (with_reducible refine (G.out _).mono ?_); rintro e w' ⟨rfl, rfl⟩))
    refine bodyPost_ret (v := .tuple #[.agg #[.int .u8 0, .int .i64 0, .string ⟨#[]⟩, .bool false], .int .i64 8]) (by simp [results, Tryd.results25, go_sem]) rfl ?_
    exact ⟨rfl, by repeat (first | exact Below.refl _ _ | refine Below.drew ?_ | refine Below.alloc ?_ (by simp <;> omega) _)⟩
  | true =>
    have g := truth_any x
    rw [tx] at g
    have G := Lib.hid g
    clear g
    rw [if_pos rfl]
    cases x with
    | nil =>
      have q1 := eqnil .nil
      have q3 := eqg .nil
      simp only [Held.val, isNil] at q1 q3
      simp only [Held.val] at G1
      simp only [Held.val, notv] at *
      clear tx
      go_enter Tryd.func25, Tryd.ntmps25
      go_wp2_with (first | (go_at_call 38; (with_reducible refine (G1.out _).mono ?_); rintro e w' ⟨rfl, o1, rfl⟩) | (go_at_call 46; (with_reducible refine (G.out _).mono ?_); rintro e w' ⟨rfl, rfl⟩) | (go_at_call 40; (with_reducible refine (pack_nil _).mono ?_); rintro e w' ⟨rfl, o1, rfl⟩))
      refine bodyPost_ret (v := .tuple #[.agg #[.int .u8 0, .int .i64 0, .string ⟨#[]⟩, .bool false], .int .i64 0]) (by simp [results, Tryd.results25, go_sem]) rfl ?_
      exact ⟨rfl, by repeat (first | exact Below.refl _ _ | refine Below.drew ?_ | refine Below.alloc ?_ (by simp <;> omega) _)⟩
    | bool x =>
      have q1 := eqnil (.bool x)
      have q3 := eqg (.bool x)
      have f1 := tp_bool_B x
      simp only [Held.val, isNil] at q1 q3
      simp only [Held.val, notv] at *
      clear tx
      go_enter Tryd.func25, Tryd.ntmps25
      go_wp2_with (first | (go_at_call 38; (with_reducible refine (G1.out _).mono ?_); rintro e w' ⟨rfl, o1, rfl⟩) | (go_at_call 46; (with_reducible refine (G.out _).mono ?_); rintro e w' ⟨rfl, rfl⟩) | (go_at_call 40; (with_reducible refine (pack_bool (!x) _).mono ?_); rintro e w' ⟨rfl, o1, rfl⟩))
      refine bodyPost_ret (v := .tuple #[.agg #[.int .u8 3, .int .i64 0, .string ⟨#[]⟩, .bool (!x)], .int .i64 0]) (by simp [results, Tryd.results25, go_sem]) rfl ?_
      exact ⟨rfl, by repeat (first | exact Below.refl _ _ | refine Below.drew ?_ | refine Below.alloc ?_ (by simp <;> omega) _)⟩
    | int x => simp [isTruth] at tx
    | text x => simp [isTruth] at tx
    | kind x => simp [isTruth] at tx
end Go.Proofs.YtcloajmcfacfnaaDoor
