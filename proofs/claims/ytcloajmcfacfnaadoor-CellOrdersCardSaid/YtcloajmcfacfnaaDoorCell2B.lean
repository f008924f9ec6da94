/-
  The document's own answers for cell (ref02): And, Or, Not.
-/
import Derived.Test.YtcloajmcfacfnaaDoorCell2A
namespace Go.Proofs.YtcloajmcfacfnaaDoor
open Go.RowKit

/-- What ref's And and Or answer. -/
def randv (a b : Val) : Val := if thr a < 0 ∨ thr b < 0 then ⟨0, 0, ⟨#[]⟩, false⟩ else bck (min (thr a) (thr b))
def rorv (a b : Val) : Val := if thr a < 0 ∨ thr b < 0 then ⟨0, 0, ⟨#[]⟩, false⟩ else bck (max (thr a) (thr b))
def rande (a b : Val) : Int := if thr a < 0 ∨ thr b < 0 then 8 else 0
def rnotv (a : Val) : Val := if thr a < 0 then ⟨0, 0, ⟨#[]⟩, false⟩ else bck (2 - thr a)
def rnote (a : Val) : Int := if thr a < 0 then 8 else 0
theorem thr_bounds (a : Val) : -1 ≤ thr a ∧ thr a ≤ 2 := by
  unfold thr; repeat' split
  all_goals omega

set_option maxHeartbeats 400000 in
theorem rand_any (a b : Val) (w : World) :
    Calls Tryd.prog 26 #[.agg #[.int .u8 a.k, .int .i64 a.i, .string a.s, .bool a.b], .agg #[.int .u8 b.k, .int .i64 b.i, .string b.s, .bool b.b]] w fun e w' => e = .returned (.tuple #[.agg #[.int .u8 (randv a b).k, .int .i64 (randv a b).i, .string (randv a b).s, .bool (randv a b).b], .int .i64 (rande a b)]) ∧ Below w.heap.size w w' := by
  have c1 := three_any a
  have c2 := three_any b
  obtain ⟨a0, a1⟩ := thr_bounds a
  obtain ⟨b0, b1⟩ := thr_bounds b
  unfold randv rande
  generalize thr a = x at *
  generalize thr b = y at *
  have G1 := Lib.hid c1
  have G2 := Lib.hid c2
  clear c1 c2
  by_cases hx : x < 0
  · rw [if_pos (.inl hx), if_pos (.inl hx)]
    go_enter Tryd.func26, Tryd.ntmps26
    go_wp2_with (go_at_call 47; (with_reducible refine (G1.out _).mono ?_); rintro e w' ⟨rfl, o1, rfl⟩)
    refine bodyPost_ret (v := .tuple #[.agg #[.int .u8 0, .int .i64 0, .string ⟨#[]⟩, .bool false], .int .i64 8]) (by simp [results, Tryd.results26, go_sem]) rfl ?_
    exact ⟨rfl, by repeat (first | exact Below.refl _ _ | refine Below.drew ?_ | refine Below.alloc ?_ (by simp <;> omega) _)⟩
  · by_cases hy : y < 0
    · rw [if_pos (.inr hy), if_pos (.inr hy)]
      go_enter Tryd.func26, Tryd.ntmps26
      go_wp2_with (first | (go_at_call 47; (with_reducible refine (G1.out _).mono ?_); rintro e w' ⟨rfl, o1, rfl⟩) | (go_at_call 47; (with_reducible refine (G2.out _).mono ?_); rintro e w' ⟨rfl, o1, rfl⟩))
      refine bodyPost_ret (v := .tuple #[.agg #[.int .u8 0, .int .i64 0, .string ⟨#[]⟩, .bool false], .int .i64 8]) (by simp [results, Tryd.results26, go_sem]) rfl ?_
      exact ⟨rfl, by repeat (first | exact Below.refl _ _ | refine Below.drew ?_ | refine Below.alloc ?_ (by simp <;> omega) _)⟩
    · rw [if_neg (by omega), if_neg (by omega)]
      by_cases hle : x ≤ y
      · rw [Int.min_eq_left hle]
        go_enter Tryd.func26, Tryd.ntmps26
        go_wp2_with (first | (go_at_call 47; (with_reducible refine (G1.out _).mono ?_); rintro e w' ⟨rfl, o1, rfl⟩) | (go_at_call 47; (with_reducible refine (G2.out _).mono ?_); rintro e w' ⟨rfl, o1, rfl⟩))
        go_region_held3 (fun w' => w'.cell? ⟨w.heap.size, 0, none⟩ = some (.int .u8 a.k) ∧ w'.cell? ⟨w.heap.size, 1, none⟩ = some (.int .i64 a.i) ∧ w'.cell? ⟨w.heap.size, 2, none⟩ = some (.string a.s) ∧ w'.cell? ⟨w.heap.size, 3, none⟩ = some (.bool a.b) ∧ w'.cell? ⟨w.heap.size + 1, 0, none⟩ = some (.int .u8 b.k) ∧ w'.cell? ⟨w.heap.size + 1, 1, none⟩ = some (.int .i64 b.i) ∧ w'.cell? ⟨w.heap.size + 1, 2, none⟩ = some (.string b.s) ∧ w'.cell? ⟨w.heap.size + 1, 3, none⟩ = some (.bool b.b)) (simp [*, go_sem, World.cell?_alloc_past])
          (first | (go_at_call 47; (with_reducible refine (G1.out _).mono ?_); rintro e w' ⟨rfl, o1, rfl⟩) | (go_at_call 47; (with_reducible refine (G2.out _).mono ?_); rintro e w' ⟨rfl, o1, rfl⟩) | (go_at_call 48; (with_reducible refine (back_any _ _).mono ?_); rintro e w1 ⟨rfl, hb⟩; obtain ⟨hc, hf⟩ := bcell hb))
        go_wp2
        refine bodyPost_ret (v := .tuple #[.agg #[.int .u8 (bck x).k, .int .i64 (bck x).i, .string (bck x).s, .bool (bck x).b], .int .i64 0]) (by simp [results, Tryd.results26, go_sem, hc]) rfl ?_
        exact ⟨rfl, by repeat (first | exact Below.refl _ _ | refine Below.setCell ?_ (by simp <;> omega) _ | refine Below.drew ?_ | refine Below.alloc ?_ (by simp <;> omega) _ | refine Below.trans ?_ (hb.mono (by simp <;> omega)))⟩
      · rw [Int.min_eq_right (by omega)]
        go_enter Tryd.func26, Tryd.ntmps26
        go_wp2_with (first | (go_at_call 47; (with_reducible refine (G1.out _).mono ?_); rintro e w' ⟨rfl, o1, rfl⟩) | (go_at_call 47; (with_reducible refine (G2.out _).mono ?_); rintro e w' ⟨rfl, o1, rfl⟩))
        go_region_held3 (fun w' => w'.cell? ⟨w.heap.size, 0, none⟩ = some (.int .u8 a.k) ∧ w'.cell? ⟨w.heap.size, 1, none⟩ = some (.int .i64 a.i) ∧ w'.cell? ⟨w.heap.size, 2, none⟩ = some (.string a.s) ∧ w'.cell? ⟨w.heap.size, 3, none⟩ = some (.bool a.b) ∧ w'.cell? ⟨w.heap.size + 1, 0, none⟩ = some (.int .u8 b.k) ∧ w'.cell? ⟨w.heap.size + 1, 1, none⟩ = some (.int .i64 b.i) ∧ w'.cell? ⟨w.heap.size + 1, 2, none⟩ = some (.string b.s) ∧ w'.cell? ⟨w.heap.size + 1, 3, none⟩ = some (.bool b.b)) (simp [*, go_sem, World.cell?_alloc_past])
          (first | (go_at_call 47; (with_reducible refine (G1.out _).mono ?_); rintro e w' ⟨rfl, o1, rfl⟩) | (go_at_call 47; (with_reducible refine (G2.out _).mono ?_); rintro e w' ⟨rfl, o1, rfl⟩) | (go_at_call 48; (with_reducible refine (back_any _ _).mono ?_); rintro e w1 ⟨rfl, hb⟩; obtain ⟨hc, hf⟩ := bcell hb))
        go_wp2
        refine bodyPost_ret (v := .tuple #[.agg #[.int .u8 (bck y).k, .int .i64 (bck y).i, .string (bck y).s, .bool (bck y).b], .int .i64 0]) (by simp [results, Tryd.results26, go_sem, hc]) rfl ?_
        exact ⟨rfl, by repeat (first | exact Below.refl _ _ | refine Below.setCell ?_ (by simp <;> omega) _ | refine Below.drew ?_ | refine Below.alloc ?_ (by simp <;> omega) _ | refine Below.trans ?_ (hb.mono (by simp <;> omega)))⟩
set_option maxHeartbeats 400000 in
theorem ror_any (a b : Val) (w : World) :
    Calls Tryd.prog 28 #[.agg #[.int .u8 a.k, .int .i64 a.i, .string a.s, .bool a.b], .agg #[.int .u8 b.k, .int .i64 b.i, .string b.s, .bool b.b]] w fun e w' => e = .returned (.tuple #[.agg #[.int .u8 (rorv a b).k, .int .i64 (rorv a b).i, .string (rorv a b).s, .bool (rorv a b).b], .int .i64 (rande a b)]) ∧ Below w.heap.size w w' := by
  have c1 := three_any a
  have c2 := three_any b
  obtain ⟨a0, a1⟩ := thr_bounds a
  obtain ⟨b0, b1⟩ := thr_bounds b
  unfold rorv rande
  generalize thr a = x at *
  generalize thr b = y at *
  have G1 := Lib.hid c1
  have G2 := Lib.hid c2
  clear c1 c2
  by_cases hx : x < 0
  · rw [if_pos (.inl hx), if_pos (.inl hx)]
    go_enter Tryd.func28, Tryd.ntmps28
    go_wp2_with (go_at_call 47; (with_reducible refine (G1.out _).mono ?_); rintro e w' ⟨rfl, o1, rfl⟩)
    refine bodyPost_ret (v := .tuple #[.agg #[.int .u8 0, .int .i64 0, .string ⟨#[]⟩, .bool false], .int .i64 8]) (by simp [results, Tryd.results28, go_sem]) rfl ?_
    exact ⟨rfl, by repeat (first | exact Below.refl _ _ | refine Below.drew ?_ | refine Below.alloc ?_ (by simp <;> omega) _)⟩
  · by_cases hy : y < 0
    · rw [if_pos (.inr hy), if_pos (.inr hy)]
      go_enter Tryd.func28, Tryd.ntmps28
      go_wp2_with (first | (go_at_call 47; (with_reducible refine (G1.out _).mono ?_); rintro e w' ⟨rfl, o1, rfl⟩) | (go_at_call 47; (with_reducible refine (G2.out _).mono ?_); rintro e w' ⟨rfl, o1, rfl⟩))
      refine bodyPost_ret (v := .tuple #[.agg #[.int .u8 0, .int .i64 0, .string ⟨#[]⟩, .bool false], .int .i64 8]) (by simp [results, Tryd.results28, go_sem]) rfl ?_
      exact ⟨rfl, by repeat (first | exact Below.refl _ _ | refine Below.drew ?_ | refine Below.alloc ?_ (by simp <;> omega) _)⟩
    · rw [if_neg (by omega), if_neg (by omega)]
      by_cases hle : x < y
      · rw [Int.max_eq_right (by omega)]
        go_enter Tryd.func28, Tryd.ntmps28
        go_wp2_with (first | (go_at_call 47; (with_reducible refine (G1.out _).mono ?_); rintro e w' ⟨rfl, o1, rfl⟩) | (go_at_call 47; (with_reducible refine (G2.out _).mono ?_); rintro e w' ⟨rfl, o1, rfl⟩))
        go_region_held3 (fun w' => w'.cell? ⟨w.heap.size, 0, none⟩ = some (.int .u8 a.k) ∧ w'.cell? ⟨w.heap.size, 1, none⟩ = some (.int .i64 a.i) ∧ w'.cell? ⟨w.heap.size, 2, none⟩ = some (.string a.s) ∧ w'.cell? ⟨w.heap.size, 3, none⟩ = some (.bool a.b) ∧ w'.cell? ⟨w.heap.size + 1, 0, none⟩ = some (.int .u8 b.k) ∧ w'.cell? ⟨w.heap.size + 1, 1, none⟩ = some (.int .i64 b.i) ∧ w'.cell? ⟨w.heap.size + 1, 2, none⟩ = some (.string b.s) ∧ w'.cell? ⟨w.heap.size + 1, 3, none⟩ = some (.bool b.b)) (simp [*, go_sem, World.cell?_alloc_past])
          (first | (go_at_call 47; (with_reducible refine (G1.out _).mono ?_); rintro e w' ⟨rfl, o1, rfl⟩) | (go_at_call 47; (with_reducible refine (G2.out _).mono ?_); rintro e w' ⟨rfl, o1, rfl⟩) | (go_at_call 48; (with_reducible refine (back_any _ _).mono ?_); rintro e w1 ⟨rfl, hb⟩; obtain ⟨hc, hf⟩ := bcell hb))
        go_wp2
        refine bodyPost_ret (v := .tuple #[.agg #[.int .u8 (bck y).k, .int .i64 (bck y).i, .string (bck y).s, .bool (bck y).b], .int .i64 0]) (by simp [results, Tryd.results28, go_sem, hc]) rfl ?_
        exact ⟨rfl, by repeat (first | exact Below.refl _ _ | refine Below.setCell ?_ (by simp <;> omega) _ | refine Below.drew ?_ | refine Below.alloc ?_ (by simp <;> omega) _ | refine Below.trans ?_ (hb.mono (by simp <;> omega)))⟩
      · rw [Int.max_eq_left (by omega)]
        go_enter Tryd.func28, Tryd.ntmps28
        go_wp2_with (first | (go_at_call 47; (with_reducible refine (G1.out _).mono ?_); rintro e w' ⟨rfl, o1, rfl⟩) | (go_at_call 47; (with_reducible refine (G2.out _).mono ?_); rintro e w' ⟨rfl, o1, rfl⟩))
        go_region_held3 (fun w' => w'.cell? ⟨w.heap.size, 0, none⟩ = some (.int .u8 a.k) ∧ w'.cell? ⟨w.heap.size, 1, none⟩ = some (.int .i64 a.i) ∧ w'.cell? ⟨w.heap.size, 2, none⟩ = some (.string a.s) ∧ w'.cell? ⟨w.heap.size, 3, none⟩ = some (.bool a.b) ∧ w'.cell? ⟨w.heap.size + 1, 0, none⟩ = some (.int .u8 b.k) ∧ w'.cell? ⟨w.heap.size + 1, 1, none⟩ = some (.int .i64 b.i) ∧ w'.cell? ⟨w.heap.size + 1, 2, none⟩ = some (.string b.s) ∧ w'.cell? ⟨w.heap.size + 1, 3, none⟩ = some (.bool b.b)) (simp [*, go_sem, World.cell?_alloc_past])
          (first | (go_at_call 47; (with_reducible refine (G1.out _).mono ?_); rintro e w' ⟨rfl, o1, rfl⟩) | (go_at_call 47; (with_reducible refine (G2.out _).mono ?_); rintro e w' ⟨rfl, o1, rfl⟩) | (go_at_call 48; (with_reducible refine (back_any _ _).mono ?_); rintro e w1 ⟨rfl, hb⟩; obtain ⟨hc, hf⟩ := bcell hb))
        go_wp2
        refine bodyPost_ret (v := .tuple #[.agg #[.int .u8 (bck x).k, .int .i64 (bck x).i, .string (bck x).s, .bool (bck x).b], .int .i64 0]) (by simp [results, Tryd.results28, go_sem, hc]) rfl ?_
        exact ⟨rfl, by repeat (first | exact Below.refl _ _ | refine Below.setCell ?_ (by simp <;> omega) _ | refine Below.drew ?_ | refine Below.alloc ?_ (by simp <;> omega) _ | refine Below.trans ?_ (hb.mono (by simp <;> omega)))⟩

set_option maxHeartbeats 400000 in
theorem rnot_any (a : Val) (w : World) :
    Calls Tryd.prog 29 #[.agg #[.int .u8 a.k, .int .i64 a.i, .string a.s, .bool a.b]] w fun e w' => e = .returned (.tuple #[.agg #[.int .u8 (rnotv a).k, .int .i64 (rnotv a).i, .string (rnotv a).s, .bool (rnotv a).b], .int .i64 (rnote a)]) ∧ Below w.heap.size w w' := by
  have c1 := three_any a
  obtain ⟨a0, a1⟩ := thr_bounds a
  unfold rnotv rnote
  generalize thr a = x at *
  have G1 := Lib.hid c1
  clear c1
  by_cases hx : x < 0
  · rw [if_pos hx, if_pos hx]
    go_enter Tryd.func29, Tryd.ntmps29
    go_wp2_with (go_at_call 47; (with_reducible refine (G1.out _).mono ?_); rintro e w' ⟨rfl, o1, rfl⟩)
    refine bodyPost_ret (v := .tuple #[.agg #[.int .u8 0, .int .i64 0, .string ⟨#[]⟩, .bool false], .int .i64 8]) (by simp [results, Tryd.results29, go_sem]) rfl ?_
    exact ⟨rfl, by repeat (first | exact Below.refl _ _ | refine Below.drew ?_ | refine Below.alloc ?_ (by simp <;> omega) _)⟩
  · rw [if_neg hx, if_neg hx]
    go_enter Tryd.func29, Tryd.ntmps29
    go_wp2_with (first | (go_at_call 47; (with_reducible refine (G1.out _).mono ?_); rintro e w' ⟨rfl, o1, rfl⟩) | (go_at_call 48; (with_reducible refine (back_any _ _).mono ?_); rintro e w1 ⟨rfl, hb⟩; obtain ⟨hc, hf⟩ := bcell hb))
    refine bodyPost_ret (v := .tuple #[.agg #[.int .u8 (bck (2 - x)).k, .int .i64 (bck (2 - x)).i, .string (bck (2 - x)).s, .bool (bck (2 - x)).b], .int .i64 0]) (by simp [results, Tryd.results29, go_sem, hc]) rfl ?_
    exact ⟨rfl, by repeat (first | exact Below.refl _ _ | refine Below.setCell ?_ (by simp <;> omega) _ | refine Below.drew ?_ | refine Below.alloc ?_ (by simp <;> omega) _ | refine Below.trans ?_ (hb.mono (by simp <;> omega)))⟩
end Go.Proofs.YtcloajmcfacfnaaDoor
