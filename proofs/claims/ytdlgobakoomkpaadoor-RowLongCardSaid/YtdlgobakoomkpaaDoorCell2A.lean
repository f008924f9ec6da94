/-
  The document's own answers for cell (ref02): places, truth by numbers.
-/
import Derived.Test.YtdlgobakoomkpaaDoorCellB
namespace Go.Proofs.YtdlgobakoomkpaaDoor
open Go.RowKit

/-- Which kinds stand ahead. -/
def plc (v : Val) : Int := if v.k = 3 then (if v.b = true then 2 else 1) else if v.k = 1 then 3 else if v.k = 2 then 4 else 0
/-- 0 false, 1 unknown, 2 true; -1: no truth. -/
def thr (v : Val) : Int := if v.k = 0 then 1 else if v.k = 3 then (if v.b = true then 2 else 0) else -1
/-- What 'back' makes of these. -/
def bck (n : Int) : Val := if n = 1 then ⟨0, 0, ⟨#[]⟩, false⟩ else ⟨3, 0, ⟨#[]⟩, n == 2⟩

set_option maxHeartbeats 400000 in
theorem place_any (v : Val) (w : World) :
    Calls Tryd.prog 42 #[.agg #[.int .u8 v.k, .int .i64 v.i, .string v.s, .bool v.b]] w fun e w' => e = .returned (.int .i64 (plc v)) ∧ ∃ c : Array Value, w' = w.alloc (.cells c 43) := by
  obtain ⟨k, i, s, b⟩ := v
  unfold plc
  simp only []
  by_cases h3 : k = 3
  · rw [if_pos h3]
    subst h3
    cases b
    all_goals
      go_enter Tryd.func42, Tryd.ntmps42
      go_wp2
      go_ret
      exact ⟨rfl, _, rfl⟩
  · rw [if_neg h3]
    have g3 : (k == 3) = false := by simpa using h3
    by_cases h1 : k = 1
    · rw [if_pos h1]
      subst h1
      clear h3 g3
      go_enter Tryd.func42, Tryd.ntmps42
      go_wp2
      go_ret
      exact ⟨rfl, _, rfl⟩
    · rw [if_neg h1]
      have g1 : (k == 1) = false := by simpa using h1
      by_cases h2 : k = 2
      · rw [if_pos h2]
        subst h2
        clear h3 g3 h1 g1
        go_enter Tryd.func42, Tryd.ntmps42
        go_wp2
        go_ret
        exact ⟨rfl, _, rfl⟩
      · rw [if_neg h2]
        have g2 : (k == 2) = false := by simpa using h2
        clear h1 h2 h3
        go_enter Tryd.func42, Tryd.ntmps42
        go_wp2
        go_ret
        exact ⟨rfl, _, rfl⟩

set_option maxHeartbeats 400000 in
theorem truthOf_any (b : Bool) (w : World) :
    Calls Tryd.prog 41 #[.bool b] w fun e w' => e = .returned (.agg #[.int .u8 3, .int .i64 0, .string ⟨#[]⟩, .bool b]) ∧ ∃ c : Array Value, w' = w.alloc (.cells c 43) := by
  go_enter Tryd.func41, Tryd.ntmps41
  go_wp2
  refine bodyPost_ret (v := .agg #[.int .u8 3, .int .i64 0, .string ⟨#[]⟩, .bool b]) (by simp [results, Tryd.results41, go_sem]) rfl ?_
  exact ⟨rfl, _, rfl⟩

/-- The order of all values. -/
def rlt (a b : Val) : Bool := (a.k == 1 && decide (a.i < b.i)) || (a.k == 2 && sless a.s b.s)
def rless (a b : Val) : Bool := if plc a = plc b then rlt a b else decide (plc a < plc b)

theorem rlt1 {a b : Val} (h : a.k = 1) : rlt a b = decide (a.i < b.i) := by unfold rlt; rw [h]; simp
theorem rlt2 {a b : Val} (h : a.k = 2) : rlt a b = sless a.s b.s := by unfold rlt; rw [h]; simp
theorem rlt0 {a b : Val} (h1 : ¬ a.k = 1) (h2 : ¬ a.k = 2) : rlt a b = false := by unfold rlt; simp [h1, h2]

set_option maxHeartbeats 400000 in
theorem rless_any (a b : Val) (w : World) :
    Calls Tryd.prog 25 #[.agg #[.int .u8 a.k, .int .i64 a.i, .string a.s, .bool a.b], .agg #[.int .u8 b.k, .int .i64 b.i, .string b.s, .bool b.b]] w fun e w' => e = .returned (.bool (rless a b)) ∧ Below w.heap.size w w' := by
  unfold rless
  by_cases h : plc a = plc b
  · rw [if_pos h]
    have g : (plc a != plc b) = false := by simpa using h
    clear h
    have c1 := place_any a
    have c2 := place_any b
    generalize plc a = x at *
    generalize plc b = y at *
    have G1 := Lib.hid c1
    have G2 := Lib.hid c2
    clear c1 c2
    by_cases h1 : a.k = 1
    · rw [rlt1 h1]
      have g1 : (a.k == 1) = true := by simpa using h1
      have g2 : (a.k == 2) = false := by rw [h1]; rfl
      clear h1
      by_cases hlt : a.i < b.i
      · rw [decide_eq_true hlt]
        go_enter Tryd.func25, Tryd.ntmps25
        go_wp2
        go_region_held3 (fun w' => w'.cell? ⟨w.heap.size, 0, none⟩ = some (.int .u8 a.k) ∧ w'.cell? ⟨w.heap.size, 1, none⟩ = some (.int .i64 a.i) ∧ w'.cell? ⟨w.heap.size, 2, none⟩ = some (.string a.s) ∧ w'.cell? ⟨w.heap.size, 3, none⟩ = some (.bool a.b) ∧ w'.cell? ⟨w.heap.size + 1, 0, none⟩ = some (.int .u8 b.k) ∧ w'.cell? ⟨w.heap.size + 1, 1, none⟩ = some (.int .i64 b.i) ∧ w'.cell? ⟨w.heap.size + 1, 2, none⟩ = some (.string b.s) ∧ w'.cell? ⟨w.heap.size + 1, 3, none⟩ = some (.bool b.b)) (simp [go_sem, World.cell?_alloc_past])
          (first | (go_at_call 42; (with_reducible refine (G1.out _).mono ?_); rintro e w' ⟨rfl, o1, rfl⟩) | (go_at_call 42; (with_reducible refine (G2.out _).mono ?_); rintro e w' ⟨rfl, o1, rfl⟩))
        go_wp2
        go_ret
        exact ⟨rfl, by repeat (first | exact Below.refl _ _ | refine Below.drew ?_ | refine Below.alloc ?_ (by simp <;> omega) _)⟩
      · go_enter Tryd.func25, Tryd.ntmps25
        go_wp2
        go_region_held3 (fun w' => w'.cell? ⟨w.heap.size, 0, none⟩ = some (.int .u8 a.k) ∧ w'.cell? ⟨w.heap.size, 1, none⟩ = some (.int .i64 a.i) ∧ w'.cell? ⟨w.heap.size, 2, none⟩ = some (.string a.s) ∧ w'.cell? ⟨w.heap.size, 3, none⟩ = some (.bool a.b) ∧ w'.cell? ⟨w.heap.size + 1, 0, none⟩ = some (.int .u8 b.k) ∧ w'.cell? ⟨w.heap.size + 1, 1, none⟩ = some (.int .i64 b.i) ∧ w'.cell? ⟨w.heap.size + 1, 2, none⟩ = some (.string b.s) ∧ w'.cell? ⟨w.heap.size + 1, 3, none⟩ = some (.bool b.b)) (simp [go_sem, World.cell?_alloc_past])
          (first | (go_at_call 42; (with_reducible refine (G1.out _).mono ?_); rintro e w' ⟨rfl, o1, rfl⟩) | (go_at_call 42; (with_reducible refine (G2.out _).mono ?_); rintro e w' ⟨rfl, o1, rfl⟩))
        go_wp2
        go_ret
        exact ⟨rfl, by repeat (first | exact Below.refl _ _ | refine Below.drew ?_ | refine Below.alloc ?_ (by simp <;> omega) _)⟩
    · by_cases h2 : a.k = 2
      · rw [rlt2 h2]
        have g1 : (a.k == 1) = false := by rw [h2]; rfl
        have g2 : (a.k == 2) = true := by simpa using h2
        clear h1 h2
        unfold sless
        cases hs : Op.bytesLess a.s.toList b.s.toList
        all_goals
          go_enter Tryd.func25, Tryd.ntmps25
          go_wp2
          go_region_held3 (fun w' => w'.cell? ⟨w.heap.size, 0, none⟩ = some (.int .u8 a.k) ∧ w'.cell? ⟨w.heap.size, 1, none⟩ = some (.int .i64 a.i) ∧ w'.cell? ⟨w.heap.size, 2, none⟩ = some (.string a.s) ∧ w'.cell? ⟨w.heap.size, 3, none⟩ = some (.bool a.b) ∧ w'.cell? ⟨w.heap.size + 1, 0, none⟩ = some (.int .u8 b.k) ∧ w'.cell? ⟨w.heap.size + 1, 1, none⟩ = some (.int .i64 b.i) ∧ w'.cell? ⟨w.heap.size + 1, 2, none⟩ = some (.string b.s) ∧ w'.cell? ⟨w.heap.size + 1, 3, none⟩ = some (.bool b.b)) (simp [go_sem, World.cell?_alloc_past])
            (first | (go_at_call 42; (with_reducible refine (G1.out _).mono ?_); rintro e w' ⟨rfl, o1, rfl⟩) | (go_at_call 42; (with_reducible refine (G2.out _).mono ?_); rintro e w' ⟨rfl, o1, rfl⟩))
          go_wp2
          go_ret
          exact ⟨rfl, by repeat (first | exact Below.refl _ _ | refine Below.drew ?_ | refine Below.alloc ?_ (by simp <;> omega) _)⟩
      · rw [rlt0 h1 h2]
        have g1 : (a.k == 1) = false := by simpa using h1
        have g2 : (a.k == 2) = false := by simpa using h2
        clear h1 h2
        go_enter Tryd.func25, Tryd.ntmps25
        go_wp2
        go_region_held3 (fun w' => w'.cell? ⟨w.heap.size, 0, none⟩ = some (.int .u8 a.k) ∧ w'.cell? ⟨w.heap.size, 1, none⟩ = some (.int .i64 a.i) ∧ w'.cell? ⟨w.heap.size, 2, none⟩ = some (.string a.s) ∧ w'.cell? ⟨w.heap.size, 3, none⟩ = some (.bool a.b) ∧ w'.cell? ⟨w.heap.size + 1, 0, none⟩ = some (.int .u8 b.k) ∧ w'.cell? ⟨w.heap.size + 1, 1, none⟩ = some (.int .i64 b.i) ∧ w'.cell? ⟨w.heap.size + 1, 2, none⟩ = some (.string b.s) ∧ w'.cell? ⟨w.heap.size + 1, 3, none⟩ = some (.bool b.b)) (simp [go_sem, World.cell?_alloc_past])
          (first | (go_at_call 42; (with_reducible refine (G1.out _).mono ?_); rintro e w' ⟨rfl, o1, rfl⟩) | (go_at_call 42; (with_reducible refine (G2.out _).mono ?_); rintro e w' ⟨rfl, o1, rfl⟩))
        go_wp2
        go_ret
        exact ⟨rfl, by repeat (first | exact Below.refl _ _ | refine Below.drew ?_ | refine Below.alloc ?_ (by simp <;> omega) _)⟩
  · rw [if_neg h]
    have g : (plc a != plc b) = true := by simpa using h
    clear h
    have c1 := place_any a
    have c2 := place_any b
    generalize plc a = x at *
    generalize plc b = y at *
    have G1 := Lib.hid c1
    have G2 := Lib.hid c2
    clear c1 c2
    go_enter Tryd.func25, Tryd.ntmps25
    go_wp2
    go_region_held3 (fun w' => w'.cell? ⟨w.heap.size, 0, none⟩ = some (.int .u8 a.k) ∧ w'.cell? ⟨w.heap.size, 1, none⟩ = some (.int .i64 a.i) ∧ w'.cell? ⟨w.heap.size, 2, none⟩ = some (.string a.s) ∧ w'.cell? ⟨w.heap.size, 3, none⟩ = some (.bool a.b) ∧ w'.cell? ⟨w.heap.size + 1, 0, none⟩ = some (.int .u8 b.k) ∧ w'.cell? ⟨w.heap.size + 1, 1, none⟩ = some (.int .i64 b.i) ∧ w'.cell? ⟨w.heap.size + 1, 2, none⟩ = some (.string b.s) ∧ w'.cell? ⟨w.heap.size + 1, 3, none⟩ = some (.bool b.b)) (simp [go_sem, World.cell?_alloc_past])
      (first | (go_at_call 42; (with_reducible refine (G1.out _).mono ?_); rintro e w' ⟨rfl, o1, rfl⟩) | (go_at_call 42; (with_reducible refine (G2.out _).mono ?_); rintro e w' ⟨rfl, o1, rfl⟩))
    go_wp2
    go_region_held3 (fun w' => w'.cell? ⟨w.heap.size, 0, none⟩ = some (.int .u8 a.k) ∧ w'.cell? ⟨w.heap.size, 1, none⟩ = some (.int .i64 a.i) ∧ w'.cell? ⟨w.heap.size, 2, none⟩ = some (.string a.s) ∧ w'.cell? ⟨w.heap.size, 3, none⟩ = some (.bool a.b) ∧ w'.cell? ⟨w.heap.size + 1, 0, none⟩ = some (.int .u8 b.k) ∧ w'.cell? ⟨w.heap.size + 1, 1, none⟩ = some (.int .i64 b.i) ∧ w'.cell? ⟨w.heap.size + 1, 2, none⟩ = some (.string b.s) ∧ w'.cell? ⟨w.heap.size + 1, 3, none⟩ = some (.bool b.b)) (simp [go_sem, World.cell?_alloc_past])
      (first | (go_at_call 42; (with_reducible refine (G1.out _).mono ?_); rintro e w' ⟨rfl, o1, rfl⟩) | (go_at_call 42; (with_reducible refine (G2.out _).mono ?_); rintro e w' ⟨rfl, o1, rfl⟩))
    go_wp2
    go_ret
    exact ⟨rfl, by repeat (first | exact Below.refl _ _ | refine Below.drew ?_ | refine Below.alloc ?_ (by simp <;> omega) _)⟩

/-- What ref's Same answers. -/
def rsame (a b : Val) : Bool := !rless a b && !rless b a

set_option maxHeartbeats 400000 in
theorem rsame_any (a b : Val) (w : World) :
    Calls Tryd.prog 24 #[.agg #[.int .u8 a.k, .int .i64 a.i, .string a.s, .bool a.b], .agg #[.int .u8 b.k, .int .i64 b.i, .string b.s, .bool b.b]] w fun e w' => e = .returned (.bool (rsame a b)) ∧ Below w.heap.size w w' := by
  unfold rsame
  cases h1 : rless a b with
  | true =>
    have g := rless_any a b
    rw [h1] at g
    have G := Lib.hid g
    clear g h1
    go_enter Tryd.func24, Tryd.ntmps24
    go_wp2_with (go_at_call 25; (with_reducible refine (G.out _).mono ?_); rintro e w1 ⟨rfl, hb⟩; obtain ⟨hc, hf⟩ := bcell hb)
    go_ret
    exact ⟨rfl, ((((Below.refl _ _).alloc (Nat.le_refl _) _).alloc (by simp) _).trans (hb.mono (by simp <;> omega)))⟩
  | false =>
    have g := rless_any a b
    rw [h1] at g
    have G := Lib.hid g
    clear g h1
    have g := rless_any b a
    have G2 := Lib.hid g
    clear g
    go_enter Tryd.func24, Tryd.ntmps24
    go_wp2_with (first | (go_at_call 25; (with_reducible refine (G.out _).mono ?_); rintro e w1 ⟨rfl, hb⟩; obtain ⟨hc, hf⟩ := bcell hb) | (go_at_call 25; (with_reducible refine (G2.out _).mono ?_); rintro e w1 ⟨rfl, hb2⟩; obtain ⟨hc, hf⟩ := bcell hb2))
    go_ret
    exact ⟨by simp, ((((Below.refl _ _).alloc (Nat.le_refl _) _).alloc (by simp) _).trans (hb.mono (by simp <;> omega))).trans (hb2.mono (by have := hb.size; simp at this; omega))⟩

/-- What ref's Compare answers. -/
def rcmpv (a b : Val) : Int := if a.k = 0 ∨ b.k = 0 ∨ ¬ a.k = b.k then 0 else if rless a b = true then -1 else if rless b a = true then 1 else 0
def rcmpk (a b : Val) : Bool := decide (¬ (a.k = 0 ∨ b.k = 0) ∧ a.k = b.k)
def rcmpe (a b : Val) : Int := if a.k = 0 ∨ b.k = 0 ∨ a.k = b.k then 0 else 8

end Go.Proofs.YtdlgobakoomkpaaDoor
