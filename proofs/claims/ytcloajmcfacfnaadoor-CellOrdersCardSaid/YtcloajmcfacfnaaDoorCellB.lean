/-
  Package cell: Less, Same, Compare, of any two values.
-/
import Derived.Test.YtcloajmcfacfnaaDoorCellA
import Derived.Deep.RegionHeld3
namespace Go.Proofs.YtcloajmcfacfnaaDoor
open Go.RowKit

theorem bcell {W w1 : World} (hb : Below W.heap.size W w1) : (∀ b o, b < W.heap.size → w1.cell? ⟨b, o, none⟩ = W.cell? ⟨b, o, none⟩) ∧ (∀ b o, b < W.heap.size → w1.frozen? ⟨b, o, none⟩ = W.frozen? ⟨b, o, none⟩) :=
  ⟨fun b o h => hb.cell (p := ⟨b, o, none⟩) h, fun b o h => hb.frozen (p := ⟨b, o, none⟩) h⟩

/-- In this world block b holds a value, field by field. -/
def HoldsVal (w : World) (b : Nat) (v : Val) : Prop :=
  w.cell? ⟨b, 0, none⟩ = some (.int .u8 v.k) ∧ w.cell? ⟨b, 1, none⟩ = some (.int .i64 v.i) ∧ w.cell? ⟨b, 2, none⟩ = some (.string v.s) ∧ w.cell? ⟨b, 3, none⟩ = some (.bool v.b)

/-- What cell.Less answers. -/
def cless (a b : Val) : Bool := if rnk (opn a) = rnk (opn b) then decide (ord2 (opn a) (opn b) < 0) else decide (rnk (opn a) < rnk (opn b))

set_option maxHeartbeats 400000 in
theorem less_any (a b : Val) (w : World) :
    Calls Tryd.prog 18 #[.agg #[.int .u8 a.k, .int .i64 a.i, .string a.s, .bool a.b], .agg #[.int .u8 b.k, .int .i64 b.i, .string b.s, .bool b.b]] w fun e w' => e = .returned (.bool (cless a b)) ∧ Below w.heap.size w w' := by
  unfold cless
  by_cases h : rnk (opn a) = rnk (opn b)
  · rw [if_pos h]
    have h1 : (rnk (opn a) != rnk (opn b)) = false := by simpa using h
    have H := Lib.hid h
    clear h
    go_enter Tryd.func18, Tryd.ntmps18
    go_wp2
    go_region_held3 (fun w' => w'.cell? ⟨w.heap.size, 0, none⟩ = some (.int .u8 a.k) ∧ w'.cell? ⟨w.heap.size, 1, none⟩ = some (.int .i64 a.i) ∧ w'.cell? ⟨w.heap.size, 2, none⟩ = some (.string a.s) ∧ w'.cell? ⟨w.heap.size, 3, none⟩ = some (.bool a.b) ∧ w'.cell? ⟨w.heap.size + 1, 0, none⟩ = some (.int .u8 b.k) ∧ w'.cell? ⟨w.heap.size + 1, 1, none⟩ = some (.int .i64 b.i) ∧ w'.cell? ⟨w.heap.size + 1, 2, none⟩ = some (.string b.s) ∧ w'.cell? ⟨w.heap.size + 1, 3, none⟩ = some (.bool b.b)) (simp [go_sem, World.cell?_alloc_past])
      (first | (go_at_call 38; (with_reducible refine (open_any a _).mono ?_); rintro e w' ⟨rfl, o1, rfl⟩) | (go_at_call 38; (with_reducible refine (open_any b _).mono ?_); rintro e w' ⟨rfl, o1, rfl⟩))
    go_wp2_with (first | (go_at_call 42; (with_reducible refine (rank_any (opn a) _).mono ?_); rintro e w' ⟨rfl, rfl⟩) | (go_at_call 42; (with_reducible refine (rank_any (opn b) _).mono ?_); rintro e w' ⟨rfl, rfl⟩) | (go_at_call 43; (with_reducible refine (order_any _ _ H.out _).mono ?_); rintro e w' ⟨rfl, rfl⟩))
    go_ret
    exact ⟨rfl, by repeat (first | exact Below.refl _ _ | refine Below.drew ?_ | refine Below.alloc ?_ (by simp <;> omega) _)⟩
  · rw [if_neg h]
    have h1 : (rnk (opn a) != rnk (opn b)) = true := by simpa using h
    clear h
    go_enter Tryd.func18, Tryd.ntmps18
    go_wp2
    go_region_held3 (fun w' => w'.cell? ⟨w.heap.size, 0, none⟩ = some (.int .u8 a.k) ∧ w'.cell? ⟨w.heap.size, 1, none⟩ = some (.int .i64 a.i) ∧ w'.cell? ⟨w.heap.size, 2, none⟩ = some (.string a.s) ∧ w'.cell? ⟨w.heap.size, 3, none⟩ = some (.bool a.b) ∧ w'.cell? ⟨w.heap.size + 1, 0, none⟩ = some (.int .u8 b.k) ∧ w'.cell? ⟨w.heap.size + 1, 1, none⟩ = some (.int .i64 b.i) ∧ w'.cell? ⟨w.heap.size + 1, 2, none⟩ = some (.string b.s) ∧ w'.cell? ⟨w.heap.size + 1, 3, none⟩ = some (.bool b.b)) (simp [go_sem, World.cell?_alloc_past])
      (first | (go_at_call 38; (with_reducible refine (open_any a _).mono ?_); rintro e w' ⟨rfl, o1, rfl⟩) | (go_at_call 38; (with_reducible refine (open_any b _).mono ?_); rintro e w' ⟨rfl, o1, rfl⟩))
    go_wp2_with (first | (go_at_call 42; (with_reducible refine (rank_any (opn a) _).mono ?_); rintro e w' ⟨rfl, rfl⟩) | (go_at_call 42; (with_reducible refine (rank_any (opn b) _).mono ?_); rintro e w' ⟨rfl, rfl⟩))
    go_ret
    exact ⟨rfl, by repeat (first | exact Below.refl _ _ | refine Below.drew ?_ | refine Below.alloc ?_ (by simp <;> omega) _)⟩

/-- What cell.Same answers. -/
def csame (a b : Val) : Bool := !cless a b && !cless b a

set_option maxHeartbeats 400000 in
theorem same_any (a b : Val) (w : World) :
    Calls Tryd.prog 22 #[.agg #[.int .u8 a.k, .int .i64 a.i, .string a.s, .bool a.b], .agg #[.int .u8 b.k, .int .i64 b.i, .string b.s, .bool b.b]] w fun e w' => e = .returned (.bool (csame a b)) ∧ Below w.heap.size w w' := by
  unfold csame
  cases h1 : cless a b with
  | true =>
    have g := less_any a b
    rw [h1] at g
    have G := Lib.hid g
    clear g h1
    go_enter Tryd.func22, Tryd.ntmps22
    go_wp2_with (go_at_call 18; (with_reducible refine (G.out _).mono ?_); rintro e w1 ⟨rfl, hb⟩; obtain ⟨hc, hf⟩ := bcell hb)
    go_ret
    exact ⟨rfl, ((((Below.refl _ _).alloc (Nat.le_refl _) _).alloc (by simp) _).trans (hb.mono (by simp <;> omega)))⟩
  | false =>
    have g := less_any a b
    rw [h1] at g
    have G := Lib.hid g
    clear g h1
    have g := less_any b a
    have G2 := Lib.hid g
    clear g
    go_enter Tryd.func22, Tryd.ntmps22
    go_wp2_with (first | (go_at_call 18; (with_reducible refine (G.out _).mono ?_); rintro e w1 ⟨rfl, hb⟩; obtain ⟨hc, hf⟩ := bcell hb) | (go_at_call 18; (with_reducible refine (G2.out _).mono ?_); rintro e w1 ⟨rfl, hb2⟩; obtain ⟨hc, hf⟩ := bcell hb2))
    go_ret
    exact ⟨by simp, ((((Below.refl _ _).alloc (Nat.le_refl _) _).alloc (by simp) _).trans (hb.mono (by simp <;> omega))).trans (hb2.mono (by have := hb.size; simp at this; omega))⟩

/-- What cell.Compare answers. -/
def isNil : Held → Bool
  | .nil => true
  | _ => false
def unk (a b : Val) : Bool := isNil (opn a) || isNil (opn b)
def cmpv (a b : Val) : Int := if unk a b = true ∨ ¬ rnk (opn a) = rnk (opn b) then 0 else ord2 (opn a) (opn b)
def cmpk (a b : Val) : Bool := !unk a b && decide (rnk (opn a) = rnk (opn b))
def cmpe (a b : Val) : Int := if unk a b = true ∨ rnk (opn a) = rnk (opn b) then 0 else 8

theorem nil_of {h : Held} (hn : isNil h = true) : h = .nil := by cases h <;> simp [isNil] at hn ⊢

theorem eqnil (x : Held) (w : World) : (binOp .eql 20 x.val .nilIface).run Tryd.prog w = .ok (.bool (isNil x)) w := by
  cases x <;> kernel_rfl

theorem eqg (x : Held) (o : Operand) (w : World) : (eqGuard .eql 20 o (.const .nilIface) x.val .nilIface).run Tryd.prog w = .ok () w := by
  cases o <;> cases x <;> kernel_rfl

set_option maxHeartbeats 400000 in
theorem compare_any (a b : Val) (w : World) :
    Calls Tryd.prog 19 #[.agg #[.int .u8 a.k, .int .i64 a.i, .string a.s, .bool a.b], .agg #[.int .u8 b.k, .int .i64 b.i, .string b.s, .bool b.b]] w fun e w' => e = .returned (.tuple #[.int .i64 (cmpv a b), .bool (cmpk a b), .int .i64 (cmpe a b)]) ∧ Below w.heap.size w w' := by
  have g1 := open_any a
  have g2 := open_any b
  unfold cmpv cmpk cmpe unk
  generalize opn a = x at *
  generalize opn b = y at *
  have G1 := Lib.hid g1
  have G2 := Lib.hid g2
  have q1 := eqnil x
  have q2 := eqnil y
  have q3 := eqg x
  have q4 := eqg y
  clear g1 g2
  cases h1 : isNil x with
  | true =>
    rw [h1] at q1
    rw [if_pos (.inl rfl), if_pos (.inl rfl)]
    simp only [Bool.true_or, Bool.not_true, Bool.false_and]
    clear h1
    go_enter Tryd.func19, Tryd.ntmps19
    go_wp2
    go_region_held3 (fun w' => w'.cell? ⟨w.heap.size, 0, none⟩ = some (.int .u8 a.k) ∧ w'.cell? ⟨w.heap.size, 1, none⟩ = some (.int .i64 a.i) ∧ w'.cell? ⟨w.heap.size, 2, none⟩ = some (.string a.s) ∧ w'.cell? ⟨w.heap.size, 3, none⟩ = some (.bool a.b) ∧ w'.cell? ⟨w.heap.size + 1, 0, none⟩ = some (.int .u8 b.k) ∧ w'.cell? ⟨w.heap.size + 1, 1, none⟩ = some (.int .i64 b.i) ∧ w'.cell? ⟨w.heap.size + 1, 2, none⟩ = some (.string b.s) ∧ w'.cell? ⟨w.heap.size + 1, 3, none⟩ = some (.bool b.b)) (simp [go_sem, World.cell?_alloc_past])
      (first | (go_at_call 38; (with_reducible refine (G1.out _).mono ?_); rintro e w' ⟨rfl, o1, rfl⟩) | (go_at_call 38; (with_reducible refine (G2.out _).mono ?_); rintro e w' ⟨rfl, o1, rfl⟩))
    go_wp2
    go_ret3
    exact ⟨rfl, by repeat (first | exact Below.refl _ _ | refine Below.drew ?_ | refine Below.alloc ?_ (by simp <;> omega) _)⟩
  | false =>
    rw [h1] at q1
    cases h2 : isNil y with
    | true =>
      rw [h2] at q2
      rw [if_pos (.inl rfl), if_pos (.inl rfl)]
      simp only [Bool.false_or, Bool.not_true, Bool.false_and]
      clear h1 h2
      go_enter Tryd.func19, Tryd.ntmps19
      go_wp2
      go_region_held3 (fun w' => w'.cell? ⟨w.heap.size, 0, none⟩ = some (.int .u8 a.k) ∧ w'.cell? ⟨w.heap.size, 1, none⟩ = some (.int .i64 a.i) ∧ w'.cell? ⟨w.heap.size, 2, none⟩ = some (.string a.s) ∧ w'.cell? ⟨w.heap.size, 3, none⟩ = some (.bool a.b) ∧ w'.cell? ⟨w.heap.size + 1, 0, none⟩ = some (.int .u8 b.k) ∧ w'.cell? ⟨w.heap.size + 1, 1, none⟩ = some (.int .i64 b.i) ∧ w'.cell? ⟨w.heap.size + 1, 2, none⟩ = some (.string b.s) ∧ w'.cell? ⟨w.heap.size + 1, 3, none⟩ = some (.bool b.b)) (simp [go_sem, World.cell?_alloc_past])
        (first | (go_at_call 38; (with_reducible refine (G1.out _).mono ?_); rintro e w' ⟨rfl, o1, rfl⟩) | (go_at_call 38; (with_reducible refine (G2.out _).mono ?_); rintro e w' ⟨rfl, o1, rfl⟩))
      go_wp2
      go_ret3
      exact ⟨rfl, by repeat (first | exact Below.refl _ _ | refine Below.drew ?_ | refine Below.alloc ?_ (by simp <;> omega) _)⟩
    | false =>
      rw [h2] at q2
      clear h1 h2
      by_cases hr : rnk x = rnk y
      · rw [if_neg (by simp [hr]), if_pos (.inr hr), decide_eq_true hr]
        simp only [Bool.false_or, Bool.not_false, Bool.true_and]
        have hr1 : (rnk x != rnk y) = false := by simpa using hr
        have H := Lib.hid hr
        clear hr
        go_enter Tryd.func19, Tryd.ntmps19
        go_wp2
        go_region_held3 (fun w' => w'.cell? ⟨w.heap.size, 0, none⟩ = some (.int .u8 a.k) ∧ w'.cell? ⟨w.heap.size, 1, none⟩ = some (.int .i64 a.i) ∧ w'.cell? ⟨w.heap.size, 2, none⟩ = some (.string a.s) ∧ w'.cell? ⟨w.heap.size, 3, none⟩ = some (.bool a.b) ∧ w'.cell? ⟨w.heap.size + 1, 0, none⟩ = some (.int .u8 b.k) ∧ w'.cell? ⟨w.heap.size + 1, 1, none⟩ = some (.int .i64 b.i) ∧ w'.cell? ⟨w.heap.size + 1, 2, none⟩ = some (.string b.s) ∧ w'.cell? ⟨w.heap.size + 1, 3, none⟩ = some (.bool b.b)) (simp [go_sem, World.cell?_alloc_past])
          (first | (go_at_call 38; (with_reducible refine (G1.out _).mono ?_); rintro e w' ⟨rfl, o1, rfl⟩) | (go_at_call 38; (with_reducible refine (G2.out _).mono ?_); rintro e w' ⟨rfl, o1, rfl⟩))
        go_wp2_with (first | (go_at_call 42; (with_reducible refine (rank_any x _).mono ?_); rintro e w' ⟨rfl, rfl⟩) | (go_at_call 42; (with_reducible refine (rank_any y _).mono ?_); rintro e w' ⟨rfl, rfl⟩) | (go_at_call 43; (with_reducible refine (order_any x y H.out _).mono ?_); rintro e w' ⟨rfl, rfl⟩))
        go_ret3
        exact ⟨rfl, by repeat (first | exact Below.refl _ _ | refine Below.drew ?_ | refine Below.alloc ?_ (by simp <;> omega) _)⟩
      · rw [if_pos (.inr hr), if_neg (by simp [hr]), decide_eq_false hr]
        simp only [Bool.false_or, Bool.and_false]
        have hr1 : (rnk x != rnk y) = true := by simpa using hr
        clear hr
        go_enter Tryd.func19, Tryd.ntmps19
        go_wp2
        go_region_held3 (fun w' => w'.cell? ⟨w.heap.size, 0, none⟩ = some (.int .u8 a.k) ∧ w'.cell? ⟨w.heap.size, 1, none⟩ = some (.int .i64 a.i) ∧ w'.cell? ⟨w.heap.size, 2, none⟩ = some (.string a.s) ∧ w'.cell? ⟨w.heap.size, 3, none⟩ = some (.bool a.b) ∧ w'.cell? ⟨w.heap.size + 1, 0, none⟩ = some (.int .u8 b.k) ∧ w'.cell? ⟨w.heap.size + 1, 1, none⟩ = some (.int .i64 b.i) ∧ w'.cell? ⟨w.heap.size + 1, 2, none⟩ = some (.string b.s) ∧ w'.cell? ⟨w.heap.size + 1, 3, none⟩ = some (.bool b.b)) (simp [go_sem, World.cell?_alloc_past])
          (first | (go_at_call 38; (with_reducible refine (G1.out _).mono ?_); rintro e w' ⟨rfl, o1, rfl⟩) | (go_at_call 38; (with_reducible refine (G2.out _).mono ?_); rintro e w' ⟨rfl, o1, rfl⟩))
        go_wp2_with (first | (go_at_call 42; (with_reducible refine (rank_any x _).mono ?_); rintro e w' ⟨rfl, rfl⟩) | (go_at_call 42; (with_reducible refine (rank_any y _).mono ?_); rintro e w' ⟨rfl, rfl⟩))
        go_ret3
        exact ⟨rfl, by repeat (first | exact Below.refl _ _ | refine Below.drew ?_ | refine Below.alloc ?_ (by simp <;> omega) _)⟩
end Go.Proofs.YtcloajmcfacfnaaDoor
