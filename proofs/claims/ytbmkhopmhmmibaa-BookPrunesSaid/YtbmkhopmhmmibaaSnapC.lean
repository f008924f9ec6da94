/-
  Package snap: Sees, Visible, Dead.
-/
import Derived.Test.YtbmkhopmhmmibaaSnapB
namespace Go.Proofs.Ytbmkhopmhmmibaa
open Go.RowKit
set_option linter.unusedVariables false

theorem cont_any (w : World) (b : Nat) (v : Value) (R : List Nat) (x : Nat) (h : w.ownsRow b 28 1 v R.length (ucells .u64 R)) (hn : R.length ≤ 9223372036854775807) :
    Calls Try.prog 98 #[v, .int .u64 (x : Int)] w fun e w' => e = .returned (.bool (decide (x ∈ R))) ∧ w' = w := by
  rcases h.2 with ⟨rfl, h0⟩ | ⟨g, c, cur, rfl, _, _, hnc, hmc, _, _⟩
  · have hR : R = [] := List.eq_nil_of_length_eq_zero h0
    subst hR
    refine (Try.slices_Contains_empty (α := Int) none 0 _ w).mono ?_
    rintro e w' ⟨rfl, rfl⟩
    exact ⟨by simp, rfl⟩
  · have hc := Try.slices_Contains (Value.int .u64) (· == ·) (EqlAt.int _ _ .u64) g 0 R.length c (R.map fun n : Nat => (n : Int)) (x : Int) w (by simp) hn (fun j hj => by
      have hj' : j < R.length := by simpa using hj
      have h1 := (h.cellAt j (by omega)).trans (ucells_get .u64 R j hj')
      rw [getElem!_pos _ j hj, List.getElem_map, Nat.zero_add]
      exact h1)
    refine hc.mono ?_
    rintro e w' ⟨rfl, rfl⟩
    refine ⟨?_, rfl⟩
    congr 2
    rw [List.take_of_length_le (by simp), Bool.eq_iff_iff, List.any_eq_true, decide_eq_true_iff]
    constructor
    · rintro ⟨y, hy, e⟩
      obtain ⟨n, hn, rfl⟩ := List.mem_map.1 hy
      have : (x : Int) = (n : Int) := by simpa using e
      have : x = n := by omega
      rw [this]; exact hn
    · intro hx
      exact ⟨(x : Int), List.mem_map.2 ⟨x, hx, rfl⟩, by simp⟩
/-- What a snapshot sees of a transaction; of a version. -/
def seesB (f : Nat) (S : List Nat) (own xmax : Nat) (R : List Nat) (x : Nat) : Bool := decide (x = own) || (decide (x < xmax) && !decide (x ∈ R) && decide (stt f S x = 2))
def visB (f : Nat) (S : List Nat) (own xmax : Nat) (R : List Nat) (a b : Nat) : Bool := seesB f S own xmax R a && (decide (b = 0) || !seesB f S own xmax R b)
def deadB (f : Nat) (S : List Nat) (a b h : Nat) : Bool := decide (stt f S a = 3) || (decide (b < h) && decide (stt f S b = 2))
theorem beq_int {a b : Nat} : ((a : Int) == (b : Int)) = decide (a = b) := by
  by_cases h : a = b
  · rw [h]; simp
  · rw [decide_eq_false h]; exact beq_eq_false_iff_ne.2 (by omega)
set_option maxRecDepth 100000 in
set_option maxHeartbeats 1000000 in
theorem sees_any (w : World) (g f own xmin xmax x b : Nat) (S R : List Nat) (F : Nat → Prop) (v : Value) (h : LG w g f S F) (hR : w.ownsRow b 28 1 v R.length (ucells .u64 R)) (hn : R.length ≤ 9223372036854775807) :
    Calls Try.prog 97 #[.pointer (some ⟨g, 0, none⟩), .agg #[.int .u64 (own : Int), .int .u64 (xmin : Int), .int .u64 (xmax : Int), v], .int .u64 (x : Int)] w fun e w' => e = .returned (.bool (seesB f S own xmax R x)) ∧ Below w.heap.size w w' := by
  obtain ⟨A, c, hv, _, _, _⟩ := own_form hR
  subst hv
  have hA : Below w.heap.size w (w.alloc (.cells #[.int .u64 (own : Int), .int .u64 (xmin : Int), .int .u64 (xmax : Int), .slice A R.length c] 50)) := (Below.refl _ _).al _
  have b0 := Bx.new w 50 #[.int .u64 (own : Int), .int .u64 (xmin : Int), .int .u64 (xmax : Int), .slice A R.length c] [.int .u64 (own : Int), .int .u64 (xmin : Int), .int .u64 (xmax : Int), .slice A R.length c] rfl
  have h1 := h.below hA
  have R1 := own_below hR hA
  have k0 := b0.cell 0
  have k2 := b0.cell 2
  have k3 := b0.cell 3
  have HC := Lib.hid (cont_any _ b _ R x R1 hn)
  have HS := Lib.hid (lg_state _ g f x S F h1)
  by_cases hx : x = own
  · have e : seesB f S own xmax R x = true := by unfold seesB; rw [decide_eq_true hx]; rfl
    rw [e]
    have hb : ((x : Int) == (own : Int)) = true := by rw [beq_int, decide_eq_true hx]
    clear h hR R1 h1 b0 e hx
    go_enter Try.func97, Try.ntmps97
    go_wp2
    go_ret
    exact ⟨rfl, hA⟩
  · have hb : ((x : Int) == (own : Int)) = false := by rw [beq_int, decide_eq_false hx]
    have e : seesB f S own xmax R x = (decide (x < xmax) && !decide (x ∈ R) && decide (stt f S x = 2)) := by unfold seesB; rw [decide_eq_false hx]; rfl
    rw [e]
    clear h hR R1 h1 b0 e hx
    by_cases hlt : x < xmax
    · have hd : decide ((x : Int) < (xmax : Int)) = true := decide_eq_true (by omega)
      have hlt' : (x : Int) < (xmax : Int) := by omega
      by_cases hm : x ∈ R
      · have hmb : decide (x ∈ R) = true := decide_eq_true hm
        rw [hmb] at HC ⊢
        rw [decide_eq_true hlt]
        clear hm hmb hlt
        go_enter Try.func97, Try.ntmps97
        go_wp2_with (go_at_call 98; (with_reducible refine (HC.out).mono ?_); rintro e w1 ⟨rfl, hw1⟩; have hA1 := hA; rw [← hw1] at hA1; clear hw1)
        go_ret
        exact ⟨rfl, hA1⟩
      · have hmb : decide (x ∈ R) = false := decide_eq_false hm
        rw [hmb] at HC ⊢
        rw [decide_eq_true hlt]
        clear hm hmb hlt
        have hs2 : ((stt f S x : Int) == 2) = decide (stt f S x = 2) := beq_int (b := 2)
        generalize stt f S x = s at *
        go_enter Try.func97, Try.ntmps97
        go_wp2_with (first
          | (go_at_call 98; (with_reducible refine (HC.out).mono ?_); rintro e w1 ⟨rfl, hw1⟩; have hw := hw1.symm; subst hw)
          | (go_at_call 28; (with_reducible refine (HS.out).mono ?_); rintro e w2 ⟨rfl, n2, hw2⟩; have hA2 := hA.next (below_n _ n2); rw [← hw2] at hA2; clear hw2))
        go_ret
        exact ⟨by simp, hA2⟩
    · have hd : decide ((x : Int) < (xmax : Int)) = false := decide_eq_false (by omega)
      have hlt' : ¬ (x : Int) < (xmax : Int) := by omega
      rw [decide_eq_false hlt]
      clear hlt
      go_enter Try.func97, Try.ntmps97
      go_wp2
      go_ret
      exact ⟨rfl, hA⟩
end Go.Proofs.Ytbmkhopmhmmibaa
