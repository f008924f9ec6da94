/-
  Pages: which versions are right: validNext, valid.
-/
import Derived.Test.YtpnkmkenmpbekaaPageC
namespace Go.Proofs.Ytpnkmkenmpbekaa
open Go.RowKit

def vnB (p s : Int) : Bool := decide ((p = -1 ∧ s = -1) ∨ (0 ≤ p ∧ p ≤ 65535 ∧ 0 ≤ s ∧ s ≤ 65534))
set_option maxRecDepth 100000 in
theorem validNext_any (w : World) (p s : Int) :
    Calls Try.prog 88 #[.agg #[.int .i64 p, .int .i64 s]] w fun e w' => e = .returned (.bool (vnB p s)) ∧ Below w.heap.size w w' := by
  by_cases h1 : p = -1
  · by_cases h2 : s = -1
    · subst h1 h2
      rw [show vnB (-1) (-1) = true by decide]
      go_enter Try.func88, Try.ntmps88
      go_wp2
      go_ret
      exact ⟨rfl, (Below.refl _ _).alloc (Nat.le_refl _) _⟩
    · subst h1
      rw [show vnB (-1) s = false from decide_eq_false (by omega)]
      go_enter Try.func88, Try.ntmps88
      go_wp2
      go_ret
      exact ⟨rfl, (Below.refl _ _).alloc (Nat.le_refl _) _⟩
  · have hb : (p == -1) = false := beq_eq_false_iff_ne.2 h1
    have hb1 : decide (p = -1) = false := decide_eq_false h1
    by_cases h2 : s ≤ 65534
    · go_enter Try.func88, Try.ntmps88
      go_wp2
      all_goals
        go_ret
        refine ⟨congrArg Ending.returned (congrArg Value.bool ?_), (Below.refl _ _).alloc (Nat.le_refl _) _⟩
        first | (exact (decide_eq_true (by omega)).symm) | (exact (decide_eq_false (by omega)).symm)
    · go_enter Try.func88, Try.ntmps88
      go_wp2
      all_goals
        go_ret
        refine ⟨congrArg Ending.returned (congrArg Value.bool ?_), (Below.refl _ _).alloc (Nat.le_refl _) _⟩
        first | (exact (decide_eq_true (by omega)).symm) | (exact (decide_eq_false (by omega)).symm)
/-- A version: row, xmin, xmax, next, and how many bytes of data; is it right? -/
def vdB (r x m : Nat) (p s : Int) (n : Nat) : Bool := decide (r ≤ 1099511627776 ∧ x ≤ 1099511627776 ∧ m ≤ 1099511627776 ∧ vnB p s = true ∧ n ≤ 200)
set_option maxRecDepth 100000 in
theorem valid_any (w : World) (r x m : Nat) (p s : Int) (A : Option Addr) (n c : Nat) :
    Calls Try.prog 82 #[.agg #[.int .u64 (r : Int), .int .u64 (x : Int), .int .u64 (m : Int), .int .i64 p, .int .i64 s, .slice A n c]] w fun e w' => e = .returned (.bool (vdB r x m p s n)) ∧ Below w.heap.size w w' := by
  have hv := fun w => validNext_any w p s
  have hvb : vdB r x m p s n = decide (r ≤ 1099511627776 ∧ x ≤ 1099511627776 ∧ m ≤ 1099511627776 ∧ vnB p s = true ∧ n ≤ 200) := rfl
  generalize vdB r x m p s n = b at *
  generalize vnB p s = vb at *
  have HV := Lib.hid hv
  have HB := Lib.hid hvb
  clear hv hvb
  go_enter Try.func82, Try.ntmps82
  go_wp2_with (go_at_call 88; (with_reducible refine (HV.out _).mono ?_); rintro e w1 ⟨rfl, hb⟩; obtain ⟨hc, hf⟩ := bcell hb)
  all_goals
    go_ret
    refine ⟨congrArg Ending.returned (congrArg Value.bool ?_), ?_⟩
    · rw [HB.out]
      first
        | (exact (decide_eq_false (by omega)).symm)
        | (refine decide_eq_decide.2 ⟨fun h => ⟨by omega, by omega, by omega, by assumption, by omega⟩, fun h => by omega⟩)
        | (refine (decide_eq_false fun h => ?_).symm; have h4 := h.2.2.2.1; simp_all)
    · first | exact (Below.refl _ _).alloc (Nat.le_refl _) _ | exact ((Below.refl _ _).alloc (Nat.le_refl _) _).trans (hb.mono (by simp))
end Go.Proofs.Ytpnkmkenmpbekaa
