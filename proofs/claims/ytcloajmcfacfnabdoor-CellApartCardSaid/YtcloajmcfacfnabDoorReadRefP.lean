/-
  The plain side of the document's reading of digits (ref01.Read): noughts ahead; the order of digits and of numbers. No program in sight.
-/
import Derived.Test.YtcloajmcfacfnabDoorReadPlain
import Derived.Test.YtcloajmcfacfnabDoorDbl
namespace Go.Proofs.YtcloajmcfacfnabDoor
open Go.RowKit

theorem num_acc (l : List UInt8) : ∀ n : Int, l.foldl (fun n c => n * 10 + ((c.toNat : Int) - 48)) n = n * 10 ^ l.length + num l := by
  induction l with
  | nil => intro n; simp [num]
  | cons c t ih =>
    intro n
    have e1 : num (c :: t) = (c :: t).foldl (fun n c => n * 10 + ((c.toNat : Int) - 48)) 0 := rfl
    rw [e1, List.foldl_cons, List.foldl_cons, ih, ih, List.length_cons, Int.pow_succ]
    have e2 : (0 : Int) * 10 + ((c.toNat : Int) - 48) = (c.toNat : Int) - 48 := by omega
    rw [e2, Int.add_mul, Int.mul_assoc, Int.mul_comm 10 (10 ^ t.length), Int.add_assoc]
theorem num_cons (c : UInt8) (l : List UInt8) : num (c :: l) = ((c.toNat : Int) - 48) * 10 ^ l.length + num l := by
  show (c :: l).foldl (fun n c => n * 10 + ((c.toNat : Int) - 48)) 0 = _
  rw [List.foldl_cons, num_acc]
  have e2 : (0 : Int) * 10 + ((c.toNat : Int) - 48) = (c.toNat : Int) - 48 := by omega
  rw [e2]
theorem pow_pos10 (n : Nat) : (1 : Int) ≤ 10 ^ n := by
  induction n with
  | zero => exact Int.le_refl _
  | succ n ih => rw [Int.pow_succ]; omega
theorem digs_cons {c : UInt8} {l : List UInt8} (h : digs (c :: l) = true) : (48 ≤ c.toNat ∧ c.toNat ≤ 57) ∧ digs l = true := by
  unfold digs at h ⊢
  rw [List.all_cons, Bool.and_eq_true] at h
  exact ⟨of_decide_eq_true h.1, h.2⟩
theorem num_bound : ∀ l : List UInt8, digs l = true → 0 ≤ num l ∧ num l < 10 ^ l.length
  | [], _ => ⟨Int.le_refl _, by decide⟩
  | c :: l, h => by
    obtain ⟨⟨c0, c1⟩, hl⟩ := digs_cons h
    obtain ⟨h0, h1⟩ := num_bound l hl
    have hp := pow_pos10 l.length
    rw [num_cons, List.length_cons, Int.pow_succ]
    have b0 : 0 ≤ ((c.toNat : Int) - 48) * 10 ^ l.length := Int.mul_nonneg (by omega) (by omega)
    have b1 : ((c.toNat : Int) - 48) * 10 ^ l.length ≤ 9 * 10 ^ l.length := Int.mul_le_mul_of_nonneg_right (by omega) (by omega)
    omega
theorem lex_num : ∀ x y : List UInt8, digs x = true → digs y = true → x.length = y.length → (x < y ↔ num x < num y)
  | [], [], _, _, _ => by simp [num]
  | [], _ :: _, _, _, h => by simp at h
  | _ :: _, [], _, _, h => by simp at h
  | a :: x, b :: y, hx, hy, h => by
    obtain ⟨⟨a0, a1⟩, hx⟩ := digs_cons hx
    obtain ⟨⟨b0, b1⟩, hy⟩ := digs_cons hy
    have hl : x.length = y.length := by simpa using h
    obtain ⟨x0, x1⟩ := num_bound x hx
    obtain ⟨y0, y1⟩ := num_bound y hy
    rw [List.cons_lt_cons_iff, lex_num x y hx hy hl, num_cons, num_cons, ← hl]
    rw [← hl] at y1
    have hp := pow_pos10 x.length
    generalize (10 : Int) ^ x.length = p at *
    constructor
    · rintro (h1 | ⟨rfl, h1⟩)
      · have h2 := UInt8.lt_iff_toNat_lt.1 h1
        have : ((a.toNat : Int) - 48 + 1) * p ≤ ((b.toNat : Int) - 48) * p := Int.mul_le_mul_of_nonneg_right (by omega) (by omega)
        rw [Int.add_mul] at this
        omega
      · omega
    · intro h1
      by_cases e : a = b
      · subst e; right; exact ⟨rfl, by omega⟩
      · left
        apply UInt8.lt_iff_toNat_lt.2
        apply Classical.byContradiction
        intro hc
        have hne : a.toNat ≠ b.toNat := fun he => e (UInt8.toNat_inj.1 he)
        have : ((b.toNat : Int) - 48 + 1) * p ≤ ((a.toNat : Int) - 48) * p := Int.mul_le_mul_of_nonneg_right (by omega) (by omega)
        rw [Int.add_mul] at this
        omega
/-- The greatest number's digits. -/
def top19 : List UInt8 := [57, 50, 50, 51, 51, 55, 50, 48, 51, 54, 56, 53, 52, 55, 55, 53, 56, 48, 55]
theorem num_top : num top19 = 9223372036854775807 := by decide +kernel
theorem digs_top : digs top19 = true := by decide +kernel
theorem num_nought (l : List UInt8) : num (48 :: l) = num l := by rw [num_cons]; simp
theorem far {c : UInt8} {l : List UInt8} (h : digs (c :: l) = true) (hc : c ≠ 48) (hl : 19 ≤ l.length) : 9223372036854775807 < num (c :: l) := by
  obtain ⟨⟨c0, c1⟩, hd⟩ := digs_cons h
  obtain ⟨h0, _⟩ := num_bound l hd
  have c2 : c.toNat ≠ 48 := fun e => hc (UInt8.toNat_inj.1 e)
  rw [num_cons]
  have hp : (10 : Int) ^ 19 ≤ 10 ^ l.length := by
    have := Nat.pow_le_pow_right (show 0 < 10 by omega) hl
    have e : ((10 ^ 19 : Nat) : Int) ≤ ((10 ^ l.length : Nat) : Int) := by omega
    simpa using e
  have e19 : (10 : Int) ^ 19 = 10000000000000000000 := by decide +kernel
  have b1 : 1 * 10 ^ l.length ≤ ((c.toNat : Int) - 48) * 10 ^ l.length := Int.mul_le_mul_of_nonneg_right (by omega) (by omega)
  omega
theorem near {l : List UInt8} (h : digs l = true) (hl : l.length ≤ 18) : num l ≤ 9223372036854775807 := by
  obtain ⟨_, h1⟩ := num_bound l h
  have hp : (10 : Int) ^ l.length ≤ 10 ^ 18 := by
    have := Nat.pow_le_pow_right (show 0 < 10 by omega) hl
    have e : ((10 ^ l.length : Nat) : Int) ≤ ((10 ^ 18 : Nat) : Int) := by omega
    simpa using e
  have e18 : (10 : Int) ^ 18 = 1000000000000000000 := by decide +kernel
  omega
theorem at19 {l : List UInt8} (h : digs l = true) (hl : l.length = 19) : (9223372036854775807 < num l ↔ top19 < l) := by
  rw [lex_num top19 l digs_top h (by rw [hl]; rfl), num_top]
theorem num_take_le {l : List UInt8} (h : digs l = true) : ∀ k : Nat, num (l.take k) ≤ num l := by
  intro k
  have hd1 : digs (l.take k) = true := by
    unfold digs at *; exact List.all_eq_true.2 fun x hx => List.all_eq_true.1 h x (List.mem_of_mem_take hx)
  have hd2 : digs (l.drop k) = true := by
    unfold digs at *; exact List.all_eq_true.2 fun x hx => List.all_eq_true.1 h x (List.mem_of_mem_drop hx)
  have e : num l = num (l.take k) * 10 ^ (l.drop k).length + num (l.drop k) := by
    conv => lhs; rw [← List.take_append_drop k l]
    show ((l.take k) ++ (l.drop k)).foldl (fun n c => n * 10 + ((c.toNat : Int) - 48)) 0 = _
    rw [List.foldl_append, num_acc]; rfl
  obtain ⟨h0, _⟩ := num_bound _ hd1
  obtain ⟨h2, _⟩ := num_bound _ hd2
  have hp := pow_pos10 (l.drop k).length
  have b := Int.mul_le_mul_of_nonneg_left hp h0
  omega
end Go.Proofs.YtcloajmcfacfnabDoor
