/-
  Pages, the plain side: bytes by their offsets; little-endian numbers; what is laid over bytes.
-/
import Derived.WalkKit
namespace Go.Proofs.Ytpnkmkenmpbekaa

/-- The number of k bytes from a on, the least first. -/
def le (f : Nat → UInt8) (a : Nat) : Nat → Nat
  | 0 => 0
  | k + 1 => le f a k + 256 ^ k * (f (a + k)).toNat
theorem le_lt (f : Nat → UInt8) (a : Nat) : ∀ k, le f a k < 256 ^ k
  | 0 => by simp [le]
  | k + 1 => by
    have h := le_lt f a k
    have hb := (f (a + k)).toNat_lt
    have hm : 256 ^ k * (f (a + k)).toNat ≤ 256 ^ k * 255 := Nat.mul_le_mul_left _ (by omega)
    rw [le, Nat.pow_succ]
    omega
theorem le_congr {f g : Nat → UInt8} {a b : Nat} : ∀ {k : Nat}, (∀ j, j < k → f (a + j) = g (b + j)) → le f a k = le g b k
  | 0, _ => rfl
  | k + 1, h => by rw [le, le, le_congr (k := k) (fun j hj => h j (by omega)), h k (by omega)]
theorem le_zero {f : Nat → UInt8} {a : Nat} : ∀ {k : Nat}, (∀ j, j < k → f (a + j) = 0) → le f a k = 0
  | 0, _ => rfl
  | k + 1, h => by rw [le, le_zero (k := k) (fun j hj => h j (by omega)), h k (by omega)]; rfl
theorem le_two (f : Nat → UInt8) (a : Nat) : le f a 2 = (f a).toNat + 256 * (f (a + 1)).toNat := by simp [le]
theorem le_two_zero {f : Nat → UInt8} {a : Nat} (h : le f a 2 = 0) : f a = 0 ∧ f (a + 1) = 0 := by
  rw [le_two] at h
  exact ⟨UInt8.toNat_inj.1 (by show _ = 0; omega), UInt8.toNat_inj.1 (by show _ = 0; omega)⟩
/-- The j-th byte of a number. -/
def dg (n j : Nat) : UInt8 := UInt8.ofNat (n / 256 ^ j)
theorem dg_toNat (n j : Nat) : (dg n j).toNat = n / 256 ^ j % 256 := by simp [dg]
theorem mod_step (n k : Nat) : n % 256 ^ (k + 1) = n % 256 ^ k + 256 ^ k * (n / 256 ^ k % 256) := by
  rw [Nat.pow_succ, Nat.mod_mul]
theorem le_dg {f : Nat → UInt8} {a n : Nat} : ∀ {k : Nat}, (∀ j, j < k → f (a + j) = dg n j) → le f a k = n % 256 ^ k
  | 0, _ => by simp [le, Nat.mod_one]
  | k + 1, h => by rw [le, le_dg (k := k) (fun j hj => h j (by omega)), h k (by omega), dg_toNat, mod_step]
theorem dg_le {f : Nat → UInt8} {a k : Nat} : ∀ {j : Nat}, j < k → dg (le f a k) j = f (a + j) := by
  induction k with
  | zero => intro j hj; omega
  | succ k ih =>
    intro j hj
    apply UInt8.toNat_inj.1
    rw [dg_toNat, le]
    by_cases e : j = k
    · subst e
      have h := le_lt f a j
      have hb := (f (a + j)).toNat_lt
      rw [Nat.add_mul_div_left _ _ (Nat.pow_pos (by decide)), Nat.div_eq_of_lt h, Nat.zero_add, Nat.mod_eq_of_lt hb]
    · have hjk : j < k := by omega
      have h := ih hjk
      rw [← h, dg_toNat]
      obtain ⟨d, rfl⟩ : ∃ d, k = j + 1 + d := ⟨k - (j + 1), by omega⟩
      have e2 : 256 ^ (j + 1 + d) * (f (a + (j + 1 + d))).toNat = 256 ^ j * (256 * (256 ^ d * (f (a + (j + 1 + d))).toNat)) := by
        rw [Nat.pow_add, Nat.pow_succ]; simp only [Nat.mul_assoc]
      rw [e2, Nat.add_mul_div_left _ _ (Nat.pow_pos (by decide)), Nat.add_mul_mod_self_left]
/-- Bytes laid over others, from a on. -/
def lay (f : Nat → UInt8) (a : Nat) (l : List UInt8) : Nat → UInt8 := fun i => if a ≤ i ∧ i < a + l.length then l.getD (i - a) 0 else f i
theorem lay_in {f : Nat → UInt8} {a : Nat} {l : List UInt8} {j : Nat} (h : j < l.length) : lay f a l (a + j) = l.getD j 0 := by
  unfold lay; rw [if_pos ⟨by omega, by omega⟩, Nat.add_sub_cancel_left]
theorem lay_out {f : Nat → UInt8} {a : Nat} {l : List UInt8} {i : Nat} (h : i < a ∨ a + l.length ≤ i) : lay f a l i = f i := by
  unfold lay; rw [if_neg (by omega)]
def upd (f : Nat → UInt8) (k : Nat) (b : UInt8) : Nat → UInt8 := fun i => if i = k then b else f i
theorem upd_same (f : Nat → UInt8) (k : Nat) (b : UInt8) : upd f k b k = b := if_pos rfl
theorem upd_other {f : Nat → UInt8} {k i : Nat} {b : UInt8} (h : i ≠ k) : upd f k b i = f i := if_neg h
theorem lay_nil (f : Nat → UInt8) (a : Nat) : lay f a [] = f := by
  funext i; unfold lay; rw [if_neg (by simp)]
theorem lay_snoc (f : Nat → UInt8) (a : Nat) (l : List UInt8) (b : UInt8) : upd (lay f a l) (a + l.length) b = lay f a (l ++ [b]) := by
  funext i
  unfold upd lay
  by_cases h : i = a + l.length
  · subst h
    rw [if_pos rfl, if_pos ⟨by omega, by simp⟩, Nat.add_sub_cancel_left]
    simp
  · rw [if_neg h]
    by_cases h2 : a ≤ i ∧ i < a + l.length
    · rw [if_pos h2, if_pos ⟨h2.1, by simp; omega⟩, List.getD_eq_getElem?_getD, List.getD_eq_getElem?_getD, List.getElem?_append_left (by omega)]
    · rw [if_neg h2, if_neg (by simp; omega)]
def leb (n k : Nat) : List UInt8 := (List.range k).map (dg n)
theorem leb_length (n k : Nat) : (leb n k).length = k := by simp [leb]
theorem leb_succ (n k : Nat) : leb n (k + 1) = leb n k ++ [dg n k] := by simp [leb, List.range_succ]
theorem leb_get (n : Nat) {k j : Nat} (h : j < k) : (leb n k).getD j 0 = dg n j := by
  unfold leb
  rw [List.getD_eq_getElem?_getD, List.getElem?_map, List.getElem?_range h]; rfl
theorem le_leb (f : Nat → UInt8) (a n k : Nat) : le (lay f a (leb n k)) a k = n % 256 ^ k :=
  le_dg fun j hj => by rw [lay_in (by rw [leb_length]; exact hj), leb_get n hj]
theorem le_other {f : Nat → UInt8} {a b k : Nat} {l : List UInt8} (h : b + k ≤ a ∨ a + l.length ≤ b) : le (lay f a l) b k = le f b k :=
  le_congr fun j hj => lay_out (by omega)
end Go.Proofs.Ytpnkmkenmpbekaa
