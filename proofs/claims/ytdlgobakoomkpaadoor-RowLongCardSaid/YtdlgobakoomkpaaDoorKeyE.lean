/-
  The plain side of keys: a value's bytes; the number that bytes say. No program in sight.
-/
import Derived.Test.YtdlgobakoomkpaaDoorCellA
import Derived.Test.YtdlgobakoomkpaaDoorKeyP
namespace Go.Proofs.YtdlgobakoomkpaaDoor
open Go.RowKit

/-- A value's bytes. -/
def enc (v : Val) : List UInt8 :=
  if v.k = 3 then [2, if v.b = true then 1 else 0] else if v.k = 1 then 3 :: be 8 (v.i + 9223372036854775808).toNat
  else if v.k = 2 then 4 :: (v.s.data.toList ++ [0]) else [1]
def encs (l : List Val) : List UInt8 := l.flatMap enc
theorem enc_nul : enc ⟨0, 0, ⟨#[]⟩, false⟩ = [1] := rfl
theorem enc_int (i : Int) : enc ⟨1, i, ⟨#[]⟩, false⟩ = 3 :: be 8 (i + 9223372036854775808).toNat := rfl
theorem enc_text (s : ByteArray) : enc ⟨2, 0, s, false⟩ = 4 :: (s.data.toList ++ [0]) := rfl
theorem enc_bool (b : Bool) : enc ⟨3, 0, ⟨#[]⟩, b⟩ = [2, if b = true then 1 else 0] := rfl
def In63 (v : Val) : Prop := -9223372036854775808 ≤ v.i ∧ v.i ≤ 9223372036854775807
theorem encs_append (a b : List Val) : encs (a ++ b) = encs a ++ encs b := List.flatMap_append
theorem enc_ne (v : Val) : enc v ≠ [] := by
  unfold enc; split
  · simp
  · split
    · simp
    · split <;> simp
/-- The number that eight bytes say. -/
def fold256 (l : List UInt8) : Nat := l.foldl (fun u b => u * 256 + b.toNat) 0
theorem fold_snoc (l : List UInt8) (b : UInt8) : fold256 (l ++ [b]) = fold256 l * 256 + b.toNat := by simp [fold256]
theorem foldl_add (l : List UInt8) : ∀ a : Nat, l.foldl (fun u b => u * 256 + b.toNat) a = a * 256 ^ l.length + fold256 l := by
  induction l with
  | nil => intro a; simp [fold256]
  | cons b l ih =>
    intro a
    have e : fold256 (b :: l) = b.toNat * 256 ^ l.length + fold256 l := by
      show l.foldl _ (0 * 256 + b.toNat) = _
      rw [ih]; simp
    rw [List.foldl_cons, ih, e, List.length_cons, Nat.pow_succ, Nat.add_mul, Nat.mul_assoc, Nat.mul_comm 256]
    omega
theorem fold_cons (b : UInt8) (l : List UInt8) : fold256 (b :: l) = b.toNat * 256 ^ l.length + fold256 l := by
  show l.foldl _ (0 * 256 + b.toNat) = _
  rw [foldl_add]; simp
theorem fold_lt : ∀ l : List UInt8, fold256 l < 256 ^ l.length
  | [] => by simp [fold256]
  | b :: l => by
    have := fold_lt l
    have hb := b.toNat_lt
    rw [fold_cons, List.length_cons, Nat.pow_succ]
    have : b.toNat * 256 ^ l.length ≤ 255 * 256 ^ l.length := Nat.mul_le_mul_right _ (by omega)
    omega
theorem fold_be : ∀ n u : Nat, fold256 (be n u) = u % 256 ^ n
  | 0, u => by simp [be, fold256, Nat.mod_one]
  | n + 1, u => by
    rw [be, fold_cons, fold_be n u, be_length]
    have h1 : (UInt8.ofNat (u / 256 ^ n)).toNat = u / 256 ^ n % 256 := by simp
    rw [h1, Nat.pow_succ, Nat.mod_mul]
    rw [Nat.mul_comm]; omega
def numOf (l : List UInt8) : Int := (fold256 l : Int) - 9223372036854775808
theorem numOf_be {i : Int} (h : -9223372036854775808 ≤ i ∧ i ≤ 9223372036854775807) : numOf (be 8 (i + 9223372036854775808).toNat) = i := by
  unfold numOf
  rw [fold_be, Nat.mod_eq_of_lt (show _ < 256 ^ 8 by have : (256 ^ 8 : Nat) = 18446744073709551616 := by decide
                                                     omega)]
  omega

/-- What stands ahead of the first 0. -/
def upto0 (l : List UInt8) : List UInt8 := l.takeWhile (· != 0)
theorem upto0_text (s t : List UInt8) (h : ∀ b ∈ s, b ≠ 0) : upto0 (s ++ 0 :: t) = s := by
  induction s with
  | nil => simp [upto0]
  | cons a s ih =>
    unfold upto0 at ih ⊢
    have ha : a ≠ 0 := h a (by simp)
    simp [ha, ih (fun b hb => h b (by simp [hb]))]
theorem upto0_lt {l : List UInt8} (h : l.contains 0 = true) : (upto0 l).length < l.length := by
  induction l with
  | nil => simp at h
  | cons a l ih =>
    unfold upto0 at ih ⊢
    by_cases ha : a = 0
    · subst ha; simp
    · have h' : l.contains 0 = true := by
        rw [List.contains_cons] at h
        have : ((0 : UInt8) == a) = false := by simpa using Ne.symm ha
        simpa [this] using h
      simp [ha]
      have := ih h'
      omega
end Go.Proofs.YtdlgobakoomkpaaDoor
