/-
  The plain side of texts of whole runes without the byte 0. No program in sight.
-/
import Derived.Test.YtdlgobakoomkpaaDoorNum
import Derived.Lib.ValidLaws
namespace Go.Proofs.YtdlgobakoomkpaaDoor
open Go.RowKit

/-- Whole runes, none of them 0. -/
def whole (l : List UInt8) : Bool := Lib.validD l && !l.contains 0

theorem dN2 (n b0 b1 b2 b3 : Nat) (h0 : 192 ≤ b0 ∧ b0 < 224) (hn : 1 < n) (h1 : 128 ≤ b1 ∧ b1 < 192) (hr : 128 ≤ (b0 - 192) * 64 + (b1 - 128)) :
    Lib.decodeN n b0 b1 b2 b3 = ((b0 - 192) * 64 + (b1 - 128), 2) := by
  unfold Lib.decodeN
  rw [if_neg (by omega), if_pos ⟨by omega, hn, by omega⟩, if_pos (by omega)]
  apply Prod.ext <;> simp only []; omega
theorem dN2e (n b0 b1 b2 b3 : Nat) (h0 : 192 ≤ b0 ∧ b0 < 224) (h : n ≤ 1 ∨ b1 < 128 ∨ 192 ≤ b1 ∨ (b0 - 192) * 64 + (b1 - 128) < 128) (hb : b1 < 256) :
    Lib.decodeN n b0 b1 b2 b3 = (65533, 1) := by
  unfold Lib.decodeN
  rw [if_neg (by omega)]
  by_cases hc : b0 / 32 = 6 ∧ (1 < n ∧ b1 / 64 = 2)
  · rw [if_pos hc, if_neg (by omega)]
  · rw [if_neg hc, if_neg (by omega), if_neg (by omega)]
theorem dN3 (n b0 b1 b2 b3 : Nat) (h0 : 224 ≤ b0 ∧ b0 < 240) (hn : 2 < n) (h1 : 128 ≤ b1 ∧ b1 < 192) (h2 : 128 ≤ b2 ∧ b2 < 192) (r : Nat) (er : r = ((b0 - 224) * 64 + (b1 - 128)) * 64 + (b2 - 128)) (hr : 2048 ≤ r) (hs : r < 55296 ∨ 57344 ≤ r) :
    Lib.decodeN n b0 b1 b2 b3 = (r, 3) := by
  have e : b0 % 16 * 4096 + b1 % 64 * 64 + b2 % 64 = r := by omega
  unfold Lib.decodeN
  rw [if_neg (by omega), if_neg (by omega), if_pos ⟨by omega, ⟨by omega, by omega⟩, by omega, by omega⟩, if_pos (by omega), e]
theorem dN3e (n b0 b1 b2 b3 : Nat) (h0 : 224 ≤ b0 ∧ b0 < 240) (r : Nat) (er : r = ((b0 - 224) * 64 + (b1 - 128)) * 64 + (b2 - 128)) (h : n ≤ 2 ∨ b1 < 128 ∨ 192 ≤ b1 ∨ b2 < 128 ∨ 192 ≤ b2 ∨ r < 2048 ∨ (55296 ≤ r ∧ r < 57344)) (hb : b1 < 256) (hb2 : b2 < 256) :
    Lib.decodeN n b0 b1 b2 b3 = (65533, 1) := by
  unfold Lib.decodeN
  rw [if_neg (by omega), if_neg (by omega)]
  by_cases hc : b0 / 16 = 14 ∧ (1 < n ∧ b1 / 64 = 2) ∧ (2 < n ∧ b2 / 64 = 2)
  · rw [if_pos hc, if_neg (by omega)]
  · rw [if_neg hc, if_neg (by omega)]
theorem dN4 (n b0 b1 b2 b3 : Nat) (h0 : 240 ≤ b0 ∧ b0 < 248) (hn : 3 < n) (h1 : 128 ≤ b1 ∧ b1 < 192) (h2 : 128 ≤ b2 ∧ b2 < 192) (h3 : 128 ≤ b3 ∧ b3 < 192) (r : Nat) (er : r = (((b0 - 240) * 64 + (b1 - 128)) * 64 + (b2 - 128)) * 64 + (b3 - 128)) (hr : 65536 ≤ r) (hs : r ≤ 1114111) :
    Lib.decodeN n b0 b1 b2 b3 = (r, 4) := by
  have e : b0 % 8 * 262144 + b1 % 64 * 4096 + b2 % 64 * 64 + b3 % 64 = r := by omega
  unfold Lib.decodeN
  rw [if_neg (by omega), if_neg (by omega), if_neg (by omega), if_pos ⟨by omega, ⟨by omega, by omega⟩, ⟨by omega, by omega⟩, by omega, by omega⟩, if_pos (by omega), e]
theorem dN4e (n b0 b1 b2 b3 : Nat) (h0 : 240 ≤ b0 ∧ b0 < 248) (r : Nat) (er : r = (((b0 - 240) * 64 + (b1 - 128)) * 64 + (b2 - 128)) * 64 + (b3 - 128)) (h : n ≤ 3 ∨ b1 < 128 ∨ 192 ≤ b1 ∨ b2 < 128 ∨ 192 ≤ b2 ∨ b3 < 128 ∨ 192 ≤ b3 ∨ r < 65536 ∨ 1114111 < r) (hb : b1 < 256) (hb2 : b2 < 256) (hb3 : b3 < 256) :
    Lib.decodeN n b0 b1 b2 b3 = (65533, 1) := by
  unfold Lib.decodeN
  rw [if_neg (by omega), if_neg (by omega), if_neg (by omega)]
  by_cases hc : b0 / 8 = 30 ∧ (1 < n ∧ b1 / 64 = 2) ∧ (2 < n ∧ b2 / 64 = 2) ∧ (3 < n ∧ b3 / 64 = 2)
  · rw [if_pos hc, if_neg (by omega)]
  · rw [if_neg hc]
theorem dNx (n b0 b1 b2 b3 : Nat) (h0 : 128 ≤ b0 ∧ b0 < 192 ∨ 248 ≤ b0) (hb : b0 < 256) : Lib.decodeN n b0 b1 b2 b3 = (65533, 1) := by
  unfold Lib.decodeN
  rw [if_neg (by omega), if_neg (by omega), if_neg (by omega), if_neg (by omega)]

theorem whole_nil : whole [] = true := rfl
theorem whole_bad (t : List UInt8) (hne : t ≠ []) (h : Lib.decodeN t.length (t.getD 0 0).toNat (t.getD 1 0).toNat (t.getD 2 0).toNat (t.getD 3 0).toNat = (65533, 1)) : whole t = false := by
  unfold whole
  rw [Lib.validD_step t hne, Lib.decodeL_N, h]
  simp
theorem contains_drop (t : List UInt8) (k : Nat) (h : ∀ b ∈ t.take k, b ≠ 0) : t.contains 0 = (t.drop k).contains 0 := by
  conv => lhs; rw [← List.take_append_drop k t]
  rw [Bool.eq_iff_iff]
  simp only [List.contains_iff_mem, List.mem_append]
  constructor
  · rintro (h1 | h1)
    · exact absurd rfl (h _ h1)
    · exact h1
  · exact Or.inr
theorem whole_ok (t : List UInt8) (hne : t ≠ []) (r k : Nat) (hk : 2 ≤ k) (h : Lib.decodeN t.length (t.getD 0 0).toNat (t.getD 1 0).toNat (t.getD 2 0).toNat (t.getD 3 0).toNat = (r, k)) (hz : ∀ b ∈ t.take k, b ≠ 0) : whole t = whole (t.drop k) := by
  unfold whole
  rw [Lib.validD_step t hne, Lib.decodeL_N, h, if_neg (by simp; omega), contains_drop t k hz]
theorem whole_zero (t : List UInt8) : whole (0 :: t) = false := by unfold whole; simp
theorem whole_ascii (b : UInt8) (t : List UInt8) (h : b.toNat < 128) (h0 : b ≠ 0) : whole (b :: t) = whole t := by
  unfold whole
  rw [Lib.validD_cons b t h, List.contains_cons]
  have : (0 == b) = false := by simpa using Ne.symm h0
  rw [this]; rfl
end Go.Proofs.YtdlgobakoomkpaaDoor
