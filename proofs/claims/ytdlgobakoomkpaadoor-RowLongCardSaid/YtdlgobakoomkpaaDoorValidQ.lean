/-
  Whole runes at a place of a text, a class of first bytes at a time.
-/
import Derived.Test.YtdlgobakoomkpaaDoorValidP
namespace Go.Proofs.YtdlgobakoomkpaaDoor
open Go.RowKit

theorem drop_getD (s : ByteArray) (k j : Nat) (h : k + j < s.size) : (s.data.toList.drop k).getD j 0 = s[k + j] := by
  rw [List.getD_eq_getElem?_getD, List.getElem?_drop, List.getElem?_eq_getElem (by simpa using h)]
  rfl
theorem drop_ne (s : ByteArray) (k : Nat) (h : k < s.size) : s.data.toList.drop k ≠ [] := by
  intro he
  have := congrArg List.length he
  simp at this
  omega
theorem drop_length (s : ByteArray) (k : Nat) : (s.data.toList.drop k).length = s.size - k := by simp
theorem byte_lt (b : UInt8) : b.toNat < 256 := UInt8.toNat_lt b
theorem take_ne0 (s : ByteArray) (k n : Nat) (hn : k + n ≤ s.size) (h : ∀ j (hj : j < n), (s[k + j]'(by omega)).toNat ≠ 0) : ∀ b ∈ (s.data.toList.drop k).take n, b ≠ 0 := by
  intro b hb e
  obtain ⟨j, hj, hjb⟩ := List.getElem_of_mem hb
  have hj' : j < n := by simp at hj; omega
  have : (s.data.toList.drop k).getD j 0 = s[k + j]'(by omega) := drop_getD s k j (by omega)
  rw [List.getElem_take] at hjb
  rw [List.getD_eq_getElem?_getD, List.getElem?_eq_getElem (by simp; omega)] at this
  have e2 : s[k + j]'(by omega) = b := by rw [← this]; exact hjb
  apply h j hj'
  rw [e2, e]; rfl

theorem at_zero (s : ByteArray) (k : Nat) (hlt : k < s.size) (h : (s[k]'hlt).toNat = 0) : whole (s.data.toList.drop k) = false := by
  have e := drop_getD s k 0 (by omega)
  cases hd : s.data.toList.drop k with
  | nil => exact absurd hd (drop_ne s k hlt)
  | cons b t =>
    rw [hd] at e
    have : b = 0 := by
      have e' : b = s[k]'hlt := e
      apply UInt8.toNat_inj.1; rw [e', h]; rfl
    rw [this]; exact whole_zero t
theorem at_ascii (s : ByteArray) (k : Nat) (hlt : k < s.size) (h : (s[k]'hlt).toNat ≠ 0) (h' : (s[k]'hlt).toNat < 128) : whole (s.data.toList.drop k) = whole (s.data.toList.drop (k + 1)) := by
  have e := drop_getD s k 0 (by omega)
  rw [← List.drop_drop]
  cases hd : s.data.toList.drop k with
  | nil => exact absurd hd (drop_ne s k hlt)
  | cons b t =>
    rw [hd] at e
    have e' : b = s[k]'hlt := e
    rw [whole_ascii b t (by rw [e']; exact h') (by intro hb; apply h; rw [← e', hb]; rfl)]
    simp
theorem at_bad (s : ByteArray) (k : Nat) (hlt : k < s.size) (h : ∀ b1 b2 b3 : Nat, b1 < 256 → b2 < 256 → b3 < 256 → (∀ h1 : k + 1 < s.size, b1 = (s[k + 1]'h1).toNat) → (∀ h2 : k + 2 < s.size, b2 = (s[k + 2]'h2).toNat) → (∀ h3 : k + 3 < s.size, b3 = (s[k + 3]'h3).toNat) → Lib.decodeN (s.size - k) (s[k]'hlt).toNat b1 b2 b3 = (65533, 1)) : whole (s.data.toList.drop k) = false := by
  apply whole_bad _ (drop_ne s k hlt)
  rw [drop_length, drop_getD s k 0 (by omega)]
  exact h _ _ _ (byte_lt _) (byte_lt _) (byte_lt _) (fun h1 => by rw [drop_getD s k 1 h1]) (fun h1 => by rw [drop_getD s k 2 h1]) (fun h1 => by rw [drop_getD s k 3 h1])
theorem at_ok (s : ByteArray) (k n r : Nat) (hlt : k < s.size) (hn : 2 ≤ n) (hkn : k + n ≤ s.size) (hz : ∀ j (hj : j < n), (s[k + j]'(by omega)).toNat ≠ 0) (h : ∀ b1 b2 b3 : Nat, b1 < 256 → b2 < 256 → b3 < 256 → (∀ h1 : k + 1 < s.size, b1 = (s[k + 1]'h1).toNat) → (∀ h2 : k + 2 < s.size, b2 = (s[k + 2]'h2).toNat) → (∀ h3 : k + 3 < s.size, b3 = (s[k + 3]'h3).toNat) → Lib.decodeN (s.size - k) (s[k]'hlt).toNat b1 b2 b3 = (r, n)) : whole (s.data.toList.drop k) = whole (s.data.toList.drop (k + n)) := by
  rw [← List.drop_drop]
  apply whole_ok _ (drop_ne s k hlt) r n hn
  · rw [drop_length, drop_getD s k 0 (by omega)]
    exact h _ _ _ (byte_lt _) (byte_lt _) (byte_lt _) (fun h1 => by rw [drop_getD s k 1 h1]) (fun h1 => by rw [drop_getD s k 2 h1]) (fun h1 => by rw [drop_getD s k 3 h1])
  · exact take_ne0 s k n hkn hz
theorem c2_short (s : ByteArray) (k : Nat) (hlt : k < s.size) (h0 : 192 ≤ (s[k]'hlt).toNat) (h0' : (s[k]'hlt).toNat < 224) (hn : s.size - k ≤ 1) : whole (s.data.toList.drop k) = false :=
  at_bad s k hlt (fun b1 b2 b3 hb1 hb2 hb3 e1 e2 e3 => dN2e _ _ b1 b2 b3 ⟨h0, h0'⟩ (by omega) hb1)
theorem c2_bad1 (s : ByteArray) (k : Nat) (hlt : k < s.size) (h0 : 192 ≤ (s[k]'hlt).toNat) (h0' : (s[k]'hlt).toNat < 224) (hn : k + 1 < s.size) (h : (s[k + 1]'(by omega)).toNat < 128 ∨ 192 ≤ (s[k + 1]'(by omega)).toNat) : whole (s.data.toList.drop k) = false :=
  at_bad s k hlt (fun b1 b2 b3 hb1 hb2 hb3 e1 e2 e3 => dN2e _ _ b1 b2 b3 ⟨h0, h0'⟩ (by have e := e1 (by omega); omega) hb1)
theorem c2_badr (s : ByteArray) (k : Nat) (hlt : k < s.size) (h0 : 192 ≤ (s[k]'hlt).toNat) (h0' : (s[k]'hlt).toNat < 224) (hn : k + 1 < s.size) (_p1 : 128 ≤ (s[k + 1]'(by omega)).toNat) (_q1 : (s[k + 1]'(by omega)).toNat < 192) (h : (((s[k]'hlt).toNat - 192) * 64 + ((s[k + 1]'(by omega)).toNat - 128)) < 128) : whole (s.data.toList.drop k) = false :=
  at_bad s k hlt (fun b1 b2 b3 hb1 hb2 hb3 e1 e2 e3 => dN2e _ _ b1 b2 b3 ⟨h0, h0'⟩ (by have g1 := e1 (by omega); rw [g1]; omega) hb1)
theorem c2_ok (s : ByteArray) (k : Nat) (hlt : k < s.size) (h0 : 192 ≤ (s[k]'hlt).toNat) (h0' : (s[k]'hlt).toNat < 224) (hn : k + 1 < s.size) (p1 : 128 ≤ (s[k + 1]'(by omega)).toNat) (q1 : (s[k + 1]'(by omega)).toNat < 192) (r0 : 128 ≤ (((s[k]'hlt).toNat - 192) * 64 + ((s[k + 1]'(by omega)).toNat - 128))) : whole (s.data.toList.drop k) = whole (s.data.toList.drop (k + 2)) := by
  refine at_ok s k 2 (((s[k]'hlt).toNat - 192) * 64 + ((s[k + 1]'(by omega)).toNat - 128)) hlt (by omega) (by omega) ?_ ?_
  · exact fun j hj => by
      rcases (by omega : j = 0 ∨ j = 1) with rfl | rfl
      · show (s[k]'hlt).toNat ≠ 0; omega
      · omega
  · intro b1 b2 b3 hb1 hb2 hb3 e1 e2 e3
    have g1 := e1 (by omega)
    rw [g1]
    exact dN2 _ _ _ _ _ ⟨h0, h0'⟩ (by omega) ⟨by omega, by omega⟩ (by omega)
theorem c3_short (s : ByteArray) (k : Nat) (hlt : k < s.size) (h0 : 224 ≤ (s[k]'hlt).toNat) (h0' : (s[k]'hlt).toNat < 240) (hn : s.size - k ≤ 2) : whole (s.data.toList.drop k) = false :=
  at_bad s k hlt (fun b1 b2 b3 hb1 hb2 hb3 e1 e2 e3 => dN3e _ _ b1 b2 b3 ⟨h0, h0'⟩ _ rfl (by omega) hb1 hb2)
theorem c3_bad1 (s : ByteArray) (k : Nat) (hlt : k < s.size) (h0 : 224 ≤ (s[k]'hlt).toNat) (h0' : (s[k]'hlt).toNat < 240) (hn : k + 2 < s.size) (h : (s[k + 1]'(by omega)).toNat < 128 ∨ 192 ≤ (s[k + 1]'(by omega)).toNat) : whole (s.data.toList.drop k) = false :=
  at_bad s k hlt (fun b1 b2 b3 hb1 hb2 hb3 e1 e2 e3 => dN3e _ _ b1 b2 b3 ⟨h0, h0'⟩ _ rfl (by have e := e1 (by omega); omega) hb1 hb2)
theorem c3_bad2 (s : ByteArray) (k : Nat) (hlt : k < s.size) (h0 : 224 ≤ (s[k]'hlt).toNat) (h0' : (s[k]'hlt).toNat < 240) (hn : k + 2 < s.size) (h : (s[k + 2]'(by omega)).toNat < 128 ∨ 192 ≤ (s[k + 2]'(by omega)).toNat) : whole (s.data.toList.drop k) = false :=
  at_bad s k hlt (fun b1 b2 b3 hb1 hb2 hb3 e1 e2 e3 => dN3e _ _ b1 b2 b3 ⟨h0, h0'⟩ _ rfl (by have e := e2 (by omega); omega) hb1 hb2)
theorem c3_badr (s : ByteArray) (k : Nat) (hlt : k < s.size) (h0 : 224 ≤ (s[k]'hlt).toNat) (h0' : (s[k]'hlt).toNat < 240) (hn : k + 2 < s.size) (p1 : 128 ≤ (s[k + 1]'(by omega)).toNat) (q1 : (s[k + 1]'(by omega)).toNat < 192) (p2 : 128 ≤ (s[k + 2]'(by omega)).toNat) (q2 : (s[k + 2]'(by omega)).toNat < 192) (h : ((((s[k]'hlt).toNat - 224) * 64 + ((s[k + 1]'(by omega)).toNat - 128)) * 64 + ((s[k + 2]'(by omega)).toNat - 128)) < 2048 ∨ (55296 ≤ ((((s[k]'hlt).toNat - 224) * 64 + ((s[k + 1]'(by omega)).toNat - 128)) * 64 + ((s[k + 2]'(by omega)).toNat - 128)) ∧ ((((s[k]'hlt).toNat - 224) * 64 + ((s[k + 1]'(by omega)).toNat - 128)) * 64 + ((s[k + 2]'(by omega)).toNat - 128)) < 57344)) : whole (s.data.toList.drop k) = false :=
  at_bad s k hlt (fun b1 b2 b3 hb1 hb2 hb3 e1 e2 e3 => dN3e _ _ b1 b2 b3 ⟨h0, h0'⟩ _ rfl (by have g1 := e1 (by omega); have g2 := e2 (by omega); rw [g1, g2]; omega) hb1 hb2)
theorem c3_ok (s : ByteArray) (k : Nat) (hlt : k < s.size) (h0 : 224 ≤ (s[k]'hlt).toNat) (h0' : (s[k]'hlt).toNat < 240) (hn : k + 2 < s.size) (p1 : 128 ≤ (s[k + 1]'(by omega)).toNat) (q1 : (s[k + 1]'(by omega)).toNat < 192) (p2 : 128 ≤ (s[k + 2]'(by omega)).toNat) (q2 : (s[k + 2]'(by omega)).toNat < 192) (r0 : 2048 ≤ ((((s[k]'hlt).toNat - 224) * 64 + ((s[k + 1]'(by omega)).toNat - 128)) * 64 + ((s[k + 2]'(by omega)).toNat - 128))) (r1 : ((((s[k]'hlt).toNat - 224) * 64 + ((s[k + 1]'(by omega)).toNat - 128)) * 64 + ((s[k + 2]'(by omega)).toNat - 128)) < 55296 ∨ 57344 ≤ ((((s[k]'hlt).toNat - 224) * 64 + ((s[k + 1]'(by omega)).toNat - 128)) * 64 + ((s[k + 2]'(by omega)).toNat - 128))) : whole (s.data.toList.drop k) = whole (s.data.toList.drop (k + 3)) := by
  refine at_ok s k 3 ((((s[k]'hlt).toNat - 224) * 64 + ((s[k + 1]'(by omega)).toNat - 128)) * 64 + ((s[k + 2]'(by omega)).toNat - 128)) hlt (by omega) (by omega) ?_ ?_
  · exact fun j hj => by
      rcases (by omega : j = 0 ∨ j = 1 ∨ j = 2) with rfl | rfl | rfl
      · show (s[k]'hlt).toNat ≠ 0; omega
      · omega
      · omega
  · intro b1 b2 b3 hb1 hb2 hb3 e1 e2 e3
    have g1 := e1 (by omega)
    have g2 := e2 (by omega)
    rw [g1, g2]
    exact dN3 _ _ _ _ _ ⟨h0, h0'⟩ (by omega) ⟨by omega, by omega⟩ ⟨by omega, by omega⟩ _ rfl (by omega) (by omega)
theorem c4_short (s : ByteArray) (k : Nat) (hlt : k < s.size) (h0 : 240 ≤ (s[k]'hlt).toNat) (h0' : (s[k]'hlt).toNat < 248) (hn : s.size - k ≤ 3) : whole (s.data.toList.drop k) = false :=
  at_bad s k hlt (fun b1 b2 b3 hb1 hb2 hb3 e1 e2 e3 => dN4e _ _ b1 b2 b3 ⟨h0, h0'⟩ _ rfl (by omega) hb1 hb2 hb3)
theorem c4_bad1 (s : ByteArray) (k : Nat) (hlt : k < s.size) (h0 : 240 ≤ (s[k]'hlt).toNat) (h0' : (s[k]'hlt).toNat < 248) (hn : k + 3 < s.size) (h : (s[k + 1]'(by omega)).toNat < 128 ∨ 192 ≤ (s[k + 1]'(by omega)).toNat) : whole (s.data.toList.drop k) = false :=
  at_bad s k hlt (fun b1 b2 b3 hb1 hb2 hb3 e1 e2 e3 => dN4e _ _ b1 b2 b3 ⟨h0, h0'⟩ _ rfl (by have e := e1 (by omega); omega) hb1 hb2 hb3)
theorem c4_bad2 (s : ByteArray) (k : Nat) (hlt : k < s.size) (h0 : 240 ≤ (s[k]'hlt).toNat) (h0' : (s[k]'hlt).toNat < 248) (hn : k + 3 < s.size) (h : (s[k + 2]'(by omega)).toNat < 128 ∨ 192 ≤ (s[k + 2]'(by omega)).toNat) : whole (s.data.toList.drop k) = false :=
  at_bad s k hlt (fun b1 b2 b3 hb1 hb2 hb3 e1 e2 e3 => dN4e _ _ b1 b2 b3 ⟨h0, h0'⟩ _ rfl (by have e := e2 (by omega); omega) hb1 hb2 hb3)
theorem c4_bad3 (s : ByteArray) (k : Nat) (hlt : k < s.size) (h0 : 240 ≤ (s[k]'hlt).toNat) (h0' : (s[k]'hlt).toNat < 248) (hn : k + 3 < s.size) (h : (s[k + 3]'(by omega)).toNat < 128 ∨ 192 ≤ (s[k + 3]'(by omega)).toNat) : whole (s.data.toList.drop k) = false :=
  at_bad s k hlt (fun b1 b2 b3 hb1 hb2 hb3 e1 e2 e3 => dN4e _ _ b1 b2 b3 ⟨h0, h0'⟩ _ rfl (by have e := e3 (by omega); omega) hb1 hb2 hb3)
theorem c4_badr (s : ByteArray) (k : Nat) (hlt : k < s.size) (h0 : 240 ≤ (s[k]'hlt).toNat) (h0' : (s[k]'hlt).toNat < 248) (hn : k + 3 < s.size) (p1 : 128 ≤ (s[k + 1]'(by omega)).toNat) (q1 : (s[k + 1]'(by omega)).toNat < 192) (p2 : 128 ≤ (s[k + 2]'(by omega)).toNat) (q2 : (s[k + 2]'(by omega)).toNat < 192) (p3 : 128 ≤ (s[k + 3]'(by omega)).toNat) (q3 : (s[k + 3]'(by omega)).toNat < 192) (h : (((((s[k]'hlt).toNat - 240) * 64 + ((s[k + 1]'(by omega)).toNat - 128)) * 64 + ((s[k + 2]'(by omega)).toNat - 128)) * 64 + ((s[k + 3]'(by omega)).toNat - 128)) < 65536 ∨ 1114111 < (((((s[k]'hlt).toNat - 240) * 64 + ((s[k + 1]'(by omega)).toNat - 128)) * 64 + ((s[k + 2]'(by omega)).toNat - 128)) * 64 + ((s[k + 3]'(by omega)).toNat - 128))) : whole (s.data.toList.drop k) = false :=
  at_bad s k hlt (fun b1 b2 b3 hb1 hb2 hb3 e1 e2 e3 => dN4e _ _ b1 b2 b3 ⟨h0, h0'⟩ _ rfl (by have g1 := e1 (by omega); have g2 := e2 (by omega); have g3 := e3 (by omega); rw [g1, g2, g3]; omega) hb1 hb2 hb3)
theorem c4_ok (s : ByteArray) (k : Nat) (hlt : k < s.size) (h0 : 240 ≤ (s[k]'hlt).toNat) (h0' : (s[k]'hlt).toNat < 248) (hn : k + 3 < s.size) (p1 : 128 ≤ (s[k + 1]'(by omega)).toNat) (q1 : (s[k + 1]'(by omega)).toNat < 192) (p2 : 128 ≤ (s[k + 2]'(by omega)).toNat) (q2 : (s[k + 2]'(by omega)).toNat < 192) (p3 : 128 ≤ (s[k + 3]'(by omega)).toNat) (q3 : (s[k + 3]'(by omega)).toNat < 192) (r0 : 65536 ≤ (((((s[k]'hlt).toNat - 240) * 64 + ((s[k + 1]'(by omega)).toNat - 128)) * 64 + ((s[k + 2]'(by omega)).toNat - 128)) * 64 + ((s[k + 3]'(by omega)).toNat - 128))) (r1 : (((((s[k]'hlt).toNat - 240) * 64 + ((s[k + 1]'(by omega)).toNat - 128)) * 64 + ((s[k + 2]'(by omega)).toNat - 128)) * 64 + ((s[k + 3]'(by omega)).toNat - 128)) ≤ 1114111) : whole (s.data.toList.drop k) = whole (s.data.toList.drop (k + 4)) := by
  refine at_ok s k 4 (((((s[k]'hlt).toNat - 240) * 64 + ((s[k + 1]'(by omega)).toNat - 128)) * 64 + ((s[k + 2]'(by omega)).toNat - 128)) * 64 + ((s[k + 3]'(by omega)).toNat - 128)) hlt (by omega) (by omega) ?_ ?_
  · exact fun j hj => by
      rcases (by omega : j = 0 ∨ j = 1 ∨ j = 2 ∨ j = 3) with rfl | rfl | rfl | rfl
      · show (s[k]'hlt).toNat ≠ 0; omega
      · omega
      · omega
      · omega
  · intro b1 b2 b3 hb1 hb2 hb3 e1 e2 e3
    have g1 := e1 (by omega)
    have g2 := e2 (by omega)
    have g3 := e3 (by omega)
    rw [g1, g2, g3]
    exact dN4 _ _ _ _ _ ⟨h0, h0'⟩ (by omega) ⟨by omega, by omega⟩ ⟨by omega, by omega⟩ ⟨by omega, by omega⟩ _ rfl (by omega) (by omega)
theorem cx_bad (s : ByteArray) (k : Nat) (hlt : k < s.size) (h0 : 128 ≤ (s[k]'hlt).toNat ∧ (s[k]'hlt).toNat < 192 ∨ 248 ≤ (s[k]'hlt).toNat) : whole (s.data.toList.drop k) = false :=
  at_bad s k hlt (fun b1 b2 b3 _ _ _ _ _ _ => dNx _ _ b1 b2 b3 h0 (byte_lt _))
end Go.Proofs.YtdlgobakoomkpaaDoor
