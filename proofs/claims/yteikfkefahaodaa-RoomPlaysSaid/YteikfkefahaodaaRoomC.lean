/-
  lapidarylaw06.awake: the document's example of room holds: true; of what was there nothing has turned.
-/
import Derived.Test.YteikfkefahaodaaRoomB
namespace Go.Proofs.Yteikfkefahaodaa
open Go.RowKit

theorem found_b {i : Nat} {ok : Bool} (h : Found [5, 50, 50] 6 i ok) : i = 1 ∧ ok = true := by
  cases ok with
  | false =>
    have := (h.2 rfl).2 1 (by decide)
    simp at this
  | true =>
    obtain ⟨h1, h2, h3⟩ := h.1 rfl
    have h1' : i < 3 := h1
    have : i = 0 ∨ i = 1 ∨ i = 2 := by omega
    rcases this with rfl | rfl | rfl
    · simp at h2
    · exact ⟨rfl, rfl⟩
    · have := h3 1 (by decide)
      simp at this
theorem found_c {i : Nat} {ok : Bool} (h : Found [5, 50, 50] 51 i ok) : ok = false := by
  cases ok with
  | false => rfl
  | true =>
    obtain ⟨h1, h2, h3⟩ := h.1 rfl
    have h1' : i < 3 := h1
    have : i = 0 ∨ i = 1 ∨ i = 2 := by omega
    rcases this with rfl | rfl | rfl <;> simp at h2
end Go.Proofs.Yteikfkefahaodaa
