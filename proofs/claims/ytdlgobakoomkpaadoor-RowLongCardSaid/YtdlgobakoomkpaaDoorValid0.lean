/-
  The plain side of right values: what they are; cell's answers and the document's are the same. No program in sight.
-/
import Derived.Test.YtdlgobakoomkpaaDoorCell2R
import Derived.Test.YtdlgobakoomkpaaDoorCell2B
import Derived.Test.YtdlgobakoomkpaaDoorCellE
namespace Go.Proofs.YtdlgobakoomkpaaDoor
open Go.RowKit

theorem empty_of {s : ByteArray} (h : s.toList.isEmpty = true) : s = ⟨#[]⟩ := by
  rw [ByteArray.toList_eq] at h
  cases s with
  | mk d =>
    congr 1
    apply Array.toList_inj.1
    simpa using h
theorem right_cases {v : Val} (h : rightB v = true) : v = ⟨0, 0, ⟨#[]⟩, false⟩ ∨ (∃ i, v = ⟨1, i, ⟨#[]⟩, false⟩) ∨ (∃ s, v = ⟨2, 0, s, false⟩ ∧ soundB s = true) ∨ (∃ b, v = ⟨3, 0, ⟨#[]⟩, b⟩) := by
  obtain ⟨k, i, s, b⟩ := v
  unfold rightB at h
  simp only [] at h
  by_cases h0 : k = 0
  · rw [if_pos h0, Bool.and_eq_true, Bool.and_eq_true] at h
    obtain ⟨h1, h2, h3⟩ := h
    obtain rfl := empty_of h2
    obtain rfl : i = 0 := by simpa using h1
    obtain rfl : b = false := by simpa using h3
    subst h0
    exact .inl rfl
  · rw [if_neg h0] at h
    by_cases h1 : k = 1
    · rw [if_pos h1, Bool.and_eq_true] at h
      obtain ⟨h2, h3⟩ := h
      obtain rfl := empty_of h2
      obtain rfl : b = false := by simpa using h3
      subst h1
      exact .inr (.inl ⟨i, rfl⟩)
    · rw [if_neg h1] at h
      by_cases h2 : k = 2
      · rw [if_pos h2, Bool.and_eq_true, Bool.and_eq_true] at h
        obtain ⟨⟨h3, h4⟩, h5⟩ := h
        obtain rfl : i = 0 := by simpa using h3
        obtain rfl : b = false := by simpa using h4
        subst h2
        exact .inr (.inr (.inl ⟨s, rfl, h5⟩))
      · rw [if_neg h2] at h
        by_cases h3 : k = 3
        · rw [if_pos h3, Bool.and_eq_true] at h
          obtain ⟨h4, h5⟩ := h
          obtain rfl : i = 0 := by simpa using h4
          obtain rfl := empty_of h5
          subst h3
          exact .inr (.inr (.inr ⟨b, rfl⟩))
        · rw [if_neg h3] at h; cases h

theorem and_same {a b : Val} (ha : rightB a = true) (hb : rightB b = true) : randv a b = joinv (opn a) (opn b) false ∧ rorv a b = joinv (opn a) (opn b) true ∧ rande a b = joine (opn a) (opn b) := by
  rcases right_cases ha with rfl | ⟨i, rfl⟩ | ⟨s, rfl, _⟩ | ⟨x, rfl⟩ <;> rcases right_cases hb with rfl | ⟨j, rfl⟩ | ⟨t, rfl, _⟩ | ⟨y, rfl⟩ <;>
    first | exact ⟨rfl, rfl, rfl⟩ | (cases x <;> first | exact ⟨rfl, rfl, rfl⟩ | (cases y <;> exact ⟨rfl, rfl, rfl⟩)) | (cases y <;> exact ⟨rfl, rfl, rfl⟩)
theorem not_same {a : Val} (ha : rightB a = true) : rnotv a = notv (opn a) ∧ rnote a = note (opn a) := by
  rcases right_cases ha with rfl | ⟨i, rfl⟩ | ⟨s, rfl, _⟩ | ⟨x, rfl⟩ <;> first | exact ⟨rfl, rfl⟩ | (cases x <;> exact ⟨rfl, rfl⟩)
end Go.Proofs.YtdlgobakoomkpaaDoor
