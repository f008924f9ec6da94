/-
  Package clog, plain: states, and those that run.
-/
import Derived.Test.YtbmkhopmhmmibaaClogA
namespace Go.Proofs.Ytbmkhopmhmmibaa
open Go.RowKit

theorem runs_append (f : Nat) (S : List Nat) : runs f (S ++ [1]) = runs f S ++ [f + S.length] := by
  induction S generalizing f with
  | nil => simp [runs]
  | cons s S ih =>
    simp only [List.cons_append, runs]
    rw [ih (f + 1), show f + 1 + S.length = f + (s :: S).length by simp; omega]
    split <;> rfl
theorem runs_length (f : Nat) (S : List Nat) : (runs f S).length ≤ S.length := by
  induction S generalizing f with
  | nil => simp [runs]
  | cons s S ih =>
    simp only [runs]
    have := ih (f + 1)
    split <;> simp <;> omega
theorem runs_ge {f : Nat} {S : List Nat} {x : Nat} (h : x ∈ runs f S) : f ≤ x := by
  induction S generalizing f with
  | nil => simp [runs] at h
  | cons s S ih =>
    simp only [runs] at h
    split at h
    · rcases List.mem_cons.1 h with rfl | h
      · omega
      · have := ih h; omega
    · have := ih h; omega
theorem runs_sorted (f : Nat) (S : List Nat) : (runs f S).Pairwise (· < ·) := by
  induction S generalizing f with
  | nil => simp [runs]
  | cons s S ih =>
    simp only [runs]
    split
    · exact List.pairwise_cons.2 ⟨fun x hx => by have := runs_ge hx; omega, ih _⟩
    · exact ih _
theorem stt_cons (f s : Nat) (S : List Nat) (x : Nat) : stt f (s :: S) x = if x = f then s else stt (f + 1) S x := by
  unfold stt
  by_cases h : x = f
  · subst h; simp
  · rw [if_neg h]
    by_cases h1 : f ≤ x
    · rw [if_pos h1, if_pos (by omega), show x - f = (x - (f + 1)) + 1 by omega, List.getD_cons_succ]
    · rw [if_neg h1, if_neg (by omega)]
theorem runs_mem (f : Nat) (S : List Nat) (x : Nat) : x ∈ runs f S ↔ stt f S x = 1 := by
  induction S generalizing f with
  | nil => simp [runs, stt]
  | cons s S ih =>
    rw [stt_cons]
    simp only [runs]
    by_cases h : x = f
    · subst h
      rw [if_pos rfl]
      split
      · simp [*]
      · rename_i hs
        exact ⟨fun hm => by have := runs_ge hm; omega, fun e => absurd e hs⟩
    · rw [if_neg h]
      split
      · rw [List.mem_cons, ih]
        exact ⟨fun e => e.resolve_left h, .inr⟩
      · exact ih _
theorem stt_lt {f : Nat} {S : List Nat} {x : Nat} (h : stt f S x ≠ 0) : f ≤ x ∧ x < f + S.length := by
  unfold stt at h
  by_cases h1 : f ≤ x
  · rw [if_pos h1] at h
    refine ⟨h1, ?_⟩
    rcases Nat.lt_or_ge x (f + S.length) with h2 | h2
    · exact h2
    · rw [List.getD_eq_getElem?_getD, List.getElem?_eq_none (by omega)] at h
      exact absurd rfl h
  · rw [if_neg h1] at h
    exact absurd rfl h
theorem stt_in {f : Nat} {S : List Nat} {x : Nat} (h1 : f ≤ x) (h2 : x - f < S.length) : stt f S x = S[x - f] := by
  unfold stt; rw [if_pos h1, List.getD_eq_getElem?_getD, List.getElem?_eq_getElem h2]; rfl
theorem stt_set {f : Nat} {S : List Nat} {x s : Nat} (h1 : f ≤ x) (h2 : x < f + S.length) (y : Nat) : stt f (S.set (x - f) s) y = if y = x then s else stt f S y := by
  unfold stt
  by_cases h : f ≤ y
  · rw [if_pos h, if_pos h, List.getD_eq_getElem?_getD, List.getD_eq_getElem?_getD]
    by_cases e : y = x
    · subst e
      rw [if_pos rfl, List.getElem?_set_self (by omega)]; rfl
    · rw [if_neg e, List.getElem?_set_ne (by omega)]
  · rw [if_neg h, if_neg h, if_neg (by omega)]
theorem stt_app {f : Nat} {S : List Nat} (s y : Nat) : stt f (S ++ [s]) y = if y = f + S.length then s else stt f S y := by
  unfold stt
  by_cases h : f ≤ y
  · rw [if_pos h, if_pos h, List.getD_eq_getElem?_getD, List.getD_eq_getElem?_getD]
    by_cases e : y = f + S.length
    · subst e
      rw [if_pos rfl, List.getElem?_append_right (by omega)]; simp
    · rw [if_neg e]
      by_cases h3 : y - f < S.length
      · rw [List.getElem?_append_left h3]
      · rw [List.getElem?_eq_none (by simp; omega), List.getElem?_eq_none (by omega)]
  · rw [if_neg h, if_neg h, if_neg (by omega)]
theorem runs_set {f : Nat} {S : List Nat} {x s : Nat} (hx : stt f S x = 1) (hs : s ≠ 1) : runs f (S.set (x - f) s) = (runs f S).filter (fun y => decide (y ≠ x)) := by
  induction S generalizing f with
  | nil => simp [runs]
  | cons a S ih =>
    rw [stt_cons] at hx
    by_cases e : x = f
    · subst e
      rw [if_pos rfl] at hx
      subst hx
      have hall : ∀ y ∈ runs (x + 1) S, decide (y ≠ x) = true := fun y hy => decide_eq_true (by have := runs_ge hy; omega)
      rw [Nat.sub_self, List.set_cons_zero]
      simp only [runs, if_neg hs, if_pos]
      rw [List.filter_cons_of_neg (by simp), List.filter_eq_self.2 hall]
    · rw [if_neg e] at hx
      have hlt := stt_lt (by rw [hx]; decide)
      rw [show x - f = (x - (f + 1)) + 1 by omega, List.set_cons_succ]
      simp only [runs]
      rw [ih hx]
      split
      · rw [List.filter_cons_of_pos (by simpa using fun h => e h.symm)]
      · rfl
theorem filter_at {l : List Nat} (h : l.Pairwise (· < ·)) {i x : Nat} (hi : l[i]? = some x) : l.filter (fun y => decide (y ≠ x)) = l.take i ++ l.drop (i + 1) := by
  induction l generalizing i with
  | nil => simp at hi
  | cons a l ih =>
    rw [List.pairwise_cons] at h
    cases i with
    | zero =>
      simp at hi
      subst hi
      rw [List.filter_cons_of_neg (by simp), List.filter_eq_self.2 fun y hy => decide_eq_true (by have := h.1 y hy; omega)]
      simp
    | succ i =>
      simp at hi
      have := h.1 x (List.mem_of_getElem? hi)
      rw [List.filter_cons_of_pos (by simp; omega), ih h.2 hi]
      simp
/-- What a log has of states. -/
theorem runs_pos {f : Nat} {S : List Nat} {x : Nat} (h : stt f S x = 1) : ∃ i : Nat, (runs f S)[i]? = some x := List.mem_iff_getElem?.1 ((runs_mem f S x).2 h)
theorem sorted_lt {l : List Nat} (h : l.Pairwise (· < ·)) {i j x y : Nat} (hi : l[i]? = some x) (hj : l[j]? = some y) : (x < y ↔ i < j) := by
  obtain ⟨h1, rfl⟩ := List.getElem?_eq_some_iff.1 hi
  obtain ⟨h2, rfl⟩ := List.getElem?_eq_some_iff.1 hj
  have hp := List.pairwise_iff_getElem.1 h
  constructor
  · intro hlt
    rcases Nat.lt_trichotomy i j with h3 | h3 | h3
    · exact h3
    · subst h3; omega
    · have := hp j i h2 h1 h3; omega
  · exact fun hlt => hp i j h1 h2 hlt
theorem set_sts {S : List Nat} {i s : Nat} (h : ∀ t ∈ S, t < 256) (hs : s < 256) : ∀ t ∈ S.set i s, t < 256 := fun t ht => by
  rcases List.mem_or_eq_of_mem_set ht with h1 | rfl
  · exact h t h1
  · exact hs
end Go.Proofs.Ytbmkhopmhmmibaa
