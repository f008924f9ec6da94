/-
  The plain side of literals: a text with each ' doubled, as strings.ReplaceAll gives it. No program in sight.
-/
import Derived.Test.YtcloajmcfacfnaaDoorNum
import Derived.Lib.Replace
import Derived.Lib.ItoaNum
namespace Go.Proofs.YtcloajmcfacfnaaDoor
open Go.RowKit

/-- Each ' twice. -/
def dbl (l : List UInt8) : List UInt8 := l.flatMap fun b => if b = 39 then [39, 39] else [b]
theorem dbl_nil : dbl [] = [] := rfl
theorem dbl_app (a b : List UInt8) : dbl (a ++ b) = dbl a ++ dbl b := by unfold dbl; rw [List.flatMap_append]
theorem dbl_q : dbl [39] = [39, 39] := rfl
theorem dbl_o {b : UInt8} (h : b ≠ 39) : dbl [b] = [b] := by unfold dbl; simp [h]
theorem dbl_cons (b : UInt8) (l : List UInt8) : dbl (b :: l) = dbl [b] ++ dbl l := dbl_app [b] l
theorem dbl_same : ∀ l : List UInt8, l.count 39 = 0 → dbl l = l
  | [], _ => rfl
  | b :: l, h => by
    have hb : b ≠ 39 := by intro e; subst e; simp at h
    have hl : l.count 39 = 0 := by rw [List.count_cons] at h; omega
    rw [dbl_cons, dbl_o hb, dbl_same l hl]; rfl
theorem index_q (b : UInt8) (l : List UInt8) : Lib.index (b :: l) [39] = if b = 39 then 0 else if Lib.index l [39] = -1 then -1 else Lib.index l [39] + 1 := by
  rw [Lib.index]
  by_cases h : b = 39
  · subst h; simp
  · have h2 : ([39] : List UInt8).isPrefixOf (b :: l) = false := by
      simp [List.isPrefixOf]; exact fun e => h e.symm
    rw [h2, if_neg (by simp), if_neg h]
    simp
theorem index_none : ∀ l : List UInt8, Lib.index l [39] = -1 → l.count 39 = 0
  | [], _ => rfl
  | b :: l, h => by
    rw [index_q] at h
    by_cases hb : b = 39
    · rw [if_pos hb] at h; omega
    · rw [if_neg hb] at h
      have hg := Lib.index_ge l [39]
      by_cases hl : Lib.index l [39] = -1
      · rw [List.count_cons, index_none l hl]; simp [hb]
      · rw [if_neg hl] at h; omega
theorem index_some : ∀ (l : List UInt8) (i : Nat), Lib.index l [39] = i → l = l.take i ++ 39 :: l.drop (i + 1) ∧ (l.take i).count 39 = 0
  | [], i, h => by
    rw [show Lib.index [] [39] = -1 from rfl] at h; omega
  | b :: l, i, h => by
    rw [index_q] at h
    by_cases hb : b = 39
    · rw [if_pos hb] at h
      obtain rfl : i = 0 := by omega
      subst hb; simp
    · rw [if_neg hb] at h
      by_cases hl : Lib.index l [39] = -1
      · rw [if_pos hl] at h; omega
      · rw [if_neg hl] at h
        have hg := Lib.index_ge l [39]
        obtain ⟨j, hj⟩ : ∃ j : Nat, Lib.index l [39] = j := ⟨(Lib.index l [39]).toNat, by omega⟩
        obtain rfl : i = j + 1 := by omega
        obtain ⟨h1, h2⟩ := index_some l j hj
        constructor
        · rw [List.take_succ_cons, List.drop_succ_cons, List.cons_append, ← h1]
        · rw [List.take_succ_cons, List.count_cons, h2]; simp [hb]
theorem replaceK_dbl : ∀ (k : Nat) (l : List UInt8), l.count 39 ≤ k → Lib.replaceK [39] [39, 39] k l = dbl l
  | 0, l, h => by rw [Lib.replaceK, dbl_same l (by omega)]
  | k + 1, l, h => by
    by_cases hi : Lib.index l [39] = -1
    · rw [Lib.replaceK, if_pos (by rw [hi]; rfl), dbl_same l (index_none l hi)]
    · have hg := Lib.index_ge l [39]
      obtain ⟨j, hj⟩ : ∃ j : Nat, Lib.index l [39] = j := ⟨(Lib.index l [39]).toNat, by omega⟩
      obtain ⟨h1, h2⟩ := index_some l j hj
      have hc : (l.drop (j + 1)).count 39 ≤ k := by
        have := congrArg (List.count 39) h1
        rw [List.count_append, h2, List.count_cons] at this
        simp at this; omega
      rw [Lib.replaceK_hit _ _ _ _ j hj]
      have e1 : dbl l = dbl (l.take j ++ 39 :: l.drop (j + 1)) := by rw [← h1]
      rw [e1, dbl_app, dbl_same _ h2, dbl_cons, dbl_q, show ([39] : List UInt8).length = 1 from rfl, replaceK_dbl k _ hc]
      simp
theorem countFrom_q : ∀ (f : Nat) (l : List UInt8), l.length < f → Lib.countFrom [39] f l = l.count 39
  | 0, _, h => by omega
  | f + 1, l, h => by
    by_cases hi : Lib.index l [39] = -1
    · rw [Lib.countFrom, if_pos (by rw [hi]; rfl), index_none l hi]
    · have hg := Lib.index_ge l [39]
      obtain ⟨j, hj⟩ : ∃ j : Nat, Lib.index l [39] = j := ⟨(Lib.index l [39]).toNat, by omega⟩
      obtain ⟨h1, h2⟩ := index_some l j hj
      have hlen : (l.drop (j + 1)).length < f := by
        have := congrArg List.length h1
        simp at this ⊢; omega
      have hc := congrArg (List.count 39) h1
      rw [List.count_append, h2, List.count_cons] at hc
      rw [Lib.countFrom, if_neg (by simp [hi]), hj, show ((j : Int)).toNat + ([39] : List UInt8).length = j + 1 from rfl, countFrom_q f _ hlen, hc]
      simp; omega
theorem count_q (l : List UInt8) : Lib.count l [39] = l.count 39 := countFrom_q _ _ (by omega)
theorem replaceAll_q (l : List UInt8) : Lib.replaceAll l [39] [39, 39] = dbl l := by
  unfold Lib.replaceAll Lib.replace Lib.replaceNum
  rw [if_neg (by decide), if_pos (.inl (by decide)), count_q]
  exact replaceK_dbl _ _ (Nat.le_refl _)

/-- One more digit ahead. -/
theorem dec_small {u : Nat} (h : u < 10) : Lib.decDigits u = [UInt8.ofNat (48 + u)] := by rw [Lib.decDigits, dif_pos h]
theorem dec_big {u : Nat} (h : ¬ u < 10) : Lib.decDigits u = Lib.decDigits (u / 10) ++ [UInt8.ofNat (48 + u % 10)] := by rw [Lib.decDigits, dif_neg h]
/-- What is left to write, behind some digits: u; those that are written: d; all: m's digits. -/
def Writes (m u : Nat) (d : List UInt8) : Prop := (d = [] ∧ u = m) ∨ (d ≠ [] ∧ u = 0 ∧ d = Lib.decDigits m) ∨ (d ≠ [] ∧ 0 < u ∧ Lib.decDigits u ++ d = Lib.decDigits m)
theorem Writes.next {m u : Nat} {d : List UInt8} (h : Writes m u d) (hgo : 0 < u ∨ d = []) : Writes m (u / 10) (UInt8.ofNat (48 + u % 10) :: d) := by
  by_cases hu : u < 10
  · have e1 : u / 10 = 0 := by omega
    have e2 : u % 10 = u := by omega
    rw [e1, e2]
    refine .inr (.inl ⟨by simp, rfl, ?_⟩)
    rcases h with ⟨rfl, rfl⟩ | ⟨h1, rfl, h3⟩ | ⟨h1, h2, h3⟩
    · rw [dec_small hu]
    · rcases hgo with h | h
      · omega
      · exact absurd h h1
    · rw [dec_small hu] at h3; exact h3
  · refine .inr (.inr ⟨by simp, by omega, ?_⟩)
    rcases h with ⟨rfl, rfl⟩ | ⟨h1, rfl, h3⟩ | ⟨h1, h2, h3⟩
    · rw [dec_big hu]
    · omega
    · rw [dec_big hu] at h3
      rw [← h3]; simp
theorem Writes.last {m u : Nat} {d : List UInt8} (h : Writes m u d) (h1 : u = 0) (h2 : d ≠ []) : d = Lib.decDigits m := by
  rcases h with ⟨rfl, _⟩ | ⟨_, _, h3⟩ | ⟨_, h3, _⟩
  · exact absurd rfl h2
  · exact h3
  · omega
/-- A digit, cut out of all ten. -/
theorem digit_cut : ∀ k : Nat, k < 10 → (⟨#[48, 49, 50, 51, 52, 53, 54, 55, 56, 57]⟩ : ByteArray).extract k (k + 1) = ⟨#[UInt8.ofNat (48 + k)]⟩ := by
  decide
theorem str_ext {a b : ByteArray} (h : a.data.toList = b.data.toList) : a = b := by
  cases a; cases b; congr 1; exact Array.toList_inj.1 h
theorem ret_str {a b : ByteArray} (h : a.data.toList = b.data.toList) : Ending.returned (.string a) = .returned (.string b) := by rw [str_ext h]
end Go.Proofs.YtcloajmcfacfnaaDoor
