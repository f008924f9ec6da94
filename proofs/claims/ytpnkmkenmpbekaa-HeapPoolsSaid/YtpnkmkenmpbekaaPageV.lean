/-
  Pages and heaps, the plain side: what lies where, behind an Insert and a Free; how many versions there are.
-/
import Derived.Test.YtpnkmkenmpbekaaPageS
import Derived.Test.YtpnkmkenmpbekaaHeapP
namespace Go.Proofs.Ytpnkmkenmpbekaa
open Go.RowKit
set_option linter.unusedVariables false

def getL (L : List Sl) (s : Nat) : Option Ver := match L[s]? with
  | some (some q) => some q.2
  | _ => none
def getN (P : Pg) (s : Nat) : Option Ver := getL P.L s
theorem getP_nat (P : Pg) (s : Nat) : getP P (s : Int) = getN P s := by
  unfold getP getN getL
  rw [if_pos (by omega), Int.toNat_natCast]
  cases P.L[s]? with
  | none => rfl
  | some o => cases o with
    | none => rfl
    | some q => rfl
theorem getL_has {L : List Sl} {s : Nat} {v : Ver} : getL L s = some v ↔ ∃ a, L[s]? = some (some (a, v)) := by
  unfold getL
  cases h : L[s]? with
  | none => simp
  | some o => cases o with
    | none => simp
    | some q =>
      constructor
      · intro e
        injection e with e
        exact ⟨q.1, by rw [← e]⟩
      · rintro ⟨a, e⟩
        injection e with e
        injection e with e
        rw [e]
theorem getL_eq {L M : List Sl} {s : Nat} (h : ∀ v, (∃ a, L[s]? = some (some (a, v))) ↔ ∃ a, M[s]? = some (some (a, v))) : getL L s = getL M s := by
  cases h1 : getL L s with
  | some v =>
    exact (getL_has.2 ((h v).1 (getL_has.1 h1))).symm
  | none =>
    cases h2 : getL M s with
    | none => rfl
    | some v => rw [getL_has.2 ((h v).2 (getL_has.1 h2))] at h1; cases h1
theorem getL_none {L : List Sl} {s : Nat} (h : L[s]? = some none ∨ L[s]? = none) : getL L s = none := by
  unfold getL
  rcases h with h | h <;> rw [h]
section
variable {P : Pg} {v : Ver} {s k : Nat}
theorem getN_ins0 : getN (ins0P P v) s = getN P s := getL_eq fun _ => ins0P_has
theorem low_le : P.low ≤ P.L.length := lowN_le P.L P.L.length
theorem getN_low : getN P P.low = none := by
  rcases Nat.lt_or_ge P.low P.L.length with h | h
  · exact getL_none (.inl (lowN_none P.L P.L.length h))
  · exact getL_none (.inr (List.getElem?_eq_none h))
theorem getN_ins : getN (insP P v) s = if s = P.low then some v else getN P s := by
  have hl := low_le (P := P)
  have h0 : (ins0P P v).L.length = P.L.length := ins0P_len P v
  by_cases c : P.low < P.L.length
  · have hi : (insP P v).L = (ins0P P v).L.set P.low (some ((ins0P P v).start - v.sz, v)) := by unfold insP; rw [if_pos c]
    unfold getN
    rw [hi]
    by_cases e : s = P.low
    · subst e
      rw [if_pos rfl]
      exact getL_has.2 ⟨_, List.getElem?_set_self (by omega)⟩
    · rw [if_neg e]
      refine Eq.trans ?_ (getN_ins0 (P := P) (v := v) (s := s))
      exact getL_eq fun u => by rw [List.getElem?_set_ne (fun h => e h.symm)]
  · have hi : (insP P v).L = (ins0P P v).L ++ [some ((ins0P P v).start - v.sz, v)] := by unfold insP; rw [if_neg c]
    unfold getN
    rw [hi]
    by_cases e : s = P.low
    · subst e
      rw [if_pos rfl]
      exact getL_has.2 ⟨_, by rw [List.getElem?_append_right (by omega), show P.low - (ins0P P v).L.length = 0 by omega]; rfl⟩
    · rw [if_neg e]
      refine Eq.trans ?_ (getN_ins0 (P := P) (v := v) (s := s))
      refine getL_eq fun u => ?_
      by_cases hs : s < (ins0P P v).L.length
      · rw [List.getElem?_append_left hs]
      · rw [List.getElem?_eq_none (by simp; omega), List.getElem?_eq_none (by omega)]
theorem getN_free : getN (freeP P k) s = if s = k then none else getN P s := by
  have hT : ∀ L : List Sl, getL (L.take (trimN L L.length)) s = getL L s := fun L => by
    by_cases hs : s < trimN L L.length
    · exact getL_eq fun u => by rw [List.getElem?_take_of_lt hs]
    · have h1 : getL (L.take (trimN L L.length)) s = none := getL_none (.inr (List.getElem?_eq_none (by rw [List.length_take]; omega)))
      rw [h1]
      by_cases hL : s < L.length
      · exact (getL_none (.inl (trimN_out L L.length s (by omega) hL))).symm
      · exact (getL_none (.inr (List.getElem?_eq_none (by omega)))).symm
  show getL ((P.L.set k none).take (trimN (P.L.set k none) (P.L.set k none).length)) s = _
  rw [hT]
  by_cases e : s = k
  · subst e
    rw [if_pos rfl]
    by_cases hs : s < P.L.length
    · exact getL_none (.inl (List.getElem?_set_self hs))
    · exact getL_none (.inr (List.getElem?_eq_none (by simp; omega)))
  · rw [if_neg e]
    exact getL_eq fun u => by rw [List.getElem?_set_ne (fun h => e h.symm)]
theorem freN_get (h : (getN P k).isSome = true) : freN P (k : Int) = freeP P k := by
  unfold freN
  rw [getP_nat, if_pos h, Int.toNat_natCast]
end
/-- How many, as a count over slots. -/
def cnt (f : Nat → Bool) (N : Nat) : Nat := (List.range N).countP f
theorem cnt_succ (f : Nat → Bool) (N : Nat) : cnt f (N + 1) = cnt f N + if f N then 1 else 0 := by
  unfold cnt
  rw [List.range_succ, List.countP_append]
  simp [List.countP_cons]
theorem cnt_congr {f g : Nat → Bool} {N : Nat} (h : ∀ j, j < N → f j = g j) : cnt f N = cnt g N := by
  induction N with
  | zero => rfl
  | succ N ih => rw [cnt_succ, cnt_succ, ih (fun j hj => h j (by omega)), h N (by omega)]
theorem cnt_upd {f g : Nat → Bool} {k : Nat} : ∀ {N : Nat}, k < N → f k = false → g k = true → (∀ j, j ≠ k → g j = f j) → cnt g N = cnt f N + 1
  | 0, h, _, _, _ => by omega
  | N + 1, h, h1, h2, h3 => by
    rw [cnt_succ, cnt_succ]
    by_cases e : k = N
    · subst e
      rw [cnt_congr (fun j hj => h3 j (by omega)), h1, h2]; simp
    · rw [cnt_upd (N := N) (by omega) h1 h2 h3, h3 N (fun h => e h.symm)]; omega
theorem used_cnt (L : List Sl) : ∀ N, (L.take N).countP (·.isSome) = cnt (fun s => (getL L s).isSome) N
  | 0 => rfl
  | N + 1 => by
    rw [cnt_succ, ← used_cnt L N, List.take_add_one, List.countP_append]
    congr 1
    unfold getL
    cases L[N]? with
    | none => rfl
    | some o => cases o with
      | none => rfl
      | some q => rfl
theorem used_of {P : Pg} {N : Nat} (h : P.L.length ≤ N) : P.used = cnt (fun s => (getN P s).isSome) N := by
  have := used_cnt P.L N
  rw [List.take_of_length_le h] at this
  exact this
theorem used_ins (P : Pg) (v : Ver) : (insP P v).used = P.used + 1 := by
  have hl := low_le (P := P)
  have hm : (insP P v).L.length = P.mm := insP_len P v
  have hmm : P.mm = max P.L.length (P.low + 1) := rfl
  rw [used_of (N := P.L.length + 1) (by omega), used_of (P := P) (N := P.L.length + 1) (by omega)]
  refine cnt_upd (k := P.low) (by omega) (by rw [getN_low]; rfl) (by rw [getN_ins, if_pos rfl]; rfl) fun j hj => by rw [getN_ins, if_neg hj]
theorem used_free {P : Pg} {k : Nat} (h : (getN P k).isSome = true) : (freeP P k).used + 1 = P.used := by
  have hk : k < P.L.length := by
    unfold getN getL at h
    rcases Nat.lt_or_ge k P.L.length with hk | hk
    · exact hk
    · rw [List.getElem?_eq_none hk] at h; cases h
  have hL : (freeP P k).L.length ≤ P.L.length := by
    show ((P.L.set k none).take _).length ≤ _
    rw [List.length_take, List.length_set]; omega
  rw [used_of hL, used_of (P := P) (Nat.le_refl _)]
  exact (cnt_upd (k := k) hk (by rw [getN_free, if_pos rfl]; rfl) h fun j hj => by rw [getN_free, if_neg hj]).symm
/-- What a heap has at a place. -/
def hget (Ps : List Pg) (q : Nat × Nat) : Option Ver := (Ps[q.1]?).bind fun P => getN P q.2
theorem hget_at {Ps : List Pg} {i s : Nat} {P : Pg} (h : Ps[i]? = some P) : hget Ps (i, s) = getN P s := by unfold hget; rw [h]; rfl
theorem hget_some {Ps : List Pg} {q : Nat × Nat} {t : Ver} (h : hget Ps q = some t) : ∃ P, Ps[q.1]? = some P ∧ getP P (q.2 : Int) = some t := by
  unfold hget at h
  cases hp : Ps[q.1]? with
  | none => rw [hp] at h; cases h
  | some P => rw [hp] at h; exact ⟨P, rfl, by rw [getP_nat]; exact h⟩
theorem hget_set {Ps : List Pg} {i : Nat} {P Q : Pg} {k : Nat} {o : Option Ver} (hP : Ps[i]? = some P) (hQ : ∀ s, getN Q s = if s = k then o else getN P s) (q : Nat × Nat) : hget (Ps.set i Q) q = if q = (i, k) then o else hget Ps q := by
  have hi := (List.getElem?_eq_some_iff.1 hP).1
  unfold hget
  by_cases e : q.1 = i
  · rw [e, List.getElem?_set_self hi, hP]
    show getN Q q.2 = if q = (i, k) then o else getN P q.2
    rw [hQ]
    by_cases e2 : q.2 = k
    · rw [if_pos e2, if_pos (by rw [← e, ← e2])]
    · rw [if_neg e2, if_neg (fun h => e2 (by rw [h]))]
  · rw [List.getElem?_set_ne (fun h => e h.symm), if_neg (fun h => e (by rw [h]))]
theorem usedL_set {Ps : List Pg} {P Q : Pg} : ∀ {i : Nat}, Ps[i]? = some P → ((Ps.set i Q).map Pg.used).sum + P.used = (Ps.map Pg.used).sum + Q.used := by
  induction Ps with
  | nil => intro i h; simp at h
  | cons a l ih =>
    intro i h
    cases i with
    | zero =>
      simp at h
      subst h
      simp; omega
    | succ i =>
      have := ih (i := i) (by simpa using h)
      simp only [List.set_cons_succ, List.map_cons, List.sum_cons]; omega
end Go.Proofs.Ytpnkmkenmpbekaa
