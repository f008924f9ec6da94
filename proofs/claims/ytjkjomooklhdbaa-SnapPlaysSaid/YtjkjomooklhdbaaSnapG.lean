/-
  SnapRests, plain: what is dead stays so, as long as each that runs has its snapshot.
-/
import Derived.Test.YtjkjomooklhdbaaSnapE
import Derived.Test.YtjkjomooklhdbaaMapG
namespace Go.Proofs.Ytjkjomooklhdbaa.snapRests
open Go.RowKit
set_option linter.unusedVariables false

structure Rst (S : List Nat) (fl : Nat → Option Sn) (D : List (Nat × Nat)) : Prop where
  dom : ∀ x, (fl x).isSome = decide (stt 1 S x = 1)
  low : ∀ x s, fl x = some s → s.xmin ≤ x + 1
  dead : ∀ t ∈ D, stt 1 S t.1 = 3 ∨ (stt 1 S t.2 = 2 ∧ ∀ x s, fl x = some s → t.2 < s.xmin)
theorem rst_nil : Rst [] (fun _ => none) [] := ⟨fun x => by
  have : stt 1 [] x ≠ 1 := by unfold stt; split <;> simp
  simp [this], fun x s h => (by cases h), fun t h => (by cases h)⟩
theorem rst_end {S : List Nat} {fl : Nat → Option Sn} {D : List (Nat × Nat)} (h : Rst S fl D) (x s : Nat) (hs : s = 2 ∨ s = 3) : Rst (endL 1 S x s) (updG fl x none) D := by
  unfold endL
  by_cases hx : stt 1 S x = 1
  · rw [if_pos hx]
    have hr := stt_lt (by rw [hx]; decide : stt 1 S x ≠ 0)
    refine ⟨fun y => ?_, fun y t ht => ?_, fun t ht => ?_⟩
    · rw [stt_set hr.1 hr.2]
      unfold updG
      by_cases e : y = x
      · rw [if_pos e, if_pos e]
        have : s ≠ 1 := by omega
        simp [this]
      · rw [if_neg e, if_neg e, h.dom]
    · unfold updG at ht
      by_cases e : y = x
      · rw [if_pos e] at ht; cases ht
      · rw [if_neg e] at ht; exact h.low y t ht
    · rcases h.dead t ht with h1 | ⟨h1, h2⟩
      · left
        rw [stt_set hr.1 hr.2, if_neg (fun e => by rw [e] at h1; omega)]
        exact h1
      · right
        refine ⟨by rw [stt_set hr.1 hr.2, if_neg (fun e => by rw [e] at h1; omega)]; exact h1, fun y u hu => ?_⟩
        unfold updG at hu
        by_cases e : y = x
        · rw [if_pos e] at hu; cases hu
        · rw [if_neg e] at hu; exact h2 y u hu
  · rw [if_neg hx]
    have hn : fl x = none := by
      have := h.dom x
      rw [decide_eq_false hx] at this
      cases hf : fl x with
      | none => rfl
      | some s => rw [hf] at this; cases this
    have e : updG fl x none = fl := by
      funext y
      unfold updG
      by_cases e : y = x
      · rw [if_pos e, e, hn]
      · rw [if_neg e]
    rw [e]
    exact h
theorem least_mem (R : List Nat) (n : Nat) : least R n = n ∨ least R n ∈ R := by
  cases R with
  | nil => exact .inl rfl
  | cons a R => exact .inr (List.mem_cons_self ..)
theorem rst_begin {S : List Nat} {fl : Nat → Option Sn} {D : List (Nat × Nat)} (h : Rst S fl D) (sn : Sn) (hsn : sn.xmin = least (others (runs 1 (S ++ [1])) (1 + S.length)) (1 + (S ++ [1]).length)) :
    Rst (S ++ [1]) (updG fl (1 + S.length) (some sn)) D := by
  have hlen : 1 + (S ++ [1]).length = 1 + S.length + 1 := by simp; omega
  rw [hlen] at hsn
  have hmem : sn.xmin = 1 + S.length + 1 ∨ (stt 1 S sn.xmin = 1 ∧ sn.xmin < 1 + S.length) := by
    rcases least_mem (others (runs 1 (S ++ [1])) (1 + S.length)) (1 + S.length + 1) with e | e
    · exact .inl (hsn.trans e)
    · right
      rw [← hsn] at e
      obtain ⟨h1, h2⟩ := List.mem_filter.1 e
      have h3 := (runs_mem _ _ _).1 h1
      have hne : sn.xmin ≠ 1 + S.length := by simpa using h2
      rw [stt_app, if_neg hne] at h3
      have := stt_lt (by rw [h3]; decide : stt 1 S sn.xmin ≠ 0)
      exact ⟨h3, this.2⟩
  refine ⟨fun y => ?_, fun y t ht => ?_, fun t ht => ?_⟩
  · rw [stt_app]
    unfold updG
    by_cases e : y = 1 + S.length
    · rw [if_pos e, if_pos e]; rfl
    · rw [if_neg e, if_neg e, h.dom]
  · unfold updG at ht
    by_cases e : y = 1 + S.length
    · rw [if_pos e] at ht; cases ht
      rcases hmem with h1 | ⟨_, h1⟩ <;> omega
    · rw [if_neg e] at ht; exact h.low y t ht
  · rcases h.dead t ht with h1 | ⟨h1, h2⟩
    · left
      rw [stt_app]
      have := stt_lt (by rw [h1]; decide : stt 1 S t.1 ≠ 0)
      rw [if_neg (by omega)]
      exact h1
    · right
      have h3 := stt_lt (by rw [h1]; decide : stt 1 S t.2 ≠ 0)
      refine ⟨by rw [stt_app, if_neg (by omega)]; exact h1, fun y u hu => ?_⟩
      unfold updG at hu
      by_cases e : y = 1 + S.length
      · rw [if_pos e] at hu; cases hu
        rcases hmem with h4 | ⟨h4, h5⟩
        · omega
        · have hd := h.dom sn.xmin
          rw [decide_eq_true h4] at hd
          obtain ⟨u2, hu2⟩ := Option.isSome_iff_exists.1 hd
          have h6 := h2 _ _ hu2
          have h7 := h.low _ _ hu2
          have hne : t.2 ≠ sn.xmin := fun e => by rw [e] at h1; omega
          omega
      · rw [if_neg e] at hu; exact h2 y u hu
/-- The snapshots of those that run, by their numbers, the first k of them. -/
def lv (fl : Nat → Option Sn) (k : Nat) : List Sn := (List.range k).filterMap fl
theorem lv_succ (fl : Nat → Option Sn) (k : Nat) : lv fl (k + 1) = lv fl k ++ (fl k).toList := by
  unfold lv
  rw [List.range_succ, List.filterMap_append]
  congr 1
theorem lv_len (fl : Nat → Option Sn) (k : Nat) : (lv fl k).length ≤ k := by
  have := List.length_filterMap_le fl (List.range k)
  simpa [lv] using this
theorem lv_mem {fl : Nat → Option Sn} {k : Nat} {s : Sn} : s ∈ lv fl k ↔ ∃ x, x < k ∧ fl x = some s := by
  unfold lv
  rw [List.mem_filterMap]
  constructor
  · rintro ⟨x, hx, e⟩; exact ⟨x, List.mem_range.1 hx, e⟩
  · rintro ⟨x, hx, e⟩; exact ⟨x, List.mem_range.2 hx, e⟩
theorem fold_iff {r : List Sn} {z b : Nat} : b < r.foldl (fun m t => min m t.xmin) z ↔ b < z ∧ ∀ t ∈ r, b < t.xmin := by
  induction r generalizing z with
  | nil => simp
  | cons a r ih =>
    rw [List.foldl_cons, ih]
    constructor
    · rintro ⟨h1, h2⟩
      exact ⟨by omega, fun t ht => (List.mem_cons.1 ht).elim (fun e => by subst e; omega) (h2 t)⟩
    · rintro ⟨h1, h2⟩
      have := h2 a (List.mem_cons_self ..)
      exact ⟨by omega, fun t ht => h2 t (List.mem_cons_of_mem _ ht)⟩
theorem hzn_iff {L : List Sn} {nx b : Nat} : b < hzn nx L ↔ (∀ s ∈ L, b < s.xmin) ∧ (L = [] → b < nx) := by
  cases L with
  | nil => simp [hzn]
  | cons s r =>
    unfold hzn
    rw [fold_iff]
    constructor
    · rintro ⟨h1, h2⟩
      exact ⟨fun t ht => (List.mem_cons.1 ht).elim (fun e => by subst e; exact h1) (h2 t), fun e => by cases e⟩
    · rintro ⟨h1, _⟩
      exact ⟨h1 s (List.mem_cons_self ..), fun t ht => h1 t (List.mem_cons_of_mem _ ht)⟩
theorem rst_holds {S : List Nat} {fl : Nat → Option Sn} {D : List (Nat × Nat)} (h : Rst S fl D) {t : Nat × Nat} (ht : t ∈ D) : deadB 1 S t.1 t.2 (hzn (1 + S.length) (lv fl 60)) = true := by
  unfold deadB
  rcases h.dead t ht with h1 | ⟨h1, h2⟩
  · rw [decide_eq_true h1]; rfl
  · have h3 := stt_lt (by rw [h1]; decide : stt 1 S t.2 ≠ 0)
    have : t.2 < hzn (1 + S.length) (lv fl 60) := hzn_iff.2 ⟨fun s hs => by
      obtain ⟨x, _, e⟩ := lv_mem.1 hs
      exact h2 x s e, fun _ => h3.2⟩
    rw [decide_eq_true this, decide_eq_true h1]
    simp
theorem rst_new {S : List Nat} {fl : Nat → Option Sn} {D : List (Nat × Nat)} (h : Rst S fl D) (hl : S.length ≤ 50) {a b : Nat} (hd : deadB 1 S a b (hzn (1 + S.length) (lv fl 60)) = true) : Rst S fl (D ++ [(a, b)]) := by
  refine ⟨h.dom, h.low, fun t ht => ?_⟩
  rcases List.mem_append.1 ht with ht | ht
  · exact h.dead t ht
  · obtain rfl := List.mem_singleton.1 ht
    unfold deadB at hd
    rw [Bool.or_eq_true, Bool.and_eq_true, decide_eq_true_iff, decide_eq_true_iff, decide_eq_true_iff] at hd
    rcases hd with h1 | ⟨h1, h2⟩
    · exact .inl h1
    · right
      refine ⟨h2, fun x s hx => (hzn_iff.1 h1).1 s (lv_mem.2 ⟨x, ?_, hx⟩)⟩
      have hd := h.dom x
      rw [hx] at hd
      have h3 : stt 1 S x = 1 := of_decide_eq_true hd.symm
      have := stt_lt (by rw [h3]; decide : stt 1 S x ≠ 0)
      omega
end Go.Proofs.Ytjkjomooklhdbaa.snapRests
