/-
  The plain side of keys: the order of lists of bytes; digits; what is behind a beginning. No program in sight.
-/
import Derived.WalkKit
namespace Go.Proofs.Ytpnkmkenmpbekaa
open Go.RowKit

theorem lt_at (c s t : List UInt8) (x y : UInt8) (hne : x ≠ y) : (c ++ x :: s < c ++ y :: t) ↔ x < y := by
  induction c with
  | nil => simp only [List.nil_append, List.cons_lt_cons_iff]; constructor
           · rintro (h | ⟨h, _⟩); exact h; exact absurd h hne
           · exact .inl
  | cons a c ih => simp only [List.cons_append, List.cons_lt_cons_iff, true_and, ih]; constructor
                   · rintro (h | h); exact absurd h (UInt8.lt_irrefl a); exact h
                   · exact .inr

/-- Two lists part at a place; there the first one is less just if P. -/
def Parts (p q : List UInt8) (P : Prop) : Prop := ∃ c x y s t, p = c ++ x :: s ∧ q = c ++ y :: t ∧ x ≠ y ∧ (x < y ↔ P)
theorem Parts.lt {p q : List UInt8} {P : Prop} (h : Parts p q P) (a b : List UInt8) : (p ++ a < q ++ b) ↔ P := by
  obtain ⟨c, x, y, s, t, rfl, rfl, hne, hP⟩ := h
  rw [List.append_assoc, List.append_assoc, List.cons_append, List.cons_append, lt_at _ _ _ _ _ hne, hP]
theorem Parts.cons {p q : List UInt8} {P : Prop} (h : Parts p q P) (a : UInt8) : Parts (a :: p) (a :: q) P := by
  obtain ⟨c, x, y, s, t, rfl, rfl, hne, hP⟩ := h
  exact ⟨a :: c, x, y, s, t, rfl, rfl, hne, hP⟩
theorem Parts.app {p q : List UInt8} {P : Prop} (h : Parts p q P) (c : List UInt8) : Parts (c ++ p) (c ++ q) P := by
  obtain ⟨c', x, y, s, t, rfl, rfl, hne, hP⟩ := h
  exact ⟨c ++ c', x, y, s, t, by simp, by simp, hne, hP⟩
theorem Parts.more {p q : List UInt8} {P : Prop} (h : Parts p q P) (a b : List UInt8) : Parts (p ++ a) (q ++ b) P := by
  obtain ⟨c, x, y, s, t, rfl, rfl, hne, hP⟩ := h
  exact ⟨c, x, y, s ++ a, t ++ b, by simp, by simp, hne, hP⟩
theorem Parts.swap {p q : List UInt8} {P : Prop} (h : Parts p q P) : Parts q p (¬ P) := by
  obtain ⟨c, x, y, s, t, rfl, rfl, hne, hP⟩ := h
  refine ⟨c, y, x, t, s, rfl, rfl, Ne.symm hne, ?_⟩
  rw [← hP]
  have : x.toNat ≠ y.toNat := fun e => hne (UInt8.toNat_inj.1 e)
  rw [UInt8.lt_iff_toNat_lt, UInt8.lt_iff_toNat_lt]
  omega
theorem Parts.ne {p q : List UInt8} {P : Prop} (h : Parts p q P) (a b : List UInt8) : p ++ a ≠ q ++ b := by
  obtain ⟨c, x, y, s, t, rfl, rfl, hne, hP⟩ := h
  intro e
  rw [List.append_assoc, List.append_assoc] at e
  have := List.append_cancel_left e
  simp at this
  exact hne this.1
theorem Parts.notpre {p q : List UInt8} {P : Prop} (h : Parts p q P) (b : List UInt8) : ¬ p <+: q ++ b := by
  rintro ⟨a, ha⟩
  exact h.ne a b ha
theorem Parts.head {x y : UInt8} {s t : List UInt8} {P : Prop} (hne : x ≠ y) (hP : x < y ↔ P) : Parts (x :: s) (y :: t) P := ⟨[], x, y, s, t, rfl, rfl, hne, hP⟩

/-- n digits of 256, the highest first. -/
def be : Nat → Nat → List UInt8
  | 0, _ => []
  | n + 1, u => UInt8.ofNat (u / 256 ^ n) :: be n u
theorem be_length : ∀ n u, (be n u).length = n
  | 0, _ => rfl
  | n + 1, u => by simp [be, be_length n u]
theorem be_get : ∀ (n u k : Nat), k < n → (be n u)[k]? = some (UInt8.ofNat (u / 2 ^ (8 * (n - 1) - 8 * k)))
  | 0, _, _, h => absurd h (by omega)
  | n + 1, u, 0, _ => by
    have e : (256 : Nat) ^ n = 2 ^ (8 * n) := by rw [show (256 : Nat) = 2 ^ 8 by decide, ← Nat.pow_mul]
    simp [be, e]
  | n + 1, u, k + 1, h => by
    have := be_get n u k (by omega)
    rw [be, List.getElem?_cons_succ, this, show 8 * (n - 1) - 8 * k = 8 * (n + 1 - 1) - 8 * (k + 1) by omega]
theorem take_next {l : List UInt8} {k : Nat} {b : UInt8} (h : l[k]? = some b) : l.take (k + 1) = l.take k ++ [b] := by
  rw [List.take_add_one, h]; rfl
theorem be_parts (n : Nat) : ∀ u v : Nat, u < v → u / 256 ^ n = v / 256 ^ n → Parts (be n u) (be n v) True := by
  induction n with
  | zero => intro u v h e; simp at e; omega
  | succ n ih =>
    intro u v h e
    unfold be
    have hle : u / 256 ^ n ≤ v / 256 ^ n := Nat.div_le_div_right (Nat.le_of_lt h)
    rw [Nat.pow_succ, ← Nat.div_div_eq_div_mul, ← Nat.div_div_eq_div_mul] at e
    by_cases hd : u / 256 ^ n = v / 256 ^ n
    · rw [hd]; exact (ih u v h hd).cons _
    · generalize u / 256 ^ n = a at *
      generalize v / 256 ^ n = b at *
      have : (UInt8.ofNat a).toNat < (UInt8.ofNat b).toNat := by simp; omega
      exact Parts.head (fun e => by rw [e] at this; omega) (by rw [UInt8.lt_iff_toNat_lt]; simp only [iff_true]; exact this)
theorem parts_iff {p q : List UInt8} {P Q : Prop} (h : Parts p q P) (e : P ↔ Q) : Parts p q Q := by
  obtain ⟨c, x, y, s, t, rfl, rfl, hne, hP⟩ := h
  exact ⟨c, x, y, s, t, rfl, rfl, hne, hP.trans e⟩
theorem be8_parts {i j : Int} (hi : -9223372036854775808 ≤ i ∧ i ≤ 9223372036854775807) (hj : -9223372036854775808 ≤ j ∧ j ≤ 9223372036854775807) (hne : i ≠ j) :
    Parts (be 8 (i + 9223372036854775808).toNat) (be 8 (j + 9223372036854775808).toNat) (i < j) := by
  have hd : ∀ u : Nat, u < 18446744073709551616 → u / 256 ^ 8 = 0 := fun u hu => Nat.div_eq_of_lt (by simpa using hu)
  rcases Int.lt_or_gt_of_ne hne with h | h
  · exact parts_iff (be_parts 8 _ _ (by omega) (by rw [hd _ (by omega), hd _ (by omega)])) (by simp [h])
  · exact parts_iff (be_parts 8 _ _ (show (j + 9223372036854775808).toNat < (i + 9223372036854775808).toNat by omega) (by rw [hd _ (by omega), hd _ (by omega)])).swap (by simp; omega)
/-- Texts, each ended by 0, none of them holds 0. -/
theorem text_parts : ∀ s t : List UInt8, (∀ b ∈ s, b ≠ 0) → (∀ b ∈ t, b ≠ 0) → s ≠ t → Parts (s ++ [0]) (t ++ [0]) (s < t)
  | [], [], _, _, h => absurd rfl h
  | [], y :: t, _, ht, _ => by
    have hy : y ≠ 0 := ht y (by simp)
    have : 0 < y.toNat := Nat.pos_of_ne_zero fun e => hy (UInt8.toNat_inj.1 e)
    exact Parts.head (Ne.symm hy) (by rw [UInt8.lt_iff_toNat_lt]; simp [this])
  | x :: s, [], hs, _, _ => by
    have hx : x ≠ 0 := hs x (by simp)
    exact Parts.head hx (by rw [UInt8.lt_iff_toNat_lt]; simp)
  | x :: s, y :: t, hs, ht, h => by
    by_cases e : x = y
    · subst e
      have h' : s ≠ t := fun e => h (by rw [e])
      exact parts_iff ((text_parts s t (fun b hb => hs b (by simp [hb])) (fun b hb => ht b (by simp [hb])) h').cons x) (by simp)
    · exact Parts.head e (by simp [List.cons_lt_cons_iff, e])

theorem all_taken : ∀ (l : List UInt8), ∀ b ∈ l.takeWhile (· == (255 : UInt8)), b = 255
  | [], b, h => by simp at h
  | a :: l, b, h => by
    rw [List.takeWhile_cons] at h
    by_cases ha : (a == (255 : UInt8)) = true
    · rw [if_pos ha] at h
      rcases List.mem_cons.1 h with rfl | h
      · simpa using ha
      · exact all_taken l b h
    · rw [if_neg ha] at h; simp at h
/-- What is behind a beginning. -/
def behind (p : List UInt8) : List UInt8 :=
  match (p.reverse.dropWhile (· == 255)) with
  | [] => []
  | c :: r => r.reverse ++ [c + 1]
theorem behind_cases (p : List UInt8) : (behind p = [] ∧ ∀ b ∈ p, b = 255) ∨ ∃ q c m, p = q ++ c :: List.replicate m 255 ∧ c ≠ 255 ∧ behind p = q ++ [c + 1] := by
  unfold behind
  have h1 := List.takeWhile_append_dropWhile (p := (· == (255 : UInt8))) (l := p.reverse)
  have h2 : ∀ b ∈ p.reverse.takeWhile (· == (255 : UInt8)), b = 255 := fun b hb => all_taken p.reverse b hb
  generalize p.reverse.takeWhile (· == (255 : UInt8)) = T at *
  have hc0 := List.head?_dropWhile_not (p := (· == (255 : UInt8))) (l := p.reverse)
  cases hd : p.reverse.dropWhile (· == (255 : UInt8)) with
  | nil =>
    left
    refine ⟨rfl, fun b hb => h2 b ?_⟩
    rw [hd, List.append_nil] at h1
    rw [h1]; simpa using hb
  | cons c r =>
    right
    have hc : c ≠ 255 := by
      rw [hd] at hc0
      simpa using hc0
    refine ⟨r.reverse, c, T.length, ?_, hc, rfl⟩
    rw [hd] at h1
    have h3 : p = (p.reverse).reverse := by simp
    have h4 : T = List.replicate T.length 255 := List.eq_replicate_iff.2 ⟨rfl, h2⟩
    rw [h3, ← h1, List.reverse_append, List.reverse_cons, h4]
    simp
theorem lt_irr : ∀ x : List UInt8, ¬ x < x
  | [], h => by cases h
  | a :: x, h => by
    rw [List.cons_lt_cons_iff] at h
    rcases h with h | ⟨_, h⟩
    · have := UInt8.lt_iff_toNat_lt.1 h; omega
    · exact lt_irr x h
theorem lt_app (c s t : List UInt8) : (c ++ s < c ++ t) ↔ s < t := by
  induction c with
  | nil => rfl
  | cons a c ih => simp only [List.cons_append, List.cons_lt_cons_iff, true_and, ih]; constructor
                   · rintro (h | h); exact absurd h (UInt8.lt_irrefl a); exact h
                   · exact .inr
theorem not_lt_nil (x : List UInt8) : ¬ x < [] := fun h => by cases h
theorem not_lt_pre (p q : List UInt8) : ¬ p ++ q < p := fun h => by
  have := (lt_app p q []).1 (by simpa using h)
  exact not_lt_nil _ this
/-- Bytes that are no less than c :: 255.. : begin with it, or have a greater one ahead. -/
theorem ge_ff : ∀ (m : Nat) (o : List UInt8), ¬ o < List.replicate m 255 → List.replicate m (255 : UInt8) <+: o
  | 0, o, _ => List.nil_prefix
  | m + 1, [], h => by rw [List.replicate_succ] at h; exact absurd List.Lex.nil h
  | m + 1, b :: o, h => by
    rw [List.replicate_succ, List.cons_lt_cons_iff] at h
    have hb : b = 255 := by
      apply UInt8.toNat_inj.1
      have h1 : ¬ b < 255 := fun e => h (.inl e)
      rw [UInt8.lt_iff_toNat_lt] at h1
      have h2 := b.toNat_lt
      have : (255 : UInt8).toNat = 255 := rfl
      omega
    subst hb
    rw [List.replicate_succ]
    exact List.cons_prefix_cons.2 ⟨rfl, ge_ff m o fun e => h (.inr ⟨rfl, e⟩)⟩
theorem succ_lt {c : UInt8} (h : c ≠ 255) : (c + 1).toNat = c.toNat + 1 := by
  have h1 : c.toNat ≠ 255 := fun e => h (UInt8.toNat_inj.1 e)
  have h2 := c.toNat_lt
  rw [UInt8.toNat_add]
  have : (1 : UInt8).toNat = 1 := rfl
  omega
theorem behind_more {p : List UInt8} (h : ¬ ∀ b ∈ p, b = 255) (more : List UInt8) : p ++ more < behind p := by
  rcases behind_cases p with ⟨_, h'⟩ | ⟨q, c, m, hp, hc, hb⟩
  · exact absurd h' h
  · rw [hb, hp, List.append_assoc, List.cons_append, lt_at _ _ _ _ _ (fun e => by have := succ_lt hc; rw [← e] at this; omega), UInt8.lt_iff_toNat_lt, succ_lt hc]
    omega
theorem behind_in {p : List UInt8} (h : ¬ ∀ b ∈ p, b = 255) (o : List UInt8) : (¬ o < p ∧ o < behind p) ↔ p <+: o := by
  rcases behind_cases p with ⟨_, h'⟩ | ⟨q, c, m, hp, hc, hb⟩
  · exact absurd h' h
  · constructor
    · rintro ⟨h1, h2⟩
      rw [hb] at h2
      clear hb h
      subst hp
      induction q generalizing o with
      | nil =>
        simp only [List.nil_append] at *
        cases o with
        | nil => exact absurd List.Lex.nil h1
        | cons d o =>
          rw [List.cons_lt_cons_iff] at h1 h2
          have hd : d = c := by
            apply UInt8.toNat_inj.1
            have h3 : ¬ d < c := fun e => h1 (.inl e)
            rw [UInt8.lt_iff_toNat_lt] at h3
            rcases h2 with h2 | ⟨_, h2⟩
            · rw [UInt8.lt_iff_toNat_lt, succ_lt hc] at h2; omega
            · exact absurd h2 (not_lt_nil _)
          subst hd
          exact List.cons_prefix_cons.2 ⟨rfl, ge_ff m o fun e => h1 (.inr ⟨rfl, e⟩)⟩
      | cons a q ih =>
        cases o with
        | nil => exact absurd List.Lex.nil h1
        | cons d o =>
          simp only [List.cons_append] at h1 h2 ⊢
          rw [List.cons_lt_cons_iff] at h1 h2
          have hd : d = a := by
            apply UInt8.toNat_inj.1
            have h3 : ¬ d < a := fun e => h1 (.inl e)
            rw [UInt8.lt_iff_toNat_lt] at h3
            rcases h2 with h2 | ⟨h2, _⟩
            · rw [UInt8.lt_iff_toNat_lt] at h2; omega
            · rw [h2]
          subst hd
          refine List.cons_prefix_cons.2 ⟨rfl, ih o ?_ (fun e => h1 (.inr ⟨rfl, e⟩))⟩
          rcases h2 with h2 | ⟨_, h2⟩
          · exact absurd h2 (UInt8.lt_irrefl _)
          · exact h2
    · rintro ⟨more, rfl⟩
      exact ⟨not_lt_pre _ _, behind_more h more⟩
end Go.Proofs.Ytpnkmkenmpbekaa
