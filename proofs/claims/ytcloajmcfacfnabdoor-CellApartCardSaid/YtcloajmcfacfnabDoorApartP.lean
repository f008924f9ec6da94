/-
  The plain side of literals: two right values have one literal just if they are the same, of one kind. No program in sight.
-/
import Derived.Test.YtcloajmcfacfnabDoorOrder
import Derived.Test.YtcloajmcfacfnabDoorLit
import Derived.Test.YtcloajmcfacfnabDoorReadRefP
namespace Go.Proofs.YtcloajmcfacfnabDoor
open Go.RowKit

theorem dig_of' (k : Nat) (h : k < 10) : dig (UInt8.ofNat (48 + k)) = true ∧ ((UInt8.ofNat (48 + k)).toNat : Int) - 48 = k := by
  have e : (UInt8.ofNat (48 + k)).toNat = 48 + k := by
    rw [UInt8.toNat_ofNat']; omega
  exact ⟨decide_eq_true (by omega), by omega⟩
theorem dec_read' : ∀ u : Nat, digs (Lib.decDigits u) = true ∧ num (Lib.decDigits u) = u ∧ Lib.decDigits u ≠ []
  | u => by
    by_cases h : u < 10
    · rw [dec_small h]
      obtain ⟨h1, h2⟩ := dig_of' u h
      refine ⟨by unfold digs; rw [List.all_cons, h1]; rfl, ?_, by simp⟩
      rw [show [UInt8.ofNat (48 + u)] = [] ++ [UInt8.ofNat (48 + u)] from rfl, num_snoc, h2, show num [] = 0 from rfl]
      omega
    · have hlt : u / 10 < u := by omega
      obtain ⟨h1, h2, h3⟩ := dec_read' (u / 10)
      obtain ⟨g1, g2⟩ := dig_of' (u % 10) (by omega)
      rw [dec_big h]
      refine ⟨by rw [digs_snoc, h1, g1]; rfl, ?_, by simp⟩
      rw [num_snoc, h2, g2]
      omega
theorem itoa_head (n : Int) : ∃ c l, Lib.itoa n = c :: l ∧ (c = 45 ∨ (48 ≤ c.toNat ∧ c.toNat ≤ 57)) := by
  by_cases h : n < 0
  · exact ⟨45, _, if_pos h, .inl rfl⟩
  · rw [show Lib.itoa n = Lib.decDigits n.toNat from if_neg h]
    obtain ⟨d1, _, d3⟩ := dec_read' n.toNat
    cases hl : Lib.decDigits n.toNat with
    | nil => exact absurd hl d3
    | cons c l =>
      rw [hl] at d1
      exact ⟨c, l, rfl, .inr (digs_cons d1).1⟩
theorem itoa_inj {n m : Int} (h : Lib.itoa n = Lib.itoa m) : n = m := by
  have hd : ∀ u : Nat, Lib.decDigits u ≠ [] ∧ ∀ l, Lib.decDigits u ≠ 45 :: l := fun u => by
    obtain ⟨d1, _, d3⟩ := dec_read' u
    refine ⟨d3, fun l hl => ?_⟩
    rw [hl] at d1
    have := (digs_cons d1).1
    revert this; decide
  have hn : ∀ u v : Nat, Lib.decDigits u = Lib.decDigits v → u = v := fun u v e => by
    have h1 := (dec_read' u).2.1
    have h2 := (dec_read' v).2.1
    rw [e] at h1
    omega
  by_cases h1 : n < 0 <;> by_cases h2 : m < 0
  · rw [show Lib.itoa n = _ from if_pos h1, show Lib.itoa m = _ from if_pos h2] at h
    have := hn _ _ (List.cons.inj h).2
    omega
  · rw [show Lib.itoa n = _ from if_pos h1, show Lib.itoa m = _ from if_neg h2] at h
    exact absurd h.symm ((hd _).2 _)
  · rw [show Lib.itoa n = _ from if_neg h1, show Lib.itoa m = _ from if_pos h2] at h
    exact absurd h ((hd _).2 _)
  · rw [show Lib.itoa n = _ from if_neg h1, show Lib.itoa m = _ from if_neg h2] at h
    have := hn _ _ h
    omega
theorem dbl_inj : ∀ x y : List UInt8, dbl x = dbl y → x = y
  | [], [], _ => rfl
  | [], b :: y, h => by
    rw [dbl_cons] at h
    by_cases e : b = 39
    · subst e; rw [dbl_q] at h; simp [dbl] at h
    · rw [dbl_o e] at h; simp [dbl] at h
  | a :: x, [], h => by
    rw [dbl_cons] at h
    by_cases e : a = 39
    · subst e; rw [dbl_q] at h; simp [dbl] at h
    · rw [dbl_o e] at h; simp [dbl] at h
  | a :: x, b :: y, h => by
    rw [dbl_cons, dbl_cons b] at h
    by_cases ea : a = 39 <;> by_cases eb : b = 39
    · subst ea; subst eb
      rw [dbl_q] at h
      rw [dbl_inj x y (by simpa using h)]
    · subst ea
      rw [dbl_q, dbl_o eb] at h
      exact absurd (List.cons.inj h).1.symm eb
    · subst eb
      rw [dbl_q, dbl_o ea] at h
      exact absurd (List.cons.inj h).1 ea
    · rw [dbl_o ea, dbl_o eb] at h
      obtain ⟨h1, h2⟩ := List.cons.inj h
      rw [h1, dbl_inj x y (by simpa using h2)]
theorem lit_inj {a b : Val} (ha : rightB a = true) (hb : rightB b = true) (h : litL (opn a) = litL (opn b)) : a = b := by
  have hi : ∀ (n : Int) (c : UInt8) (l : List UInt8), (c ≠ 45 ∧ ¬ (48 ≤ c.toNat ∧ c.toNat ≤ 57)) → Lib.itoa n ≠ c :: l := fun n c l hc e => by
    obtain ⟨d, l', e', hd⟩ := itoa_head n
    rw [e'] at e
    obtain ⟨rfl, _⟩ := List.cons.inj e
    rcases hd with hd | hd
    · exact hc.1 hd
    · exact hc.2 hd
  cases rt_of ha <;> cases rt_of hb
  case nul.nul => rfl
  case nul.int i => exact absurd h.symm (hi i 78 _ (by decide))
  case nul.text s => exact absurd (List.cons.inj h).1 (by decide)
  case nul.bool x => cases x <;> exact absurd (List.cons.inj h).1 (by decide)
  case int.nul i => exact absurd h (hi i 78 _ (by decide))
  case int.int i j => rw [show i = j from itoa_inj h]
  case int.text i s => exact absurd h (hi i 39 _ (by decide))
  case int.bool i x => cases x <;> exact absurd h (hi i _ _ (by decide))
  case text.nul s => exact absurd (List.cons.inj h).1 (by decide)
  case text.int s i => exact absurd h.symm (hi i 39 _ (by decide))
  case text.text s t =>
    have h2 : dbl s.data.toList ++ [39] = dbl t.data.toList ++ [39] := (List.cons.inj h).2
    have h3 := dbl_inj _ _ (List.append_cancel_right h2)
    obtain rfl : s = t := by cases s; cases t; congr 1; exact Array.toList_inj.1 h3
    rfl
  case text.bool s x => cases x <;> exact absurd (List.cons.inj h).1 (by decide)
  case bool.nul x => cases x <;> exact absurd (List.cons.inj h).1 (by decide)
  case bool.int x i => cases x <;> exact absurd h.symm (hi i _ _ (by decide))
  case bool.text x s => cases x <;> exact absurd (List.cons.inj h).1 (by decide)
  case bool.bool x y => cases x <;> cases y <;> first | rfl | exact absurd (List.cons.inj h).1 (by decide)
end Go.Proofs.YtcloajmcfacfnabDoor
