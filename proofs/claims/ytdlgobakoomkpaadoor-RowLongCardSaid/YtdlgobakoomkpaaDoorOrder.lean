/-
  The plain side of the order of all values: cell's and the document's are one; it is an order. No program in sight.
-/
import Derived.Test.YtdlgobakoomkpaaDoorValid0
namespace Go.Proofs.YtdlgobakoomkpaaDoor
open Go.RowKit

theorem llt_irrefl : ∀ x : List UInt8, ¬ x < x
  | [], h => by cases h
  | a :: x, h => by
    rw [List.cons_lt_cons_iff] at h
    rcases h with h | ⟨_, h⟩
    · have := UInt8.lt_iff_toNat_lt.1 h; omega
    · exact llt_irrefl x h
theorem llt_trans : ∀ x y z : List UInt8, x < y → y < z → x < z
  | [], _, [], _, h => by cases h
  | [], _, _ :: _, _, _ => List.Lex.nil
  | _ :: _, [], _, h, _ => by cases h
  | _ :: _, _ :: _, [], _, h => by cases h
  | a :: x, b :: y, c :: z, h1, h2 => by
    rw [List.cons_lt_cons_iff] at h1 h2 ⊢
    rcases h1 with h1 | ⟨e1, h1⟩ <;> rcases h2 with h2 | ⟨e2, h2⟩
    · left; rw [UInt8.lt_iff_toNat_lt] at *; omega
    · left; rw [← e2]; exact h1
    · left; rw [e1]; exact h2
    · right; exact ⟨e1.trans e2, llt_trans x y z h1 h2⟩
theorem llt_tri : ∀ x y : List UInt8, ¬ x < y → ¬ y < x → x = y
  | [], [], _, _ => rfl
  | [], _ :: _, h, _ => absurd List.Lex.nil h
  | _ :: _, [], _, h => absurd List.Lex.nil h
  | a :: x, b :: y, h1, h2 => by
    rw [List.cons_lt_cons_iff] at h1 h2
    have e : a = b := by
      apply UInt8.toNat_inj.1
      have g1 : ¬ a < b := fun h => h1 (.inl h)
      have g2 : ¬ b < a := fun h => h2 (.inl h)
      rw [UInt8.lt_iff_toNat_lt] at g1 g2
      omega
    subst e
    rw [llt_tri x y (fun h => h1 (.inr ⟨rfl, h⟩)) (fun h => h2 (.inr ⟨rfl, h⟩))]

theorem ordS_neg (s t : ByteArray) : decide (ordS s t < 0) = sless s t := by
  unfold ordS
  cases h : sless s t
  · rw [if_neg (by simp)]; split <;> decide
  · rw [if_pos rfl]; decide
theorem ordI_neg (i j : Int) : decide (ordI i j < 0) = decide (i < j) := by
  unfold ordI
  by_cases h : i < j
  · rw [if_pos h, decide_eq_true h]; decide
  · rw [if_neg h, decide_eq_false h]; split <;> decide

/-- What a right value comes to. -/
inductive Rt : Val → Prop where
  | nul : Rt ⟨0, 0, ⟨#[]⟩, false⟩
  | int (i : Int) : Rt ⟨1, i, ⟨#[]⟩, false⟩
  | text (s : ByteArray) : Rt ⟨2, 0, s, false⟩
  | bool (b : Bool) : Rt ⟨3, 0, ⟨#[]⟩, b⟩
theorem rt_of {v : Val} (h : rightB v = true) : Rt v := by
  rcases right_cases h with rfl | ⟨i, rfl⟩ | ⟨s, rfl, _⟩ | ⟨x, rfl⟩
  · exact .nul
  · exact .int i
  · exact .text s
  · exact .bool x

theorem cless_int (i j : Int) : cless ⟨1, i, ⟨#[]⟩, false⟩ ⟨1, j, ⟨#[]⟩, false⟩ = decide (i < j) := ordI_neg i j
theorem cless_text (s t : ByteArray) : cless ⟨2, 0, s, false⟩ ⟨2, 0, t, false⟩ = decide (s.toList < t.toList) := (ordS_neg s t).trans (sless_iff s t)
theorem rless_int (i j : Int) : rless ⟨1, i, ⟨#[]⟩, false⟩ ⟨1, j, ⟨#[]⟩, false⟩ = decide (i < j) := by
  show ((1 == 1 : Bool) && decide (i < j) || (((1 : Int) == 2) && _)) = _
  simp
theorem rless_text (s t : ByteArray) : rless ⟨2, 0, s, false⟩ ⟨2, 0, t, false⟩ = decide (s.toList < t.toList) := by
  show ((((2 : Int) == 1) && decide ((0 : Int) < 0)) || (((2 : Int) == 2) && sless s t)) = _
  rw [sless_iff]; simp

theorem less_eq {a b : Val} (ha : rightB a = true) (hb : rightB b = true) : rless a b = cless a b := by
  cases rt_of ha <;> cases rt_of hb
  case int.int i j => rw [rless_int, cless_int]
  case text.text s t => rw [rless_text, cless_text]
  case bool.bool x y => cases x <;> cases y <;> rfl
  case bool.nul x => cases x <;> rfl
  case bool.int x _ => cases x <;> rfl
  case bool.text x _ => cases x <;> rfl
  case nul.bool x => cases x <;> rfl
  case int.bool _ x => cases x <;> rfl
  case text.bool _ x => cases x <;> rfl
  all_goals rfl
theorem same_eq {a b : Val} (ha : rightB a = true) (hb : rightB b = true) : rsame a b = csame a b := by
  unfold rsame csame; rw [less_eq ha hb, less_eq hb ha]
theorem anti {a b : Val} (ha : rightB a = true) (hb : rightB b = true) (h : cless a b = true) : cless b a = false := by
  cases rt_of ha <;> cases rt_of hb
  case int.int i j =>
    rw [cless_int] at h ⊢
    have := of_decide_eq_true h
    exact decide_eq_false (by omega)
  case text.text s t =>
    rw [cless_text] at h ⊢
    have := of_decide_eq_true h
    exact decide_eq_false fun h2 => llt_irrefl _ (llt_trans _ _ _ this h2)
  case bool.bool x y => cases x <;> cases y <;> first | rfl | cases h
  all_goals first | rfl | cases h
theorem irrefl {a : Val} (ha : rightB a = true) : cless a a = false := by
  cases h : cless a a
  · rfl
  · rw [anti ha ha h] at h; cases h
theorem cmp_eq {a b : Val} (ha : rightB a = true) (hb : rightB b = true) : rcmpv a b = cmpv a b ∧ rcmpk a b = cmpk a b ∧ rcmpe a b = cmpe a b := by
  have h1 := less_eq ha hb
  have h2 := less_eq hb ha
  cases rt_of ha <;> cases rt_of hb
  case int.int i j =>
    refine ⟨?_, rfl, rfl⟩
    show (if rless _ _ = true then (-1 : Int) else if rless _ _ = true then 1 else 0) = ordI i j
    rw [rless_int, rless_int]
    unfold ordI
    simp
  case text.text s t =>
    refine ⟨?_, rfl, rfl⟩
    show (if rless _ _ = true then (-1 : Int) else if rless _ _ = true then 1 else 0) = ordS s t
    rw [rless_text, rless_text]
    unfold ordS seq
    rw [sless_iff]
    by_cases g1 : s.toList < t.toList
    · simp [g1]
    · by_cases g2 : t.toList < s.toList
      · have ne : ¬ s.toList = t.toList := fun e => by rw [e] at g2; exact llt_irrefl _ g2
        simp [g1, g2, ne]
      · have e := llt_tri _ _ g1 g2
        simp [e, llt_irrefl]
  case bool.bool x y => cases x <;> cases y <;> exact ⟨rfl, rfl, rfl⟩
  all_goals exact ⟨rfl, rfl, rfl⟩
theorem trans {a b c : Val} (ha : rightB a = true) (hb : rightB b = true) (hc : rightB c = true) (h1 : cless a b = true) (h2 : cless b c = true) : cless a c = true := by
  cases rt_of ha <;> cases rt_of hb <;> cases rt_of hc
  case int.int.int i j k =>
    rw [cless_int] at *
    have := of_decide_eq_true h1
    have := of_decide_eq_true h2
    exact decide_eq_true (by omega)
  case text.text.text s t u =>
    rw [cless_text] at *
    exact decide_eq_true (llt_trans _ _ _ (of_decide_eq_true h1) (of_decide_eq_true h2))
  case bool.bool.bool x y z => cases x <;> cases y <;> cases z <;> first | rfl | (cases h1; done) | (cases h2; done)
  all_goals first | rfl | (cases h1; done) | (cases h2; done)
theorem same_is {a b : Val} (ha : rightB a = true) (hb : rightB b = true) (h : csame a b = true) : a = b := by
  unfold csame at h
  rw [Bool.and_eq_true] at h
  obtain ⟨g1, g2⟩ := h
  have h1 : cless a b = false := by simpa using g1
  have h2 : cless b a = false := by simpa using g2
  clear g1 g2
  cases rt_of ha <;> cases rt_of hb
  case int.int i j =>
    rw [cless_int] at *
    have := of_decide_eq_false h1
    have := of_decide_eq_false h2
    obtain rfl : i = j := by omega
    rfl
  case text.text s t =>
    rw [cless_text] at *
    have e := llt_tri _ _ (of_decide_eq_false h1) (of_decide_eq_false h2)
    rw [ByteArray.toList_eq, ByteArray.toList_eq] at e
    obtain rfl : s = t := by cases s; cases t; congr 1; exact Array.toList_inj.1 e
    rfl
  case bool.bool x y => cases x <;> cases y <;> first | rfl | (cases h1; done) | (cases h2; done)
  all_goals first | rfl | (cases h1; done) | (cases h2; done)
end Go.Proofs.YtdlgobakoomkpaaDoor
