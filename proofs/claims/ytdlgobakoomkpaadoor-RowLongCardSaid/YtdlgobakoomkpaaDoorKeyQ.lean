/-
  The plain side of keys: the bytes stand as the values do; a row is read again. No program in sight.
-/
import Derived.Test.YtdlgobakoomkpaaDoorKeyE
import Derived.Test.YtdlgobakoomkpaaDoorOrder
namespace Go.Proofs.YtdlgobakoomkpaaDoor
open Go.RowKit

theorem sound_nz {s : ByteArray} (h : soundB s = true) : ∀ b ∈ s.data.toList, b ≠ 0 := by
  intro b hb e
  subst e
  unfold soundB whole at h
  simp at h
  exact h.2.2 (by simpa using hb)
theorem data_ne {s t : ByteArray} (h : s ≠ t) : s.data.toList ≠ t.data.toList := by
  intro e
  apply h
  cases s; cases t
  simp only at e
  rw [Array.toList_inj.1 e]
theorem toList_data (s : ByteArray) : s.toList = s.data.toList := Lib.toList_data s
theorem enc_parts {a b : Val} (ra : rightB a = true) (rb : rightB b = true) (ia : In63 a) (ib : In63 b) (h : a ≠ b) : Parts (enc a) (enc b) (rless a b = true) := by
  rcases right_cases ra with rfl | ⟨i, rfl⟩ | ⟨s, rfl, hs⟩ | ⟨x, rfl⟩ <;> rcases right_cases rb with rfl | ⟨j, rfl⟩ | ⟨t, rfl, ht⟩ | ⟨y, rfl⟩
  · exact absurd rfl h
  · exact Parts.head (by decide) (iff_of_true (by decide) rfl)
  · exact Parts.head (by decide) (iff_of_true (by decide) rfl)
  · exact Parts.head (by decide) (iff_of_true (by decide) (by cases y <;> rfl))
  · exact Parts.head (by decide) (iff_of_false (by decide) (fun h => by have h' : false = true := h; cases h'))
  · have h' : i ≠ j := fun e => h (by rw [e])
    exact parts_iff ((be8_parts ia ib h').cons 3) (by rw [rless_int]; simp)
  · exact Parts.head (by decide) (iff_of_true (by decide) rfl)
  · exact Parts.head (by decide) (iff_of_false (by decide) (fun h => by cases y <;> (have h' : false = true := h; cases h')))
  · exact Parts.head (by decide) (iff_of_false (by decide) (fun h => by have h' : false = true := h; cases h'))
  · exact Parts.head (by decide) (iff_of_false (by decide) (fun h => by have h' : false = true := h; cases h'))
  · have h' : s ≠ t := fun e => h (by rw [e])
    exact parts_iff ((text_parts _ _ (sound_nz hs) (sound_nz ht) (data_ne h')).cons 4) (by rw [rless_text]; simp [toList_data])
  · exact Parts.head (by decide) (iff_of_false (by decide) (fun h => by cases y <;> (have h' : false = true := h; cases h')))
  · exact Parts.head (by decide) (iff_of_false (by decide) (fun h => by cases x <;> (have h' : false = true := h; cases h')))
  · exact Parts.head (by decide) (iff_of_true (by decide) (by cases x <;> rfl))
  · exact Parts.head (by decide) (iff_of_true (by decide) (by cases x <;> rfl))
  · cases x <;> cases y
    · exact absurd rfl h
    · exact (Parts.head (by decide) (iff_of_true (by decide) rfl)).cons 2
    · exact (Parts.head (by decide) (iff_of_false (by decide) (fun h => by have h' : false = true := h; cases h'))).cons 2
    · exact absurd rfl h

/-- The value with which bytes begin, and how many they are. -/
def rd1 : List UInt8 → Option (Val × Nat)
  | [] => none
  | b :: t =>
    if b = 1 then some (⟨0, 0, ⟨#[]⟩, false⟩, 1)
    else if b = 2 then (if 0 < t.length ∧ (t.getD 0 0).toNat ≤ 1 then some (⟨3, 0, ⟨#[]⟩, t.getD 0 0 == 1⟩, 2) else none)
    else if b = 3 then (if 8 ≤ t.length then some (⟨1, numOf (t.take 8), ⟨#[]⟩, false⟩, 9) else none)
    else if b = 4 then (if t.contains 0 = true ∧ soundB ⟨(upto0 t).toArray⟩ = true then some (⟨2, 0, ⟨(upto0 t).toArray⟩, false⟩, (upto0 t).length + 2) else none)
    else none
theorem rd1_cons (b : UInt8) (t : List UInt8) : rd1 (b :: t) =
    if b = 1 then some (⟨0, 0, ⟨#[]⟩, false⟩, 1)
    else if b = 2 then (if 0 < t.length ∧ (t.getD 0 0).toNat ≤ 1 then some (⟨3, 0, ⟨#[]⟩, t.getD 0 0 == 1⟩, 2) else none)
    else if b = 3 then (if 8 ≤ t.length then some (⟨1, numOf (t.take 8), ⟨#[]⟩, false⟩, 9) else none)
    else if b = 4 then (if t.contains 0 = true ∧ soundB ⟨(upto0 t).toArray⟩ = true then some (⟨2, 0, ⟨(upto0 t).toArray⟩, false⟩, (upto0 t).length + 2) else none)
    else none := rfl
theorem rd1_len {p : List UInt8} {v : Val} {n : Nat} (h : rd1 p = some (v, n)) : 1 ≤ n ∧ n ≤ p.length := by
  cases p with
  | nil => cases h
  | cons b t =>
    rw [rd1_cons] at h
    split at h
    · simp only [Option.some.injEq, Prod.mk.injEq] at h; simp; omega
    · split at h
      · split at h
        · rename_i hh; simp only [Option.some.injEq, Prod.mk.injEq] at h; simp; omega
        · cases h
      · split at h
        · split at h
          · simp only [Option.some.injEq, Prod.mk.injEq] at h; simp; omega
          · cases h
        · split at h
          · split at h
            · rename_i hh; simp only [Option.some.injEq, Prod.mk.injEq] at h; have := upto0_lt hh.1; simp; omega
            · cases h
          · cases h
/-- The row whose bytes these are. -/
def rd : List UInt8 → Option (List Val)
  | [] => some []
  | b :: t => match rd1 (b :: t) with
    | none => none
    | some (v, n) => (rd (t.drop (n - 1))).map (v :: ·)
termination_by p => p.length
decreasing_by simp; omega
theorem rd_nil : rd [] = some [] := by rw [rd]
theorem rd_none {p : List UInt8} (hp : p ≠ []) (h : rd1 p = none) : rd p = none := by
  cases p with
  | nil => exact absurd rfl hp
  | cons b t => rw [rd, h]
theorem rd_some {p : List UInt8} {v : Val} {n : Nat} (h : rd1 p = some (v, n)) : rd p = (rd (p.drop n)).map (v :: ·) := by
  cases p with
  | nil => cases h
  | cons b t =>
    have h1 := (rd1_len h).1
    rw [rd, h]
    obtain ⟨m, rfl⟩ : ∃ m, n = m + 1 := ⟨n - 1, by omega⟩
    rfl
theorem rd1_enc {v : Val} (h : rightB v = true) (i : In63 v) (t : List UInt8) : rd1 (enc v ++ t) = some (v, (enc v).length) := by
  rcases right_cases h with rfl | ⟨i, rfl⟩ | ⟨s, rfl, hs⟩ | ⟨x, rfl⟩
  · rfl
  · rw [enc_int, List.cons_append, rd1_cons, if_neg (by decide), if_neg (by decide), if_pos rfl, if_pos (by simp [be_length])]
    rw [List.take_append_of_le_length (by simp [be_length]), List.take_of_length_le (by simp [be_length]), numOf_be (by assumption)]
    simp [be_length]
  · rw [enc_text, List.cons_append, rd1_cons, if_neg (by decide), if_neg (by decide), if_neg (by decide), if_pos rfl, List.append_assoc]
    have e : upto0 (s.data.toList ++ ([0] ++ t)) = s.data.toList := upto0_text _ _ (sound_nz hs)
    rw [e, if_pos ⟨by simp, hs⟩]
    simp
  · cases x <;> rfl
theorem rd_encs : ∀ l : List Val, (∀ v ∈ l, rightB v = true) → (∀ v ∈ l, In63 v) → rd (encs l) = some l
  | [], _, _ => rd_nil
  | v :: l, h, i => by
    have e : encs (v :: l) = enc v ++ encs l := rfl
    rw [e, rd_some (rd1_enc (h v (by simp)) (i v (by simp)) _), List.drop_left, rd_encs l (fun x hx => h x (by simp [hx])) (fun x hx => i x (by simp [hx]))]
    rfl
/-- Bytes of rows: where the first values that aren't the same part. -/
theorem encs_parts {c s t : List Val} {a b : Val} (ra : rightB a = true) (rb : rightB b = true) (ia : In63 a) (ib : In63 b) (h : a ≠ b) :
    Parts (encs (c ++ a :: s)) (encs (c ++ b :: t)) (rless a b = true) := by
  have e1 : encs (c ++ a :: s) = encs c ++ (enc a ++ encs s) := by rw [encs_append]; rfl
  have e2 : encs (c ++ b :: t) = encs c ++ (enc b ++ encs t) := by rw [encs_append]; rfl
  rw [e1, e2]
  exact ((enc_parts ra rb ia ib h).more _ _).app _
theorem enc_not_ff (v : Val) : ¬ ∀ b ∈ enc v, b = 255 := by
  intro h
  have key : ∀ (x : UInt8) l, enc v = x :: l → x = 255 := fun x l e => h x (by rw [e]; simp)
  unfold enc at key
  split at key
  · exact absurd (key _ _ rfl) (by decide)
  · split at key
    · exact absurd (key _ _ rfl) (by decide)
    · split at key
      · exact absurd (key _ _ rfl) (by decide)
      · exact absurd (key _ _ rfl) (by decide)
/-- Whose bytes begin with a value's. -/
theorem enc_pre {v : Val} (hv : rightB v = true) (iv : In63 v) (l : List Val) (hl : ∀ x ∈ l, rightB x = true) (il : ∀ x ∈ l, In63 x) : (enc v <+: encs l) ↔ ∃ t, l = v :: t := by
  constructor
  · intro h
    cases l with
    | nil => exact absurd (List.prefix_nil.1 h) (enc_ne v)
    | cons a t =>
      by_cases e : v = a
      · exact ⟨t, by rw [e]⟩
      · exact absurd h ((enc_parts hv (hl a (by simp)) iv (il a (by simp)) e).notpre _)
  · rintro ⟨t, rfl⟩
    exact ⟨encs t, rfl⟩
end Go.Proofs.YtdlgobakoomkpaaDoor
