/-
  Rows of values in memory; what of them is right.
-/
import Derived.Test.YtdlgobakoomkpaaDoorKeyQ
import Derived.Test.YtdlgobakoomkpaaDoorKeyB
import Derived.Test.YtdlgobakoomkpaaDoorDoorEnv
import Derived.OpenShut
namespace Go.Proofs.YtdlgobakoomkpaaDoor
open Go.RowKit

/-- Values as cells. -/
def vcells (l : List Val) : List Value := l.flatMap fun v => [.int .u8 v.k, .int .i64 v.i, .string v.s, .bool v.b]
theorem vcells_length (l : List Val) : (vcells l).length = l.length * 4 := by
  induction l with
  | nil => rfl
  | cons a l ih =>
    have e : vcells (a :: l) = [.int .u8 a.k, .int .i64 a.i, .string a.s, .bool a.b] ++ vcells l := rfl
    rw [e, List.length_append, ih]; simp; omega
theorem vcells_append (a b : List Val) : vcells (a ++ b) = vcells a ++ vcells b := List.flatMap_append
theorem vcells_one (l : List Val) : ∀ u ∈ vcells l, u.oneCell' = true := by
  intro u hu
  obtain ⟨v, _, hv⟩ := List.mem_flatMap.1 hu
  simp at hv
  rcases hv with rfl | rfl | rfl | rfl <;> rfl
theorem vcells_at (l : List Val) : ∀ (k : Nat) (hk : k < l.length) (j : Nat), j < 4 → (vcells l)[k * 4 + j]? = ([.int .u8 l[k].k, .int .i64 l[k].i, .string l[k].s, .bool l[k].b] : List Value)[j]? := by
  induction l with
  | nil => intro k hk; simp at hk
  | cons a l ih =>
    intro k hk j hj
    have e : vcells (a :: l) = [.int .u8 a.k, .int .i64 a.i, .string a.s, .bool a.b] ++ vcells l := rfl
    cases k with
    | zero => rw [e, List.getElem?_append_left (by simp; omega)]; simp
    | succ k =>
      rw [e, List.getElem?_append_right (by simp; omega)]
      have := ih k (by simpa using hk) j hj
      simp only [List.length_cons, List.length_nil, List.getElem_cons_succ]
      rw [← this]
      congr 1
      omega
/-- The slice at A reads as these values. -/
def Vrd (w : World) (A : Option Addr) (l : List Val) : Prop := Rd w 4 A l.length (vcells l)
theorem Vrd.below {w w' : World} {A : Option Addr} {l : List Val} (h : Vrd w A l) (hb : Below w.heap.size w w') : Vrd w' A l := Rd.below h hb
theorem Vrd.at_ {w : World} {A : Option Addr} {l : List Val} (h : Vrd w A l) {k : Nat} (hk : k < l.length) :
    ∃ ad : Addr, A = some ad ∧ w.cell? (ad.add (k * 4)) = some (.int .u8 l[k].k) ∧ w.cell? ⟨(ad.add (k * 4)).block, (ad.add (k * 4)).off + 1, none⟩ = some (.int .i64 l[k].i) ∧
      w.cell? ⟨(ad.add (k * 4)).block, (ad.add (k * 4)).off + 2, none⟩ = some (.string l[k].s) ∧ w.cell? ⟨(ad.add (k * 4)).block, (ad.add (k * 4)).off + 3, none⟩ = some (.bool l[k].b) ∧ (ad.add (k * 4)).block < w.heap.size := by
  obtain ⟨ad, e, hc⟩ := h.some_ (by omega) (by decide)
  have key : ∀ j (u : Value), j < 4 → (vcells l)[k * 4 + j]? = some u → w.cell? ((ad.add (k * 4)).add j) = some u := fun j u _ hu => by
    obtain ⟨hl, rfl⟩ := List.getElem?_eq_some_iff.1 hu
    rw [aadd]
    exact hc _ hl
  have c0 := key 0 _ (by decide) (by rw [vcells_at l k hk 0 (by decide)]; rfl)
  exact ⟨ad, e, c0, key 1 _ (by decide) (by rw [vcells_at l k hk 1 (by decide)]; rfl), key 2 _ (by decide) (by rw [vcells_at l k hk 2 (by decide)]; rfl), key 3 _ (by decide) (by rw [vcells_at l k hk 3 (by decide)]; rfl), World.block_lt_of_cell? w _ c0⟩
theorem size_val (W : World) : (sizeOf 43).run Tryd.prog W = .ok 4 W := by kernel_rfl
/-- The address of the k-th value. -/
theorem idx_val (ad : Addr) (n c k : Nat) (h : k < n) (W : World) : (Instr.indexAt 22 (.slice (some ad) n c) (.int .i64 (k : Int))).run Tryd.prog W = .ok (.pointer (some (ad.add (k * 4)))) W := by
  rw [run_indexAt_slice (h := by kernel_rfl), if_pos (by omega)]
  rw [show Tryd.prog.elem 22 = 43 by kernel_rfl, size_val]
  simp [Result.andThen]
theorem enc_len {a : Val} (h : rightB a = true) : (enc a).length ≤ 62 := by
  rcases right_cases h with rfl | ⟨i, rfl⟩ | ⟨s, rfl, hs⟩ | ⟨x, rfl⟩
  · decide
  · rw [enc_int]; simp [be_length]
  · rw [enc_text]
    have hs60 : s.size ≤ 60 := by unfold soundB at hs; simp at hs; exact hs.1
    have : s.data.toList.length = s.size := by rw [Array.length_toList]; rfl
    simp only [List.length_cons, List.length_append, List.length_nil]; omega
  · cases x <;> decide
theorem encs_len : ∀ l : List Val, l.all rightB = true → (encs l).length ≤ 62 * l.length
  | [], _ => by simp [encs]
  | a :: l, h => by
    rw [List.all_cons, Bool.and_eq_true] at h
    have h1 := enc_len h.1
    have h2 := encs_len l h.2
    have e : encs (a :: l) = enc a ++ encs l := rfl
    rw [e, List.length_append, List.length_cons]; omega
theorem encs_snoc (l : List Val) (a : Val) : encs (l ++ [a]) = encs l ++ enc a := by rw [encs_append]; simp [encs]
theorem take_val {l : List Val} {k : Nat} (hk : k < l.length) : l.take (k + 1) = l.take k ++ [l[k]] := List.take_succ_eq_append_getElem hk
theorem all_next {l : List Val} {k : Nat} (hk : k < l.length) (h : (l.take k).all rightB = true) (hr : rightB l[k] = true) : (l.take (k + 1)).all rightB = true := by
  rw [take_val hk, List.all_append, h]; simp [hr]
theorem all_not {l : List Val} {k : Nat} (hk : k < l.length) (hr : rightB l[k] = false) : l.all rightB = false := by
  rw [List.all_eq_false]
  exact ⟨_, List.getElem_mem hk, by simp [hr]⟩
theorem in63 {a : Val} (h : ValOk a) : In63 a := bounds_i64 h.i
end Go.Proofs.YtdlgobakoomkpaaDoor
