/-
  The document's own answer for room (ref06): Set, Find, Get of a map that is one.
-/
import Derived.Test.YteikfkefahaodaaRoomE
namespace Go.Proofs.Yteikfkefahaodaa
open Go.RowKit

/-- The document's map: the block of its field, and the row that lies there. -/
structure Refm (w : World) (base br g : Nat) (v : Value) (l : List Int) : Prop where
  box : w.ownsRow base 29 1 (.slice (some ⟨g, 0, none⟩) 1 1) 1 [v]
  row : w.ownsRow br 3 1 v l.length (icells l)
section
variable {w w' : World} {base br g : Nat} {v : Value} {l : List Int}
theorem Refm.cell (h : Refm w base br g v l) : w.cell? ⟨g, 0, none⟩ = some v := (h.box.cellAt 0 (by omega)).trans rfl
theorem Refm.alloc (h : Refm w base br g v l) (o : Obj) : Refm (w.alloc o) base br g v l := ⟨World.ownsRow.alloc h.box o, World.ownsRow.alloc h.row o⟩
theorem Refm.form (h : Refm w base br g v l) : ∃ A c, v = .slice A l.length c ∧ l.length ≤ c ∧ c ≤ maxLen ∧ Rd w 1 A l.length (icells l) := own_form h.row
end
theorem refm_new (w : World) (br : Nat) {g : Nat} (hg : g = w.heap.size) {C : Array Value} (hC : C = #[.slice none 0 0]) : Refm (w.alloc (.cells C 29)) w.heap.size br g (.slice none 0 0) [] := by
  subst hg hC
  exact ⟨⟨rfl, .inr ⟨w.heap.size, 1, #[.slice none 0 0], rfl, Nat.le_refl _, heap_alloc_new w _, Nat.le_refl _, by unfold maxLen; decide, rfl, rfl⟩⟩, World.ownsRow_nil _ _ _ _⟩
theorem rput_box {w : World} {base br g n : Nat} {v v' : Value} {xs : List Value} (hb : w.ownsRow base 29 1 (.slice (some ⟨g, 0, none⟩) 1 1) 1 [v]) (hr : w.ownsRow br 3 1 v' n xs) :
    (w.setCell ⟨g, 0, none⟩ v').ownsRow base 29 1 (.slice (some ⟨g, 0, none⟩) 1 1) 1 [v'] ∧ (w.setCell ⟨g, 0, none⟩ v').ownsRow br 3 1 v' n xs := by
  have h1 := hb.stored 0 v'
  exact ⟨h1.1, hr.kept h1.2 (rows_apart hr hb (by decide))⟩
theorem rput_row {w : World} {base br g g1 n c k : Nat} {v : Value} {u : Int} {l : List Int} (hb : w.ownsRow base 29 1 (.slice (some ⟨g, 0, none⟩) 1 1) 1 [v]) (hr : w.ownsRow br 3 1 (.slice (some ⟨g1, 0, none⟩) n c) n (icells l)) :
    (w.setCell ⟨g1, k, none⟩ (.int .i64 u)).ownsRow base 29 1 (.slice (some ⟨g, 0, none⟩) 1 1) 1 [v] ∧ (w.setCell ⟨g1, k, none⟩ (.int .i64 u)).ownsRow br 3 1 (.slice (some ⟨g1, 0, none⟩) n c) n (icells (l.set k u)) := by
  have h1 := hr.stored k (.int .i64 u)
  refine ⟨hb.kept h1.2 (rows_apart hb hr (by decide)), ?_⟩
  have e : icells (l.set k u) = (icells l).set k (.int .i64 u) := by unfold icells; rw [List.map_set]
  rw [e]
  exact h1.1
theorem rset_arg (w : World) (g : Nat) (p r : Int) (h : p < 0 ∨ 256 ≤ p) :
    Calls Try.prog 7 #[.pointer (some ⟨g, 0, none⟩), .int .i64 p, .int .i64 r] w fun e w' => e = .returned (.int .i64 1) ∧ w' = w := by
  rcases h with h | h
  · go_enter Try.func7, Try.ntmps7
    go_wp2
    go_ret
    exact ⟨rfl, rfl⟩
  · have h' : (255 : Int) < p := by omega
    go_enter Try.func7, Try.ntmps7
    go_wp2
    go_ret
    exact ⟨rfl, rfl⟩
theorem rset_form (w : World) (base br g : Nat) (v : Value) (l : List Int) (p r : Int) (h : Refm w base br g v l) (h0 : 0 ≤ p) (h1 : p < 256) (h2 : (l.length : Int) < p) :
    Calls Try.prog 7 #[.pointer (some ⟨g, 0, none⟩), .int .i64 p, .int .i64 r] w fun e w' => e = .returned (.int .i64 3) ∧ w' = w := by
  have hc := h.cell
  have h3 : ¬ (255 : Int) < p := by omega
  obtain ⟨A, c, rfl, hn, hm, hr⟩ := h.form
  clear hr h
  go_enter Try.func7, Try.ntmps7
  go_wp2
  go_ret
  exact ⟨rfl, rfl⟩
set_option maxHeartbeats 1000000 in
theorem rset_put (w : World) (base br g : Nat) (v : Value) (l : List Int) (p : Nat) (r : Int) (h : Refm w base br g v l) (h1 : p < 256) (h2 : p < l.length) :
    Calls Try.prog 7 #[.pointer (some ⟨g, 0, none⟩), .int .i64 (p : Int), .int .i64 r] w fun e w' => e = .returned (.int .i64 0) ∧ Only w w' g v v ∧ Refm w' base br g v (l.set p (cap r)) := by
  have hc := h.cell
  obtain ⟨g1, c, rfl, hg1, hn, hm⟩ := int_shape h.row (by omega)
  have hix := idx_int g1 l.length c p h2
  have hcell := (h.row.cellAt p (by omega)).trans (icells_get l p h2)
  have hfr := h.row.frozenAt p
  have hput := rput_row (k := p) (u := cap r) h.box h.row
  have hB := only_row (j := p) (u := .int .i64 (cap r)) (Only.refl w g (.slice (some ⟨g1, 0, none⟩) l.length c))
  have HP := Lib.hid hput
  have HB := Lib.hid hB
  have hne : ((p : Int) == (l.length : Int)) = false := beq_eq_false_iff_ne.2 (by omega)
  have h3 : ¬ (255 : Int) < (p : Int) := by omega
  clear h hput hB
  rcases cap_cases r with ⟨hr, e⟩ | ⟨⟨hr, hr'⟩, e⟩ | ⟨hr, e⟩
  · rw [e] at HP HB ⊢
    go_enter Try.func7, Try.ntmps7
    go_wp2
    go_ret
    exact ⟨rfl, HB.out, ⟨HP.out.1, by rw [List.length_set]; exact HP.out.2⟩⟩
  · rw [e] at HP HB ⊢
    have hr1 : ¬ r < -1 := by omega
    have hr2 : ¬ 512 < r := by omega
    go_enter Try.func7, Try.ntmps7
    go_wp2
    go_ret
    exact ⟨rfl, HB.out, ⟨HP.out.1, by rw [List.length_set]; exact HP.out.2⟩⟩
  · rw [e] at HP HB ⊢
    have hr1 : ¬ r < -1 := by omega
    go_enter Try.func7, Try.ntmps7
    go_wp2
    go_ret
    exact ⟨rfl, HB.out, ⟨HP.out.1, by rw [List.length_set]; exact HP.out.2⟩⟩
theorem rget_any (w : World) (base br g : Nat) (v : Value) (l : List Int) (p : Int) (h : Refm w base br g v l) :
    Calls Try.prog 11 #[.pointer (some ⟨g, 0, none⟩), .int .i64 p] w fun e w' => e = .returned (.int .i64 (getI l p)) ∧ w' = w := by
  by_cases h0 : p < 0
  · rw [show getI l p = -1 from if_pos (.inl h0)]
    clear h
    go_enter Try.func11, Try.ntmps11
    go_wp2
    go_ret
    exact ⟨rfl, rfl⟩
  · have hc := h.cell
    by_cases h1 : (l.length : Int) ≤ p
    · rw [show getI l p = -1 from if_pos (.inr h1)]
      obtain ⟨A, c, rfl, hn, hm, hr⟩ := h.form
      clear hr h
      go_enter Try.func11, Try.ntmps11
      go_wp2
      go_ret
      exact ⟨rfl, rfl⟩
    · obtain ⟨k, rfl⟩ : ∃ k : Nat, p = (k : Int) := ⟨p.toNat, by omega⟩
      have hk : k < l.length := by omega
      have hgi : getI l (k : Int) = l[k] := by
        unfold getI
        rw [if_neg (by omega), Int.toNat_natCast, List.getD_eq_getElem?_getD, List.getElem?_eq_getElem hk]; rfl
      rw [hgi]
      obtain ⟨g1, c, rfl, hg1, hn, hm⟩ := int_shape h.row (by omega)
      have hix := idx_int g1 l.length c k hk
      have hcell := (h.row.cellAt k (by omega)).trans (icells_get l k hk)
      generalize l[k] = x at *
      clear h hgi
      go_enter Try.func11, Try.ntmps11
      go_wp2
      go_ret
      exact ⟨rfl, rfl⟩
end Go.Proofs.Yteikfkefahaodaa
