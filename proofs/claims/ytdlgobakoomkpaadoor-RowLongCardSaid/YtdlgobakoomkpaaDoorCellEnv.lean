/-
  What the library's tables hold, from a call's beginning on; texts that are right.
-/
import Derived.Test.YtdlgobakoomkpaaDoorShelf
import Derived.Test.YtdlgobakoomkpaaDoorCellB
import Derived.Test.YtdlgobakoomkpaaDoorValidP
import Derived.WalkSmall
namespace Go.Proofs.YtdlgobakoomkpaaDoor
open Go.RowKit

theorem _root_.Go.RowKit.Below.next {w W w1 : World} (h : Below w.heap.size w W) (hb : Below W.heap.size W w1) : Below w.heap.size w w1 := h.trans (hb.mono h.size)
theorem _root_.Go.RowKit.Below.al {w W : World} (h : Below w.heap.size w W) (o : Obj) : Below w.heap.size w (W.alloc o) := h.alloc h.size o

/-- The library's tables, as they are read. -/
structure Env (w : World) : Prop where
  u8 : Lib.Utf8Tabs 1 2 w
  low : Tryd.prog.globals.size ≤ w.heap.size

theorem gsize : Tryd.prog.globals.size = 3 := by kernel_rfl
theorem low6 (b o : Nat) (h : b < 3) : (⟨b, o, none⟩ : Addr).block < 3 := h
theorem Env.next {w w' : World} (h : Env w) (hb : Below w.heap.size w w') : Env w' := by
  have hl := h.low
  rw [gsize] at hl
  refine ⟨⟨fun c hc => ?_, fun i hi => ⟨?_, ?_⟩⟩, Nat.le_trans h.low hb.size⟩
  · rw [hb.cell (Nat.lt_of_lt_of_le (low6 _ _ (by decide)) hl)]; exact h.u8.1 c hc
  · rw [hb.cell (Nat.lt_of_lt_of_le (low6 _ _ (by decide)) hl)]; exact (h.u8.2 i hi).1
  · rw [hb.cell (Nat.lt_of_lt_of_le (low6 _ _ (by decide)) hl)]; exact (h.u8.2 i hi).2

/-- A text that a value may have. -/
def soundB (s : ByteArray) : Bool := decide (s.size ≤ 60) && whole s.data.toList

theorem index_zero : ∀ l : List UInt8, (l.contains 0 = true → 0 ≤ Lib.indexByte l 0) ∧ (l.contains 0 = false → Lib.indexByte l 0 = -1)
  | [] => ⟨fun h => by simp at h, fun _ => rfl⟩
  | b :: l => by
    have ih := index_zero l
    have hge : Lib.indexByte l 0 = -1 ∨ 0 ≤ Lib.indexByte l 0 := by
      cases h : l.contains 0
      · exact .inl (ih.2 h)
      · exact .inr (ih.1 h)
    unfold Lib.indexByte
    by_cases hb : b = 0
    · subst hb; simp
    · have hb1 : (b == 0) = false := by simpa using hb
      have hb2 : (0 == b) = false := by simpa using Ne.symm hb
      rw [List.contains_cons, hb2, Bool.false_or, if_neg (by rw [hb1]; simp)]
      rcases hge with h | h
      · constructor
        · intro hc; have := ih.1 hc; omega
        · intro _; rw [if_pos (by rw [h]; rfl)]
      · constructor
        · intro _; rw [if_neg (by simp; omega)]; omega
        · intro hc; have := ih.2 hc; omega

set_option maxHeartbeats 400000 in
theorem sound_any (s : ByteArray) (hs : s.size ≤ 9223372036854775807) (w : World) (hE : Env w) :
    Calls Tryd.prog 52 #[.string s] w fun e w' => e = .returned (.bool (soundB s)) ∧ Below w.heap.size w w' := by
  have hT := hE.u8
  unfold soundB whole
  by_cases h60 : s.size ≤ 60
  · rw [decide_eq_true h60, Bool.true_and]
    have cV : Calls Tryd.prog 61 #[.string s] w fun e w' => e = .returned (.bool (Lib.validD s.data.toList)) ∧ Below w.heap.size w w' := Any.utf8_ValidString Tryd.laysValid s w (by omega) hT
    have CV := Lib.hid cV
    clear cV hT
    have cI := fun w => Tryd.strings_IndexByte s 0 w
    have hz : (0 : Int).toNat.toUInt8 = 0 := rfl
    rw [hz] at cI
    obtain ⟨z1, z2⟩ := index_zero s.data.toList
    generalize Lib.validD s.data.toList = V at *
    generalize Lib.indexByte s.data.toList 0 = I at *
    have CI := Lib.hid cI
    clear cI hz
    cases V with
    | false =>
      rw [Bool.false_and]
      clear z1 z2
      go_enter Tryd.func52, Tryd.ntmps52
      go_wp2_with (go_at_call 61; (with_reducible refine (CV.out).mono ?_); rintro e w1 ⟨rfl, hb⟩)
      go_ret
      exact ⟨rfl, hb⟩
    | true =>
      rw [Bool.true_and]
      cases hc : s.data.toList.contains 0 with
      | true =>
        have hI := z1 hc
        clear z1 z2 hc
        go_enter Tryd.func52, Tryd.ntmps52
        go_wp2_with (first | (go_at_call 61; (with_reducible refine (CV.out).mono ?_); rintro e w1 ⟨rfl, hb⟩) | (go_at_call 62; (with_reducible refine (CI.out _).mono ?_); rintro e w2 ⟨rfl, rfl⟩))
        go_ret
        exact ⟨by simp; omega, hb⟩
      | false =>
        have hI := z2 hc
        subst hI
        clear z1 z2 hc
        go_enter Tryd.func52, Tryd.ntmps52
        go_wp2_with (first | (go_at_call 61; (with_reducible refine (CV.out).mono ?_); rintro e w1 ⟨rfl, hb⟩) | (go_at_call 62; (with_reducible refine (CI.out _).mono ?_); rintro e w2 ⟨rfl, rfl⟩))
        go_ret
        exact ⟨rfl, hb⟩
  · rw [decide_eq_false h60, Bool.false_and]
    clear hT
    go_enter Tryd.func52, Tryd.ntmps52
    go_wp2
    go_ret
    exact ⟨rfl, Below.refl _ _⟩
end Go.Proofs.YtdlgobakoomkpaaDoor
