/-
  cell.Literal and the document's own (ref02.Literal), of a value: NULL, TRUE, FALSE, digits, or the text between two ' with each ' in it doubled.
-/
import Derived.Test.YtcloajmcfacfnaaDoorDec
import Derived.Test.YtcloajmcfacfnaaDoorCellC
namespace Go.Proofs.YtcloajmcfacfnaaDoor
open Go.RowKit

/-- A literal's bytes. -/
def litL : Held → List UInt8
  | .nil => [78, 85, 76, 76]
  | .bool true => [84, 82, 85, 69]
  | .bool false => [70, 65, 76, 83, 69]
  | .int i => Lib.itoa i
  | .text s => 39 :: (dbl s.data.toList ++ [39])
  | .kind _ => []

theorem dbl_len (l : List UInt8) : (dbl l).length ≤ 2 * l.length := by
  induction l with
  | nil => exact Nat.le_refl _
  | cons b l ih =>
    rw [dbl_cons, List.length_append, List.length_cons]
    by_cases h : b = 39
    · subst h; rw [dbl_q]; simp; omega
    · rw [dbl_o h]; simp; omega

set_option maxHeartbeats 1000000 in
theorem literal_any (v : Val) (hi : -9223372036854775808 ≤ v.i ∧ v.i ≤ 9223372036854775807) (hs : v.s.size ≤ 1000) (w : World) (hE : Env w) :
    Calls Tryd.prog 30 #[.agg #[.int .u8 v.k, .int .i64 v.i, .string v.s, .bool v.b]] w fun e w' => e = .returned (.string ⟨(litL (opn v)).toArray⟩) ∧ Below w.heap.size w w' := by
  have g1 := open_any v
  by_cases h0 : v.k = 0
  · rw [opn0 h0] at g1 ⊢
    have G1 := Lib.hid g1
    have q1 := eqnil .nil
    have q3 := eqg .nil
    simp only [Held.val, isNil, litL] at *
    clear g1 hi hs h0
    go_enter Tryd.func30, Tryd.ntmps30
    go_wp2_with (go_at_call 38; (with_reducible refine (G1.out _).mono ?_); rintro e w' ⟨rfl, o1, rfl⟩)
    go_ret
    exact ⟨rfl, (by repeat (first | exact Below.refl _ _ | refine Below.drew ?_ | refine below_drewN ?_ _ | refine Below.al ?_ _ | refine Below.next ?_ (by assumption)))⟩
  · by_cases h1 : v.k = 1
    · rw [opn1 h1] at g1 ⊢
      have G1 := Lib.hid g1
      have q1 := eqnil (.int v.i)
      have q3 := eqg (.int v.i)
      have f1 := ta_int_B v.i
      have f2 := ta_int_I v.i
      have hd := fun w h => dec_any v.i hi.1 hi.2 w h
      simp only [Held.val, isNil, litL] at *
      generalize Lib.itoa v.i = l at *
      have HD := Lib.hid hd
      clear g1 hi hs h0 h1 hd
      go_enter Tryd.func30, Tryd.ntmps30
      go_wp2_with (first | (go_at_call 38; (with_reducible refine (G1.out _).mono ?_); rintro e w' ⟨rfl, o1, rfl⟩) | (go_at_call 13; (with_reducible refine (HD.out _ (hE.next (by repeat (first | exact Below.refl _ _ | refine Below.drew ?_ | refine below_drewN ?_ _ | refine Below.al ?_ _ | refine Below.next ?_ (by assumption)))).pow).mono ?_); rintro e w1 ⟨rfl, hb⟩))
      go_ret
      exact ⟨rfl, (by repeat (first | exact Below.refl _ _ | refine Below.drew ?_ | refine below_drewN ?_ _ | refine Below.al ?_ _ | refine Below.next ?_ (by assumption)))⟩
    · by_cases h2 : v.k = 2
      · rw [opn2 h2] at g1 ⊢
        obtain ⟨k, i, s, b⟩ := v
        simp only [] at *
        subst h2
        have G1 := Lib.hid g1
        have q1 := eqnil (.text s)
        have q3 := eqg (.text s)
        have f1 := ta_text_B s
        have f2 := ta_text_I s
        have f3 := ta_text_S s
        have hd : ∀ w, Env w → Calls Tryd.prog 49 #[.string s, .string ⟨#[39]⟩, .string ⟨#[39, 39]⟩] w fun e w' => e = .returned (.string ⟨(dbl s.data.toList).toArray⟩) ∧ Below w.heap.size w w' := by
          intro w hE
          obtain ⟨m, hm⟩ := hE.len
          have h := Tryd.strings_ReplaceAll s ⟨#[39]⟩ ⟨#[39, 39]⟩ m w (by omega) hm (by decide) (by
            have h1 : Lib.countB s ⟨#[39]⟩ ≤ s.size := by
              show Lib.count s.data.toList [39] ≤ s.size
              rw [count_q]
              have := List.count_le_length (a := (39 : UInt8)) (l := s.data.toList)
              simpa using this
            show s.size + Lib.countB s ⟨#[39]⟩ * 2 ≤ _
            omega)
          rw [show Lib.replaceAll s.data.toList (⟨#[39]⟩ : ByteArray).data.toList (⟨#[39, 39]⟩ : ByteArray).data.toList = dbl s.data.toList from replaceAll_q _] at h
          exact h
        have hl : (dbl s.data.toList).length ≤ 2000 := by have := dbl_len s.data.toList; simp at this; omega
        simp only [Held.val, isNil, litL] at *
        generalize dbl s.data.toList = l at *
        have HD := Lib.hid hd
        clear g1 hi hs h0 h1 hd
        go_enter Tryd.func30, Tryd.ntmps30
        go_wp2_with (first | (go_at_call 38; (with_reducible refine (G1.out _).mono ?_); rintro e w' ⟨rfl, o1, rfl⟩) | (go_at_call 49; (with_reducible refine (HD.out _ (hE.next (by repeat (first | exact Below.refl _ _ | refine Below.drew ?_ | refine below_drewN ?_ _ | refine Below.al ?_ _ | refine Below.next ?_ (by assumption))))).mono ?_); rintro e w1 ⟨rfl, hb⟩))
        go_ret
        exact ⟨ret_str (by simp), (by repeat (first | exact Below.refl _ _ | refine Below.drew ?_ | refine below_drewN ?_ _ | refine Below.al ?_ _ | refine Below.next ?_ (by assumption)))⟩
      · by_cases h3 : v.k = 3
        · rw [opn3 h3] at g1 ⊢
          obtain ⟨k, i, s, b⟩ := v
          simp only [] at *
          subst h3
          have G1 := Lib.hid g1
          have q1 := eqnil (.bool b)
          have q3 := eqg (.bool b)
          have f1 := ta_bool_B b
          simp only [Held.val, isNil] at *
          clear g1 hi hs h0 h1 h2
          cases b
          all_goals
            go_enter Tryd.func30, Tryd.ntmps30
            go_wp2_with (go_at_call 38; (with_reducible refine (G1.out _).mono ?_); rintro e w' ⟨rfl, o1, rfl⟩)
            go_ret
            exact ⟨rfl, (by repeat (first | exact Below.refl _ _ | refine Below.drew ?_ | refine below_drewN ?_ _ | refine Below.al ?_ _ | refine Below.next ?_ (by assumption)))⟩
        · rw [opn4 h0 h3 h1 h2] at g1 ⊢
          obtain ⟨k, i, s, b⟩ := v
          simp only [] at *
          have G1 := Lib.hid g1
          have q1 := eqnil (.kind k)
          have q3 := eqg (.kind k)
          have f1 := ta_kind_B k
          have f2 := ta_kind_I k
          have f3 := ta_kind_S k
          simp only [Held.val, isNil, litL] at *
          clear g1 hi hs h0 h1 h2 h3
          go_enter Tryd.func30, Tryd.ntmps30
          go_wp2_with (go_at_call 38; (with_reducible refine (G1.out _).mono ?_); rintro e w' ⟨rfl, o1, rfl⟩)
          go_ret
          exact ⟨rfl, (by repeat (first | exact Below.refl _ _ | refine Below.drew ?_ | refine below_drewN ?_ _ | refine Below.al ?_ _ | refine Below.next ?_ (by assumption)))⟩
end Go.Proofs.YtcloajmcfacfnaaDoor
