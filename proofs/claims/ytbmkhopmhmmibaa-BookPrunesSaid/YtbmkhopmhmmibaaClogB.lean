/-
  Package clog: State; slices.BinarySearch of what stands there.
-/
import Derived.Test.YtbmkhopmhmmibaaClogP
import Derived.Lib.Hide
namespace Go.Proofs.Ytbmkhopmhmmibaa
open Go.RowKit
set_option linter.unusedVariables false

theorem state_nil (w : World) (x : Nat) :
    Calls Try.prog 28 #[.pointer none, .int .u64 (x : Int)] w fun e w' => e = .returned (.int .i64 0) ∧ w' = w := by
  go_enter Try.func28, Try.ntmps28
  go_wp2
  go_ret
  exact ⟨rfl, rfl⟩
theorem next_nil (w : World) :
    Calls Try.prog 40 #[.pointer none] w fun e w' => e = .returned (.int .u64 0) ∧ w' = w := by
  go_enter Try.func40, Try.ntmps40
  go_wp2
  go_ret
  exact ⟨rfl, rfl⟩
theorem drewN_drewN (w : World) (a b : Nat) : (w.drewN a).drewN b = w.drewN (a + b) := by simp [World.drewN, Nat.add_assoc]
theorem state_any (w : World) (g f x : Nat) (v rv : Value) (S : List Nat) (h : Lg w g v rv f S) :
    Calls Try.prog 28 #[.pointer (some ⟨g, 0, none⟩), .int .u64 (x : Int)] w fun e w' => e = .returned (.int .i64 (stt f S x : Int)) ∧ ∃ n, w' = w.drewN n := by
  have hmax := h.max
  have c0 := h.box.cell 0
  by_cases h1 : x < f
  · rw [show stt f S x = 0 from if_neg (by omega)]
    have hd : decide ((x : Int) < (f : Int)) = true := decide_eq_true (by omega)
    clear h
    go_enter Try.func28, Try.ntmps28
    go_wp2
    go_ret
    exact ⟨rfl, 0, rfl⟩
  · have hd : decide ((x : Int) < (f : Int)) = false := decide_eq_false (by omega)
    have hn := next_any w g f v rv S h
    have HN := Lib.hid hn
    by_cases h2 : f + S.length ≤ x
    · rw [show stt f S x = 0 from Classical.byContradiction fun e => by have := stt_lt e; omega]
      have hd2 : ((f + S.length : Nat) : Int) ≤ (x : Int) := by omega
      clear h hn
      go_enter Try.func28, Try.ntmps28
      go_wp2_with (go_at_call 40; (with_reducible refine (HN.out).mono ?_); rintro e w1 ⟨rfl, n, rfl⟩)
      go_ret
      exact ⟨rfl, n, rfl⟩
    · have hlt : x - f < S.length := by omega
      have hd2 : ¬ ((f + S.length : Nat) : Int) ≤ (x : Int) := by omega
      obtain ⟨gb, c, hv, _, hnc, hmc⟩ := own_shape h.row (by omega)
      subst hv
      have c1 := h.box.cell 1
      have hst := stt_in (S := S) (by omega) hlt
      have hcell := (h.row.cellAt (x - f) (by omega)).trans (ucells_get .u8 S (x - f) hlt)
      rw [← hst] at hcell
      have hs := h.sts _ (List.getElem_mem hlt)
      rw [← hst] at hs
      have hx : IntKind.u64.wrap ((x : Int) - (f : Int)) = ((x - f : Nat) : Int) := by rw [show (x : Int) - (f : Int) = ((x - f : Nat) : Int) by omega]; exact IntWalk.u64_in _ (by omega)
      have ix := idx_u8 gb S.length c (x - f) hlt
      clear h hn hst
      generalize x - f = k at *
      generalize stt f S x = s at *
      go_enter Try.func28, Try.ntmps28
      go_wp2_with (go_at_call 40; (with_reducible refine (HN.out).mono ?_); rintro e w1 ⟨rfl, n, rfl⟩)
      go_quiet (fail)
      go_wp2
      go_ret
      exact ⟨rfl, _, drewN_drewN _ _ _⟩
end Go.Proofs.Ytbmkhopmhmmibaa
