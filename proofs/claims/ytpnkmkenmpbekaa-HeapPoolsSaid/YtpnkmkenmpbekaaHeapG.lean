/-
  Package heap: Used.
-/
import Derived.Test.YtpnkmkenmpbekaaHeapE
namespace Go.Proofs.Ytpnkmkenmpbekaa
open Go.RowKit
set_option linter.unusedVariables false

/-- How many versions. -/
def usedL (Ps : List Pg) : Nat := (Ps.map Pg.used).sum
theorem usedL_take {Ps : List Pg} {k : Nat} {P : Pg} (h : Ps[k]? = some P) : usedL (Ps.take (k + 1)) = usedL (Ps.take k) + P.used := by
  obtain ⟨hk, rfl⟩ := List.getElem?_eq_some_iff.1 h
  unfold usedL
  rw [List.take_succ_eq_append_getElem hk, List.map_append, List.sum_append]; simp
theorem used_le {w : World} {a : Nat} {P : Pg} (h : Pge w a P) : P.used ≤ 127 := by
  obtain ⟨f, _, h⟩ := h
  exact Nat.le_trans List.countP_le_length h.len
set_option maxRecDepth 100000 in
theorem hused_any {w : World} {h p g : Nat} {v rv : Value} {gs : List Nat} {Ps : List Pg} {rs : List Int} (H : Hm w h p g v rv gs Ps rs) (hl : Ps.length ≤ 256) :
    Calls Try.prog 60 #[.pointer (some ⟨h, 0, none⟩)] w fun e w' => e = .returned (.int .i64 (usedL Ps : Int)) ∧ w' = w := by
  have hp := Lib.hid (hpages_any H)
  have HH := Lib.hid H
  have c1 : w.cell? ⟨h, 1, none⟩ = some v := H.box.cell 1
  have hlen := Lib.hid H.len
  obtain ⟨B, cc, rfl, _, _, _⟩ := own_form H.row
  clear H
  go_enter Try.func60, Try.ntmps60
  go_wp2_with (go_at_call 59; (with_reducible refine (hp.out).mono ?_); rintro e w1 ⟨rfl, hw1⟩; have hw := hw1.symm; subst hw)
  go_loop [3, 7] (fun u i => ∃ k : Nat, k ≤ Ps.length ∧ i = .int .i64 (k : Int) ∧ u = .int .i64 (usedL (Ps.take k) : Int) ∧ usedL (Ps.take k) ≤ 127 * k) (fun _ i => Ps.length - (intOf i).toNat)
  case atStart => exact ⟨0, Nat.zero_le _, rfl, by simp [usedL], by simp [usedL]⟩
  case round =>
    obtain ⟨k, hk, rfl, rfl, hb⟩ := hrel
    by_cases hlt : k < Ps.length
    · have hgl : k < gs.length := by rw [hlen.out]; exact hlt
      obtain ⟨q, c, hv, _, hn, hm⟩ := own_shape HH.out.row (by omega)
      injection hv with hB hl' hc'
      subst hB hc'
      have ix := idx_ptr q gs.length cc k hgl
      have hce := (HH.out.row.cellAt k (by omega)).trans (ptrs_get gs k hgl)
      have hP := HH.out.pages k gs[k] Ps[k] (List.getElem?_eq_getElem hgl) (List.getElem?_eq_getElem hlt)
      have hu := Lib.hid (usedE_any w gs[k] Ps[k] hP)
      have hul := used_le hP
      have hst := usedL_take (List.getElem?_eq_getElem hlt)
      have HST := Lib.hid hst
      clear hst
      generalize gs[k] = a at *
      generalize Ps[k].used = uk at *
      generalize usedL (Ps.take k) = us at *
      have hwr : IntKind.i64.wrap ((us : Int) + (uk : Int)) = ((us + uk : Nat) : Int) := by rw [show (us : Int) + (uk : Int) = ((us + uk : Nat) : Int) by omega]; exact IntWalk.i64_in _ (by omega)
      go_wp2_with (go_at_call 27; (with_reducible refine (hu.out).mono ?_); rintro e w1 ⟨rfl, hw1⟩; have hw := hw1.symm; subst hw)
      go_round
      case rel => exact ⟨k + 1, by omega, by go_num, by rw [HST.out]; first | rfl | simp, by rw [HST.out]; omega⟩
      case measure => simp [intOf]; omega
    · obtain rfl : k = Ps.length := by omega
      rw [List.take_length]
      go_wp2
      go_ret
      exact ⟨rfl, rfl⟩
end Go.Proofs.Ytpnkmkenmpbekaa
