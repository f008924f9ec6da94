/-
  Package snap: slices.DeleteFunc of all but one; Take.
-/
import Derived.Test.YtbmkhopmhmmibaaClogF
import Derived.Deep.RegionHeld3
namespace Go.Proofs.Ytbmkhopmhmmibaa
open Go.RowKit Go.Sort Go.Lib
set_option linter.unusedVariables false

def eu (n : Nat) : Value := .int .u64 (n : Int)
theorem clos_any (own x B : Nat) (W : World) (hc : W.cell? ⟨B, 0, none⟩ = some (.int .u64 (own : Int))) :
    FnGives Try.prog 44 #[.pointer (some ⟨B, 0, none⟩)] #[eu x] (.bool (decide (x = own))) W := by
  show Calls Try.prog 44 #[.int .u64 (x : Int), .pointer (some ⟨B, 0, none⟩)] W _
  have hb : ((x : Int) == (own : Int)) = decide (x = own) := by
    by_cases h : x = own
    · rw [h]; simp
    · rw [decide_eq_false h]; exact beq_eq_false_iff_ne.2 (by omega)
  go_enter Try.func44, Try.ntmps44
  go_wp2
  go_ret
  exact ⟨by first | rfl | simp [hb] | rw [hb], 0, rfl⟩
/-- What is left of those that run. -/
def others (R : List Nat) (own : Nat) : List Nat := R.filter fun x => !decide (x = own)
set_option maxRecDepth 100000 in
set_option maxHeartbeats 1000000 in
theorem delf_any (w : World) (base B own : Nat) (v : Value) (R : List Nat) (h : w.ownsRow base 28 1 v R.length (ucells .u64 R)) (hB : B < w.heap.size) (hc : w.cell? ⟨B, 0, none⟩ = some (.int .u64 (own : Int))) (hne : v.ownBlock ≠ some B) (hn : R.length < 1099511627778) :
    Calls Try.prog 42 #[v, .func (.func 44) #[] #[.pointer (some ⟨B, 0, none⟩)]] w fun e w' => ∃ v', e = .returned v' ∧ v'.ownBlock = v.ownBlock ∧ w'.ownsRow base 28 1 v' (others R own).length (ucells .u64 (others R own)) ∧ Fr (fun k => v.ownBlock = some k) w w' := by
  rcases h.2 with ⟨rfl, h0⟩ | ⟨g, c, cur, rfl, hbg, hg, hnc, hmc, _, _⟩
  · have hR : R = [] := List.eq_nil_of_length_eq_zero h0
    subst hR
    have HI := Lib.hid (fun W fv => Try.slices_IndexFunc_empty (α := Nat) none 0 fv W)
    clear h h0
    go_enter Try.func42, Try.ntmps42
    go_wp2_with (go_at_call 75; (with_reducible refine (HI.out _ _).mono ?_); rintro e w1 ⟨rfl, hw1⟩; have hw := hw1.symm; subst hw)
    go_ret
    exact ⟨_, rfl, rfl, World.ownsRow_nil _ _ _ _, Fr.refl _ _⟩
  · have h' : w.ownsRow base 28 1 (.slice (some ⟨g, 0, none⟩) R.length c) R.length (R.map eu) := h
    obtain ⟨g', c', e1, _, hlt, _, _, hl, hH⟩ := holds_of_ownsRow h' (fun e => by cases e)
    injection e1 with e1 _ e2
    injection e1 with e1
    injection e1 with e1
    subst e1 e2
    have hgB : B ≠ g := fun e => hne (by rw [e]; rfl)
    have eg : ∀ args w, (callFunc 44 args).run Try.prog w = .ok (.enter 44 args) w := enters_of Try.func44 (by kernel_rfl) rfl
    have hp : PredAt Try.prog 44 #[.pointer (some ⟨B, 0, none⟩)] eu (fun x => decide (x = own)) w := fun W x hb => clos_any own x B W ((hb.cell (p := ⟨B, 0, none⟩) hB).trans hc)
    have hpo : PredOver Try.prog 44 #[.pointer (some ⟨B, 0, none⟩)] eu (fun x => decide (x = own)) g 0 R.toArray.size w := fun n os dk x _ => clos_any own x B _ (by
      unfold sortWorld
      rw [cell?_grow _ _ _ (by show B < (putRow _ _ _ _ _).heap.size; rw [size_putRow]; exact hB), cell?_putRow_other _ _ g 0 _ _ (Or.inl hgB)]
      exact hc)
    have hd := Try.slices_DeleteFunc eu (fun _ => rfl) (fun x => decide (x = own)) 44 #[.pointer (some ⟨B, 0, none⟩)] eg 0 (fun w => Try.zeroValue28 w) g 0 c R.toArray w hp hpo hH (by simp; omega) (by simpa using hnc)
    rw [List.size_toArray] at hd
    refine hd.mono ?_
    rintro e w' ⟨rfl, q, rfl⟩
    have hle : (others R own).length ≤ R.length := List.length_filter_le _ _
    have hown := Lib.ownsRow_putRow (q := q) (n := R.length) (k := (others R own).length) (ys := others R own ++ List.replicate (R.length - (others R own).length) 0) h' (by simp; omega) hle
    rw [List.take_left' rfl] at hown
    refine ⟨_, rfl, rfl, hown, ?_⟩
    exact ⟨rfl, rfl, rfl, by simp [putRow, mapBlock, Sort.ahead], fun k hk hn => by
      have hne : g ≠ k := fun e => hn (e ▸ rfl)
      simp [putRow, mapBlock, Sort.ahead, Array.getElem?_modify, hne]⟩
end Go.Proofs.Ytbmkhopmhmmibaa
