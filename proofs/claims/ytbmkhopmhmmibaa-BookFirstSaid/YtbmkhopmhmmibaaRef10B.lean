/-
  The document's snapshots (ref10): Least.
-/
import Derived.Test.YtbmkhopmhmmibaaRef10A
namespace Go.Proofs.Ytbmkhopmhmmibaa
open Go.RowKit
set_option linter.unusedVariables false

def lst (R : List Nat) (n : Nat) : Nat := R.foldl (fun n x => if x < n then x else n) n
theorem lst_eq {R : List Nat} {n : Nat} (hs : R.Pairwise (· < ·)) (hn : ∀ x ∈ R, x < n) : lst R n = least R n := by
  cases R with
  | nil => rfl
  | cons a r =>
    have h0 := hn a (List.mem_cons_self ..)
    rw [List.pairwise_cons] at hs
    show r.foldl (fun n x => if x < n then x else n) (if a < n then a else n) = a
    rw [if_pos h0]
    have key : ∀ (l : List Nat), (∀ x ∈ l, a < x) → l.foldl (fun n x => if x < n then x else n) a = a := fun l hl => by
      induction l with
      | nil => rfl
      | cons b l ih =>
        rw [List.foldl_cons, if_neg (by have := hl b (List.mem_cons_self ..); omega)]
        exact ih fun x hx => hl x (List.mem_cons_of_mem _ hx)
    exact key r hs.1
theorem lst_take (R : List Nat) (n : Nat) {k : Nat} (hk : k < R.length) : lst (R.take (k + 1)) n = if R[k] < lst (R.take k) n then R[k] else lst (R.take k) n := by
  unfold lst
  rw [← List.take_append_getElem hk, List.foldl_append]; rfl
set_option maxRecDepth 100000 in
set_option maxHeartbeats 1000000 in
theorem rleast_any (w : World) (own nx b : Nat) (v : Value) (R : List Nat) (hR : w.ownsRow b 28 1 v R.length (ucells .u64 R)) (hl : R.length ≤ 1099511627778) :
    Calls Try.prog 67 #[.agg #[.int .u64 (own : Int), .int .u64 (nx : Int), v]] w fun e w' => e = .returned (.int .u64 (lst R nx : Int)) ∧ Below w.heap.size w w' := by
  obtain ⟨A, c, hv, _, _, _⟩ := own_form hR
  subst hv
  have hA : Below w.heap.size w (w.alloc (.cells #[.int .u64 (own : Int), .int .u64 (nx : Int), .slice A R.length c] 53)) := (Below.refl _ _).al _
  have HR := Lib.hid (own_below hR hA)
  clear hR
  go_enter Try.func67, Try.ntmps67
  go_wp2
  go_loopw [3, 11] (fun nv kv wr => ∃ (k m : Nat), k ≤ R.length ∧ kv = .int .i64 (k : Int) ∧ nv = .int .u64 (m : Int) ∧ m = lst (R.take k) nx ∧ wr = w.alloc (.cells #[.int .u64 (own : Int), .int .u64 (nx : Int), .slice A R.length c] 53)) (fun _ kv _ => R.length - (intOf kv).toNat)
  case atStart => exact ⟨0, _, Nat.zero_le _, rfl, rfl, rfl, rfl⟩
  case round =>
    obtain ⟨k, m, hk, rfl, rfl, hm, hw⟩ := hrel
    have HM := Lib.hid hm
    have HW := Lib.hid hw
    clear hm
    by_cases hlt : k < R.length
    · have aK : wr.ownsRow b 28 1 (.slice A R.length c) R.length (ucells .u64 R) := by rw [hw]; exact HR.out
      obtain ⟨gq, cq, hvq, _, _, _⟩ := own_shape aK (by omega)
      injection hvq with hA3 hL3 hk3
      clear hL3
      subst hA3 hk3
      have hcell := (aK.cellAt k (by omega)).trans (ucells_get .u64 R k hlt)
      have ix := idx_u64 gq R.length c k hlt
      have hlk := lst_take R nx hlt
      rw [← HM.out] at hlk
      generalize R[k] = y at *
      clear aK hw
      by_cases hy : y < m
      · rw [if_pos hy] at hlk
        have HL := Lib.hid hlk
        have hyi : (y : Int) < (m : Int) := by omega
        clear hlk hy
        go_wp2
        go_roundw
        case rel => exact ⟨k + 1, y, by omega, by go_num, rfl, HL.out.symm, HW.out⟩
        case measure => simp [intOf]; omega
      · rw [if_neg hy] at hlk
        have HL := Lib.hid hlk
        have hyi : ¬ (y : Int) < (m : Int) := by omega
        clear hlk hy
        go_wp2
        go_roundw
        case rel => exact ⟨k + 1, m, by omega, by go_num, rfl, HL.out.symm, HW.out⟩
        case measure => simp [intOf]; omega
    · obtain rfl : k = R.length := by omega
      have hmr : m = lst R nx := by have := HM.out; rwa [List.take_length] at this
      have HE := Lib.hid hmr
      clear hmr hw
      go_wp2
      go_ret
      exact ⟨by rw [← HE.out]; rfl, by rw [HW.out]; exact hA⟩
end Go.Proofs.Ytbmkhopmhmmibaa
