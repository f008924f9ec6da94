/-
  Package clog: slices.BinarySearch of a number that stands there; slices.Clone; All.
-/
import Derived.Test.YtbmkhopmhmmibaaClogB
import Derived.Lib.SliceRun
namespace Go.Proofs.Ytbmkhopmhmmibaa
open Go.RowKit
set_option linter.unusedVariables false

theorem isnan_any (w : World) (x : Nat) :
    Calls Try.prog 96 #[.int .u64 (x : Int)] w fun e w' => e = .returned (.bool false) ∧ w' = w := by
  go_enter Try.func96, Try.ntmps96
  go_wp2
  go_ret
  exact ⟨by simp, rfl⟩
theorem less_any (w : World) (x y : Nat) :
    Calls Try.prog 90 #[.int .u64 (x : Int), .int .u64 (y : Int)] w fun e w' => e = .returned (.bool (decide (x < y))) ∧ w' = w := by
  go_enter Try.func90, Try.ntmps90
  go_wp2_with (go_at_call 96; (with_reducible refine (isnan_any _ _).mono ?_); rintro e w1 ⟨rfl, rfl⟩)
  go_ret
  exact ⟨by simp, rfl⟩
set_option maxHeartbeats 1000000 in
theorem bsearch_any (w : World) (base : Nat) (v : Value) (R : List Nat) (i x : Nat) (h : w.ownsRow base 28 1 v R.length (ucells .u64 R)) (hs : R.Pairwise (· < ·)) (hi : R[i]? = some x) (hx : x < 18446744073709551616) (hn : R.length < 4611686018427387904) :
    Calls Try.prog 77 #[v, .int .u64 (x : Int)] w fun e w' => e = .returned (.tuple #[.int .i64 (i : Int), .bool true]) ∧ w' = w := by
  have hlt : i < R.length := (List.getElem?_eq_some_iff.1 hi).1
  obtain ⟨g, c, rfl, _, hnc, hmc⟩ := own_shape h (by omega)
  have HO := Lib.hid h
  have HS := Lib.hid hs
  have HI := Lib.hid hi
  clear h hs hi
  go_enter Try.func77, Try.ntmps77
  go_wp2
  go_loop [7, 8] (fun s7 s8 => ∃ lo hi : Nat, s7 = .int .i64 (lo : Int) ∧ s8 = .int .i64 (hi : Int) ∧ lo ≤ i ∧ i ≤ hi ∧ hi ≤ R.length) (fun s7 s8 => (intOf s8).toNat - (intOf s7).toNat)
  case atStart => exact ⟨0, R.length, rfl, rfl, Nat.zero_le _, Nat.le_of_lt hlt, Nat.le_refl _⟩
  case round =>
    obtain ⟨lo, hi, rfl, rfl, h1, h2, h3⟩ := hrel
    by_cases hlh : lo < hi
    · obtain ⟨m, hm⟩ : ∃ m, m = (lo + hi) / 2 := ⟨_, rfl⟩
      have hml : m < R.length := by omega
      have hcell := (HO.out.cellAt m (by omega)).trans (ucells_get .u64 R m hml)
      have hcmp := sorted_lt HS.out (List.getElem?_eq_getElem hml) HI.out
      have ix := idx_u64 g R.length c m hml
      have e2 : ((lo : Int) + (hi : Int)) / 2 = (m : Int) := by omega
      generalize R[m] = y at *
      have hd : decide (y < x) = decide (m < i) := decide_eq_decide.2 hcmp
      by_cases hmi : m < i
      · have hyx : y < x := hcmp.2 hmi
        clear hcmp hd hm
        go_wp2_with (go_at_call 90; (with_reducible refine (less_any _ _ _).mono ?_); rintro e w1 ⟨rfl, rfl⟩)
        go_round
        case rel => exact ⟨m + 1, hi, by go_num, rfl, by omega, h2, h3⟩
        case measure => simp [intOf]; omega
      · have hyx : ¬ y < x := fun e => hmi (hcmp.1 e)
        clear hcmp hd hm
        go_wp2_with (go_at_call 90; (with_reducible refine (less_any _ _ _).mono ?_); rintro e w1 ⟨rfl, rfl⟩)
        go_round
        case rel => exact ⟨lo, m, rfl, by go_num, h1, by omega, by omega⟩
        case measure => simp [intOf]; omega
    · obtain rfl : lo = i := by omega
      obtain rfl : hi = lo := by omega
      have hcell := (HO.out.cellAt hi (by omega)).trans (ucells_get .u64 R hi hlt)
      have ix := idx_u64 g R.length c hi hlt
      have hy : R[hi] = x := by have := HI.out; rw [List.getElem?_eq_getElem hlt] at this; injection this
      rw [hy] at hcell
      clear hy
      go_wp2
      refine bodyPost_ret (v := .tuple #[.int .i64 (hi : Int), .bool true]) (by simp [results, Try.results77, go_sem]) rfl ?_
      exact ⟨rfl, rfl⟩
theorem info_u64s : (Try.prog.info? 28).map (fun i => (i.zero, i.size, i.bytes)) = some (some (.int .u64 0), 1, 8) := by kernel_rfl
theorem made_nil (w : World) (e : TypeId) (size : Nat) : (w.alloc (.cells #[] e)).ownsRow w.heap.size e size (.slice (some ⟨w.heap.size, 0, none⟩) 0 0) 0 [] :=
  World.ownsRow_made w #[] 0 (Nat.le_refl _) (by unfold maxLen; omega) (by simp)
set_option maxRecDepth 100000 in
theorem clone_any (w : World) (base : Nat) (v : Value) (R : List Nat) (h : w.ownsRow base 28 1 v R.length (ucells .u64 R)) (hn : R.length < 1099511627778) :
    Calls Try.prog 76 #[v] w fun e w' => ∃ v', e = .returned v' ∧ w'.ownsRow w.heap.size 28 1 v' R.length (ucells .u64 R) ∧ Below w.heap.size w w' := by
  obtain ⟨i0, hi0, hz0, hz1, hz2⟩ := info_parts4 info_u64
  rcases h.2 with ⟨rfl, h0⟩ | ⟨g, c, cur, rfl, _, _, hnc, hmc, _, _⟩
  · have hR : R = [] := List.eq_nil_of_length_eq_zero h0
    subst hR
    have q := Lib.run_eql_slice_nil (P := Try.prog) w 48 28 none 0 0 0 0 Try.underlying48
    clear h h0
    go_enter Try.func76, Try.ntmps76
    go_wp2
    go_ret
    exact ⟨_, rfl, World.ownsRow_nil _ _ _ _, Below.refl _ _⟩
  · have hr := Rd.of_own h
    have HL := Lib.hid (ucells_length .u64 R)
    generalize R.length = n at *
    have q := Lib.run_eql_slice_nil (P := Try.prog) w 48 28 (some ⟨g, 0, none⟩) n c 0 0 Try.underlying48
    clear h
    go_enter Try.func76, Try.ntmps76
    go_wp2_with (at_builtin; refine wpList_append_src _ rfl (.tmp 5) (.tmp 6) 48 48 rfl w.heap.size 28 _ _ 1 8 Try.underlying48 hi0 hz0 hz1 hz2 rfl _ 0 [] rfl (made_nil w _ _) _ n (ucells .u64 R) rfl (src_rd Try.underlying48 _ (Rd.alloc hr _) (by decide) (ucells_one _ _)) (by simp only [maxLen]; omega) (by omega) (by simp <;> omega) ?_; intro v1 w1 hown1 hg1 ha1)
    go_ret
    exact ⟨_, rfl, by simpa using hown1, ((Below.refl _ _).alloc (Nat.le_refl _) _).trans (grown_below (made_nil w _ 1) hg1 (by simp))⟩
theorem all_nil (w : World) :
    Calls Try.prog 43 #[.pointer none] w fun e w' => e = .returned (.slice none 0 0) ∧ w' = w := by
  go_enter Try.func43, Try.ntmps43
  go_wp2
  go_ret
  exact ⟨rfl, rfl⟩
theorem all_any (w : World) (g f : Nat) (v rv : Value) (S : List Nat) (h : Lg w g v rv f S) :
    Calls Try.prog 43 #[.pointer (some ⟨g, 0, none⟩)] w fun e w' => ∃ v', e = .returned v' ∧ w'.ownsRow w.heap.size 28 1 v' (runs f S).length (ucells .u64 (runs f S)) ∧ Below w.heap.size w w' := by
  have hmax := h.max
  have hl := runs_length f S
  have c2 := h.box.cell 2
  have HR := Lib.hid (clone_any w 0 rv (runs f S) h.run (by omega))
  clear h hl
  go_enter Try.func43, Try.ntmps43
  go_wp2_with (go_at_call 76; (with_reducible refine (HR.out).mono ?_); rintro e w1 ⟨v', rfl, ho, hb⟩)
  go_ret
  exact ⟨_, rfl, ho, hb⟩
end Go.Proofs.Ytbmkhopmhmmibaa
