/-
  RoomLeast: the walk: the law answers true; of what was there nothing has turned.
-/
import Derived.Test.YtcfmlmlhmegfdaaRoomC
import Derived.WalkSpells
import Derived.Deep.Slices
import Derived.OpenShut
import Derived.ProofKit
namespace Go.Proofs.Ytcfmlmlhmegfdaa.roomLeast
open Go.RowKit Go.ChangeShapes Go.WideShapes Go.ChangeAt Go.Deep

set_option linter.unusedVariables false

def wcells (l : List Int) : List Value := l.map fun n => .int .u16 n
theorem wcells_get (l : List Int) (j : Nat) (hj : j < l.length) : (wcells l)[j]? = some (.int .u16 l[j]) := by
  unfold wcells; rw [List.getElem?_map, List.getElem?_eq_getElem hj]; rfl
set_option maxRecDepth 100000 in
theorem wf_u16 {n : Int} (h : (Lit.int .u16 n).wf = true) : 0 ≤ n ∧ n < 65536 := by
  simp [Lit.wf, IntKind.min, IntKind.max, IntKind.signed, IntKind.bits] at h
  omega
set_option maxRecDepth 100000 in
theorem open_u16s {H : Type} {enc : TypeId × Value → H} {w : World} {base : Nat} {held : Bool} {r : Reach} {b0 : Nat} {v : Value} {d : DataW H} {p : List MemPlace} (hv : Value.okWide Try.prog w r b0 90 v) (h : DataW.Trod enc Try.prog w base (fun _ => true) held 90 v d p) :
    ∃ (A : Option Addr) (c : Nat) (l : List Int), v = .slice A l.length c ∧ l.length ≤ c ∧ c ≤ 9223372036854775807 ∧ Rd w 1 A l.length (wcells l) ∧ ∀ x ∈ l, 0 ≤ x ∧ x < 65536 := by
  obtain ⟨A, n, c, rfl⟩ := okWide_slice Try.underlying90 hv
  obtain ⟨fuel, hf⟩ := h
  rcases open_ints Try.underlying90 Try.underlying91 (by kernel_rfl) hf with ⟨hcs, _⟩ | ⟨a, len, cap, zs, hcs, _, hl, hm, hz, _, hcell, hwz⟩
  · simp [Value.cells] at hcs
    obtain ⟨rfl, rfl, rfl⟩ := hcs
    exact ⟨none, 0, [], rfl, Nat.le_refl _, by omega, Rd.zero _ _ _, fun x hx => by simp at hx⟩
  · simp [Value.cells] at hcs
    obtain ⟨rfl, rfl, rfl⟩ := hcs
    simp only [if_true] at hz
    unfold maxLen at hm
    have hlen : (zs.take n).length = n := by simp; omega
    refine ⟨some a, c, zs.take n, by rw [hlen], by rw [hlen]; exact hl, by omega, ?_, fun x hx => wf_u16 (hwz x (List.mem_of_mem_take hx))⟩
    refine ⟨by unfold wcells; simp, fun j u hu => ⟨a, rfl, ?_⟩⟩
    have hj : j < n := by have := (List.getElem?_eq_some_iff.1 hu).1; unfold wcells at this; rw [List.length_map, hlen] at this; exact this
    rw [hcell j (by omega)]
    unfold wcells at hu
    rw [List.getElem?_map, List.getElem?_take_of_lt hj, List.getElem?_eq_getElem (by omega)] at hu
    simp only [Option.map_some, Option.some.injEq] at hu
    rw [List.getD_eq_getElem?_getD, List.getElem?_eq_getElem (by omega), Option.getD_some, ← hu]
/-- The rooms that are set. -/
def rms (l : List Int) : List Int := l.map fun r => cap (r % 600)
theorem rms_len (l : List Int) : (rms l).length = l.length := by simp [rms]
theorem rms_next {l : List Int} {k : Nat} (h : k < l.length) : rms (l.take (k + 1)) = rms (l.take k) ++ [cap (l[k] % 600)] := by
  rw [List.take_succ_eq_append_getElem h]; unfold rms; rw [List.map_append]; rfl
theorem rms_pos (l : List Int) : ∀ j, j < l.length → 0 ≤ (rms l).getD j 0 := by
  intro j hj
  have : (rms l)[j]? = some (cap (l[j] % 600)) := by unfold rms; rw [List.getElem?_map, List.getElem?_eq_getElem hj]; rfl
  rw [List.getD_eq_getElem?_getD, this, Option.getD_some]
  unfold cap
  omega
theorem getI_in {l : List Int} {k : Nat} (h : k < l.length) : getI l (k : Int) = l.getD k 0 := by
  unfold getI
  rw [if_neg (by omega), Int.toNat_natCast]
theorem front256 {w : World} {A : Option Addr} {l : List Int} (h : Rd w 1 A l.length (wcells l)) : Rd w 1 A (l.take 256).length (wcells (l.take 256)) := by
  by_cases hl : 256 ≤ l.length
  · have := Rd.front h hl
    rw [Nat.mul_one] at this
    rw [List.length_take, Nat.min_eq_left hl]
    have e : (wcells l).take 256 = wcells (l.take 256) := by unfold wcells; rw [List.map_take]
    rw [← e]
    exact this
  · rw [List.take_of_length_le (by omega)]; exact h

set_option maxRecDepth 100000 in
set_option maxHeartbeats 4000000 in
theorem walk_a (A : Option Addr) (c : Nat) (l0 l : List Int) (need : Int) (w : World) (r1 : Rd w 1 A l.length (wcells l)) (n0 : l0.length ≤ c) (m0 : c ≤ 9223372036854775807) (o1 : ∀ x ∈ l, 0 ≤ x ∧ x < 65536) (hl : l.length = l0.length) (hm : ¬ (256 : Int) < (l0.length : Int)) :
    Calls Try.prog 10 #[.slice A l0.length c, .int .i64 need] w fun e w' => e = .returned (.bool true) ∧ Below w.heap.size w w' := by
  have g0 : l0.length ≤ 256 := by omega
  have hi1 : (l0.length : Int) ≤ (c : Int) := by omega
  have HLL := Lib.hid hl
  go_enter Try.func10, Try.ntmps10
  go_wp2_with fail
  refine (awake6_any _).mono ?_
  rintro e w1 ⟨rfl, hb1⟩
  have hz1 := hb1.size
  go_wp2_with fail
  refine (newroom_any w1 w1.heap.size).mono ?_
  rintro e w2 ⟨rfl, hr2, hb2, hw2⟩
  have hz2 : w1.heap.size ≤ w2.heap.size := hb2.size
  clear hw2
  have hx2 : Below w.heap.size w w2 := hb1.trans (hb2.mono hz1)
  go_wp2_with fail
  go_loopw [21] (fun iv wr => ∃ (k : Nat) (v : Value), k ≤ l0.length ∧ iv = .int .i64 (k : Int) ∧ Room wr w1.heap.size w1.heap.size w1.heap.size v (rms (l.take k)) ∧ But w1.heap.size w1.heap.size w2 wr) (fun iv _ => l0.length - (intOf iv).toNat)
  case atStart => exact ⟨0, _, by omega, rfl, hr2, But.refl⟩
  case round =>
    obtain ⟨k, v, hk, rfl, hR, hb⟩ := hrel
    have hz := hb.size
    have hxr : Below w.heap.size w wr := hx2.trans (hb.below hz1 hz1)
    by_cases hlt : k < l0.length
    · obtain ⟨ad, rfl, hcell⟩ := (r1.below hxr).2 k _ (wcells_get l k (by omega))
      have hxk := o1 _ (List.getElem_mem (show k < l.length by omega))
      have hnx := Lib.hid (rms_next (show k < l.length by omega))
      have hkl : (rms (l.take k)).length = k := by rw [rms_len, List.length_take]; omega
      have gs := set_next_any wr w1.heap.size w1.heap.size w1.heap.size v _ k ((l[k]'(by omega)) % 600) hR (Nat.le_trans hz2 hz) hkl (by omega)
      have GS := Lib.hid gs
      generalize l[k]'(show k < l.length by omega) = x at *
      obtain ⟨hx0, hx1⟩ := hxk
      clear gs hR hkl r1
      go_wp2_with (go_at_call 42; (with_reducible refine (GS.out).mono ?_); rintro e w3 ⟨rfl, hb3, v3, hr3⟩)
      go_roundw
      case rel => exact ⟨k + 1, v3, by omega, by go_num, by rw [hnx.out]; exact hr3, hb.trans hb3⟩
      case measure => simp [intOf]; omega
    · obtain rfl : k = l0.length := by omega
      rw [List.take_of_length_le (by omega)] at hR
      have hL : (rms l).length = l0.length := by rw [rms_len]; omega
      have hpos := rms_pos l
      have gg := fun p => get_any wr w1.heap.size w1.heap.size w1.heap.size v _ p hR
      have gp := pages_any wr w1.heap.size w1.heap.size w1.heap.size v _ hR
      have gf := find_any wr w1.heap.size w1.heap.size w1.heap.size v _ need hR
      generalize rms l = L at *
      rw [hL] at gp
      have GG := Lib.hid gg
      have GP := Lib.hid gp
      clear gg gp r1 o1
      go_wp2_with fail
      refine gf.mono ?_
      rintro e w5 ⟨i, ok, rfl, hf, hw5⟩
      subst hw5
      clear gf
      cases ok with
      | false =>
        obtain ⟨rfl, hall⟩ := hf.2 rfl
        have hlow : ∀ j, j < l0.length → L.getD j 0 < need := fun j hj => by have h1 := hall j (by omega); have h2 := hpos j (by omega); omega
        have HLOW := Lib.hid hlow
        clear hf hall hlow hpos hR
        go_wp2
        go_loop [45] (fun s => ∃ j : Nat, j ≤ l0.length ∧ s = .int .i64 (j : Int)) (fun s => l0.length - (intOf s).toNat)
        case atStart => exact ⟨0, Nat.zero_le _, rfl⟩
        case round =>
          obtain ⟨j, hj, rfl⟩ := hrel
          by_cases hjl : j < l0.length
          · have hv := HLOW.out j hjl
            have g1 := GG.out (j : Int)
            rw [getI_in (by omega)] at g1
            generalize L.getD j 0 = y at *
            have G1 := Lib.hid g1
            clear g1
            go_wp2_with (go_at_call 46; (with_reducible refine (G1.out).mono ?_); rintro e w6 ⟨rfl, hw6⟩; have hw := hw6.symm; subst hw)
            go_round
            case rel => exact ⟨j + 1, by omega, by go_num⟩
            case measure => simp [intOf]; omega
          · obtain rfl : j = l0.length := by omega
            go_wp2_with (go_at_call 48; (with_reducible refine (GP.out).mono ?_); rintro e w6 ⟨rfl, hw6⟩; have hw := hw6.symm; subst hw)
            go_ret
            exact ⟨rfl, hxr⟩
      | true =>
        obtain ⟨hi, hge, hall⟩ := hf.1 rfl
        have hlow : ∀ j, j < i → L.getD j 0 < need := fun j hj => by have h1 := hall j hj; have h2 := hpos j (by omega); omega
        have HLOW := Lib.hid hlow
        have hgn : need ≤ L.getD i 0 := by omega
        have g2' := GG.out (i : Int)
        rw [getI_in hi] at g2'
        generalize L.getD i 0 = z at *
        have G2 := Lib.hid g2'
        clear hf hall hlow hpos hR g2' hge
        go_wp2
        go_loop [45] (fun s => ∃ j : Nat, j ≤ i ∧ s = .int .i64 (j : Int)) (fun s => i - (intOf s).toNat)
        case atStart => exact ⟨0, Nat.zero_le _, rfl⟩
        case round =>
          obtain ⟨j, hj, rfl⟩ := hrel
          by_cases hjl : j < i
          · have hv := HLOW.out j hjl
            have g1 := GG.out (j : Int)
            rw [getI_in (by omega)] at g1
            generalize L.getD j 0 = y at *
            have G1 := Lib.hid g1
            clear g1
            go_wp2_with (go_at_call 46; (with_reducible refine (G1.out).mono ?_); rintro e w6 ⟨rfl, hw6⟩; have hw := hw6.symm; subst hw)
            go_round
            case rel => exact ⟨j + 1, by omega, by go_num⟩
            case measure => simp [intOf]; omega
          · obtain rfl : j = i := by omega
            go_wp2_with (first
              | (go_at_call 48; (with_reducible refine (GP.out).mono ?_); rintro e w6 ⟨rfl, hw6⟩; have hw := hw6.symm; subst hw)
              | (go_at_call 46; (with_reducible refine (G2.out).mono ?_); rintro e w7 ⟨rfl, hw7⟩; have hw := hw7.symm; subst hw))
            go_ret
            exact ⟨rfl, hxr⟩
set_option maxRecDepth 100000 in
set_option maxHeartbeats 4000000 in
theorem walk_b (A : Option Addr) (c : Nat) (l0 l : List Int) (need : Int) (w : World) (r1 : Rd w 1 A l.length (wcells l)) (n0 : l0.length ≤ c) (m0 : c ≤ 9223372036854775807) (o1 : ∀ x ∈ l, 0 ≤ x ∧ x < 65536) (hl : l.length = 256) (hm : (256 : Int) < (l0.length : Int)) :
    Calls Try.prog 10 #[.slice A l0.length c, .int .i64 need] w fun e w' => e = .returned (.bool true) ∧ Below w.heap.size w w' := by
  have g0 : 256 ≤ 256 := by omega
  have hi1 : ((256 : Nat) : Int) ≤ (c : Int) := by omega
  have HLL := Lib.hid hl
  go_enter Try.func10, Try.ntmps10
  go_wp2_with fail
  refine (awake6_any _).mono ?_
  rintro e w1 ⟨rfl, hb1⟩
  have hz1 := hb1.size
  go_wp2_with fail
  refine (newroom_any w1 w1.heap.size).mono ?_
  rintro e w2 ⟨rfl, hr2, hb2, hw2⟩
  have hz2 : w1.heap.size ≤ w2.heap.size := hb2.size
  clear hw2
  have hx2 : Below w.heap.size w w2 := hb1.trans (hb2.mono hz1)
  go_wp2_with fail
  go_loopw [21] (fun iv wr => ∃ (k : Nat) (v : Value), k ≤ 256 ∧ iv = .int .i64 (k : Int) ∧ Room wr w1.heap.size w1.heap.size w1.heap.size v (rms (l.take k)) ∧ But w1.heap.size w1.heap.size w2 wr) (fun iv _ => 256 - (intOf iv).toNat)
  case atStart => exact ⟨0, _, by omega, rfl, hr2, But.refl⟩
  case round =>
    obtain ⟨k, v, hk, rfl, hR, hb⟩ := hrel
    have hz := hb.size
    have hxr : Below w.heap.size w wr := hx2.trans (hb.below hz1 hz1)
    by_cases hlt : k < 256
    · obtain ⟨ad, rfl, hcell⟩ := (r1.below hxr).2 k _ (wcells_get l k (by omega))
      have hxk := o1 _ (List.getElem_mem (show k < l.length by omega))
      have hnx := Lib.hid (rms_next (show k < l.length by omega))
      have hkl : (rms (l.take k)).length = k := by rw [rms_len, List.length_take]; omega
      have gs := set_next_any wr w1.heap.size w1.heap.size w1.heap.size v _ k ((l[k]'(by omega)) % 600) hR (Nat.le_trans hz2 hz) hkl (by omega)
      have GS := Lib.hid gs
      generalize l[k]'(show k < l.length by omega) = x at *
      obtain ⟨hx0, hx1⟩ := hxk
      clear gs hR hkl r1
      go_wp2_with (go_at_call 42; (with_reducible refine (GS.out).mono ?_); rintro e w3 ⟨rfl, hb3, v3, hr3⟩)
      go_roundw
      case rel => exact ⟨k + 1, v3, by omega, by go_num, by rw [hnx.out]; exact hr3, hb.trans hb3⟩
      case measure => simp [intOf]; omega
    · obtain rfl : k = 256 := by omega
      rw [List.take_of_length_le (by omega)] at hR
      have hL : (rms l).length = 256 := by rw [rms_len]; omega
      have hpos := rms_pos l
      have gg := fun p => get_any wr w1.heap.size w1.heap.size w1.heap.size v _ p hR
      have gp := pages_any wr w1.heap.size w1.heap.size w1.heap.size v _ hR
      have gf := find_any wr w1.heap.size w1.heap.size w1.heap.size v _ need hR
      generalize rms l = L at *
      rw [hL] at gp
      have GG := Lib.hid gg
      have GP := Lib.hid gp
      clear gg gp r1 o1
      go_wp2_with fail
      refine gf.mono ?_
      rintro e w5 ⟨i, ok, rfl, hf, hw5⟩
      subst hw5
      clear gf
      cases ok with
      | false =>
        obtain ⟨rfl, hall⟩ := hf.2 rfl
        have hlow : ∀ j, j < 256 → L.getD j 0 < need := fun j hj => by have h1 := hall j (by omega); have h2 := hpos j (by omega); omega
        have HLOW := Lib.hid hlow
        clear hf hall hlow hpos hR
        go_wp2
        go_loop [45] (fun s => ∃ j : Nat, j ≤ 256 ∧ s = .int .i64 (j : Int)) (fun s => 256 - (intOf s).toNat)
        case atStart => exact ⟨0, Nat.zero_le _, rfl⟩
        case round =>
          obtain ⟨j, hj, rfl⟩ := hrel
          by_cases hjl : j < 256
          · have hv := HLOW.out j hjl
            have g1 := GG.out (j : Int)
            rw [getI_in (by omega)] at g1
            generalize L.getD j 0 = y at *
            have G1 := Lib.hid g1
            clear g1
            go_wp2_with (go_at_call 46; (with_reducible refine (G1.out).mono ?_); rintro e w6 ⟨rfl, hw6⟩; have hw := hw6.symm; subst hw)
            go_round
            case rel => exact ⟨j + 1, by omega, by go_num⟩
            case measure => simp [intOf]; omega
          · obtain rfl : j = 256 := by omega
            go_wp2_with (go_at_call 48; (with_reducible refine (GP.out).mono ?_); rintro e w6 ⟨rfl, hw6⟩; have hw := hw6.symm; subst hw)
            go_ret
            exact ⟨rfl, hxr⟩
      | true =>
        obtain ⟨hi, hge, hall⟩ := hf.1 rfl
        have hlow : ∀ j, j < i → L.getD j 0 < need := fun j hj => by have h1 := hall j hj; have h2 := hpos j (by omega); omega
        have HLOW := Lib.hid hlow
        have hgn : need ≤ L.getD i 0 := by omega
        have g2' := GG.out (i : Int)
        rw [getI_in hi] at g2'
        generalize L.getD i 0 = z at *
        have G2 := Lib.hid g2'
        clear hf hall hlow hpos hR g2' hge
        go_wp2
        go_loop [45] (fun s => ∃ j : Nat, j ≤ i ∧ s = .int .i64 (j : Int)) (fun s => i - (intOf s).toNat)
        case atStart => exact ⟨0, Nat.zero_le _, rfl⟩
        case round =>
          obtain ⟨j, hj, rfl⟩ := hrel
          by_cases hjl : j < i
          · have hv := HLOW.out j hjl
            have g1 := GG.out (j : Int)
            rw [getI_in (by omega)] at g1
            generalize L.getD j 0 = y at *
            have G1 := Lib.hid g1
            clear g1
            go_wp2_with (go_at_call 46; (with_reducible refine (G1.out).mono ?_); rintro e w6 ⟨rfl, hw6⟩; have hw := hw6.symm; subst hw)
            go_round
            case rel => exact ⟨j + 1, by omega, by go_num⟩
            case measure => simp [intOf]; omega
          · obtain rfl : j = i := by omega
            go_wp2_with (first
              | (go_at_call 48; (with_reducible refine (GP.out).mono ?_); rintro e w6 ⟨rfl, hw6⟩; have hw := hw6.symm; subst hw)
              | (go_at_call 46; (with_reducible refine (G2.out).mono ?_); rintro e w7 ⟨rfl, hw7⟩; have hw := hw7.symm; subst hw))
            go_ret
            exact ⟨rfl, hxr⟩
theorem walk (A : Option Addr) (c : Nat) (l0 : List Int) (need : Int) (w : World) (r0 : Rd w 1 A l0.length (wcells l0)) (n0 : l0.length ≤ c) (m0 : c ≤ 9223372036854775807) (o0 : ∀ x ∈ l0, 0 ≤ x ∧ x < 65536) :
    Calls Try.prog 10 #[.slice A l0.length c, .int .i64 need] w fun e w' => e = .returned (.bool true) ∧ Below w.heap.size w w' := by
  by_cases h : (256 : Int) < (l0.length : Int)
  · exact walk_b A c l0 (l0.take 256) need w (front256 r0) n0 m0 (fun x hx => o0 x (List.mem_of_mem_take hx)) (by rw [List.length_take]; omega) h
  · exact walk_a A c l0 l0 need w r0 n0 m0 o0 rfl h
end Go.Proofs.Ytcfmlmlhmegfdaa.roomLeast
