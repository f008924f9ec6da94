/-
  KeyBytes: the walk: where the library's tables hold what its text lays, the law answers true; of what was there nothing has turned.
-/
import Derived.Test.YtdlgobakoomkpaaDoorKeyRead
import Derived.Test.YtdlgobakoomkpaaDoorRef3B
import Derived.Test.YtdlgobakoomkpaaDoorSameRow
namespace Go.Proofs.YtdlgobakoomkpaaDoor.keyBytes
open Go.RowKit

theorem front12 {w : World} {A : Option Addr} {l : List Val} (h : Vrd w A l) : Vrd w A (l.take 12) := by
  by_cases hl : 12 ≤ l.length
  · exact h.front hl
  · rw [List.take_of_length_le (by omega)]; exact h
set_option maxHeartbeats 2000000 in
theorem walk_y (A0 : Option Addr) (c0 : Nat) (l0 : List Val) (w : World) (hE : Env w) (r0 : Vrd w A0 (l0.take 12))
    (n0 : l0.length ≤ c0) (m0 : c0 ≤ 9223372036854775807) (o0 : ∀ x ∈ l0.take 12, ValOk x) (hA : (l0.take 12).all rightB = true) :
    Calls Tryd.prog 3 #[.slice A0 l0.length c0] w fun e w' => e = .returned (.bool true) ∧ Below w.heap.size w w' := by
  obtain ⟨i4, hi4, hv0, hv1, hv2⟩ := info_parts info_val
  have e0 : (l0.take 12).length = min l0.length 12 := by rw [List.length_take, Nat.min_comm]
  generalize l0.take 12 = la at *
  have f0 : min (l0.length : Int) 12 = (la.length : Int) := by omega
  have g0 : la.length ≤ 12 := by omega
  have g2 : la.length ≤ l0.length := by omega
  have HKB := Lib.hid (show kbB la = encs la from if_pos hA)
  have HKE := Lib.hid (show kbE la = 0 from if_pos hA)
  have hrd := rd_encs la (right_of hA) (in_take o0)
  have HRE := Lib.hid (show rdE (encs la) = 0 by unfold rdE; rw [hrd]; rfl)
  have HRL := Lib.hid (show rdL (encs la) = la by unfold rdL; rw [hrd]; rfl)
  have HSR := Lib.hid (srow_refl la hA)
  clear hrd
  clear e0
  go_enter Tryd.func3, Tryd.ntmps3
  go_wp2_with fail
  refine (awake3_any _ hE).mono ?_
  rintro e w1 ⟨rfl, hb1⟩
  have y0 := r0.below hb1
  go_wp2_with (at_builtin; refine wpList_append_src _ rfl (.tmp 11) (.tmp 16) 22 22 rfl w1.heap.size 43 _ _ 4 40 Tryd.underlying22 hi4 hv0 hv1 hv2 rfl _ 0 [] rfl (made_nil w1 _ 4) _ la.length (vcells la) rfl (src_rd Tryd.underlying22 _ (Rd.alloc y0 _) (by decide) (vcells_one _)) (by simp only [maxLen]; omega) (by omega) (by simp) ?_; intro v2 w2 ho2 hg2 ha2; have hb2 : Below w1.heap.size w1 w2 := ((Below.refl _ _).alloc (Nat.le_refl _) _).trans (grown_below (made_nil w1 _ 4) hg2 (by simp)); obtain ⟨A2, d2, rfl, hn2, hd2, hV2⟩ := vls_slice (vls_of (m := la) ho2 (by simp)); have x2 := hb1.next hb2)
  refine (kbytes_any A2 d2 la w2 (by omega) hV2 o0 (hE.next x2)).mono ?_
  rintro e w3 ⟨v3, rfl, ho3, hb3⟩
  rw [HKE.out]
  rw [HKB.out] at ho3
  obtain ⟨B3, d3, rfl, hn3, hd3, hB3⟩ := byt_slice ho3
  have x3 := x2.next hb3
  have hV3 := hV2.below hb3
  go_wp2_with fail
  refine (rbytes_any A2 d2 la w3 (by omega) hV3 o0).mono ?_
  rintro e w4 ⟨v4, rfl, ho4, hb4⟩
  rw [HKE.out]
  rw [HKB.out] at ho4
  obtain ⟨B4, d4, rfl, hn4, hd4, hB4⟩ := byt_slice ho4
  have x4 := x3.next hb4
  have hV4 := hV3.below hb4
  have hB3 := hB3.below hb4
  go_wp2_with fail
  refine (same3_any B3 B4 d3 d4 _ _ w4 hB3 hB4).mono ?_
  rintro e w5 ⟨rfl, hw5⟩
  have hw := hw5.symm
  subst hw
  rw [show leqB (encs la) (encs la) = true by simp [leqB]]
  clear ho3 ho4
  go_wp2_with fail
  refine (kread_any B3 d3 (encs la) w4 hB3 hn3 hd3 (by have := encs_len la hA; omega) (hE.next x4)).mono ?_
  rintro e w6 ⟨v6, rfl, ho6, hb6⟩
  have x6 := x4.next hb6
  rw [HRE.out]
  rw [HRL.out] at ho6
  obtain ⟨A6, d6, rfl, hn6, hd6, hV6⟩ := vls_slice ho6
  have hV6' := hV4.below hb6
  clear ho6
  go_wp2_with fail
  refine (samerow_any A6 A2 d6 d2 la la w6 hV6 hV6' (by omega)).mono ?_
  rintro e w7 ⟨rfl, hb7⟩
  rw [HSR.out]
  go_wp2
  go_ret
  exact ⟨rfl, x6.next hb7⟩
set_option maxHeartbeats 2000000 in
theorem walk_n (A0 : Option Addr) (c0 : Nat) (l0 : List Val) (w : World) (hE : Env w) (r0 : Vrd w A0 (l0.take 12))
    (n0 : l0.length ≤ c0) (m0 : c0 ≤ 9223372036854775807) (o0 : ∀ x ∈ l0.take 12, ValOk x) (hA : (l0.take 12).all rightB = false) :
    Calls Tryd.prog 3 #[.slice A0 l0.length c0] w fun e w' => e = .returned (.bool true) ∧ Below w.heap.size w w' := by
  obtain ⟨i4, hi4, hv0, hv1, hv2⟩ := info_parts info_val
  have e0 : (l0.take 12).length = min l0.length 12 := by rw [List.length_take, Nat.min_comm]
  generalize l0.take 12 = la at *
  have f0 : min (l0.length : Int) 12 = (la.length : Int) := by omega
  have g0 : la.length ≤ 12 := by omega
  have g2 : la.length ≤ l0.length := by omega
  have HKB := Lib.hid (show kbB la = [] from if_neg (by simp [hA]))
  have HKE := Lib.hid (show kbE la = 3 from if_neg (by simp [hA]))
  have HRE := Lib.hid (show rdE [] = 0 by unfold rdE; rw [rd_nil]; rfl)
  clear e0
  go_enter Tryd.func3, Tryd.ntmps3
  go_wp2_with fail
  refine (awake3_any _ hE).mono ?_
  rintro e w1 ⟨rfl, hb1⟩
  have y0 := r0.below hb1
  go_wp2_with (at_builtin; refine wpList_append_src _ rfl (.tmp 11) (.tmp 16) 22 22 rfl w1.heap.size 43 _ _ 4 40 Tryd.underlying22 hi4 hv0 hv1 hv2 rfl _ 0 [] rfl (made_nil w1 _ 4) _ la.length (vcells la) rfl (src_rd Tryd.underlying22 _ (Rd.alloc y0 _) (by decide) (vcells_one _)) (by simp only [maxLen]; omega) (by omega) (by simp) ?_; intro v2 w2 ho2 hg2 ha2; have hb2 : Below w1.heap.size w1 w2 := ((Below.refl _ _).alloc (Nat.le_refl _) _).trans (grown_below (made_nil w1 _ 4) hg2 (by simp)); obtain ⟨A2, d2, rfl, hn2, hd2, hV2⟩ := vls_slice (vls_of (m := la) ho2 (by simp)); have x2 := hb1.next hb2)
  refine (kbytes_any A2 d2 la w2 (by omega) hV2 o0 (hE.next x2)).mono ?_
  rintro e w3 ⟨v3, rfl, ho3, hb3⟩
  rw [HKE.out]
  rw [HKB.out] at ho3
  obtain ⟨B3, d3, rfl, hn3, hd3, hB3⟩ := byt_slice ho3
  have x3 := x2.next hb3
  have hV3 := hV2.below hb3
  go_wp2_with fail
  refine (rbytes_any A2 d2 la w3 (by omega) hV3 o0).mono ?_
  rintro e w4 ⟨v4, rfl, ho4, hb4⟩
  rw [HKE.out]
  rw [HKB.out] at ho4
  obtain ⟨B4, d4, rfl, hn4, hd4, hB4⟩ := byt_slice ho4
  have x4 := x3.next hb4
  have hV4 := hV3.below hb4
  have hB3 := hB3.below hb4
  go_wp2_with fail
  refine (same3_any B3 B4 d3 d4 _ _ w4 hB3 hB4).mono ?_
  rintro e w5 ⟨rfl, hw5⟩
  have hw := hw5.symm
  subst hw
  rw [show leqB ([] : List UInt8) ([] : List UInt8) = true by simp [leqB]]
  clear ho3 ho4
  go_wp2_with fail
  refine (kread_any B3 d3 ([] : List UInt8) w4 hB3 hn3 hd3 (by simp) (hE.next x4)).mono ?_
  rintro e w6 ⟨v6, rfl, ho6, hb6⟩
  have x6 := x4.next hb6
  rw [HRE.out]
  clear ho6
  go_wp2
  go_ret
  exact ⟨rfl, x6⟩
theorem walk (A0 : Option Addr) (c0 : Nat) (l0 : List Val) (w : World) (hE : Env w) (r0 : Vrd w A0 l0) (n0 : l0.length ≤ c0) (m0 : c0 ≤ 9223372036854775807) (o0 : ∀ x ∈ l0, ValOk x) :
    Calls Tryd.prog 3 #[.slice A0 l0.length c0] w fun e w' => e = .returned (.bool true) ∧ Below w.heap.size w w' := by
  cases hA : (l0.take 12).all rightB with
  | true => exact walk_y A0 c0 l0 w hE (front12 r0) n0 m0 (ok_take o0 12) hA
  | false => exact walk_n A0 c0 l0 w hE (front12 r0) n0 m0 (ok_take o0 12) hA
end Go.Proofs.YtdlgobakoomkpaaDoor.keyBytes
