/-
  RowCuts: the walk: where the library's tables hold what its text lays, the law answers true; of what was there nothing has turned.
-/
import Derived.Test.YtdlgobakoomkpaaDoorAwake4
import Derived.Test.YtdlgobakoomkpaaDoorRowB
import Derived.Test.YtdlgobakoomkpaaDoorDoorB
import Derived.Test.YtdlgobakoomkpaaDoorRowH
import Derived.Deep.RegionHeld3
namespace Go.Proofs.YtdlgobakoomkpaaDoor.rowCuts
open Go.RowKit

set_option linter.unusedVariables false

theorem front12 {w : World} {A : Option Addr} {l : List Val} (h : Vrd w A l) : Vrd w A (l.take 12) := by
  by_cases hl : 12 ≤ l.length
  · exact h.front hl
  · rw [List.take_of_length_le (by omega)]; exact h
theorem renc_pos (l : List Val) : 0 < (renc l).length := by rw [renc_len]; omega

set_option maxHeartbeats 4000000 in
theorem walk_x (K A0 M : Option Addr) (kc c0 mc : Nat) (k0 : List UInt8) (l0 : List Val) (a : Int) (more : List UInt8) (w : World) (hE : Env w) (rk : Brd w K k0) (r0 : Vrd w A0 (l0.take 12)) (rm : Brd w M more) (ha : 0 ≤ a ∧ a < 256)
    (nk : k0.length ≤ kc) (mk : kc ≤ 9223372036854775807) (n0 : l0.length ≤ c0) (m0 : c0 ≤ 9223372036854775807) (nm : more.length ≤ mc) (mm : mc ≤ 9223372036854775807) (o0 : ∀ x ∈ l0.take 12, ValOk x)
    (hm : rwE (k0.take 12) (l0.take 12) ≠ 0) :
    Calls Tryd.prog 12 #[.slice K k0.length kc, .slice A0 l0.length c0, .int .u8 a, .slice M more.length mc] w fun e w' => e = .returned (.bool true) ∧ Below w.heap.size w w' := by
  obtain ⟨i0, hi0, hz0, hz1, hz2⟩ := info_parts info_u8
  obtain ⟨ha0, ha1⟩ := ha
  have haw : IntKind.i64.wrap a = a := by rw [IntKind.wrap_i64]; omega
  have e0 : (l0.take 12).length = min l0.length 12 := by rw [List.length_take, Nat.min_comm]
  have ek : (k0.take 12).length ≤ 12 := List.length_take_le _ _
  have gk := fun W h => kinds_any K kc k0 W h (by omega)
  generalize k0.take 12 = ks at *
  generalize l0.take 12 = la at *
  have f0 : min (l0.length : Int) 12 = (la.length : Int) := by omega
  have g0 : la.length ≤ 12 := by omega
  have g2 : la.length ≤ l0.length := by omega
  have hi1 : (la.length : Int) ≤ (c0 : Int) := by omega
  have gb := fun B d W h1 h2 h3 => rowbytes_any B A0 d c0 ks la W h1 (by omega) (by omega) h2 o0 h3
  rw [rwB_no hm] at gb
  generalize rwE ks la = m at *
  have hmb : (m != 0) = true := by simpa using hm
  clear hm
  have GK := Lib.hid gk
  have GB := Lib.hid gb
  clear e0 gk gb
  go_enter Tryd.func12, Tryd.ntmps12
  go_wp2_with fail
  refine (awake4_any _ hE).mono ?_
  rintro e w1 ⟨rfl, hb1⟩
  have yk := rk.below hb1
  have y0 := r0.below hb1
  go_wp2
  go_region_held3 (fun w' => Below w1.heap.size w1 w') (first | assumption | exact (Below.refl _ _).drew | exact Below.drew (by assumption) | exact below_dN (by assumption) _ | exact Below.refl _ _ | simp [*, go_sem])
    (first
      | (go_at_call 33; refine Calls.mono (GK.out _ (yk.below (by assumption))) ?_; rintro e w2 ⟨v2, rfl, ho2, hb2⟩; obtain ⟨B2, d2, rfl, hn2, hd2, hB2⟩ := kds_slice ho2; have hS : Below w1.heap.size w1 w2 := Below.next (by assumption) hb2)
      | (go_at_call 32; refine Calls.mono (GB.out B2 d2 _ hB2 (y0.below (by assumption)) (hE.next (hb1.next (by assumption)))) ?_; rintro e w3 ⟨v3, rfl, ho3, hb3⟩; obtain ⟨B3, d3, rfl, hn3, hd3, hB3⟩ := byt_slice ho3; have hS : Below w1.heap.size w1 w3 := Below.next (by assumption) hb3))
  all_goals
    go_wp2
    go_ret
    exact ⟨rfl, hb1.next hS⟩
set_option maxHeartbeats 4000000 in
theorem walk_z (K A0 M : Option Addr) (kc c0 mc : Nat) (k0 : List UInt8) (l0 : List Val) (a : Int) (more : List UInt8) (w : World) (hE : Env w) (rk : Brd w K k0) (r0 : Vrd w A0 (l0.take 12)) (rm : Brd w M more) (ha : 0 ≤ a ∧ a < 256)
    (nk : k0.length ≤ kc) (mk : kc ≤ 9223372036854775807) (n0 : l0.length ≤ c0) (m0 : c0 ≤ 9223372036854775807) (nm : more.length ≤ mc) (mm : mc ≤ 9223372036854775807) (o0 : ∀ x ∈ l0.take 12, ValOk x)
    (hm : rwE (k0.take 12) (l0.take 12) = 0) :
    Calls Tryd.prog 12 #[.slice K k0.length kc, .slice A0 l0.length c0, .int .u8 a, .slice M more.length mc] w fun e w' => e = .returned (.bool true) ∧ Below w.heap.size w w' := by
  obtain ⟨i0, hi0, hz0, hz1, hz2⟩ := info_parts info_u8
  obtain ⟨ha0, ha1⟩ := ha
  have haw : IntKind.i64.wrap a = a := by rw [IntKind.wrap_i64]; omega
  have e0 : (l0.take 12).length = min l0.length 12 := by rw [List.length_take, Nat.min_comm]
  have ek : (k0.take 12).length ≤ 12 := List.length_take_le _ _
  have gk := fun W h => kinds_any K kc k0 W h (by omega)
  generalize k0.take 12 = ks at *
  generalize l0.take 12 = la at *
  have f0 : min (l0.length : Int) 12 = (la.length : Int) := by omega
  have g0 : la.length ≤ 12 := by omega
  have g2 : la.length ≤ l0.length := by omega
  have hi1 : (la.length : Int) ≤ (c0 : Int) := by omega
  have gb := fun B d W h1 h2 h3 => rowbytes_any B A0 d c0 ks la W h1 (by omega) (by omega) h2 o0 h3
  rw [rwB_yes hm, hm] at gb
  have hcut := fun j (h : j < (renc la).length) => rr_cut hm (in_take o0) h
  have hmore := fun r (h : r ≠ []) => rr_more hm (in_take o0) h
  have hpos := renc_pos la
  have hpl : (renc la).length ≤ 200 := by rw [renc_len]; exact (rwE_zero hm).2.2.2.2
  generalize renc la = p at *
  have HCUT := Lib.hid hcut
  have HMORE := Lib.hid hmore
  clear hm hcut hmore
  have GK := Lib.hid gk
  have GB := Lib.hid gb
  clear e0 gk gb
  go_enter Tryd.func12, Tryd.ntmps12
  go_wp2_with fail
  refine (awake4_any _ hE).mono ?_
  rintro e w1 ⟨rfl, hb1⟩
  have yk := rk.below hb1
  have y0 := r0.below hb1
  go_wp2
  go_region_held3 (fun w' => Below w1.heap.size w1 w') (first | assumption | exact (Below.refl _ _).drew | exact Below.drew (by assumption) | exact below_dN (by assumption) _ | exact Below.refl _ _ | simp [*, go_sem])
    (first
      | (go_at_call 33; refine Calls.mono (GK.out _ (yk.below (by assumption))) ?_; rintro e w2 ⟨v2, rfl, ho2, hb2⟩; obtain ⟨B2, d2, rfl, hn2, hd2, hB2⟩ := kds_slice ho2; have hS : Below w1.heap.size w1 w2 := Below.next (by assumption) hb2)
      | (go_at_call 32; refine Calls.mono (GB.out B2 d2 _ hB2 (y0.below (by assumption)) (hE.next (hb1.next (by assumption)))) ?_; rintro e w3 ⟨v3, rfl, ho3, hb3⟩; obtain ⟨B3, d3, rfl, hn3, hd3, hB3⟩ := byt_slice ho3; have hS : Below w1.heap.size w1 w3 := Below.next (by assumption) hb3))
  all_goals
    have hja : 0 ≤ a := ha0
    obtain ⟨ad3, rfl, _⟩ := hB3.at_ hpos
    obtain ⟨j, hj0⟩ : ∃ j, j = a.toNat % p.length := ⟨_, rfl⟩
    have hjlt : j < p.length := by rw [hj0]; exact Nat.mod_lt _ hpos
    have hr2 : a % (p.length : Int) = (j : Int) := by
      rw [hj0]
      have : a = (a.toNat : Int) := by omega
      rw [this]
      simp
    have hr1 : Int.tmod a (p.length : Int) = (j : Int) := by rw [Int.tmod_eq_emod_of_nonneg ha0, hr2]
    have hp0 : ((p.length : Int) == 0) = false := beq_eq_false_iff_ne.2 (by omega)
    have hp1 : ¬ (p.length : Int) = 0 := by omega
    have hj2 : j ≤ d3 := by omega
    have hsl : ∀ W, (Instr.slice 24 (.slice (some ad3) p.length d3) none (some (.int .i64 (j : Int))) none).run Tryd.prog W = .ok (.slice (some ad3) j d3) W := fun W => by
      rw [run_slice_h (ht := by kernel_rfl) (h0 := by omega) (h2 := by omega)]
      rw [show Tryd.prog.elem 24 = 5 by kernel_rfl, show (sizeOf 5).run Tryd.prog W = .ok 1 W by kernel_rfl]
      have hadd : ad3.add 0 = ad3 := by unfold Addr.add; simp
      simp [Result.andThen, sliced, hadd]
    have hp2 : ¬ p = [] := fun e => by rw [e] at hpos; exact absurd hpos (by decide)
    have hp3 : ¬ p.length = 0 := by omega
    have hjt : (a.tmod (p.length : Int)).toNat = j := by rw [hr1]; rfl
    have ht0 : 0 ≤ a.tmod (p.length : Int) := by rw [hr1]; omega
    have ht1 : a.tmod (p.length : Int) ≤ (d3 : Int) := by rw [hr1]; omega
    have hi2 : (j : Int) ≤ (d3 : Int) := by omega
    have hjl : (p.take j).length = j := by rw [List.length_take]; omega
    have gr1 := fun B d W h1 h2 h3 => rowread_any B (some ad3) d d3 ks (p.take j) W h1 (by omega) h2 (by rw [hjl]; omega) hd3 h3
    rw [hjl, HCUT.out j hjlt] at gr1
    rw [← hjt] at gr1
    have GR1 := Lib.hid gr1
    have x3 := hb1.next hS
    have yk := yk.below hS
    have rm3 := (rm.below hb1).below hS
    have hB3j : Brd w3 (some ad3) (p.take j) := hB3.front (by omega)
    rw [← hjt] at hB3j
    clear gr1 hj0 hr1 hr2 hsl hjt hi2 hj2
    go_wp2
    go_region_held3 (fun w' => Below w3.heap.size w3 w') (first | assumption | exact (Below.refl _ _).drew | exact Below.drew (by assumption) | exact below_dN (by assumption) _ | exact Below.refl _ _ | simp [*, go_sem])
      (first
        | (go_at_call 33; refine Calls.mono (GK.out _ (yk.below (by assumption))) ?_; rintro e w4 ⟨v4, rfl, ho4, hb4⟩; obtain ⟨B4, d4, rfl, hn4, hd4, hB4⟩ := kds_slice ho4; have hS4 : Below w3.heap.size w3 w4 := Below.next (by assumption) hb4)
        | (go_at_call 36; refine Calls.mono (GR1.out B4 d4 _ hB4 (hB3j.below (by assumption)) (hE.next (x3.next (by assumption)))) ?_; rintro e w5 ⟨v5, rfl, ho5, hb5⟩; have hS5 : Below w3.heap.size w3 w5 := Below.next (by assumption) hb5))
    have x5 := x3.next hS5
    have yk := yk.below hS5
    have rm5 := rm3.below hS5
    have hB5 := hB3.below hS5
    have hrl : (more.take 20).length ≤ 20 := List.length_take_le _ _
    have gm := fun W h => cut3_any M mc 20 more W h nm mm (by decide)
    generalize more.take 20 = r at *
    have hpr : (p ++ (r ++ [0])).length = p.length + (r.length + 1) := by simp
    have gr2 := fun B d C cc W h1 h2 h3 h4 h5 => rowread_any B C d cc ks (p ++ (r ++ [0])) W h1 (by omega) h2 h3 h4 h5
    rw [HMORE.out (r ++ [0]) (by simp), hpr] at gr2
    clear hpr
    have GR2 := Lib.hid gr2
    have GM := Lib.hid gm
    clear gr2 gm ho3 ho4 ho5 hB3j
    go_wp2_with fail
    refine Calls.mono (GK.out _ yk) ?_
    rintro e w6 ⟨v6, rfl, ho6, hb6⟩
    obtain ⟨B6, d6, rfl, hn6, hd6, hB6⟩ := kds_slice ho6
    have x6 := x5.next hb6
    have rm6 := rm5.below hb6
    have hB6p := hB5.below hb6
    go_wp2_with fail
    refine (copy3_any (some ad3) d3 p w6 hB6p (by omega)).mono ?_
    rintro e w7 ⟨v7, rfl, ho7, hb7⟩
    have x7 := x6.next hb7
    have rm7 := rm6.below hb7
    go_wp2_with fail
    refine (GM.out w7 rm7).mono ?_
    rintro e w8 ⟨v8, rfl, ho8, hb8⟩
    have z8 := hb8.size
    go_wp2_with (first
      | (at_builtin; refine wpList_append_src _ rfl (.tmp 49) (.tmp 50) 24 24 rfl w7.heap.size 5 _ _ 1 1 Tryd.underlying24 hi0 hz0 hz1 hz2 rfl _ _ _ rfl (World.ownsRow.alloc ho8 _) _ 1 (bcells [0]) rfl (src_rd Tryd.underlying24 _ (rd_lit (cs := bcells [0]) (by first | rfl | simp) rfl rfl) (by decide) (bcells_one _)) (by simp only [maxLen]; omega) (by omega) (by simp; omega) ?_; intro v9 w9 ho9 hg9 ha9; have Y9 : Below w7.heap.size w7 w9 := (hb8.alloc z8 _).trans (grown_below (World.ownsRow.alloc ho8 _) hg9 (by simp; omega)); have ho7' := own_below ho7 Y9; obtain ⟨A9, d9, rfl, hn9, hd9, hR9⟩ := own_form ho9)
      | (at_builtin; refine wpList_append_src _ rfl (.tmp 47) (.tmp 51) 24 24 rfl w6.heap.size 5 _ _ 1 1 Tryd.underlying24 hi0 hz0 hz1 hz2 rfl _ _ _ rfl ho7' _ (r.length + 1) (bcells r ++ bcells [0]) rfl (src_rd Tryd.underlying24 _ hR9 (by decide) (by rw [← bcells_append]; exact bcells_one _)) (by simp only [maxLen]; omega) (by omega) (Nat.le_trans hb7.size Y9.size) ?_; intro v10 w10 ho10 hg10 ha10; obtain ⟨A10, d10, rfl, hn10, hd10, hR10⟩ := own_form ho10))
    have X10 : Below w6.heap.size w6 w10 := hb7.trans ((Y9.mono hb7.size).trans (grown_below ho7' hg10 (Nat.le_trans hb7.size Y9.size)))
    have x10 := x6.next X10
    have hB10 : Brd w10 A10 (p ++ (r ++ [0])) := by
      unfold Brd
      rw [List.length_append, List.length_append, bcells_append, bcells_append]
      exact hR10
    refine (GR2.out B6 d6 A10 d10 w10 (hB6.below X10) hB10 hn10 hd10 (hE.next x10)).mono ?_
    rintro e w11 ⟨v11, rfl, ho11, hb11⟩
    go_wp2
    go_ret
    exact ⟨rfl, x10.next hb11⟩
theorem walk (K A0 M : Option Addr) (kc c0 mc : Nat) (k0 : List UInt8) (l0 : List Val) (a : Int) (more : List UInt8) (w : World) (hE : Env w) (rk : Brd w K k0) (nk : k0.length ≤ kc) (mk : kc ≤ 9223372036854775807) (r0 : Vrd w A0 l0) (n0 : l0.length ≤ c0) (m0 : c0 ≤ 9223372036854775807) (o0 : ∀ x ∈ l0, ValOk x) (ha : (Lit.int .u8 a).wf = true) (rm : Brd w M more) (nm : more.length ≤ mc) (mm : mc ≤ 9223372036854775807) :
    Calls Tryd.prog 12 #[.slice K k0.length kc, .slice A0 l0.length c0, .int .u8 a, .slice M more.length mc] w fun e w' => e = .returned (.bool true) ∧ Below w.heap.size w w' := by
  by_cases hm : rwE (k0.take 12) (l0.take 12) = 0
  · exact walk_z K A0 M kc c0 mc k0 l0 a more w hE rk (front12 r0) rm (wf_u8 ha) nk mk n0 m0 nm mm (ok_take o0 12) hm
  · exact walk_x K A0 M kc c0 mc k0 l0 a more w hE rk (front12 r0) rm (wf_u8 ha) nk mk n0 m0 nm mm (ok_take o0 12) hm
end Go.Proofs.YtdlgobakoomkpaaDoor.rowCuts
