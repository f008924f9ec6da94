/-
  RowBytes: the walk: where the library's tables hold what its text lays, the law answers true; of what was there nothing has turned.
-/
import Derived.Test.YtdlgobakoomkpaaDoorAwake4
import Derived.Test.YtdlgobakoomkpaaDoorRowB
import Derived.Test.YtdlgobakoomkpaaDoorSameRow
import Derived.Test.YtdlgobakoomkpaaDoorDoorB
import Derived.Test.YtdlgobakoomkpaaDoorRef4B
import Derived.Test.YtdlgobakoomkpaaDoorRowH
import Derived.Deep.QuietTactic
import Derived.BigQuiet
namespace Go.Proofs.YtdlgobakoomkpaaDoor.rowBytes
open Go.RowKit

theorem front12 {w : World} {A : Option Addr} {l : List Val} (h : Vrd w A l) : Vrd w A (l.take 12) := by
  by_cases hl : 12 ≤ l.length
  · exact h.front hl
  · rw [List.take_of_length_le (by omega)]; exact h
theorem neqval (k i : Int) (s : ByteArray) (b : Bool) (w : World) :
    (binOp .neq 43 (.agg #[.int .u8 k, .int .i64 i, .string s, .bool b]) (.agg #[.int .u8 k, .int .i64 i, .string s, .bool b])).run Tryd.prog w = .ok (.bool false) w := by
  go_simp

set_option maxHeartbeats 4000000 in
theorem walk_x (K A0 : Option Addr) (kc c0 : Nat) (k0 : List UInt8) (l0 : List Val) (w : World) (hE : Env w) (rk : Brd w K k0) (r0 : Vrd w A0 (l0.take 12))
    (nk : k0.length ≤ kc) (mk : kc ≤ 9223372036854775807) (n0 : l0.length ≤ c0) (m0 : c0 ≤ 9223372036854775807) (o0 : ∀ x ∈ l0.take 12, ValOk x)
    (hm : rwE (k0.take 12) (l0.take 12) ≠ 0) :
    Calls Tryd.prog 9 #[.slice K k0.length kc, .slice A0 l0.length c0] w fun e w' => e = .returned (.bool true) ∧ Below w.heap.size w w' := by
  obtain ⟨i4, hi4, hv0, hv1, hv2⟩ := info_parts info_val
  have e0 : (l0.take 12).length = min l0.length 12 := by rw [List.length_take, Nat.min_comm]
  have ek : (k0.take 12).length ≤ 12 := List.length_take_le _ _
  have gk := fun W h => kinds_any K kc k0 W h (by omega)
  generalize k0.take 12 = ks at *
  generalize l0.take 12 = la at *
  have f0 : min (l0.length : Int) 12 = (la.length : Int) := by omega
  have g0 : la.length ≤ 12 := by omega
  have g2 : la.length ≤ l0.length := by omega
  have gb := fun B d A c W h1 h2 h3 => rowbytes_any B A d c ks la W h1 (by omega) (by omega) h2 o0 h3
  have g4 := fun B d A c W h1 h2 => r04bytes_any B A d c ks la W h1 (by omega) (by omega) h2 o0
  have gf := fun B d A c W h1 h2 h3 => rowfits_any B A d c ks la W h1 (by omega) (by omega) h2 o0 h3
  rw [rwB_no hm] at gb g4
  generalize hme : rwE ks la = m at *
  have hmb : (m != 0) = true := by simpa using hm
  have gr := fun B K d c W h1 h2 h3 h4 => rowread_any B K d c ks [] W h1 (by omega) h2 (by simp) h3 h4
  generalize rrE ks [] = re at *
  generalize rrL ks [] = rl at *
  have hpq : leqB ([] : List UInt8) [] = true := by simp [leqB]
  obtain ⟨p, hp⟩ : ∃ p : List UInt8, p = [] := ⟨_, rfl⟩
  clear hm hme
  have GK := Lib.hid gk
  have GB := Lib.hid gb
  have G4 := Lib.hid g4
  have GF := Lib.hid gf
  have GR := Lib.hid gr
  clear e0 gk gb g4 gf gr
  go_enter Tryd.func9, Tryd.ntmps9
  go_wp2_with fail
  refine (awake4_any _ hE).mono ?_
  rintro e w1 ⟨rfl, hb1⟩
  have yk := rk.below hb1
  have y0 := r0.below hb1
  go_wp2_with (first
    | (at_builtin; refine wpList_append_src _ rfl (.tmp 15) (.tmp 20) 22 22 rfl w1.heap.size 43 _ _ 4 40 Tryd.underlying22 hi4 hv0 hv1 hv2 rfl _ 0 [] rfl (made_nil w1 _ 4) _ la.length (vcells la) rfl (src_rd Tryd.underlying22 _ (Rd.alloc y0 _) (by decide) (vcells_one _)) (by simp only [maxLen]; omega) (by omega) (by simp) ?_; intro v2 w2 ho2 hg2 ha2; have hb2 : Below w1.heap.size w1 w2 := ((Below.refl _ _).alloc (Nat.le_refl _) _).trans (grown_below (made_nil w1 _ 4) hg2 (by simp)); obtain ⟨A2, d2, rfl, hn2, hd2, hV2⟩ := vls_slice (vls_of (m := la) ho2 (by simp)); have x2 := hb1.next hb2)
    | (at_builtin; refine wpList_append_src _ rfl (.tmp 22) (.tmp 23) 22 22 rfl w2.heap.size 43 _ _ 4 40 Tryd.underlying22 hi4 hv0 hv1 hv2 rfl _ 0 [] rfl (made_nil w2 _ 4) _ la.length (vcells la) rfl (src_rd Tryd.underlying22 _ (Rd.alloc hV2 _) (by decide) (vcells_one _)) (by simp only [maxLen]; omega) (by omega) (by simp) ?_; intro v3 w3 ho3 hg3 ha3; have hb3 : Below w2.heap.size w2 w3 := ((Below.refl _ _).alloc (Nat.le_refl _) _).trans (grown_below (made_nil w2 _ 4) hg3 (by simp)); obtain ⟨A3, d3, rfl, hn3, hd3, hV3⟩ := vls_slice (vls_of (m := la) ho3 (by simp)); have x3 := x2.next hb3))
  have yk := (yk.below hb2).below hb3
  have hV2 := hV2.below hb3
  refine (GK.out w3 yk).mono ?_
  rintro e w4 ⟨v4, rfl, ho4, hb4⟩
  obtain ⟨B4, d4, rfl, hn4, hd4, hB4⟩ := kds_slice ho4
  have x4 := x3.next hb4
  have yk := yk.below hb4
  have hV2 := hV2.below hb4
  have hV3 := hV3.below hb4
  go_wp2_with fail
  refine (GB.out B4 d4 A3 d3 w4 hB4 hV3 (hE.next x4)).mono ?_
  rintro e w5 ⟨v5, rfl, ho5, hb5⟩
  obtain ⟨B5, d5, rfl, hn5, hd5, hB5⟩ := byt_slice ho5
  have x5 := x4.next hb5
  have yk := yk.below hb5
  have hV2 := hV2.below hb5
  have hV3 := hV3.below hb5
  go_wp2_with fail
  refine (GK.out w5 yk).mono ?_
  rintro e w6 ⟨v6, rfl, ho6, hb6⟩
  obtain ⟨B6, d6, rfl, hn6, hd6, hB6⟩ := kds_slice ho6
  have x6 := x5.next hb6
  have yk := yk.below hb6
  have hV2 := hV2.below hb6
  have hV3 := hV3.below hb6
  have hB5 := hB5.below hb6
  go_wp2_with fail
  refine (G4.out B6 d6 A2 d2 w6 hB6 hV2).mono ?_
  rintro e w7 ⟨v7, rfl, ho7, hb7⟩
  obtain ⟨B7, d7, rfl, hn7, hd7, hB7⟩ := byt_slice ho7
  have x7 := x6.next hb7
  have yk := yk.below hb7
  have hV2 := hV2.below hb7
  have hV3 := hV3.below hb7
  have hB5 := hB5.below hb7
  go_wp2_with fail
  refine (same3_any B5 B7 d5 d7 (([] : List UInt8)) (([] : List UInt8)) w7 hB5 hB7).mono ?_
  rintro e w8 ⟨rfl, hw8⟩
  have hw := hw8.symm
  subst hw
  rw [hpq]
  go_wp2_with fail
  refine (GK.out w7 yk).mono ?_
  rintro e w9 ⟨v9, rfl, ho9, hb9⟩
  obtain ⟨B9, d9, rfl, hn9, hd9, hB9⟩ := kds_slice ho9
  have x9 := x7.next hb9
  have yk := yk.below hb9
  have hV2 := hV2.below hb9
  have hV3 := hV3.below hb9
  have hB5 := hB5.below hb9
  go_wp2_with fail
  refine (GF.out B9 d9 A2 d2 w9 hB9 hV2 (hE.next x9)).mono ?_
  rintro e w10 ⟨rfl, hb10⟩
  have x10 := x9.next hb10
  have yk := yk.below hb10
  have hV2 := hV2.below hb10
  have hV3 := hV3.below hb10
  have hB5 := hB5.below hb10
  clear ho2 ho3 ho4 ho5 ho6 ho7 ho9 y0 r0 rk
  go_wp2
  go_loopw [58] (fun i wr => ∃ k : Nat, k ≤ la.length ∧ i = .int .i64 k ∧ Below w10.heap.size w10 wr) (fun i _ => la.length - (intOf i).toNat)
  case atStart => exact ⟨0, Nat.zero_le _, rfl, Below.refl _ _⟩
  case round =>
    obtain ⟨k, hk, rfl, hb⟩ := hrel
    by_cases hlt : k < la.length
    · obtain ⟨ad2, rfl, p0, p1, p2, p3, _⟩ := (hV2.below hb).at_ hlt
      obtain ⟨ad3, rfl, q0, q1, q2, q3, _⟩ := (hV3.below hb).at_ hlt
      have ix2 := idx_val ad2 la.length d2 k hlt
      have ix3 := idx_val ad3 la.length d3 k hlt
      have hne := neqval la[k].k la[k].i la[k].s la[k].b
      generalize la[k] = a at *
      clear hV2 hV3
      go_wp2
      go_quiet (fail)
      go_wp2
      go_roundw
      case rel => exact ⟨k + 1, by omega, by go_num, below_dN hb _⟩
      case measure => simp [intOf]; omega
    · obtain rfl : k = la.length := by omega
      have xr := x10.next hb
      have yk := yk.below hb
      have hB5 := hB5.below hb
      have hV2 := hV2.below hb
      go_wp2_with fail
      refine (GK.out wr yk).mono ?_
      rintro e w11 ⟨v11, rfl, ho11, hb11⟩
      obtain ⟨B11, d11, rfl, hn11, hd11, hB11⟩ := kds_slice ho11
      have x11 := xr.next hb11
      have hB5 := hB5.below hb11
      have hV2 := hV2.below hb11
      clear ho11
      go_wp2_with fail
      refine (GR.out B11 B5 d11 d5 w11 hB11 hB5 hd5 (hE.next x11)).mono ?_
      rintro e w12 ⟨v12, rfl, ho12, hb12⟩
      obtain ⟨A12, d12, rfl, hn12, hd12, hV12⟩ := vls_slice ho12
      have x12 := x11.next hb12
      have hV2 := hV2.below hb12
      clear ho12
      go_wp2
      go_ret
      exact ⟨rfl, x12⟩
set_option maxHeartbeats 4000000 in
theorem walk_z (K A0 : Option Addr) (kc c0 : Nat) (k0 : List UInt8) (l0 : List Val) (w : World) (hE : Env w) (rk : Brd w K k0) (r0 : Vrd w A0 (l0.take 12))
    (nk : k0.length ≤ kc) (mk : kc ≤ 9223372036854775807) (n0 : l0.length ≤ c0) (m0 : c0 ≤ 9223372036854775807) (o0 : ∀ x ∈ l0.take 12, ValOk x)
    (hm : rwE (k0.take 12) (l0.take 12) = 0) :
    Calls Tryd.prog 9 #[.slice K k0.length kc, .slice A0 l0.length c0] w fun e w' => e = .returned (.bool true) ∧ Below w.heap.size w w' := by
  obtain ⟨i4, hi4, hv0, hv1, hv2⟩ := info_parts info_val
  have e0 : (l0.take 12).length = min l0.length 12 := by rw [List.length_take, Nat.min_comm]
  have ek : (k0.take 12).length ≤ 12 := List.length_take_le _ _
  have gk := fun W h => kinds_any K kc k0 W h (by omega)
  generalize k0.take 12 = ks at *
  generalize l0.take 12 = la at *
  have f0 : min (l0.length : Int) 12 = (la.length : Int) := by omega
  have g0 : la.length ≤ 12 := by omega
  have g2 : la.length ≤ l0.length := by omega
  have gb := fun B d A c W h1 h2 h3 => rowbytes_any B A d c ks la W h1 (by omega) (by omega) h2 o0 h3
  have g4 := fun B d A c W h1 h2 => r04bytes_any B A d c ks la W h1 (by omega) (by omega) h2 o0
  have gf := fun B d A c W h1 h2 h3 => rowfits_any B A d c ks la W h1 (by omega) (by omega) h2 o0 h3
  rw [rwB_yes hm] at gb g4
  have hrr := rr_renc hm (in_take o0)
  have hra := (rwE_zero hm).2.2.1
  rw [hm] at gb g4 gf
  have gr := fun B K d c W h1 h2 h3 h4 h5 => rowread_any B K d c ks (renc la) W h1 (by omega) h2 h5 h3 h4
  rw [hrr.1, hrr.2] at gr
  generalize renc la = p at *
  have hpq : leqB p p = true := by simp [leqB]
  have HSR := Lib.hid (srow_refl la hra)
  clear hrr hra hm
  have GK := Lib.hid gk
  have GB := Lib.hid gb
  have G4 := Lib.hid g4
  have GF := Lib.hid gf
  have GR := Lib.hid gr
  clear e0 gk gb g4 gf gr
  go_enter Tryd.func9, Tryd.ntmps9
  go_wp2_with fail
  refine (awake4_any _ hE).mono ?_
  rintro e w1 ⟨rfl, hb1⟩
  have yk := rk.below hb1
  have y0 := r0.below hb1
  go_wp2_with (first
    | (at_builtin; refine wpList_append_src _ rfl (.tmp 15) (.tmp 20) 22 22 rfl w1.heap.size 43 _ _ 4 40 Tryd.underlying22 hi4 hv0 hv1 hv2 rfl _ 0 [] rfl (made_nil w1 _ 4) _ la.length (vcells la) rfl (src_rd Tryd.underlying22 _ (Rd.alloc y0 _) (by decide) (vcells_one _)) (by simp only [maxLen]; omega) (by omega) (by simp) ?_; intro v2 w2 ho2 hg2 ha2; have hb2 : Below w1.heap.size w1 w2 := ((Below.refl _ _).alloc (Nat.le_refl _) _).trans (grown_below (made_nil w1 _ 4) hg2 (by simp)); obtain ⟨A2, d2, rfl, hn2, hd2, hV2⟩ := vls_slice (vls_of (m := la) ho2 (by simp)); have x2 := hb1.next hb2)
    | (at_builtin; refine wpList_append_src _ rfl (.tmp 22) (.tmp 23) 22 22 rfl w2.heap.size 43 _ _ 4 40 Tryd.underlying22 hi4 hv0 hv1 hv2 rfl _ 0 [] rfl (made_nil w2 _ 4) _ la.length (vcells la) rfl (src_rd Tryd.underlying22 _ (Rd.alloc hV2 _) (by decide) (vcells_one _)) (by simp only [maxLen]; omega) (by omega) (by simp) ?_; intro v3 w3 ho3 hg3 ha3; have hb3 : Below w2.heap.size w2 w3 := ((Below.refl _ _).alloc (Nat.le_refl _) _).trans (grown_below (made_nil w2 _ 4) hg3 (by simp)); obtain ⟨A3, d3, rfl, hn3, hd3, hV3⟩ := vls_slice (vls_of (m := la) ho3 (by simp)); have x3 := x2.next hb3))
  have yk := (yk.below hb2).below hb3
  have hV2 := hV2.below hb3
  refine (GK.out w3 yk).mono ?_
  rintro e w4 ⟨v4, rfl, ho4, hb4⟩
  obtain ⟨B4, d4, rfl, hn4, hd4, hB4⟩ := kds_slice ho4
  have x4 := x3.next hb4
  have yk := yk.below hb4
  have hV2 := hV2.below hb4
  have hV3 := hV3.below hb4
  go_wp2_with fail
  refine (GB.out B4 d4 A3 d3 w4 hB4 hV3 (hE.next x4)).mono ?_
  rintro e w5 ⟨v5, rfl, ho5, hb5⟩
  obtain ⟨B5, d5, rfl, hn5, hd5, hB5⟩ := byt_slice ho5
  have x5 := x4.next hb5
  have yk := yk.below hb5
  have hV2 := hV2.below hb5
  have hV3 := hV3.below hb5
  go_wp2_with fail
  refine (GK.out w5 yk).mono ?_
  rintro e w6 ⟨v6, rfl, ho6, hb6⟩
  obtain ⟨B6, d6, rfl, hn6, hd6, hB6⟩ := kds_slice ho6
  have x6 := x5.next hb6
  have yk := yk.below hb6
  have hV2 := hV2.below hb6
  have hV3 := hV3.below hb6
  have hB5 := hB5.below hb6
  go_wp2_with fail
  refine (G4.out B6 d6 A2 d2 w6 hB6 hV2).mono ?_
  rintro e w7 ⟨v7, rfl, ho7, hb7⟩
  obtain ⟨B7, d7, rfl, hn7, hd7, hB7⟩ := byt_slice ho7
  have x7 := x6.next hb7
  have yk := yk.below hb7
  have hV2 := hV2.below hb7
  have hV3 := hV3.below hb7
  have hB5 := hB5.below hb7
  go_wp2_with fail
  refine (same3_any B5 B7 d5 d7 (p) (p) w7 hB5 hB7).mono ?_
  rintro e w8 ⟨rfl, hw8⟩
  have hw := hw8.symm
  subst hw
  rw [hpq]
  go_wp2_with fail
  refine (GK.out w7 yk).mono ?_
  rintro e w9 ⟨v9, rfl, ho9, hb9⟩
  obtain ⟨B9, d9, rfl, hn9, hd9, hB9⟩ := kds_slice ho9
  have x9 := x7.next hb9
  have yk := yk.below hb9
  have hV2 := hV2.below hb9
  have hV3 := hV3.below hb9
  have hB5 := hB5.below hb9
  go_wp2_with fail
  refine (GF.out B9 d9 A2 d2 w9 hB9 hV2 (hE.next x9)).mono ?_
  rintro e w10 ⟨rfl, hb10⟩
  have x10 := x9.next hb10
  have yk := yk.below hb10
  have hV2 := hV2.below hb10
  have hV3 := hV3.below hb10
  have hB5 := hB5.below hb10
  clear ho2 ho3 ho4 ho5 ho6 ho7 ho9 y0 r0 rk
  go_wp2
  go_loopw [58] (fun i wr => ∃ k : Nat, k ≤ la.length ∧ i = .int .i64 k ∧ Below w10.heap.size w10 wr) (fun i _ => la.length - (intOf i).toNat)
  case atStart => exact ⟨0, Nat.zero_le _, rfl, Below.refl _ _⟩
  case round =>
    obtain ⟨k, hk, rfl, hb⟩ := hrel
    by_cases hlt : k < la.length
    · obtain ⟨ad2, rfl, p0, p1, p2, p3, _⟩ := (hV2.below hb).at_ hlt
      obtain ⟨ad3, rfl, q0, q1, q2, q3, _⟩ := (hV3.below hb).at_ hlt
      have ix2 := idx_val ad2 la.length d2 k hlt
      have ix3 := idx_val ad3 la.length d3 k hlt
      have hne := neqval la[k].k la[k].i la[k].s la[k].b
      generalize la[k] = a at *
      clear hV2 hV3
      go_wp2
      go_quiet (fail)
      go_wp2
      go_roundw
      case rel => exact ⟨k + 1, by omega, by go_num, below_dN hb _⟩
      case measure => simp [intOf]; omega
    · obtain rfl : k = la.length := by omega
      have xr := x10.next hb
      have yk := yk.below hb
      have hB5 := hB5.below hb
      have hV2 := hV2.below hb
      go_wp2_with fail
      refine (GK.out wr yk).mono ?_
      rintro e w11 ⟨v11, rfl, ho11, hb11⟩
      obtain ⟨B11, d11, rfl, hn11, hd11, hB11⟩ := kds_slice ho11
      have x11 := xr.next hb11
      have hB5 := hB5.below hb11
      have hV2 := hV2.below hb11
      clear ho11
      go_wp2_with fail
      refine (GR.out B11 B5 d11 d5 w11 hB11 hB5 hd5 (hE.next x11) hn5).mono ?_
      rintro e w12 ⟨v12, rfl, ho12, hb12⟩
      obtain ⟨A12, d12, rfl, hn12, hd12, hV12⟩ := vls_slice ho12
      have x12 := x11.next hb12
      have hV2 := hV2.below hb12
      clear ho12
      go_wp2_with fail
      refine (samerow_any A12 A2 d12 d2 la la w12 hV12 hV2 (by omega)).mono ?_
      rintro e w13 ⟨rfl, hb13⟩
      rw [HSR.out]
      go_wp2
      go_ret
      exact ⟨rfl, x12.next hb13⟩
theorem walk (K A0 : Option Addr) (kc c0 : Nat) (k0 : List UInt8) (l0 : List Val) (w : World) (hE : Env w) (rk : Brd w K k0) (nk : k0.length ≤ kc) (mk : kc ≤ 9223372036854775807) (r0 : Vrd w A0 l0) (n0 : l0.length ≤ c0) (m0 : c0 ≤ 9223372036854775807) (o0 : ∀ x ∈ l0, ValOk x) :
    Calls Tryd.prog 9 #[.slice K k0.length kc, .slice A0 l0.length c0] w fun e w' => e = .returned (.bool true) ∧ Below w.heap.size w w' := by
  by_cases hm : rwE (k0.take 12) (l0.take 12) = 0
  · exact walk_z K A0 kc c0 k0 l0 w hE rk (front12 r0) nk mk n0 m0 (ok_take o0 12) hm
  · exact walk_x K A0 kc c0 k0 l0 w hE rk (front12 r0) nk mk n0 m0 (ok_take o0 12) hm
end Go.Proofs.YtdlgobakoomkpaaDoor.rowBytes
