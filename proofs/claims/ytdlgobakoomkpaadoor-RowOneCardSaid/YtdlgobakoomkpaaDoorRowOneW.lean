/-
  RowOne: the walk: where the library's tables hold what its text lays, the law answers true; of what was there nothing has turned.
-/
import Derived.Test.YtdlgobakoomkpaaDoorAwake4
import Derived.Test.YtdlgobakoomkpaaDoorRowB
import Derived.Test.YtdlgobakoomkpaaDoorSameRow
import Derived.Test.YtdlgobakoomkpaaDoorDoorB
import Derived.RegionTactic
import Derived.ChangeAlike
namespace Go.Proofs.YtdlgobakoomkpaaDoor.rowOne
open Go.RowKit

theorem front12 {w : World} {A : Option Addr} {l : List Val} (h : Vrd w A l) : Vrd w A (l.take 12) := by
  by_cases hl : 12 ≤ l.length
  · exact h.front hl
  · rw [List.take_of_length_le (by omega)]; exact h
theorem one_eq {ks : List UInt8} {a b : List Val} (ha : rwE ks a = 0) (hb : rwE ks b = 0) (ia : ∀ v ∈ a, In63 v) (ib : ∀ v ∈ b, In63 v) : leqB (renc a) (renc b) = srow a b := by
  have ra := (rwE_zero ha).2.2.1
  have rb := (rwE_zero hb).2.2.1
  by_cases h : a = b
  · subst h
    rw [srow_refl a ra]; simp [leqB]
  · have h1 : leqB (renc a) (renc b) = false := by
      unfold leqB
      rw [beq_eq_false_iff_ne]
      exact fun e => h (renc_inj ha hb ia ib e)
    have h2 : srow a b = false := Bool.eq_false_iff.2 fun e => h (srow_eq a b ra rb e)
    rw [h1, h2]

set_option maxHeartbeats 2000000 in
theorem walk_x (K A0 A1 : Option Addr) (kc c0 c1 : Nat) (k0 : List UInt8) (l0 l1 : List Val) (w : World) (hE : Env w) (rk : Brd w K k0) (r0 : Vrd w A0 (l0.take 12)) (r1 : Vrd w A1 (l1.take 12))
    (nk : k0.length ≤ kc) (mk : kc ≤ 9223372036854775807) (n0 : l0.length ≤ c0) (n1 : l1.length ≤ c1) (m0 : c0 ≤ 9223372036854775807) (m1 : c1 ≤ 9223372036854775807) (o0 : ∀ x ∈ l0.take 12, ValOk x) (o1 : ∀ x ∈ l1.take 12, ValOk x)
    (hm : rwE (k0.take 12) (l0.take 12) ≠ 0) :
    Calls Tryd.prog 11 #[.slice K k0.length kc, .slice A0 l0.length c0, .slice A1 l1.length c1] w fun e w' => e = .returned (.bool true) ∧ Below w.heap.size w w' := by
  have e0 : (l0.take 12).length = min l0.length 12 := by rw [List.length_take, Nat.min_comm]
  have e1 : (l1.take 12).length = min l1.length 12 := by rw [List.length_take, Nat.min_comm]
  have ek : (k0.take 12).length ≤ 12 := List.length_take_le _ _
  have gk := fun W h => kinds_any K kc k0 W h (by omega)
  generalize k0.take 12 = ks at *
  generalize l0.take 12 = la at *
  generalize l1.take 12 = lb at *
  have f0 : min (l0.length : Int) 12 = (la.length : Int) := by omega
  have f1 : min (l1.length : Int) 12 = (lb.length : Int) := by omega
  have g0 : la.length ≤ 12 := by omega
  have g1 : lb.length ≤ 12 := by omega
  have g2 : la.length ≤ l0.length := by omega
  have g3 : lb.length ≤ l1.length := by omega
  have gb0 := fun B d W h1 h2 h3 => rowbytes_any B A0 d c0 ks la W h1 (by omega) (by omega) h2 o0 h3
  have gb1 := fun B d W h1 h2 h3 => rowbytes_any B A1 d c1 ks lb W h1 (by omega) (by omega) h2 o1 h3
  generalize rwE ks la = m at *
  have hmb : (m != 0) = true := by simpa using hm
  clear hm
  have GK := Lib.hid gk
  have GB0 := Lib.hid gb0
  have GB1 := Lib.hid gb1
  clear e0 e1 gk gb0 gb1
  go_enter Tryd.func11, Tryd.ntmps11
  go_wp2_with fail
  refine (awake4_any _ hE).mono ?_
  rintro e w1 ⟨rfl, hb1⟩
  have yk := rk.below hb1
  have y0 := r0.below hb1
  have y1 := r1.below hb1
  go_wp2
  go_region
  all_goals
    have x1 : Below w.heap.size w w1.drew := hb1.drew
    go_wp2_with fail
    refine (GK.out w1.drew yk.drew).mono ?_
    rintro e w2 ⟨v2, rfl, ho2, hb2⟩
    obtain ⟨B2, d2, rfl, hn2, hd2, hB2⟩ := kds_slice ho2
    have x2 := x1.next hb2
    have yk := yk.drew.below hb2
    have y0 := y0.drew.below hb2
    have y1 := y1.drew.below hb2
    go_wp2_with fail
    refine (GB0.out B2 d2 w2 hB2 y0 (hE.next x2)).mono ?_
    rintro e w3 ⟨v3, rfl, ho3, hb3⟩
    obtain ⟨B3, d3, rfl, hn3, hd3, hB3⟩ := byt_slice ho3
    have x3 := x2.next hb3
    have yk := yk.below hb3
    have y0 := y0.below hb3
    have y1 := y1.below hb3
    go_wp2_with fail
    refine (GK.out w3 yk).mono ?_
    rintro e w4 ⟨v4, rfl, ho4, hb4⟩
    obtain ⟨B4, d4, rfl, hn4, hd4, hB4⟩ := kds_slice ho4
    have x4 := x3.next hb4
    have y0 := y0.below hb4
    have y1 := y1.below hb4
    have hB3 := hB3.below hb4
    go_wp2_with fail
    refine (GB1.out B4 d4 w4 hB4 y1 (hE.next x4)).mono ?_
    rintro e w5 ⟨v5, rfl, ho5, hb5⟩
    obtain ⟨B5, d5, rfl, hn5, hd5, hB5⟩ := byt_slice ho5
    have x5 := x4.next hb5
    have y0 := y0.below hb5
    have y1 := y1.below hb5
    have hB3 := hB3.below hb5
    clear ho2 ho3 ho4 ho5
    go_wp2
    go_ret
    exact ⟨rfl, x5⟩
set_option maxHeartbeats 2000000 in
theorem walk_y (K A0 A1 : Option Addr) (kc c0 c1 : Nat) (k0 : List UInt8) (l0 l1 : List Val) (w : World) (hE : Env w) (rk : Brd w K k0) (r0 : Vrd w A0 (l0.take 12)) (r1 : Vrd w A1 (l1.take 12))
    (nk : k0.length ≤ kc) (mk : kc ≤ 9223372036854775807) (n0 : l0.length ≤ c0) (n1 : l1.length ≤ c1) (m0 : c0 ≤ 9223372036854775807) (m1 : c1 ≤ 9223372036854775807) (o0 : ∀ x ∈ l0.take 12, ValOk x) (o1 : ∀ x ∈ l1.take 12, ValOk x)
    (hm : rwE (k0.take 12) (l0.take 12) = 0) (hn : rwE (k0.take 12) (l1.take 12) ≠ 0) :
    Calls Tryd.prog 11 #[.slice K k0.length kc, .slice A0 l0.length c0, .slice A1 l1.length c1] w fun e w' => e = .returned (.bool true) ∧ Below w.heap.size w w' := by
  have e0 : (l0.take 12).length = min l0.length 12 := by rw [List.length_take, Nat.min_comm]
  have e1 : (l1.take 12).length = min l1.length 12 := by rw [List.length_take, Nat.min_comm]
  have ek : (k0.take 12).length ≤ 12 := List.length_take_le _ _
  have gk := fun W h => kinds_any K kc k0 W h (by omega)
  generalize k0.take 12 = ks at *
  generalize l0.take 12 = la at *
  generalize l1.take 12 = lb at *
  have f0 : min (l0.length : Int) 12 = (la.length : Int) := by omega
  have f1 : min (l1.length : Int) 12 = (lb.length : Int) := by omega
  have g0 : la.length ≤ 12 := by omega
  have g1 : lb.length ≤ 12 := by omega
  have g2 : la.length ≤ l0.length := by omega
  have g3 : lb.length ≤ l1.length := by omega
  have gb0 := fun B d W h1 h2 h3 => rowbytes_any B A0 d c0 ks la W h1 (by omega) (by omega) h2 o0 h3
  have gb1 := fun B d W h1 h2 h3 => rowbytes_any B A1 d c1 ks lb W h1 (by omega) (by omega) h2 o1 h3
  rw [hm] at gb0
  generalize rwE ks lb = m at *
  have hmb : (m != 0) = true := by simpa using hn
  clear hm hn
  have GK := Lib.hid gk
  have GB0 := Lib.hid gb0
  have GB1 := Lib.hid gb1
  clear e0 e1 gk gb0 gb1
  go_enter Tryd.func11, Tryd.ntmps11
  go_wp2_with fail
  refine (awake4_any _ hE).mono ?_
  rintro e w1 ⟨rfl, hb1⟩
  have yk := rk.below hb1
  have y0 := r0.below hb1
  have y1 := r1.below hb1
  go_wp2
  go_region
  all_goals
    have x1 : Below w.heap.size w w1.drew := hb1.drew
    go_wp2_with fail
    refine (GK.out w1.drew yk.drew).mono ?_
    rintro e w2 ⟨v2, rfl, ho2, hb2⟩
    obtain ⟨B2, d2, rfl, hn2, hd2, hB2⟩ := kds_slice ho2
    have x2 := x1.next hb2
    have yk := yk.drew.below hb2
    have y0 := y0.drew.below hb2
    have y1 := y1.drew.below hb2
    go_wp2_with fail
    refine (GB0.out B2 d2 w2 hB2 y0 (hE.next x2)).mono ?_
    rintro e w3 ⟨v3, rfl, ho3, hb3⟩
    obtain ⟨B3, d3, rfl, hn3, hd3, hB3⟩ := byt_slice ho3
    have x3 := x2.next hb3
    have yk := yk.below hb3
    have y0 := y0.below hb3
    have y1 := y1.below hb3
    go_wp2_with fail
    refine (GK.out w3 yk).mono ?_
    rintro e w4 ⟨v4, rfl, ho4, hb4⟩
    obtain ⟨B4, d4, rfl, hn4, hd4, hB4⟩ := kds_slice ho4
    have x4 := x3.next hb4
    have y0 := y0.below hb4
    have y1 := y1.below hb4
    have hB3 := hB3.below hb4
    go_wp2_with fail
    refine (GB1.out B4 d4 w4 hB4 y1 (hE.next x4)).mono ?_
    rintro e w5 ⟨v5, rfl, ho5, hb5⟩
    obtain ⟨B5, d5, rfl, hn5, hd5, hB5⟩ := byt_slice ho5
    have x5 := x4.next hb5
    have y0 := y0.below hb5
    have y1 := y1.below hb5
    have hB3 := hB3.below hb5
    clear ho2 ho3 ho4 ho5
    go_wp2
    go_ret
    exact ⟨rfl, x5⟩
set_option maxHeartbeats 2000000 in
theorem walk_z (K A0 A1 : Option Addr) (kc c0 c1 : Nat) (k0 : List UInt8) (l0 l1 : List Val) (w : World) (hE : Env w) (rk : Brd w K k0) (r0 : Vrd w A0 (l0.take 12)) (r1 : Vrd w A1 (l1.take 12))
    (nk : k0.length ≤ kc) (mk : kc ≤ 9223372036854775807) (n0 : l0.length ≤ c0) (n1 : l1.length ≤ c1) (m0 : c0 ≤ 9223372036854775807) (m1 : c1 ≤ 9223372036854775807) (o0 : ∀ x ∈ l0.take 12, ValOk x) (o1 : ∀ x ∈ l1.take 12, ValOk x)
    (hm : rwE (k0.take 12) (l0.take 12) = 0) (hn : rwE (k0.take 12) (l1.take 12) = 0) :
    Calls Tryd.prog 11 #[.slice K k0.length kc, .slice A0 l0.length c0, .slice A1 l1.length c1] w fun e w' => e = .returned (.bool true) ∧ Below w.heap.size w w' := by
  have e0 : (l0.take 12).length = min l0.length 12 := by rw [List.length_take, Nat.min_comm]
  have e1 : (l1.take 12).length = min l1.length 12 := by rw [List.length_take, Nat.min_comm]
  have ek : (k0.take 12).length ≤ 12 := List.length_take_le _ _
  have gk := fun W h => kinds_any K kc k0 W h (by omega)
  generalize k0.take 12 = ks at *
  generalize l0.take 12 = la at *
  generalize l1.take 12 = lb at *
  have f0 : min (l0.length : Int) 12 = (la.length : Int) := by omega
  have f1 : min (l1.length : Int) 12 = (lb.length : Int) := by omega
  have g0 : la.length ≤ 12 := by omega
  have g1 : lb.length ≤ 12 := by omega
  have g2 : la.length ≤ l0.length := by omega
  have g3 : lb.length ≤ l1.length := by omega
  have gb0 := fun B d W h1 h2 h3 => rowbytes_any B A0 d c0 ks la W h1 (by omega) (by omega) h2 o0 h3
  have gb1 := fun B d W h1 h2 h3 => rowbytes_any B A1 d c1 ks lb W h1 (by omega) (by omega) h2 o1 h3
  have hq := one_eq hm hn (in_take o0) (in_take o1)
  rw [hm, rwB_yes hm] at gb0
  rw [hn, rwB_yes hn] at gb1
  generalize renc la = pa at *
  generalize renc lb = pb at *
  have HQ := Lib.hid hq
  clear hq hm hn
  have GK := Lib.hid gk
  have GB0 := Lib.hid gb0
  have GB1 := Lib.hid gb1
  clear e0 e1 gk gb0 gb1
  go_enter Tryd.func11, Tryd.ntmps11
  go_wp2_with fail
  refine (awake4_any _ hE).mono ?_
  rintro e w1 ⟨rfl, hb1⟩
  have yk := rk.below hb1
  have y0 := r0.below hb1
  have y1 := r1.below hb1
  go_wp2
  go_region
  all_goals
    have x1 : Below w.heap.size w w1.drew := hb1.drew
    go_wp2_with fail
    refine (GK.out w1.drew yk.drew).mono ?_
    rintro e w2 ⟨v2, rfl, ho2, hb2⟩
    obtain ⟨B2, d2, rfl, hn2, hd2, hB2⟩ := kds_slice ho2
    have x2 := x1.next hb2
    have yk := yk.drew.below hb2
    have y0 := y0.drew.below hb2
    have y1 := y1.drew.below hb2
    go_wp2_with fail
    refine (GB0.out B2 d2 w2 hB2 y0 (hE.next x2)).mono ?_
    rintro e w3 ⟨v3, rfl, ho3, hb3⟩
    obtain ⟨B3, d3, rfl, hn3, hd3, hB3⟩ := byt_slice ho3
    have x3 := x2.next hb3
    have yk := yk.below hb3
    have y0 := y0.below hb3
    have y1 := y1.below hb3
    go_wp2_with fail
    refine (GK.out w3 yk).mono ?_
    rintro e w4 ⟨v4, rfl, ho4, hb4⟩
    obtain ⟨B4, d4, rfl, hn4, hd4, hB4⟩ := kds_slice ho4
    have x4 := x3.next hb4
    have y0 := y0.below hb4
    have y1 := y1.below hb4
    have hB3 := hB3.below hb4
    go_wp2_with fail
    refine (GB1.out B4 d4 w4 hB4 y1 (hE.next x4)).mono ?_
    rintro e w5 ⟨v5, rfl, ho5, hb5⟩
    obtain ⟨B5, d5, rfl, hn5, hd5, hB5⟩ := byt_slice ho5
    have x5 := x4.next hb5
    have y0 := y0.below hb5
    have y1 := y1.below hb5
    have hB3 := hB3.below hb5
    clear ho2 ho3 ho4 ho5
    go_wp2_with fail
    refine (same3_any B3 B5 d3 d5 pa pb w5 hB3 hB5).mono ?_
    rintro e w6 ⟨rfl, hw6⟩
    have hw := hw6.symm
    subst hw
    rw [HQ.out]
    go_wp2_with fail
    refine (samerow_any A0 A1 c0 c1 la lb w5 y0 y1 (by omega)).mono ?_
    rintro e w7 ⟨rfl, hb7⟩
    generalize srow la lb = x
    go_wp2
    go_ret
    exact ⟨by simp, x5.next hb7⟩
theorem walk (K A0 A1 : Option Addr) (kc c0 c1 : Nat) (k0 : List UInt8) (l0 l1 : List Val) (w : World) (hE : Env w) (rk : Brd w K k0) (nk : k0.length ≤ kc) (mk : kc ≤ 9223372036854775807) (r0 : Vrd w A0 l0) (n0 : l0.length ≤ c0) (m0 : c0 ≤ 9223372036854775807) (o0 : ∀ x ∈ l0, ValOk x) (r1 : Vrd w A1 l1) (n1 : l1.length ≤ c1) (m1 : c1 ≤ 9223372036854775807) (o1 : ∀ x ∈ l1, ValOk x) :
    Calls Tryd.prog 11 #[.slice K k0.length kc, .slice A0 l0.length c0, .slice A1 l1.length c1] w fun e w' => e = .returned (.bool true) ∧ Below w.heap.size w w' := by
  by_cases hm : rwE (k0.take 12) (l0.take 12) = 0
  · by_cases hn : rwE (k0.take 12) (l1.take 12) = 0
    · exact walk_z K A0 A1 kc c0 c1 k0 l0 l1 w hE rk (front12 r0) (front12 r1) nk mk n0 n1 m0 m1 (ok_take o0 12) (ok_take o1 12) hm hn
    · exact walk_y K A0 A1 kc c0 c1 k0 l0 l1 w hE rk (front12 r0) (front12 r1) nk mk n0 n1 m0 m1 (ok_take o0 12) (ok_take o1 12) hm hn
  · exact walk_x K A0 A1 kc c0 c1 k0 l0 l1 w hE rk (front12 r0) (front12 r1) nk mk n0 n1 m0 m1 (ok_take o0 12) (ok_take o1 12) hm
end Go.Proofs.YtdlgobakoomkpaaDoor.rowOne
