/-
  RowReads: the walk: where the library's tables hold what its text lays, the law answers true; of what was there nothing has turned.
-/
import Derived.Test.YtdlgobakoomkpaaDoorAwake4
import Derived.Test.YtdlgobakoomkpaaDoorRowB
import Derived.Test.YtdlgobakoomkpaaDoorSameRow
import Derived.Test.YtdlgobakoomkpaaDoorDoorB
import Derived.Test.YtdlgobakoomkpaaDoorRef4R
namespace Go.Proofs.YtdlgobakoomkpaaDoor.rowReads
open Go.RowKit

theorem bcells_snoc (p : List UInt8) : bcells p ++ [.int .u8 165] = bcells (p ++ [165]) := by simp [bcells]

set_option maxHeartbeats 4000000 in
theorem walk (K A0 : Option Addr) (kc c0 : Nat) (k0 l0 : List UInt8) (w : World) (hE : Env w) (rk : Brd w K k0) (nk : k0.length ≤ kc) (mk : kc ≤ 9223372036854775807) (r0 : Brd w A0 l0) (hc0 : l0.length ≤ c0) (hm0 : c0 ≤ 9223372036854775807) :
    Calls Tryd.prog 10 #[.slice K k0.length kc, .slice A0 l0.length c0] w fun e w' => e = .returned (.bool true) ∧ Below w.heap.size w w' := by
  obtain ⟨i0, hi0, hz0, hz1, hz2⟩ := info_parts info_u8
  have ek : (k0.take 12).length ≤ 12 := List.length_take_le _ _
  have gk := fun W h => kinds_any K kc k0 W h (by omega)
  generalize k0.take 12 = ks at *
  have GK := Lib.hid gk
  clear gk
  go_enter Tryd.func10, Tryd.ntmps10
  go_wp2_with fail
  refine (awake4_any _ hE).mono ?_
  rintro e w1 ⟨rfl, hb1⟩
  have yk := rk.below hb1
  go_wp2_with fail
  refine (cut3_any A0 c0 300 l0 _ (r0.below hb1) hc0 hm0 (by decide)).mono ?_
  rintro e w2 ⟨v2, rfl, ho2, hb2⟩
  obtain ⟨B2, d2, rfl, hn2, hd2, hB2⟩ := byt_slice ho2
  have x2 := hb1.next hb2
  have yk := yk.below hb2
  have hp : (l0.take 300).length ≤ 300 := List.length_take_le _ _
  generalize l0.take 300 = p at *
  have hall := (rrL_right ks p).1
  have hll := (rrL_right ks p).2
  have HSR := Lib.hid (srow_refl (rrL ks p) hall)
  clear r0 ho2 hall
  go_wp2_with fail
  refine (copy3_any B2 d2 p _ hB2 (by omega)).mono ?_
  rintro e w3 ⟨v3, rfl, ho3, hb3⟩
  have x3 := x2.next hb3
  have z3 := hb3.size
  go_wp2_with (at_builtin; refine wpList_append_src _ rfl (.tmp 15) (.tmp 16) 24 24 rfl w2.heap.size 5 _ _ 1 1 Tryd.underlying24 hi0 hz0 hz1 hz2 rfl _ _ _ rfl (World.ownsRow.alloc ho3 _) _ 1 (bcells [165]) rfl (src_rd Tryd.underlying24 _ (rd_lit (cs := bcells [165]) rfl rfl rfl) (by decide) (bcells_one _)) (by simp only [maxLen]; omega) (by omega) (by simp; omega) ?_; intro v4 w4 ho4 hg4 ha4; have hb4 : Below w2.heap.size w2 w4 := (hb3.alloc z3 _).trans (grown_below (World.ownsRow.alloc ho3 _) hg4 (by simp; omega)); obtain ⟨A4, d4, rfl, hn4, hd4, hB4⟩ := byt_slice (byt_of (m := p ++ [165]) ho4 (by rw [← bcells_snoc]; rfl)); simp only [List.length_append, List.length_cons, List.length_nil, Nat.zero_add] at hn4)
  have x4 := x2.next hb4
  have hB4p : Brd w4 A4 p := by
    have := hB4.front (k := p.length) (by simp)
    rw [List.take_left] at this
    exact this
  have hB2 := hB2.below hb4
  have yk := yk.below hb4
  clear ho3 ho4
  refine Calls.mono (GK.out _ yk) ?_
  rintro e w5 ⟨v5, rfl, ho5, hb5⟩
  obtain ⟨B5, d5, rfl, hn5, hd5, hB5⟩ := kds_slice ho5
  have x5 := x4.next hb5
  have hB2 := hB2.below hb5
  have hB4 := hB4.below hb5
  have hB4p := hB4p.below hb5
  have yk := yk.below hb5
  clear ho5
  go_wp2_with fail
  refine (rowread_any B5 A4 d5 d4 ks p w5 hB5 (by omega) hB4p (by omega) hd4 (hE.next x5)).mono ?_
  rintro e w6 ⟨v6, rfl, ho6, hb6⟩
  obtain ⟨A6, d6, rfl, hn6, hd6, hV6⟩ := vls_slice ho6
  have x6 := x5.next hb6
  have hB2 := hB2.below hb6
  have hB4 := hB4.below hb6
  have hB4p := hB4p.below hb6
  have yk := yk.below hb6
  clear ho6
  go_wp2_with fail
  refine Calls.mono (GK.out _ yk) ?_
  rintro e w7 ⟨v7, rfl, ho7, hb7⟩
  obtain ⟨B7, d7, rfl, hn7, hd7, hB7⟩ := kds_slice ho7
  have x7 := x6.next hb7
  have hB2 := hB2.below hb7
  have hB4 := hB4.below hb7
  have hB4p := hB4p.below hb7
  have hV6 := hV6.below hb7
  clear ho7
  go_wp2_with fail
  refine (r04read_any B7 B2 d7 d2 ks p w7 hB7 (by omega) hB2 hn2 hd2).mono ?_
  rintro e w8 ⟨v8, rfl, ho8, hb8⟩
  obtain ⟨A8, d8, rfl, hn8, hd8, hV8⟩ := vls_slice ho8
  have x8 := x7.next hb8
  have hB2 := hB2.below hb8
  have hB4 := hB4.below hb8
  have hB4p := hB4p.below hb8
  have hV6 := hV6.below hb8
  clear ho8
  generalize rrE ks p = er at *
  go_wp2_with fail
  refine (samerow_any A6 A8 d6 d8 _ _ w8 hV6 hV8 (by omega)).mono ?_
  rintro e w9 ⟨rfl, hb9⟩
  rw [HSR.out]
  have x9 := x8.next hb9
  have hB2 := hB2.below hb9
  have hB4 := hB4.below hb9
  have hB4p := hB4p.below hb9
  obtain ⟨ad, rfl, hcell⟩ := hB4.at_ (k := p.length) (by simp)
  rw [show (p ++ [165])[p.length]'(by simp) = 165 by simp] at hcell
  clear hB4
  go_wp2_with fail
  refine (same3_any (some ad) B2 d4 d2 p p w9 hB4p hB2).mono ?_
  rintro e w10 ⟨rfl, hw10⟩
  have hw := hw10.symm
  subst hw
  rw [show leqB p p = true by simp [leqB]]
  have hc3 : w9.cell? (ad.add p.length) = some (.int .u8 165) := hcell
  clear hcell
  go_wp2
  go_ret
  exact ⟨rfl, x9⟩
end Go.Proofs.YtdlgobakoomkpaaDoor.rowReads
