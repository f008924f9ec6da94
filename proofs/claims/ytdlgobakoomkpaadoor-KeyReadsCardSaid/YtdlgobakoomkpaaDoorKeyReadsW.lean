/-
  KeyReads: the walk: where the library's tables hold what its text lays, the law answers true; of what was there nothing has turned.
-/
import Derived.Test.YtdlgobakoomkpaaDoorKeyRead
import Derived.Test.YtdlgobakoomkpaaDoorRef3R
import Derived.Test.YtdlgobakoomkpaaDoorSameRow
import Derived.Test.YtdlgobakoomkpaaDoorAwake3
namespace Go.Proofs.YtdlgobakoomkpaaDoor.keyReads
open Go.RowKit

theorem rd_right : ∀ (n : Nat) (p : List UInt8) (l : List Val), p.length ≤ n → rd p = some l → l.all rightB = true := by
  intro n
  induction n with
  | zero => intro p l hp h; have : p = [] := List.length_eq_zero_iff.1 (by omega); subst this; rw [rd_nil] at h; cases h; rfl
  | succ n ih =>
    intro p l hp h
    by_cases he : p = []
    · subst he; rw [rd_nil] at h; cases h; rfl
    · cases h1 : rd1 p with
      | none => rw [rd_none he h1] at h; cases h
      | some x =>
        obtain ⟨v, k⟩ := x
        have h2 := rd1_kf p
        rw [h1] at h2
        split at h2
        · next hk =>
          rw [rd_some h1] at h
          have hv : kf p = (v, k) := by injection h2 with h2; exact h2.symm
          rw [hv] at hk
          cases h3 : rd (p.drop k) with
          | none => rw [h3] at h; cases h
          | some m =>
            rw [h3] at h
            cases h
            have hk0 : k ≠ 0 := hk.1
            have hp0 := List.length_pos_iff.2 he
            have := ih (p.drop k) m (by rw [List.length_drop]; omega) h3
            rw [List.all_cons, show rightB v = true from hk.2, this]; rfl
        · cases h2
theorem rdL_right (p : List UInt8) : (rdL p).all rightB = true := by
  unfold rdL
  cases h : rd p with
  | none => rfl
  | some l => exact rd_right p.length p l (Nat.le_refl _) h
theorem bcells_snoc (p : List UInt8) : bcells p ++ [.int .u8 165] = bcells (p ++ [165]) := by simp [bcells]

set_option maxHeartbeats 2000000 in
theorem walk (A0 : Option Addr) (c0 : Nat) (l0 : List UInt8) (w : World) (hE : Env w) (r0 : Brd w A0 l0) (hc0 : l0.length ≤ c0) (hm0 : c0 ≤ 9223372036854775807) :
    Calls Tryd.prog 4 #[.slice A0 l0.length c0] w fun e w' => e = .returned (.bool true) ∧ Below w.heap.size w w' := by
  obtain ⟨i0, hi0, hz0, hz1, hz2⟩ := info_parts info_u8
  go_enter Tryd.func4, Tryd.ntmps4
  go_wp2_with fail
  refine (awake3_any _ hE).mono ?_
  rintro e w1 ⟨rfl, hb1⟩
  go_wp2_with fail
  refine (cut3_any A0 c0 300 l0 _ (r0.below hb1) hc0 hm0 (by decide)).mono ?_
  rintro e w2 ⟨v2, rfl, ho2, hb2⟩
  obtain ⟨B2, d2, rfl, hn2, hd2, hB2⟩ := byt_slice ho2
  have x2 := hb1.next hb2
  have hp : (l0.take 300).length ≤ 300 := List.length_take_le _ _
  generalize l0.take 300 = p at *
  have hall := rdL_right p
  have HSR := Lib.hid (srow_refl (rdL p) hall)
  clear r0 ho2 hall
  go_wp2_with fail
  refine (copy3_any B2 d2 p _ hB2 (by omega)).mono ?_
  rintro e w3 ⟨v3, rfl, ho3, hb3⟩
  have x3 := x2.next hb3
  have z3 := hb3.size
  go_wp2_with (at_builtin; refine wpList_append_src _ rfl (.tmp 13) (.tmp 14) 24 24 rfl w2.heap.size 5 _ _ 1 1 Tryd.underlying24 hi0 hz0 hz1 hz2 rfl _ _ _ rfl (World.ownsRow.alloc ho3 _) _ 1 (bcells [165]) rfl (src_rd Tryd.underlying24 _ (rd_lit (cs := bcells [165]) rfl rfl rfl) (by decide) (bcells_one _)) (by simp only [maxLen]; omega) (by omega) (by simp; omega) ?_; intro v4 w4 ho4 hg4 ha4; have hb4 : Below w2.heap.size w2 w4 := (hb3.alloc z3 _).trans (grown_below (World.ownsRow.alloc ho3 _) hg4 (by simp; omega)); obtain ⟨A4, d4, rfl, hn4, hd4, hB4⟩ := byt_slice (byt_of (m := p ++ [165]) ho4 (by rw [← bcells_snoc]; rfl)); simp only [List.length_append, List.length_cons, List.length_nil, Nat.zero_add] at hn4)
  have x4 := x2.next hb4
  have hB4p : Brd w4 A4 p := by
    have := hB4.front (k := p.length) (by simp)
    rw [List.take_left] at this
    exact this
  have hB2 := hB2.below hb4
  clear ho3 ho4
  refine (kread_any A4 d4 p w4 hB4p (by omega) hd4 (by omega) (hE.next x4)).mono ?_
  rintro e w5 ⟨v5, rfl, ho5, hb5⟩
  obtain ⟨A5, d5, rfl, hn5, hd5, hV5⟩ := vls_slice ho5
  have x5 := x4.next hb5
  have hB2 := hB2.below hb5
  have hB4 := hB4.below hb5
  have hB4p := hB4p.below hb5
  clear ho5
  go_wp2_with fail
  refine (rread_any B2 d2 p w5 hB2 hn2 hd2 (by omega)).mono ?_
  rintro e w6 ⟨v6, rfl, ho6, hb6⟩
  obtain ⟨A6, d6, rfl, hn6, hd6, hV6⟩ := vls_slice ho6
  have x6 := x5.next hb6
  have hB2 := hB2.below hb6
  have hB4 := hB4.below hb6
  have hB4p := hB4p.below hb6
  have hV5 := hV5.below hb6
  clear ho6
  generalize rdE p = er at *
  go_wp2_with fail
  refine (samerow_any A5 A6 d5 d6 _ _ w6 hV5 hV6 (by omega)).mono ?_
  rintro e w7 ⟨rfl, hb7⟩
  rw [HSR.out]
  have x7 := x6.next hb7
  have hB2 := hB2.below hb7
  have hB4 := hB4.below hb7
  have hB4p := hB4p.below hb7
  obtain ⟨ad, rfl, hcell⟩ := hB4.at_ (k := p.length) (by simp)
  rw [show (p ++ [165])[p.length]'(by simp) = 165 by simp] at hcell
  clear hB4
  go_wp2_with fail
  refine (same3_any (some ad) B2 d4 d2 p p w7 hB4p hB2).mono ?_
  rintro e w8 ⟨rfl, hw8⟩
  have hw := hw8.symm
  subst hw
  rw [show leqB p p = true by simp [leqB]]
  have hc3 : w7.cell? (ad.add p.length) = some (.int .u8 165) := hcell
  clear hcell
  go_wp2
  go_ret
  exact ⟨rfl, x7⟩
end Go.Proofs.YtdlgobakoomkpaaDoor.keyReads
