/-
  KeyBehind: the walk: where the library's tables hold what its text lays, the law answers true; of what was there nothing has turned.
-/
import Derived.Test.YtdlgobakoomkpaaDoorAwake3
namespace Go.Proofs.YtdlgobakoomkpaaDoor.keyBehind
open Go.RowKit

def allff (l : List UInt8) : Bool := l.all (· == 255)
theorem allff_iff (l : List UInt8) : allff l = true ↔ ∀ b ∈ l, b = 255 := by unfold allff; simp
theorem allff_snoc {l : List UInt8} {k : Nat} (hk : k < l.length) : allff (l.take (k + 1)) = (allff (l.take k) && (l[k] == 255)) := by
  unfold allff
  rw [List.take_succ_eq_append_getElem hk, List.all_append]
  simp
theorem byte_eq (b : UInt8) : ((b.toNat : Int) == 255) = (b == 255) := by
  rw [Bool.eq_iff_iff, beq_iff_eq, beq_iff_eq]
  constructor
  · intro h; apply UInt8.toNat_inj.1; have : (255 : UInt8).toNat = 255 := rfl; omega
  · intro h; rw [h]; rfl

set_option maxHeartbeats 2000000 in
theorem walk (A0 A1 A2 : Option Addr) (c0 c1 c2 : Nat) (l0 l1 l2 : List UInt8) (w : World) (hE : Env w) (r0 : Brd w A0 l0) (r1 : Brd w A1 l1) (r2 : Brd w A2 l2)
    (hc0 : l0.length ≤ c0) (hc1 : l1.length ≤ c1) (hc2 : l2.length ≤ c2) (hm0 : c0 ≤ 9223372036854775807) (hm1 : c1 ≤ 9223372036854775807) (hm2 : c2 ≤ 9223372036854775807) :
    Calls Tryd.prog 6 #[.slice A0 l0.length c0, .slice A1 l1.length c1, .slice A2 l2.length c2] w fun e w' => e = .returned (.bool true) ∧ Below w.heap.size w w' := by
  obtain ⟨i0, hi0, hz0, hz1, hz2⟩ := info_parts info_u8
  go_enter Tryd.func6, Tryd.ntmps6
  go_wp2_with fail
  refine (awake3_any _ hE).mono ?_
  rintro e w1 ⟨rfl, hb1⟩
  have z1 := hb1.size
  go_wp2_with fail
  refine (cut3_any A0 c0 60 l0 _ (r0.below hb1) hc0 hm0 (by decide)).mono ?_
  rintro e w2 ⟨v2, rfl, ho2, hb2⟩
  obtain ⟨B2, d2, rfl, hn2, hd2, hB2⟩ := byt_slice ho2
  have x2 := hb1.next hb2
  have hp : (l0.take 60).length ≤ 60 := List.length_take_le _ _
  generalize l0.take 60 = p at *
  go_wp2_with fail
  refine (cut3_any A1 c1 60 l1 _ (r1.below x2) hc1 hm1 (by decide)).mono ?_
  rintro e w3 ⟨v3, rfl, ho3, hb3⟩
  obtain ⟨B3, d3, rfl, hn3, hd3, hB3⟩ := byt_slice ho3
  have x3 := x2.next hb3
  have hq : (l1.take 60).length ≤ 60 := List.length_take_le _ _
  generalize l1.take 60 = more at *
  have hB2 := hB2.below hb3
  go_wp2_with fail
  refine (cut3_any A2 c2 60 l2 _ (r2.below x3) hc2 hm2 (by decide)).mono ?_
  rintro e w4 ⟨v4, rfl, ho4, hb4⟩
  obtain ⟨B4, d4, rfl, hn4, hd4, hB4⟩ := byt_slice ho4
  have x4 := x3.next hb4
  have ho : (l2.take 60).length ≤ 60 := List.length_take_le _ _
  generalize l2.take 60 = other at *
  have hB2 := hB2.below hb4
  have hB3 := hB3.below hb4
  clear r0 r1 r2 ho2 ho3 ho4
  go_wp2_with fail
  refine (copy3_any B2 d2 p _ hB2 (by omega)).mono ?_
  rintro e w5 ⟨v5, rfl, ho5, hb5⟩
  obtain ⟨B5, d5, rfl, hn5, hd5, hB5⟩ := byt_slice ho5
  have x5 := x4.next hb5
  have hB2 := hB2.below hb5
  have hB3 := hB3.below hb5
  have hB4 := hB4.below hb5
  go_wp2_with fail
  refine (kbehind_any B5 d5 p _ hB5 hn5 (by omega)).mono ?_
  rintro e w6 ⟨v6, rfl, ho6, hb6⟩
  obtain ⟨B6, d6, rfl, hn6, hd6, hB6⟩ := byt_slice ho6
  have x6 := x5.next hb6
  have hB2 := hB2.below hb6
  have hB3 := hB3.below hb6
  have hB4 := hB4.below hb6
  have hB5 := hB5.below hb6
  go_wp2_with fail
  refine (same3_any B5 B2 d5 d2 p p _ hB5 hB2).mono ?_
  rintro e w7 ⟨rfl, hw7⟩
  subst hw7
  have hs : leqB p p = true := by simp [leqB]
  have S := Lib.hid hs
  rw [hs]
  clear hs hB5 ho5 ho6
  go_wp2
  go_loop [9, 31] (fun a i => ∃ k : Nat, k ≤ p.length ∧ i = .int .i64 k ∧ a = .bool (allff (p.take k))) (fun _ i => p.length - (intOf i).toNat)
  case atStart => exact ⟨0, Nat.zero_le _, rfl, rfl⟩
  case round =>
    obtain ⟨k, hk, rfl, rfl⟩ := hrel
    by_cases hlt : k < p.length
    · obtain ⟨ad, rfl, hcell⟩ := hB2.at_ hlt
      have hsn := Lib.hid (allff_snoc hlt)
      have hbe := byte_eq p[k]
      generalize p[k] = b at *
      cases hall : allff (p.take k) with
      | false =>
        rw [hall] at hsn
        have HS := hsn.out
        rw [Bool.false_and] at HS
        have H := Lib.hid HS
        clear HS hsn hall hbe
        go_wp2
        go_round
        case rel => exact ⟨k + 1, by omega, by go_num, by rw [H.out]⟩
        case measure => simp [intOf]; omega
      | true =>
        rw [hall] at hsn
        have HS := hsn.out
        rw [Bool.true_and] at HS
        have H := Lib.hid HS
        clear HS hsn hall
        go_wp2
        go_round
        case rel => exact ⟨k + 1, by omega, by go_num, by rw [H.out]⟩
        case measure => simp [intOf]; omega
    · obtain rfl : k = p.length := by omega
      rw [List.take_length]
      cases hall : allff p with
      | true =>
        have hb : behind p = [] := behind_ff ((allff_iff p).1 hall)
        rw [hb]
        clear hB6 hn6
        go_wp2
        go_ret
        exact ⟨rfl, x6⟩
      | false =>
        have hne : ¬ ∀ b ∈ p, b = 255 := fun h => by rw [(allff_iff p).2 h] at hall; cases hall
        have f1 : lltB (p ++ more) (behind p) = true := decide_eq_true (behind_more hne more)
        have f2 := behind_in hne other
        have f3 := preB_iff other p
        have F1 := Lib.hid f1
        have F2 := Lib.hid f2
        have F3 := Lib.hid f3
        clear f1 f2 f3 hne hall
        have k2 := hB2
        have k4 := hB4
        have k6 := hB6
        go_wp2_with fail
        refine (copy3_any B2 d2 p _ hB2 (by omega)).mono ?_
        rintro e w8 ⟨v8, rfl, ho8, hb8⟩
        have x8 := x6.next hb8
        have hB2 := hB2.below hb8
        have hB3 := hB3.below hb8
        have hB4 := hB4.below hb8
        have hB6 := hB6.below hb8
        go_wp2_with (at_builtin; refine wpList_append_src _ rfl (.tmp 46) (.tmp 47) 24 24 rfl w7.heap.size 5 _ _ 1 1 Tryd.underlying24 hi0 hz0 hz1 hz2 rfl _ _ _ rfl ho8 _ more.length (bcells more) rfl (src_rd Tryd.underlying24 _ hB3 (by decide) (bcells_one _)) (by simp only [maxLen]; omega) (by omega) hb8.size ?_; intro v9 w9 ho9 hg9 ha9; have hb9 : Below w7.heap.size w7 w9 := hb8.trans (grown_below ho8 hg9 hb8.size); obtain ⟨B9, d9, rfl, hn9, hd9, hB9⟩ := byt_slice (byt_of (m := p ++ more) ho9 (by rw [bcells_append])))
        have x9 := x6.next hb9
        have j2 := k2.below hb9
        have j4 := k4.below hb9
        have j6 := k6.below hb9
        clear hB2 hB3 hB4 hB6 k2 k4 k6 ho9 ho8
        have gL := less3_any B9 B6 d9 d6 (p ++ more) (behind p) _ hB9 j6
        rw [List.length_append] at gL
        refine gL.mono ?_
        clear gL
        rintro e w10 ⟨rfl, hw10⟩
        have hw := hw10.symm
        subst hw
        rw [F1.out]
        clear hB9
        have g := less3_any B4 B2 d4 d2 other p w9 j4 j2
        have gb := begins3_any B4 B2 d4 d2 other p w9 j4 j2 hn4 (by omega)
        cases hlt1 : lltB other p with
        | true =>
          have hpre : preB other p = false := by
            cases hp : preB other p with
            | false => rfl
            | true => exact absurd (of_decide_eq_true hlt1) (F2.out.2 (F3.out.1 hp)).1
          rw [hlt1] at g
          rw [hpre] at gb
          have G := Lib.hid g
          have GB := Lib.hid gb
          clear g gb hlt1 hpre j2 j4 j6
          go_wp2_with (first | (go_at_call 28; (with_reducible refine (G.out).mono ?_); rintro e w11 ⟨rfl, hw11⟩; have hw := hw11.symm; subst hw) | (go_at_call 29; (with_reducible refine (GB.out).mono ?_); rintro e w12 ⟨rfl, hw12⟩; have hw := hw12.symm; subst hw))
          go_ret
          exact ⟨rfl, x9⟩
        | false =>
          have g2 := less3_any B4 B6 d4 d6 other (behind p) w9 j4 j6
          have hpre : preB other p = lltB other (behind p) := by
            have h1 : ¬ other < p := of_decide_eq_false hlt1
            rw [Bool.eq_iff_iff]
            exact F3.out.trans (F2.out.symm.trans ⟨fun h => decide_eq_true h.2, fun h => ⟨h1, of_decide_eq_true h⟩⟩)
          rw [hlt1] at g
          rw [hpre] at gb
          generalize lltB other (behind p) = y at *
          have G := Lib.hid g
          have GB := Lib.hid gb
          have G2 := Lib.hid g2
          clear g gb g2 hlt1 hpre j2 j4 j6
          go_wp2_with (first | (go_at_call 28; (with_reducible refine (G.out).mono ?_); rintro e w11 ⟨rfl, hw11⟩; have hw := hw11.symm; subst hw) | (go_at_call 28; (with_reducible refine (G2.out).mono ?_); rintro e w11 ⟨rfl, hw11⟩; have hw := hw11.symm; subst hw) | (go_at_call 29; (with_reducible refine (GB.out).mono ?_); rintro e w12 ⟨rfl, hw12⟩; have hw := hw12.symm; subst hw))
          go_ret
          exact ⟨by simp, x9⟩
end Go.Proofs.YtdlgobakoomkpaaDoor.keyBehind
