/-
  ClogPlays: the walk: the law answers true; of what was there nothing has turned.
-/
import Derived.Test.YtjkjomooklhdbaaRef9C
import Derived.Test.YtjkjomooklhdbaaOpen9
namespace Go.Proofs.Ytjkjomooklhdbaa.clogPlays
open Go.RowKit
set_option linter.unusedVariables false

theorem begR_form (f : Nat) (S : List Nat) : ∃ a b : Int, begR f S = .tuple #[.int .u64 a, .int .i64 b] := by
  unfold begR
  split
  · exact ⟨_, _, rfl⟩
  · exact ⟨_, _, rfl⟩
theorem wrap_sum (f y : Nat) : ∃ x : Nat, x < 18446744073709551616 ∧ IntKind.u64.wrap ((f : Int) + (y : Int)) = (x : Int) := by
  refine ⟨(f + y) % 18446744073709551616, Nat.mod_lt _ (by decide), ?_⟩
  rw [show IntKind.u64.wrap ((f : Int) + (y : Int)) = ((f : Int) + (y : Int)) % 18446744073709551616 from rfl]
  omega
set_option maxRecDepth 100000 in
set_option maxHeartbeats 2000000 in
theorem walk_no1 (nn : Bool) (f : Nat) (A : Option Addr) (cc : Nat) (l : List Op9) (w : World) (hf64 : f < 18446744073709551616) (r0 : Rd w 3 A l.length (l.flatMap Op9.e)) (n0 : l.length ≤ cc) (m0 : cc ≤ 9223372036854775807) (hbad : f = 0 ∨ 1099511627776 < f) (hnn : nn = true) :
    Calls Try.prog 3 #[.bool nn, .int .u64 (f : Int), .slice A l.length cc] w fun e w' => e = .returned (.bool true) ∧ Below w.heap.size w w' := by
  have HSM : ∀ W : World, Calls Try.prog 24 #[.slice none 0 0, .slice none 0 0] W fun e w' => e = .returned (.bool true) ∧ ∃ n, w' = W.drewN n := fun W => same_any W 0 0 _ _ [] (World.ownsRow_nil _ _ _ _) (World.ownsRow_nil _ _ _ _)
  subst hnn
  go_enter Try.func3, Try.ntmps3
  go_wp2_with fail
  refine (awake9_any w).mono ?_
  rintro e w1 ⟨rfl, hb1⟩
  go_wp2_with fail
  refine (new_no w1 f hbad).mono ?_
  rintro e w2 ⟨rfl, hw2⟩
  have hw := hw2.symm
  subst hw
  go_wp2_with fail
  refine (rnew_no _ f hbad).mono ?_
  rintro e w2' ⟨rfl, hw2'⟩
  have hw := hw2'.symm
  subst hw
  have S0 := hb1
  clear hb1
  go_wp2
  go_loopw [45] (fun iv wr => ∃ i : Nat, i ≤ l.length ∧ i ≤ 60 ∧ iv = .int .i64 (i : Int) ∧ Below w.heap.size w wr) (fun iv _ => l.length - (intOf iv).toNat)
  case atStart => exact ⟨0, Nat.zero_le _, by omega, rfl, S0⟩
  case round =>
    obtain ⟨i, hi, hi6, rfl, hS⟩ := hrel
    by_cases hend : i < l.length ∧ i < 60
    · obtain ⟨hlt, h60⟩ := hend
      obtain ⟨ad, rfl, q0, q1, q2⟩ := op9_at (Rd.below r0 (hS.mono (Nat.le_refl _))) hlt
      have ix := idx_op9 ad l.length cc i hlt
      have ho1 := l[i].h1
      have ho2 := l[i].h2
      generalize l[i] = o at *
      obtain ⟨d, hd⟩ : ∃ d, d = o.do_ % 5 := ⟨_, rfl⟩
      obtain ⟨y, hy⟩ : ∃ y, y = o.xid % 64 := ⟨_, rfl⟩
      have ed : ((o.do_ : Int)).tmod 5 = (d : Int) := by rw [hd, Int.tmod_eq_emod_of_nonneg (by omega)]; omega
      have ey : ((o.xid : Int)).tmod 64 = (y : Int) := by rw [hy, Int.tmod_eq_emod_of_nonneg (by omega)]; omega
      have hy6 : y < 64 := by omega
      have hd5 : d < 5 := by omega
      obtain ⟨x, hx6, ex⟩ := wrap_sum f y
      clear hd hy r0 S0
      have hBW := hS.alloc hS.size (.cells #[.int .u8 (o.do_ : Int), .int .u64 (o.xid : Int), .bool o.near] 33)
      have b := Bx.new wr 33 #[.int .u8 (o.do_ : Int), .int .u64 (o.xid : Int), .bool o.near] [.int .u8 (o.do_ : Int), .int .u64 (o.xid : Int), .bool o.near] rfl
      have c0 := b.cell 0
      have c1 := b.cell 1
      have c2 := b.cell 2
      clear hS b
      cases hnear : o.near
      · rw [hnear] at hBW c0 c1 c2 q2
        have hx64 := ho2
        by_cases hd3 : d = 3
        · subst hd3
          have HE2 : ∀ (W : World) (x : Nat), Calls Try.prog 16 #[.pointer none, .int .u64 (x : Int), .int .i64 2] W fun e w' => e = .returned (.int .i64 15) ∧ ∃ n, w' = W.drewN n := fun W x => by
            have := rend_nil W x 2
            rw [show ((2 : Nat) : Int) = 2 from rfl] at this
            exact this
          go_wp2_with (first
            | (go_at_call 15; (with_reducible refine (commit_nil _ _).mono ?_); rintro e w3 ⟨rfl, hw3⟩; have B3 := hBW; rw [← hw3] at B3; clear hw3)
            | (go_at_call 16; (with_reducible refine (HE2 _ _).mono ?_); rintro e w4 ⟨rfl, q4, hw4⟩; have B4 := B3.trans ((below_n w3 q4).mono B3.size); rw [← hw4] at B4; clear hw4)
            | (go_at_call 20; (with_reducible refine (state_nil _ _).mono ?_); rintro e w5 ⟨rfl, hw5⟩; have B5 := B4; rw [← hw5] at B5; clear hw5)
            | (go_at_call 21; (with_reducible refine (rstate_nil _ _).mono ?_); rintro e w6 ⟨rfl, q6, hw6⟩; have B6 := B5.trans ((below_n w5 q6).mono B5.size); rw [← hw6] at B6; clear hw6)
            | (go_at_call 22; (with_reducible refine (next_nil _).mono ?_); rintro e w7 ⟨rfl, hw7⟩; have B7 := B6; rw [← hw7] at B7; clear hw7)
            | (go_at_call 23; (with_reducible refine (rnext_nil _).mono ?_); rintro e w8 ⟨rfl, hw8⟩; have B8 := B7; rw [← hw8] at B8; clear hw8)
            | (go_at_call 25; (with_reducible refine (all_nil _).mono ?_); rintro e w9 ⟨rfl, hw9⟩; have B9 := B8; rw [← hw9] at B9; clear hw9)
            | (go_at_call 26; (with_reducible refine (rall_nil _).mono ?_); rintro e wa ⟨rfl, hwa⟩; have Ba := B9; rw [← hwa] at Ba; clear hwa)
            | (go_at_call 24; (with_reducible refine (HSM _).mono ?_); rintro e wb ⟨rfl, qb, hwb⟩; have Bb := Ba.trans ((below_n wa qb).mono Ba.size); rw [← hwb] at Bb; clear hwb))
          go_roundw
          case rel => exact ⟨i + 1, by omega, by omega, by go_num, Bb⟩
          case measure => simp [intOf]; omega
        · by_cases hd4 : d = 4
          · subst hd4
            have HE3 : ∀ (W : World) (x : Nat), Calls Try.prog 16 #[.pointer none, .int .u64 (x : Int), .int .i64 3] W fun e w' => e = .returned (.int .i64 15) ∧ ∃ n, w' = W.drewN n := fun W x => by
              have := rend_nil W x 3
              rw [show ((3 : Nat) : Int) = 3 from rfl] at this
              exact this
            go_wp2_with (first
              | (go_at_call 17; (with_reducible refine (abort_nil _ _).mono ?_); rintro e w3 ⟨rfl, hw3⟩; have B3 := hBW; rw [← hw3] at B3; clear hw3)
              | (go_at_call 16; (with_reducible refine (HE3 _ _).mono ?_); rintro e w4 ⟨rfl, q4, hw4⟩; have B4 := B3.trans ((below_n w3 q4).mono B3.size); rw [← hw4] at B4; clear hw4)
              | (go_at_call 20; (with_reducible refine (state_nil _ _).mono ?_); rintro e w5 ⟨rfl, hw5⟩; have B5 := B4; rw [← hw5] at B5; clear hw5)
              | (go_at_call 21; (with_reducible refine (rstate_nil _ _).mono ?_); rintro e w6 ⟨rfl, q6, hw6⟩; have B6 := B5.trans ((below_n w5 q6).mono B5.size); rw [← hw6] at B6; clear hw6)
              | (go_at_call 22; (with_reducible refine (next_nil _).mono ?_); rintro e w7 ⟨rfl, hw7⟩; have B7 := B6; rw [← hw7] at B7; clear hw7)
              | (go_at_call 23; (with_reducible refine (rnext_nil _).mono ?_); rintro e w8 ⟨rfl, hw8⟩; have B8 := B7; rw [← hw8] at B8; clear hw8)
              | (go_at_call 25; (with_reducible refine (all_nil _).mono ?_); rintro e w9 ⟨rfl, hw9⟩; have B9 := B8; rw [← hw9] at B9; clear hw9)
              | (go_at_call 26; (with_reducible refine (rall_nil _).mono ?_); rintro e wa ⟨rfl, hwa⟩; have Ba := B9; rw [← hwa] at Ba; clear hwa)
              | (go_at_call 24; (with_reducible refine (HSM _).mono ?_); rintro e wb ⟨rfl, qb, hwb⟩; have Bb := Ba.trans ((below_n wa qb).mono Ba.size); rw [← hwb] at Bb; clear hwb))
            go_roundw
            case rel => exact ⟨i + 1, by omega, by omega, by go_num, Bb⟩
            case measure => simp [intOf]; omega
          · have t3 : ((d : Int) == 3) = false := beq_eq_false_iff_ne.2 (by omega)
            have t4 : ((d : Int) == 4) = false := beq_eq_false_iff_ne.2 (by omega)
            go_wp2_with (first
              | (go_at_call 18; (with_reducible refine (begin_nil _).mono ?_); rintro e w3 ⟨rfl, hw3⟩; have B3 := hBW; rw [← hw3] at B3; clear hw3)
              | (go_at_call 19; (with_reducible refine (rbegin_nil _).mono ?_); rintro e w4 ⟨rfl, hw4⟩; have B4 := B3; rw [← hw4] at B4; clear hw4)
              | (go_at_call 20; (with_reducible refine (state_nil _ _).mono ?_); rintro e w5 ⟨rfl, hw5⟩; have B5 := B4; rw [← hw5] at B5; clear hw5)
              | (go_at_call 21; (with_reducible refine (rstate_nil _ _).mono ?_); rintro e w6 ⟨rfl, q6, hw6⟩; have B6 := B5.trans ((below_n w5 q6).mono B5.size); rw [← hw6] at B6; clear hw6)
              | (go_at_call 22; (with_reducible refine (next_nil _).mono ?_); rintro e w7 ⟨rfl, hw7⟩; have B7 := B6; rw [← hw7] at B7; clear hw7)
              | (go_at_call 23; (with_reducible refine (rnext_nil _).mono ?_); rintro e w8 ⟨rfl, hw8⟩; have B8 := B7; rw [← hw8] at B8; clear hw8)
              | (go_at_call 25; (with_reducible refine (all_nil _).mono ?_); rintro e w9 ⟨rfl, hw9⟩; have B9 := B8; rw [← hw9] at B9; clear hw9)
              | (go_at_call 26; (with_reducible refine (rall_nil _).mono ?_); rintro e wa ⟨rfl, hwa⟩; have Ba := B9; rw [← hwa] at Ba; clear hwa)
              | (go_at_call 24; (with_reducible refine (HSM _).mono ?_); rintro e wb ⟨rfl, qb, hwb⟩; have Bb := Ba.trans ((below_n wa qb).mono Ba.size); rw [← hwb] at Bb; clear hwb))
            go_roundw
            case rel => exact ⟨i + 1, by omega, by omega, by go_num, Bb⟩
            case measure => simp [intOf]; omega
      · rw [hnear] at hBW c0 c1 c2 q2
        have hx64 := hx6
        by_cases hd3 : d = 3
        · subst hd3
          have HE2 : ∀ (W : World) (x : Nat), Calls Try.prog 16 #[.pointer none, .int .u64 (x : Int), .int .i64 2] W fun e w' => e = .returned (.int .i64 15) ∧ ∃ n, w' = W.drewN n := fun W x => by
            have := rend_nil W x 2
            rw [show ((2 : Nat) : Int) = 2 from rfl] at this
            exact this
          go_wp2_with (first
            | (go_at_call 15; (with_reducible refine (commit_nil _ _).mono ?_); rintro e w3 ⟨rfl, hw3⟩; have B3 := hBW; rw [← hw3] at B3; clear hw3)
            | (go_at_call 16; (with_reducible refine (HE2 _ _).mono ?_); rintro e w4 ⟨rfl, q4, hw4⟩; have B4 := B3.trans ((below_n w3 q4).mono B3.size); rw [← hw4] at B4; clear hw4)
            | (go_at_call 20; (with_reducible refine (state_nil _ _).mono ?_); rintro e w5 ⟨rfl, hw5⟩; have B5 := B4; rw [← hw5] at B5; clear hw5)
            | (go_at_call 21; (with_reducible refine (rstate_nil _ _).mono ?_); rintro e w6 ⟨rfl, q6, hw6⟩; have B6 := B5.trans ((below_n w5 q6).mono B5.size); rw [← hw6] at B6; clear hw6)
            | (go_at_call 22; (with_reducible refine (next_nil _).mono ?_); rintro e w7 ⟨rfl, hw7⟩; have B7 := B6; rw [← hw7] at B7; clear hw7)
            | (go_at_call 23; (with_reducible refine (rnext_nil _).mono ?_); rintro e w8 ⟨rfl, hw8⟩; have B8 := B7; rw [← hw8] at B8; clear hw8)
            | (go_at_call 25; (with_reducible refine (all_nil _).mono ?_); rintro e w9 ⟨rfl, hw9⟩; have B9 := B8; rw [← hw9] at B9; clear hw9)
            | (go_at_call 26; (with_reducible refine (rall_nil _).mono ?_); rintro e wa ⟨rfl, hwa⟩; have Ba := B9; rw [← hwa] at Ba; clear hwa)
            | (go_at_call 24; (with_reducible refine (HSM _).mono ?_); rintro e wb ⟨rfl, qb, hwb⟩; have Bb := Ba.trans ((below_n wa qb).mono Ba.size); rw [← hwb] at Bb; clear hwb))
          go_roundw
          case rel => exact ⟨i + 1, by omega, by omega, by go_num, Bb⟩
          case measure => simp [intOf]; omega
        · by_cases hd4 : d = 4
          · subst hd4
            have HE3 : ∀ (W : World) (x : Nat), Calls Try.prog 16 #[.pointer none, .int .u64 (x : Int), .int .i64 3] W fun e w' => e = .returned (.int .i64 15) ∧ ∃ n, w' = W.drewN n := fun W x => by
              have := rend_nil W x 3
              rw [show ((3 : Nat) : Int) = 3 from rfl] at this
              exact this
            go_wp2_with (first
              | (go_at_call 17; (with_reducible refine (abort_nil _ _).mono ?_); rintro e w3 ⟨rfl, hw3⟩; have B3 := hBW; rw [← hw3] at B3; clear hw3)
              | (go_at_call 16; (with_reducible refine (HE3 _ _).mono ?_); rintro e w4 ⟨rfl, q4, hw4⟩; have B4 := B3.trans ((below_n w3 q4).mono B3.size); rw [← hw4] at B4; clear hw4)
              | (go_at_call 20; (with_reducible refine (state_nil _ _).mono ?_); rintro e w5 ⟨rfl, hw5⟩; have B5 := B4; rw [← hw5] at B5; clear hw5)
              | (go_at_call 21; (with_reducible refine (rstate_nil _ _).mono ?_); rintro e w6 ⟨rfl, q6, hw6⟩; have B6 := B5.trans ((below_n w5 q6).mono B5.size); rw [← hw6] at B6; clear hw6)
              | (go_at_call 22; (with_reducible refine (next_nil _).mono ?_); rintro e w7 ⟨rfl, hw7⟩; have B7 := B6; rw [← hw7] at B7; clear hw7)
              | (go_at_call 23; (with_reducible refine (rnext_nil _).mono ?_); rintro e w8 ⟨rfl, hw8⟩; have B8 := B7; rw [← hw8] at B8; clear hw8)
              | (go_at_call 25; (with_reducible refine (all_nil _).mono ?_); rintro e w9 ⟨rfl, hw9⟩; have B9 := B8; rw [← hw9] at B9; clear hw9)
              | (go_at_call 26; (with_reducible refine (rall_nil _).mono ?_); rintro e wa ⟨rfl, hwa⟩; have Ba := B9; rw [← hwa] at Ba; clear hwa)
              | (go_at_call 24; (with_reducible refine (HSM _).mono ?_); rintro e wb ⟨rfl, qb, hwb⟩; have Bb := Ba.trans ((below_n wa qb).mono Ba.size); rw [← hwb] at Bb; clear hwb))
            go_roundw
            case rel => exact ⟨i + 1, by omega, by omega, by go_num, Bb⟩
            case measure => simp [intOf]; omega
          · have t3 : ((d : Int) == 3) = false := beq_eq_false_iff_ne.2 (by omega)
            have t4 : ((d : Int) == 4) = false := beq_eq_false_iff_ne.2 (by omega)
            go_wp2_with (first
              | (go_at_call 18; (with_reducible refine (begin_nil _).mono ?_); rintro e w3 ⟨rfl, hw3⟩; have B3 := hBW; rw [← hw3] at B3; clear hw3)
              | (go_at_call 19; (with_reducible refine (rbegin_nil _).mono ?_); rintro e w4 ⟨rfl, hw4⟩; have B4 := B3; rw [← hw4] at B4; clear hw4)
              | (go_at_call 20; (with_reducible refine (state_nil _ _).mono ?_); rintro e w5 ⟨rfl, hw5⟩; have B5 := B4; rw [← hw5] at B5; clear hw5)
              | (go_at_call 21; (with_reducible refine (rstate_nil _ _).mono ?_); rintro e w6 ⟨rfl, q6, hw6⟩; have B6 := B5.trans ((below_n w5 q6).mono B5.size); rw [← hw6] at B6; clear hw6)
              | (go_at_call 22; (with_reducible refine (next_nil _).mono ?_); rintro e w7 ⟨rfl, hw7⟩; have B7 := B6; rw [← hw7] at B7; clear hw7)
              | (go_at_call 23; (with_reducible refine (rnext_nil _).mono ?_); rintro e w8 ⟨rfl, hw8⟩; have B8 := B7; rw [← hw8] at B8; clear hw8)
              | (go_at_call 25; (with_reducible refine (all_nil _).mono ?_); rintro e w9 ⟨rfl, hw9⟩; have B9 := B8; rw [← hw9] at B9; clear hw9)
              | (go_at_call 26; (with_reducible refine (rall_nil _).mono ?_); rintro e wa ⟨rfl, hwa⟩; have Ba := B9; rw [← hwa] at Ba; clear hwa)
              | (go_at_call 24; (with_reducible refine (HSM _).mono ?_); rintro e wb ⟨rfl, qb, hwb⟩; have Bb := Ba.trans ((below_n wa qb).mono Ba.size); rw [← hwb] at Bb; clear hwb))
            go_roundw
            case rel => exact ⟨i + 1, by omega, by omega, by go_num, Bb⟩
            case measure => simp [intOf]; omega
    · rcases (show i = l.length ∨ (i < l.length ∧ i = 60) by omega) with hil | ⟨hlt2, hil⟩
      · subst hil
        have hF := hS
        clear hS
        clear r0 S0
        go_wp2_with fail
        go_loopw [127] (fun iv wr => ∃ j : Nat, j ≤ 62 ∧ iv = .int .u64 (j : Int) ∧ Below w.heap.size w wr) (fun iv _ => 62 - (intOf iv).toNat)
        case atStart => exact ⟨0, by omega, rfl, hF⟩
        case round =>
          obtain ⟨j, hj, rfl, hG⟩ := hrel
          by_cases hj2 : j < 62
          · obtain ⟨x, hx64, ex⟩ := wrap_sum f j
            go_wp2_with (first
              | (go_at_call 20; (with_reducible refine (state_nil _ _).mono ?_); rintro e w5 ⟨rfl, hw5⟩; have G5 := hG; rw [← hw5] at G5; clear hw5)
              | (go_at_call 21; (with_reducible refine (rstate_nil _ _).mono ?_); rintro e w6 ⟨rfl, q6, hw6⟩; have G6 := G5.trans ((below_n w5 q6).mono G5.size); rw [← hw6] at G6; clear hw6))
            go_roundw
            case rel => exact ⟨j + 1, by omega, by go_num, G6⟩
            case measure => simp [intOf]; omega
          · obtain rfl : j = 62 := by omega
            go_wp2
            go_ret
            exact ⟨rfl, hG⟩
      · obtain ⟨ad, rfl, q0, q1, q2⟩ := op9_at (Rd.below r0 (hS.mono (Nat.le_refl _))) hlt2
        have ix := idx_op9 ad l.length cc i hlt2
        generalize l[i] = o at *
        have h60 : (60 : Int) ≤ (i : Int) := by omega
        have hd60 : decide ((60 : Int) ≤ (i : Int)) = true := decide_eq_true h60
        have hF := hS.alloc hS.size (.cells #[.int .u8 (o.do_ : Int), .int .u64 (o.xid : Int), .bool o.near] 33)
        clear hS
        clear hil hi6
        clear r0 S0
        go_wp2_with fail
        go_loopw [127] (fun iv wr => ∃ j : Nat, j ≤ 62 ∧ iv = .int .u64 (j : Int) ∧ Below w.heap.size w wr) (fun iv _ => 62 - (intOf iv).toNat)
        case atStart => exact ⟨0, by omega, rfl, hF⟩
        case round =>
          obtain ⟨j, hj, rfl, hG⟩ := hrel
          by_cases hj2 : j < 62
          · obtain ⟨x, hx64, ex⟩ := wrap_sum f j
            go_wp2_with (first
              | (go_at_call 20; (with_reducible refine (state_nil _ _).mono ?_); rintro e w5 ⟨rfl, hw5⟩; have G5 := hG; rw [← hw5] at G5; clear hw5)
              | (go_at_call 21; (with_reducible refine (rstate_nil _ _).mono ?_); rintro e w6 ⟨rfl, q6, hw6⟩; have G6 := G5.trans ((below_n w5 q6).mono G5.size); rw [← hw6] at G6; clear hw6))
            go_roundw
            case rel => exact ⟨j + 1, by omega, by go_num, G6⟩
            case measure => simp [intOf]; omega
          · obtain rfl : j = 62 := by omega
            go_wp2
            go_ret
            exact ⟨rfl, hG⟩
set_option maxRecDepth 100000 in
set_option maxHeartbeats 2000000 in
theorem walk_no0 (nn : Bool) (f : Nat) (A : Option Addr) (cc : Nat) (l : List Op9) (w : World) (hf64 : f < 18446744073709551616) (r0 : Rd w 3 A l.length (l.flatMap Op9.e)) (n0 : l.length ≤ cc) (m0 : cc ≤ 9223372036854775807) (hbad : f = 0 ∨ 1099511627776 < f) (hnn : nn = false) :
    Calls Try.prog 3 #[.bool nn, .int .u64 (f : Int), .slice A l.length cc] w fun e w' => e = .returned (.bool true) ∧ Below w.heap.size w w' := by
  have HSM : ∀ W : World, Calls Try.prog 24 #[.slice none 0 0, .slice none 0 0] W fun e w' => e = .returned (.bool true) ∧ ∃ n, w' = W.drewN n := fun W => same_any W 0 0 _ _ [] (World.ownsRow_nil _ _ _ _) (World.ownsRow_nil _ _ _ _)
  subst hnn
  go_enter Try.func3, Try.ntmps3
  go_wp2_with fail
  refine (awake9_any w).mono ?_
  rintro e w1 ⟨rfl, hb1⟩
  go_wp2_with fail
  refine (new_no w1 f hbad).mono ?_
  rintro e w2 ⟨rfl, hw2⟩
  have hw := hw2.symm
  subst hw
  go_wp2_with fail
  refine (rnew_no _ f hbad).mono ?_
  rintro e w2' ⟨rfl, hw2'⟩
  have hw := hw2'.symm
  subst hw
  have S0 := hb1
  clear hb1
  go_wp2
  go_loopw [45] (fun iv wr => ∃ i : Nat, i ≤ l.length ∧ i ≤ 60 ∧ iv = .int .i64 (i : Int) ∧ Below w.heap.size w wr) (fun iv _ => l.length - (intOf iv).toNat)
  case atStart => exact ⟨0, Nat.zero_le _, by omega, rfl, S0⟩
  case round =>
    obtain ⟨i, hi, hi6, rfl, hS⟩ := hrel
    by_cases hend : i < l.length ∧ i < 60
    · obtain ⟨hlt, h60⟩ := hend
      obtain ⟨ad, rfl, q0, q1, q2⟩ := op9_at (Rd.below r0 (hS.mono (Nat.le_refl _))) hlt
      have ix := idx_op9 ad l.length cc i hlt
      have ho1 := l[i].h1
      have ho2 := l[i].h2
      generalize l[i] = o at *
      obtain ⟨d, hd⟩ : ∃ d, d = o.do_ % 5 := ⟨_, rfl⟩
      obtain ⟨y, hy⟩ : ∃ y, y = o.xid % 64 := ⟨_, rfl⟩
      have ed : ((o.do_ : Int)).tmod 5 = (d : Int) := by rw [hd, Int.tmod_eq_emod_of_nonneg (by omega)]; omega
      have ey : ((o.xid : Int)).tmod 64 = (y : Int) := by rw [hy, Int.tmod_eq_emod_of_nonneg (by omega)]; omega
      have hy6 : y < 64 := by omega
      have hd5 : d < 5 := by omega
      obtain ⟨x, hx6, ex⟩ := wrap_sum f y
      clear hd hy r0 S0
      have hBW := hS.alloc hS.size (.cells #[.int .u8 (o.do_ : Int), .int .u64 (o.xid : Int), .bool o.near] 33)
      have b := Bx.new wr 33 #[.int .u8 (o.do_ : Int), .int .u64 (o.xid : Int), .bool o.near] [.int .u8 (o.do_ : Int), .int .u64 (o.xid : Int), .bool o.near] rfl
      have c0 := b.cell 0
      have c1 := b.cell 1
      have c2 := b.cell 2
      clear hS b
      cases hnear : o.near
      · rw [hnear] at hBW c0 c1 c2 q2
        have hx64 := ho2
        by_cases hd3 : d = 3
        · subst hd3
          have HE2 : ∀ (W : World) (x : Nat), Calls Try.prog 16 #[.pointer none, .int .u64 (x : Int), .int .i64 2] W fun e w' => e = .returned (.int .i64 15) ∧ ∃ n, w' = W.drewN n := fun W x => by
            have := rend_nil W x 2
            rw [show ((2 : Nat) : Int) = 2 from rfl] at this
            exact this
          go_wp2_with (first
            | (go_at_call 15; (with_reducible refine (commit_nil _ _).mono ?_); rintro e w3 ⟨rfl, hw3⟩; have B3 := hBW; rw [← hw3] at B3; clear hw3)
            | (go_at_call 16; (with_reducible refine (HE2 _ _).mono ?_); rintro e w4 ⟨rfl, q4, hw4⟩; have B4 := B3.trans ((below_n w3 q4).mono B3.size); rw [← hw4] at B4; clear hw4)
            | (go_at_call 20; (with_reducible refine (state_nil _ _).mono ?_); rintro e w5 ⟨rfl, hw5⟩; have B5 := B4; rw [← hw5] at B5; clear hw5)
            | (go_at_call 21; (with_reducible refine (rstate_nil _ _).mono ?_); rintro e w6 ⟨rfl, q6, hw6⟩; have B6 := B5.trans ((below_n w5 q6).mono B5.size); rw [← hw6] at B6; clear hw6)
            | (go_at_call 22; (with_reducible refine (next_nil _).mono ?_); rintro e w7 ⟨rfl, hw7⟩; have B7 := B6; rw [← hw7] at B7; clear hw7)
            | (go_at_call 23; (with_reducible refine (rnext_nil _).mono ?_); rintro e w8 ⟨rfl, hw8⟩; have B8 := B7; rw [← hw8] at B8; clear hw8)
            | (go_at_call 25; (with_reducible refine (all_nil _).mono ?_); rintro e w9 ⟨rfl, hw9⟩; have B9 := B8; rw [← hw9] at B9; clear hw9)
            | (go_at_call 26; (with_reducible refine (rall_nil _).mono ?_); rintro e wa ⟨rfl, hwa⟩; have Ba := B9; rw [← hwa] at Ba; clear hwa)
            | (go_at_call 24; (with_reducible refine (HSM _).mono ?_); rintro e wb ⟨rfl, qb, hwb⟩; have Bb := Ba.trans ((below_n wa qb).mono Ba.size); rw [← hwb] at Bb; clear hwb))
          go_roundw
          case rel => exact ⟨i + 1, by omega, by omega, by go_num, Bb⟩
          case measure => simp [intOf]; omega
        · by_cases hd4 : d = 4
          · subst hd4
            have HE3 : ∀ (W : World) (x : Nat), Calls Try.prog 16 #[.pointer none, .int .u64 (x : Int), .int .i64 3] W fun e w' => e = .returned (.int .i64 15) ∧ ∃ n, w' = W.drewN n := fun W x => by
              have := rend_nil W x 3
              rw [show ((3 : Nat) : Int) = 3 from rfl] at this
              exact this
            go_wp2_with (first
              | (go_at_call 17; (with_reducible refine (abort_nil _ _).mono ?_); rintro e w3 ⟨rfl, hw3⟩; have B3 := hBW; rw [← hw3] at B3; clear hw3)
              | (go_at_call 16; (with_reducible refine (HE3 _ _).mono ?_); rintro e w4 ⟨rfl, q4, hw4⟩; have B4 := B3.trans ((below_n w3 q4).mono B3.size); rw [← hw4] at B4; clear hw4)
              | (go_at_call 20; (with_reducible refine (state_nil _ _).mono ?_); rintro e w5 ⟨rfl, hw5⟩; have B5 := B4; rw [← hw5] at B5; clear hw5)
              | (go_at_call 21; (with_reducible refine (rstate_nil _ _).mono ?_); rintro e w6 ⟨rfl, q6, hw6⟩; have B6 := B5.trans ((below_n w5 q6).mono B5.size); rw [← hw6] at B6; clear hw6)
              | (go_at_call 22; (with_reducible refine (next_nil _).mono ?_); rintro e w7 ⟨rfl, hw7⟩; have B7 := B6; rw [← hw7] at B7; clear hw7)
              | (go_at_call 23; (with_reducible refine (rnext_nil _).mono ?_); rintro e w8 ⟨rfl, hw8⟩; have B8 := B7; rw [← hw8] at B8; clear hw8)
              | (go_at_call 25; (with_reducible refine (all_nil _).mono ?_); rintro e w9 ⟨rfl, hw9⟩; have B9 := B8; rw [← hw9] at B9; clear hw9)
              | (go_at_call 26; (with_reducible refine (rall_nil _).mono ?_); rintro e wa ⟨rfl, hwa⟩; have Ba := B9; rw [← hwa] at Ba; clear hwa)
              | (go_at_call 24; (with_reducible refine (HSM _).mono ?_); rintro e wb ⟨rfl, qb, hwb⟩; have Bb := Ba.trans ((below_n wa qb).mono Ba.size); rw [← hwb] at Bb; clear hwb))
            go_roundw
            case rel => exact ⟨i + 1, by omega, by omega, by go_num, Bb⟩
            case measure => simp [intOf]; omega
          · have t3 : ((d : Int) == 3) = false := beq_eq_false_iff_ne.2 (by omega)
            have t4 : ((d : Int) == 4) = false := beq_eq_false_iff_ne.2 (by omega)
            go_wp2_with (first
              | (go_at_call 18; (with_reducible refine (begin_nil _).mono ?_); rintro e w3 ⟨rfl, hw3⟩; have B3 := hBW; rw [← hw3] at B3; clear hw3)
              | (go_at_call 19; (with_reducible refine (rbegin_nil _).mono ?_); rintro e w4 ⟨rfl, hw4⟩; have B4 := B3; rw [← hw4] at B4; clear hw4)
              | (go_at_call 20; (with_reducible refine (state_nil _ _).mono ?_); rintro e w5 ⟨rfl, hw5⟩; have B5 := B4; rw [← hw5] at B5; clear hw5)
              | (go_at_call 21; (with_reducible refine (rstate_nil _ _).mono ?_); rintro e w6 ⟨rfl, q6, hw6⟩; have B6 := B5.trans ((below_n w5 q6).mono B5.size); rw [← hw6] at B6; clear hw6)
              | (go_at_call 22; (with_reducible refine (next_nil _).mono ?_); rintro e w7 ⟨rfl, hw7⟩; have B7 := B6; rw [← hw7] at B7; clear hw7)
              | (go_at_call 23; (with_reducible refine (rnext_nil _).mono ?_); rintro e w8 ⟨rfl, hw8⟩; have B8 := B7; rw [← hw8] at B8; clear hw8)
              | (go_at_call 25; (with_reducible refine (all_nil _).mono ?_); rintro e w9 ⟨rfl, hw9⟩; have B9 := B8; rw [← hw9] at B9; clear hw9)
              | (go_at_call 26; (with_reducible refine (rall_nil _).mono ?_); rintro e wa ⟨rfl, hwa⟩; have Ba := B9; rw [← hwa] at Ba; clear hwa)
              | (go_at_call 24; (with_reducible refine (HSM _).mono ?_); rintro e wb ⟨rfl, qb, hwb⟩; have Bb := Ba.trans ((below_n wa qb).mono Ba.size); rw [← hwb] at Bb; clear hwb))
            go_roundw
            case rel => exact ⟨i + 1, by omega, by omega, by go_num, Bb⟩
            case measure => simp [intOf]; omega
      · rw [hnear] at hBW c0 c1 c2 q2
        have hx64 := hx6
        by_cases hd3 : d = 3
        · subst hd3
          have HE2 : ∀ (W : World) (x : Nat), Calls Try.prog 16 #[.pointer none, .int .u64 (x : Int), .int .i64 2] W fun e w' => e = .returned (.int .i64 15) ∧ ∃ n, w' = W.drewN n := fun W x => by
            have := rend_nil W x 2
            rw [show ((2 : Nat) : Int) = 2 from rfl] at this
            exact this
          go_wp2_with (first
            | (go_at_call 15; (with_reducible refine (commit_nil _ _).mono ?_); rintro e w3 ⟨rfl, hw3⟩; have B3 := hBW; rw [← hw3] at B3; clear hw3)
            | (go_at_call 16; (with_reducible refine (HE2 _ _).mono ?_); rintro e w4 ⟨rfl, q4, hw4⟩; have B4 := B3.trans ((below_n w3 q4).mono B3.size); rw [← hw4] at B4; clear hw4)
            | (go_at_call 20; (with_reducible refine (state_nil _ _).mono ?_); rintro e w5 ⟨rfl, hw5⟩; have B5 := B4; rw [← hw5] at B5; clear hw5)
            | (go_at_call 21; (with_reducible refine (rstate_nil _ _).mono ?_); rintro e w6 ⟨rfl, q6, hw6⟩; have B6 := B5.trans ((below_n w5 q6).mono B5.size); rw [← hw6] at B6; clear hw6)
            | (go_at_call 22; (with_reducible refine (next_nil _).mono ?_); rintro e w7 ⟨rfl, hw7⟩; have B7 := B6; rw [← hw7] at B7; clear hw7)
            | (go_at_call 23; (with_reducible refine (rnext_nil _).mono ?_); rintro e w8 ⟨rfl, hw8⟩; have B8 := B7; rw [← hw8] at B8; clear hw8)
            | (go_at_call 25; (with_reducible refine (all_nil _).mono ?_); rintro e w9 ⟨rfl, hw9⟩; have B9 := B8; rw [← hw9] at B9; clear hw9)
            | (go_at_call 26; (with_reducible refine (rall_nil _).mono ?_); rintro e wa ⟨rfl, hwa⟩; have Ba := B9; rw [← hwa] at Ba; clear hwa)
            | (go_at_call 24; (with_reducible refine (HSM _).mono ?_); rintro e wb ⟨rfl, qb, hwb⟩; have Bb := Ba.trans ((below_n wa qb).mono Ba.size); rw [← hwb] at Bb; clear hwb))
          go_roundw
          case rel => exact ⟨i + 1, by omega, by omega, by go_num, Bb⟩
          case measure => simp [intOf]; omega
        · by_cases hd4 : d = 4
          · subst hd4
            have HE3 : ∀ (W : World) (x : Nat), Calls Try.prog 16 #[.pointer none, .int .u64 (x : Int), .int .i64 3] W fun e w' => e = .returned (.int .i64 15) ∧ ∃ n, w' = W.drewN n := fun W x => by
              have := rend_nil W x 3
              rw [show ((3 : Nat) : Int) = 3 from rfl] at this
              exact this
            go_wp2_with (first
              | (go_at_call 17; (with_reducible refine (abort_nil _ _).mono ?_); rintro e w3 ⟨rfl, hw3⟩; have B3 := hBW; rw [← hw3] at B3; clear hw3)
              | (go_at_call 16; (with_reducible refine (HE3 _ _).mono ?_); rintro e w4 ⟨rfl, q4, hw4⟩; have B4 := B3.trans ((below_n w3 q4).mono B3.size); rw [← hw4] at B4; clear hw4)
              | (go_at_call 20; (with_reducible refine (state_nil _ _).mono ?_); rintro e w5 ⟨rfl, hw5⟩; have B5 := B4; rw [← hw5] at B5; clear hw5)
              | (go_at_call 21; (with_reducible refine (rstate_nil _ _).mono ?_); rintro e w6 ⟨rfl, q6, hw6⟩; have B6 := B5.trans ((below_n w5 q6).mono B5.size); rw [← hw6] at B6; clear hw6)
              | (go_at_call 22; (with_reducible refine (next_nil _).mono ?_); rintro e w7 ⟨rfl, hw7⟩; have B7 := B6; rw [← hw7] at B7; clear hw7)
              | (go_at_call 23; (with_reducible refine (rnext_nil _).mono ?_); rintro e w8 ⟨rfl, hw8⟩; have B8 := B7; rw [← hw8] at B8; clear hw8)
              | (go_at_call 25; (with_reducible refine (all_nil _).mono ?_); rintro e w9 ⟨rfl, hw9⟩; have B9 := B8; rw [← hw9] at B9; clear hw9)
              | (go_at_call 26; (with_reducible refine (rall_nil _).mono ?_); rintro e wa ⟨rfl, hwa⟩; have Ba := B9; rw [← hwa] at Ba; clear hwa)
              | (go_at_call 24; (with_reducible refine (HSM _).mono ?_); rintro e wb ⟨rfl, qb, hwb⟩; have Bb := Ba.trans ((below_n wa qb).mono Ba.size); rw [← hwb] at Bb; clear hwb))
            go_roundw
            case rel => exact ⟨i + 1, by omega, by omega, by go_num, Bb⟩
            case measure => simp [intOf]; omega
          · have t3 : ((d : Int) == 3) = false := beq_eq_false_iff_ne.2 (by omega)
            have t4 : ((d : Int) == 4) = false := beq_eq_false_iff_ne.2 (by omega)
            go_wp2_with (first
              | (go_at_call 18; (with_reducible refine (begin_nil _).mono ?_); rintro e w3 ⟨rfl, hw3⟩; have B3 := hBW; rw [← hw3] at B3; clear hw3)
              | (go_at_call 19; (with_reducible refine (rbegin_nil _).mono ?_); rintro e w4 ⟨rfl, hw4⟩; have B4 := B3; rw [← hw4] at B4; clear hw4)
              | (go_at_call 20; (with_reducible refine (state_nil _ _).mono ?_); rintro e w5 ⟨rfl, hw5⟩; have B5 := B4; rw [← hw5] at B5; clear hw5)
              | (go_at_call 21; (with_reducible refine (rstate_nil _ _).mono ?_); rintro e w6 ⟨rfl, q6, hw6⟩; have B6 := B5.trans ((below_n w5 q6).mono B5.size); rw [← hw6] at B6; clear hw6)
              | (go_at_call 22; (with_reducible refine (next_nil _).mono ?_); rintro e w7 ⟨rfl, hw7⟩; have B7 := B6; rw [← hw7] at B7; clear hw7)
              | (go_at_call 23; (with_reducible refine (rnext_nil _).mono ?_); rintro e w8 ⟨rfl, hw8⟩; have B8 := B7; rw [← hw8] at B8; clear hw8)
              | (go_at_call 25; (with_reducible refine (all_nil _).mono ?_); rintro e w9 ⟨rfl, hw9⟩; have B9 := B8; rw [← hw9] at B9; clear hw9)
              | (go_at_call 26; (with_reducible refine (rall_nil _).mono ?_); rintro e wa ⟨rfl, hwa⟩; have Ba := B9; rw [← hwa] at Ba; clear hwa)
              | (go_at_call 24; (with_reducible refine (HSM _).mono ?_); rintro e wb ⟨rfl, qb, hwb⟩; have Bb := Ba.trans ((below_n wa qb).mono Ba.size); rw [← hwb] at Bb; clear hwb))
            go_roundw
            case rel => exact ⟨i + 1, by omega, by omega, by go_num, Bb⟩
            case measure => simp [intOf]; omega
    · rcases (show i = l.length ∨ (i < l.length ∧ i = 60) by omega) with hil | ⟨hlt2, hil⟩
      · subst hil
        have hF := hS
        clear hS
        clear r0 S0
        go_wp2_with fail
        go_loopw [127] (fun iv wr => ∃ j : Nat, j ≤ 62 ∧ iv = .int .u64 (j : Int) ∧ Below w.heap.size w wr) (fun iv _ => 62 - (intOf iv).toNat)
        case atStart => exact ⟨0, by omega, rfl, hF⟩
        case round =>
          obtain ⟨j, hj, rfl, hG⟩ := hrel
          by_cases hj2 : j < 62
          · obtain ⟨x, hx64, ex⟩ := wrap_sum f j
            go_wp2_with (first
              | (go_at_call 20; (with_reducible refine (state_nil _ _).mono ?_); rintro e w5 ⟨rfl, hw5⟩; have G5 := hG; rw [← hw5] at G5; clear hw5)
              | (go_at_call 21; (with_reducible refine (rstate_nil _ _).mono ?_); rintro e w6 ⟨rfl, q6, hw6⟩; have G6 := G5.trans ((below_n w5 q6).mono G5.size); rw [← hw6] at G6; clear hw6))
            go_roundw
            case rel => exact ⟨j + 1, by omega, by go_num, G6⟩
            case measure => simp [intOf]; omega
          · obtain rfl : j = 62 := by omega
            go_wp2
            go_ret
            exact ⟨rfl, hG⟩
      · obtain ⟨ad, rfl, q0, q1, q2⟩ := op9_at (Rd.below r0 (hS.mono (Nat.le_refl _))) hlt2
        have ix := idx_op9 ad l.length cc i hlt2
        generalize l[i] = o at *
        have h60 : (60 : Int) ≤ (i : Int) := by omega
        have hd60 : decide ((60 : Int) ≤ (i : Int)) = true := decide_eq_true h60
        have hF := hS.alloc hS.size (.cells #[.int .u8 (o.do_ : Int), .int .u64 (o.xid : Int), .bool o.near] 33)
        clear hS
        clear hil hi6
        clear r0 S0
        go_wp2_with fail
        go_loopw [127] (fun iv wr => ∃ j : Nat, j ≤ 62 ∧ iv = .int .u64 (j : Int) ∧ Below w.heap.size w wr) (fun iv _ => 62 - (intOf iv).toNat)
        case atStart => exact ⟨0, by omega, rfl, hF⟩
        case round =>
          obtain ⟨j, hj, rfl, hG⟩ := hrel
          by_cases hj2 : j < 62
          · obtain ⟨x, hx64, ex⟩ := wrap_sum f j
            go_wp2_with (first
              | (go_at_call 20; (with_reducible refine (state_nil _ _).mono ?_); rintro e w5 ⟨rfl, hw5⟩; have G5 := hG; rw [← hw5] at G5; clear hw5)
              | (go_at_call 21; (with_reducible refine (rstate_nil _ _).mono ?_); rintro e w6 ⟨rfl, q6, hw6⟩; have G6 := G5.trans ((below_n w5 q6).mono G5.size); rw [← hw6] at G6; clear hw6))
            go_roundw
            case rel => exact ⟨j + 1, by omega, by go_num, G6⟩
            case measure => simp [intOf]; omega
          · obtain rfl : j = 62 := by omega
            go_wp2
            go_ret
            exact ⟨rfl, hG⟩
set_option maxRecDepth 100000 in
set_option maxHeartbeats 2000000 in
theorem walk_none (nn : Bool) (f : Nat) (A : Option Addr) (cc : Nat) (l : List Op9) (w : World) (hf64 : f < 18446744073709551616) (r0 : Rd w 3 A l.length (l.flatMap Op9.e)) (n0 : l.length ≤ cc) (m0 : cc ≤ 9223372036854775807) (h1 : 1 ≤ f) (h2 : f ≤ 1099511627776) (hnn : nn = true) :
    Calls Try.prog 3 #[.bool nn, .int .u64 (f : Int), .slice A l.length cc] w fun e w' => e = .returned (.bool true) ∧ Below w.heap.size w w' := by
  have HSM : ∀ W : World, Calls Try.prog 24 #[.slice none 0 0, .slice none 0 0] W fun e w' => e = .returned (.bool true) ∧ ∃ n, w' = W.drewN n := fun W => same_any W 0 0 _ _ [] (World.ownsRow_nil _ _ _ _) (World.ownsRow_nil _ _ _ _)
  subst hnn
  go_enter Try.func3, Try.ntmps3
  go_wp2_with fail
  refine (awake9_any w).mono ?_
  rintro e w1 ⟨rfl, hb1⟩
  go_wp2_with fail
  refine (lg_new w1 f h1 h2).mono ?_
  rintro e w2 ⟨rfl, hl2, hb2⟩
  go_wp2_with fail
  refine (rg_new w2 f h1 h2).mono ?_
  rintro e w3 ⟨rfl, hr3, hb3⟩
  have S0 := hb1.trans ((hb2.mono hb1.size).trans (hb3.mono (Nat.le_trans hb1.size hb2.size)))
  clear hb1 hb2 hb3 hl2 hr3
  go_wp2
  go_loopw [45] (fun iv wr => ∃ i : Nat, i ≤ l.length ∧ i ≤ 60 ∧ iv = .int .i64 (i : Int) ∧ Below w.heap.size w wr) (fun iv _ => l.length - (intOf iv).toNat)
  case atStart => exact ⟨0, Nat.zero_le _, by omega, rfl, S0⟩
  case round =>
    obtain ⟨i, hi, hi6, rfl, hS⟩ := hrel
    by_cases hend : i < l.length ∧ i < 60
    · obtain ⟨hlt, h60⟩ := hend
      obtain ⟨ad, rfl, q0, q1, q2⟩ := op9_at (Rd.below r0 (hS.mono (Nat.le_refl _))) hlt
      have ix := idx_op9 ad l.length cc i hlt
      have ho1 := l[i].h1
      have ho2 := l[i].h2
      generalize l[i] = o at *
      obtain ⟨d, hd⟩ : ∃ d, d = o.do_ % 5 := ⟨_, rfl⟩
      obtain ⟨y, hy⟩ : ∃ y, y = o.xid % 64 := ⟨_, rfl⟩
      have ed : ((o.do_ : Int)).tmod 5 = (d : Int) := by rw [hd, Int.tmod_eq_emod_of_nonneg (by omega)]; omega
      have ey : ((o.xid : Int)).tmod 64 = (y : Int) := by rw [hy, Int.tmod_eq_emod_of_nonneg (by omega)]; omega
      have hy6 : y < 64 := by omega
      have hd5 : d < 5 := by omega
      obtain ⟨x, hx6, ex⟩ := wrap_sum f y
      clear hd hy r0 S0
      have hBW := hS.alloc hS.size (.cells #[.int .u8 (o.do_ : Int), .int .u64 (o.xid : Int), .bool o.near] 33)
      have b := Bx.new wr 33 #[.int .u8 (o.do_ : Int), .int .u64 (o.xid : Int), .bool o.near] [.int .u8 (o.do_ : Int), .int .u64 (o.xid : Int), .bool o.near] rfl
      have c0 := b.cell 0
      have c1 := b.cell 1
      have c2 := b.cell 2
      clear hS b
      cases hnear : o.near
      · rw [hnear] at hBW c0 c1 c2 q2
        have hx64 := ho2
        by_cases hd3 : d = 3
        · subst hd3
          have HE2 : ∀ (W : World) (x : Nat), Calls Try.prog 16 #[.pointer none, .int .u64 (x : Int), .int .i64 2] W fun e w' => e = .returned (.int .i64 15) ∧ ∃ n, w' = W.drewN n := fun W x => by
            have := rend_nil W x 2
            rw [show ((2 : Nat) : Int) = 2 from rfl] at this
            exact this
          go_wp2_with (first
            | (go_at_call 15; (with_reducible refine (commit_nil _ _).mono ?_); rintro e w3 ⟨rfl, hw3⟩; have B3 := hBW; rw [← hw3] at B3; clear hw3)
            | (go_at_call 16; (with_reducible refine (HE2 _ _).mono ?_); rintro e w4 ⟨rfl, q4, hw4⟩; have B4 := B3.trans ((below_n w3 q4).mono B3.size); rw [← hw4] at B4; clear hw4)
            | (go_at_call 20; (with_reducible refine (state_nil _ _).mono ?_); rintro e w5 ⟨rfl, hw5⟩; have B5 := B4; rw [← hw5] at B5; clear hw5)
            | (go_at_call 21; (with_reducible refine (rstate_nil _ _).mono ?_); rintro e w6 ⟨rfl, q6, hw6⟩; have B6 := B5.trans ((below_n w5 q6).mono B5.size); rw [← hw6] at B6; clear hw6)
            | (go_at_call 22; (with_reducible refine (next_nil _).mono ?_); rintro e w7 ⟨rfl, hw7⟩; have B7 := B6; rw [← hw7] at B7; clear hw7)
            | (go_at_call 23; (with_reducible refine (rnext_nil _).mono ?_); rintro e w8 ⟨rfl, hw8⟩; have B8 := B7; rw [← hw8] at B8; clear hw8)
            | (go_at_call 25; (with_reducible refine (all_nil _).mono ?_); rintro e w9 ⟨rfl, hw9⟩; have B9 := B8; rw [← hw9] at B9; clear hw9)
            | (go_at_call 26; (with_reducible refine (rall_nil _).mono ?_); rintro e wa ⟨rfl, hwa⟩; have Ba := B9; rw [← hwa] at Ba; clear hwa)
            | (go_at_call 24; (with_reducible refine (HSM _).mono ?_); rintro e wb ⟨rfl, qb, hwb⟩; have Bb := Ba.trans ((below_n wa qb).mono Ba.size); rw [← hwb] at Bb; clear hwb))
          go_roundw
          case rel => exact ⟨i + 1, by omega, by omega, by go_num, Bb⟩
          case measure => simp [intOf]; omega
        · by_cases hd4 : d = 4
          · subst hd4
            have HE3 : ∀ (W : World) (x : Nat), Calls Try.prog 16 #[.pointer none, .int .u64 (x : Int), .int .i64 3] W fun e w' => e = .returned (.int .i64 15) ∧ ∃ n, w' = W.drewN n := fun W x => by
              have := rend_nil W x 3
              rw [show ((3 : Nat) : Int) = 3 from rfl] at this
              exact this
            go_wp2_with (first
              | (go_at_call 17; (with_reducible refine (abort_nil _ _).mono ?_); rintro e w3 ⟨rfl, hw3⟩; have B3 := hBW; rw [← hw3] at B3; clear hw3)
              | (go_at_call 16; (with_reducible refine (HE3 _ _).mono ?_); rintro e w4 ⟨rfl, q4, hw4⟩; have B4 := B3.trans ((below_n w3 q4).mono B3.size); rw [← hw4] at B4; clear hw4)
              | (go_at_call 20; (with_reducible refine (state_nil _ _).mono ?_); rintro e w5 ⟨rfl, hw5⟩; have B5 := B4; rw [← hw5] at B5; clear hw5)
              | (go_at_call 21; (with_reducible refine (rstate_nil _ _).mono ?_); rintro e w6 ⟨rfl, q6, hw6⟩; have B6 := B5.trans ((below_n w5 q6).mono B5.size); rw [← hw6] at B6; clear hw6)
              | (go_at_call 22; (with_reducible refine (next_nil _).mono ?_); rintro e w7 ⟨rfl, hw7⟩; have B7 := B6; rw [← hw7] at B7; clear hw7)
              | (go_at_call 23; (with_reducible refine (rnext_nil _).mono ?_); rintro e w8 ⟨rfl, hw8⟩; have B8 := B7; rw [← hw8] at B8; clear hw8)
              | (go_at_call 25; (with_reducible refine (all_nil _).mono ?_); rintro e w9 ⟨rfl, hw9⟩; have B9 := B8; rw [← hw9] at B9; clear hw9)
              | (go_at_call 26; (with_reducible refine (rall_nil _).mono ?_); rintro e wa ⟨rfl, hwa⟩; have Ba := B9; rw [← hwa] at Ba; clear hwa)
              | (go_at_call 24; (with_reducible refine (HSM _).mono ?_); rintro e wb ⟨rfl, qb, hwb⟩; have Bb := Ba.trans ((below_n wa qb).mono Ba.size); rw [← hwb] at Bb; clear hwb))
            go_roundw
            case rel => exact ⟨i + 1, by omega, by omega, by go_num, Bb⟩
            case measure => simp [intOf]; omega
          · have t3 : ((d : Int) == 3) = false := beq_eq_false_iff_ne.2 (by omega)
            have t4 : ((d : Int) == 4) = false := beq_eq_false_iff_ne.2 (by omega)
            go_wp2_with (first
              | (go_at_call 18; (with_reducible refine (begin_nil _).mono ?_); rintro e w3 ⟨rfl, hw3⟩; have B3 := hBW; rw [← hw3] at B3; clear hw3)
              | (go_at_call 19; (with_reducible refine (rbegin_nil _).mono ?_); rintro e w4 ⟨rfl, hw4⟩; have B4 := B3; rw [← hw4] at B4; clear hw4)
              | (go_at_call 20; (with_reducible refine (state_nil _ _).mono ?_); rintro e w5 ⟨rfl, hw5⟩; have B5 := B4; rw [← hw5] at B5; clear hw5)
              | (go_at_call 21; (with_reducible refine (rstate_nil _ _).mono ?_); rintro e w6 ⟨rfl, q6, hw6⟩; have B6 := B5.trans ((below_n w5 q6).mono B5.size); rw [← hw6] at B6; clear hw6)
              | (go_at_call 22; (with_reducible refine (next_nil _).mono ?_); rintro e w7 ⟨rfl, hw7⟩; have B7 := B6; rw [← hw7] at B7; clear hw7)
              | (go_at_call 23; (with_reducible refine (rnext_nil _).mono ?_); rintro e w8 ⟨rfl, hw8⟩; have B8 := B7; rw [← hw8] at B8; clear hw8)
              | (go_at_call 25; (with_reducible refine (all_nil _).mono ?_); rintro e w9 ⟨rfl, hw9⟩; have B9 := B8; rw [← hw9] at B9; clear hw9)
              | (go_at_call 26; (with_reducible refine (rall_nil _).mono ?_); rintro e wa ⟨rfl, hwa⟩; have Ba := B9; rw [← hwa] at Ba; clear hwa)
              | (go_at_call 24; (with_reducible refine (HSM _).mono ?_); rintro e wb ⟨rfl, qb, hwb⟩; have Bb := Ba.trans ((below_n wa qb).mono Ba.size); rw [← hwb] at Bb; clear hwb))
            go_roundw
            case rel => exact ⟨i + 1, by omega, by omega, by go_num, Bb⟩
            case measure => simp [intOf]; omega
      · rw [hnear] at hBW c0 c1 c2 q2
        have hx64 := hx6
        by_cases hd3 : d = 3
        · subst hd3
          have HE2 : ∀ (W : World) (x : Nat), Calls Try.prog 16 #[.pointer none, .int .u64 (x : Int), .int .i64 2] W fun e w' => e = .returned (.int .i64 15) ∧ ∃ n, w' = W.drewN n := fun W x => by
            have := rend_nil W x 2
            rw [show ((2 : Nat) : Int) = 2 from rfl] at this
            exact this
          go_wp2_with (first
            | (go_at_call 15; (with_reducible refine (commit_nil _ _).mono ?_); rintro e w3 ⟨rfl, hw3⟩; have B3 := hBW; rw [← hw3] at B3; clear hw3)
            | (go_at_call 16; (with_reducible refine (HE2 _ _).mono ?_); rintro e w4 ⟨rfl, q4, hw4⟩; have B4 := B3.trans ((below_n w3 q4).mono B3.size); rw [← hw4] at B4; clear hw4)
            | (go_at_call 20; (with_reducible refine (state_nil _ _).mono ?_); rintro e w5 ⟨rfl, hw5⟩; have B5 := B4; rw [← hw5] at B5; clear hw5)
            | (go_at_call 21; (with_reducible refine (rstate_nil _ _).mono ?_); rintro e w6 ⟨rfl, q6, hw6⟩; have B6 := B5.trans ((below_n w5 q6).mono B5.size); rw [← hw6] at B6; clear hw6)
            | (go_at_call 22; (with_reducible refine (next_nil _).mono ?_); rintro e w7 ⟨rfl, hw7⟩; have B7 := B6; rw [← hw7] at B7; clear hw7)
            | (go_at_call 23; (with_reducible refine (rnext_nil _).mono ?_); rintro e w8 ⟨rfl, hw8⟩; have B8 := B7; rw [← hw8] at B8; clear hw8)
            | (go_at_call 25; (with_reducible refine (all_nil _).mono ?_); rintro e w9 ⟨rfl, hw9⟩; have B9 := B8; rw [← hw9] at B9; clear hw9)
            | (go_at_call 26; (with_reducible refine (rall_nil _).mono ?_); rintro e wa ⟨rfl, hwa⟩; have Ba := B9; rw [← hwa] at Ba; clear hwa)
            | (go_at_call 24; (with_reducible refine (HSM _).mono ?_); rintro e wb ⟨rfl, qb, hwb⟩; have Bb := Ba.trans ((below_n wa qb).mono Ba.size); rw [← hwb] at Bb; clear hwb))
          go_roundw
          case rel => exact ⟨i + 1, by omega, by omega, by go_num, Bb⟩
          case measure => simp [intOf]; omega
        · by_cases hd4 : d = 4
          · subst hd4
            have HE3 : ∀ (W : World) (x : Nat), Calls Try.prog 16 #[.pointer none, .int .u64 (x : Int), .int .i64 3] W fun e w' => e = .returned (.int .i64 15) ∧ ∃ n, w' = W.drewN n := fun W x => by
              have := rend_nil W x 3
              rw [show ((3 : Nat) : Int) = 3 from rfl] at this
              exact this
            go_wp2_with (first
              | (go_at_call 17; (with_reducible refine (abort_nil _ _).mono ?_); rintro e w3 ⟨rfl, hw3⟩; have B3 := hBW; rw [← hw3] at B3; clear hw3)
              | (go_at_call 16; (with_reducible refine (HE3 _ _).mono ?_); rintro e w4 ⟨rfl, q4, hw4⟩; have B4 := B3.trans ((below_n w3 q4).mono B3.size); rw [← hw4] at B4; clear hw4)
              | (go_at_call 20; (with_reducible refine (state_nil _ _).mono ?_); rintro e w5 ⟨rfl, hw5⟩; have B5 := B4; rw [← hw5] at B5; clear hw5)
              | (go_at_call 21; (with_reducible refine (rstate_nil _ _).mono ?_); rintro e w6 ⟨rfl, q6, hw6⟩; have B6 := B5.trans ((below_n w5 q6).mono B5.size); rw [← hw6] at B6; clear hw6)
              | (go_at_call 22; (with_reducible refine (next_nil _).mono ?_); rintro e w7 ⟨rfl, hw7⟩; have B7 := B6; rw [← hw7] at B7; clear hw7)
              | (go_at_call 23; (with_reducible refine (rnext_nil _).mono ?_); rintro e w8 ⟨rfl, hw8⟩; have B8 := B7; rw [← hw8] at B8; clear hw8)
              | (go_at_call 25; (with_reducible refine (all_nil _).mono ?_); rintro e w9 ⟨rfl, hw9⟩; have B9 := B8; rw [← hw9] at B9; clear hw9)
              | (go_at_call 26; (with_reducible refine (rall_nil _).mono ?_); rintro e wa ⟨rfl, hwa⟩; have Ba := B9; rw [← hwa] at Ba; clear hwa)
              | (go_at_call 24; (with_reducible refine (HSM _).mono ?_); rintro e wb ⟨rfl, qb, hwb⟩; have Bb := Ba.trans ((below_n wa qb).mono Ba.size); rw [← hwb] at Bb; clear hwb))
            go_roundw
            case rel => exact ⟨i + 1, by omega, by omega, by go_num, Bb⟩
            case measure => simp [intOf]; omega
          · have t3 : ((d : Int) == 3) = false := beq_eq_false_iff_ne.2 (by omega)
            have t4 : ((d : Int) == 4) = false := beq_eq_false_iff_ne.2 (by omega)
            go_wp2_with (first
              | (go_at_call 18; (with_reducible refine (begin_nil _).mono ?_); rintro e w3 ⟨rfl, hw3⟩; have B3 := hBW; rw [← hw3] at B3; clear hw3)
              | (go_at_call 19; (with_reducible refine (rbegin_nil _).mono ?_); rintro e w4 ⟨rfl, hw4⟩; have B4 := B3; rw [← hw4] at B4; clear hw4)
              | (go_at_call 20; (with_reducible refine (state_nil _ _).mono ?_); rintro e w5 ⟨rfl, hw5⟩; have B5 := B4; rw [← hw5] at B5; clear hw5)
              | (go_at_call 21; (with_reducible refine (rstate_nil _ _).mono ?_); rintro e w6 ⟨rfl, q6, hw6⟩; have B6 := B5.trans ((below_n w5 q6).mono B5.size); rw [← hw6] at B6; clear hw6)
              | (go_at_call 22; (with_reducible refine (next_nil _).mono ?_); rintro e w7 ⟨rfl, hw7⟩; have B7 := B6; rw [← hw7] at B7; clear hw7)
              | (go_at_call 23; (with_reducible refine (rnext_nil _).mono ?_); rintro e w8 ⟨rfl, hw8⟩; have B8 := B7; rw [← hw8] at B8; clear hw8)
              | (go_at_call 25; (with_reducible refine (all_nil _).mono ?_); rintro e w9 ⟨rfl, hw9⟩; have B9 := B8; rw [← hw9] at B9; clear hw9)
              | (go_at_call 26; (with_reducible refine (rall_nil _).mono ?_); rintro e wa ⟨rfl, hwa⟩; have Ba := B9; rw [← hwa] at Ba; clear hwa)
              | (go_at_call 24; (with_reducible refine (HSM _).mono ?_); rintro e wb ⟨rfl, qb, hwb⟩; have Bb := Ba.trans ((below_n wa qb).mono Ba.size); rw [← hwb] at Bb; clear hwb))
            go_roundw
            case rel => exact ⟨i + 1, by omega, by omega, by go_num, Bb⟩
            case measure => simp [intOf]; omega
    · rcases (show i = l.length ∨ (i < l.length ∧ i = 60) by omega) with hil | ⟨hlt2, hil⟩
      · subst hil
        have hF := hS
        clear hS
        clear r0 S0
        go_wp2_with fail
        go_loopw [127] (fun iv wr => ∃ j : Nat, j ≤ 62 ∧ iv = .int .u64 (j : Int) ∧ Below w.heap.size w wr) (fun iv _ => 62 - (intOf iv).toNat)
        case atStart => exact ⟨0, by omega, rfl, hF⟩
        case round =>
          obtain ⟨j, hj, rfl, hG⟩ := hrel
          by_cases hj2 : j < 62
          · obtain ⟨x, hx64, ex⟩ := wrap_sum f j
            go_wp2_with (first
              | (go_at_call 20; (with_reducible refine (state_nil _ _).mono ?_); rintro e w5 ⟨rfl, hw5⟩; have G5 := hG; rw [← hw5] at G5; clear hw5)
              | (go_at_call 21; (with_reducible refine (rstate_nil _ _).mono ?_); rintro e w6 ⟨rfl, q6, hw6⟩; have G6 := G5.trans ((below_n w5 q6).mono G5.size); rw [← hw6] at G6; clear hw6))
            go_roundw
            case rel => exact ⟨j + 1, by omega, by go_num, G6⟩
            case measure => simp [intOf]; omega
          · obtain rfl : j = 62 := by omega
            go_wp2
            go_ret
            exact ⟨rfl, hG⟩
      · obtain ⟨ad, rfl, q0, q1, q2⟩ := op9_at (Rd.below r0 (hS.mono (Nat.le_refl _))) hlt2
        have ix := idx_op9 ad l.length cc i hlt2
        generalize l[i] = o at *
        have h60 : (60 : Int) ≤ (i : Int) := by omega
        have hd60 : decide ((60 : Int) ≤ (i : Int)) = true := decide_eq_true h60
        have hF := hS.alloc hS.size (.cells #[.int .u8 (o.do_ : Int), .int .u64 (o.xid : Int), .bool o.near] 33)
        clear hS
        clear hil hi6
        clear r0 S0
        go_wp2_with fail
        go_loopw [127] (fun iv wr => ∃ j : Nat, j ≤ 62 ∧ iv = .int .u64 (j : Int) ∧ Below w.heap.size w wr) (fun iv _ => 62 - (intOf iv).toNat)
        case atStart => exact ⟨0, by omega, rfl, hF⟩
        case round =>
          obtain ⟨j, hj, rfl, hG⟩ := hrel
          by_cases hj2 : j < 62
          · obtain ⟨x, hx64, ex⟩ := wrap_sum f j
            go_wp2_with (first
              | (go_at_call 20; (with_reducible refine (state_nil _ _).mono ?_); rintro e w5 ⟨rfl, hw5⟩; have G5 := hG; rw [← hw5] at G5; clear hw5)
              | (go_at_call 21; (with_reducible refine (rstate_nil _ _).mono ?_); rintro e w6 ⟨rfl, q6, hw6⟩; have G6 := G5.trans ((below_n w5 q6).mono G5.size); rw [← hw6] at G6; clear hw6))
            go_roundw
            case rel => exact ⟨j + 1, by omega, by go_num, G6⟩
            case measure => simp [intOf]; omega
          · obtain rfl : j = 62 := by omega
            go_wp2
            go_ret
            exact ⟨rfl, hG⟩
set_option maxRecDepth 100000 in
set_option maxHeartbeats 2000000 in
theorem walk_two (nn : Bool) (f : Nat) (A : Option Addr) (cc : Nat) (l : List Op9) (w : World) (hf64 : f < 18446744073709551616) (r0 : Rd w 3 A l.length (l.flatMap Op9.e)) (n0 : l.length ≤ cc) (m0 : cc ≤ 9223372036854775807) (h1 : 1 ≤ f) (h2 : f ≤ 1099511627776) (hnn : nn = false) :
    Calls Try.prog 3 #[.bool nn, .int .u64 (f : Int), .slice A l.length cc] w fun e w' => e = .returned (.bool true) ∧ Below w.heap.size w w' := by
  subst hnn
  go_enter Try.func3, Try.ntmps3
  go_wp2_with fail
  refine (awake9_any w).mono ?_
  rintro e w1 ⟨rfl, hb1⟩
  go_wp2_with fail
  refine (lg_new w1 f h1 h2).mono ?_
  rintro e w2 ⟨rfl, hl2, hb2⟩
  go_wp2_with fail
  refine (rg_new w2 f h1 h2).mono ?_
  rintro e w3 ⟨rfl, hr3, hb3⟩
  have S0 : Bo w.heap.size w w3 w1.heap.size w2.heap.size f [] (fun k => k = w1.heap.size ∨ k = w2.heap.size) :=
    ⟨⟨_, _, hl2.below hb3, hr3, rfl⟩, ⟨fun k hk => by have := hb1.size; have := hb2.size; omega, hb1.trans ((hb2.mono hb1.size).trans (hb3.mono (Nat.le_trans hb1.size hb2.size))), Nat.le_trans hb1.size (Nat.le_trans hb2.size hb3.size)⟩⟩
  clear hb1 hb2 hb3 hl2 hr3
  generalize w1.heap.size = g at *
  generalize w2.heap.size = r at *
  go_wp2
  go_loopw [45] (fun iv wr => ∃ (i : Nat) (S : List Nat) (H : Nat → Prop), i ≤ l.length ∧ i ≤ 60 ∧ iv = .int .i64 (i : Int) ∧ Bo w.heap.size w wr g r f S H) (fun iv _ => l.length - (intOf iv).toNat)
  case atStart => exact ⟨0, _, _, Nat.zero_le _, by omega, rfl, S0⟩
  case round =>
    obtain ⟨i, S, H, hi, hi6, rfl, hS⟩ := hrel
    by_cases hend : i < l.length ∧ i < 60
    · obtain ⟨hlt, h60⟩ := hend
      obtain ⟨ad, rfl, q0, q1, q2⟩ := op9_at (Rd.below r0 (hS.mine.below.mono (Nat.le_refl _))) hlt
      have ix := idx_op9 ad l.length cc i hlt
      have ho1 := l[i].h1
      have ho2 := l[i].h2
      generalize l[i] = o at *
      obtain ⟨d, hd⟩ : ∃ d, d = o.do_ % 5 := ⟨_, rfl⟩
      obtain ⟨y, hy⟩ : ∃ y, y = o.xid % 64 := ⟨_, rfl⟩
      have ed : ((o.do_ : Int)).tmod 5 = (d : Int) := by rw [hd, Int.tmod_eq_emod_of_nonneg (by omega)]; omega
      have ey : ((o.xid : Int)).tmod 64 = (y : Int) := by rw [hy, Int.tmod_eq_emod_of_nonneg (by omega)]; omega
      have hy6 : y < 64 := by omega
      have hd5 : d < 5 := by omega
      obtain ⟨x, hx6, ex⟩ := wrap_sum f y
      clear hd hy r0 S0
      have hBW := hS.alloc (.cells #[.int .u8 (o.do_ : Int), .int .u64 (o.xid : Int), .bool o.near] 33)
      have b := Bx.new wr 33 #[.int .u8 (o.do_ : Int), .int .u64 (o.xid : Int), .bool o.near] [.int .u8 (o.do_ : Int), .int .u64 (o.xid : Int), .bool o.near] rfl
      have c0 := b.cell 0
      have c1 := b.cell 1
      have c2 := b.cell 2
      clear hS b
      cases hnear : o.near
      · rw [hnear] at hBW c0 c1 c2 q2
        have hx64 := ho2
        by_cases hd3 : d = 3
        · subst hd3
          have HE2 : ∀ W H1, Ha w.heap.size w W g r f S (endL f S o.xid 2) H1 → Calls Try.prog 16 #[.pointer (some ⟨r, 0, none⟩), .int .u64 (o.xid : Int), .int .i64 2] W fun e w' => e = .returned (.int .i64 (endE f S o.xid)) ∧ ∃ H', Bo w.heap.size w w' g r f (endL f S o.xid 2) H' ∧ Chg H1 H' W w' := fun W H1 hh => by
            have := ha_end o.xid 2 hh hx64
            rw [show ((2 : Nat) : Int) = 2 from rfl] at this
            exact this
          have HE2 := HE2
          go_wp2_with (first
            | (go_at_call 15; (with_reducible refine (bo_commit o.xid hBW hx64).mono ?_); rintro e w3 ⟨rfl, H3, B3, _⟩)
            | (go_at_call 16; (with_reducible refine (HE2 _ _ B3).mono ?_); rintro e w4 ⟨rfl, H4, B4, _⟩)
            | (go_at_call 20; (with_reducible refine (bo_state o.xid B4).mono ?_); rintro e w5 ⟨rfl, q5, hw5⟩; have B5 := B4.drewN q5; rw [← hw5] at B5; clear hw5)
            | (go_at_call 21; (with_reducible refine (bo_rstate o.xid B5 hx64).mono ?_); rintro e w6 ⟨rfl, q6, hw6⟩; have B6 := B5.drewN q6; rw [← hw6] at B6; clear hw6)
            | (go_at_call 22; (with_reducible refine (bo_next B6).mono ?_); rintro e w7 ⟨rfl, q7, hw7⟩; have B7 := B6.drewN q7; rw [← hw7] at B7; clear hw7)
            | (go_at_call 23; (with_reducible refine (bo_rnext B7).mono ?_); rintro e w8 ⟨rfl, q8, hw8⟩; have B8 := B7.drewN q8; rw [← hw8] at B8; clear hw8)
            | (go_at_call 25; (with_reducible refine (bo_all B8).mono ?_); rintro e w9 ⟨v9, rfl, o9, b9⟩; have B9 := B8.below b9; clear b9)
            | (go_at_call 26; (with_reducible refine (bo_rall B9).mono ?_); rintro e wa ⟨va, rfl, oa, ba⟩; have Ba := B9.below ba; have o9a := own_below o9 ba; clear ba o9)
            | (go_at_call 24; (with_reducible refine (same_any _ _ _ _ _ _ o9a oa).mono ?_); rintro e wb ⟨rfl, qb, hwb⟩; have Bb := Ba.drewN qb; rw [← hwb] at Bb; clear hwb))
          go_roundw
          case rel => exact ⟨i + 1, _, _, by omega, by omega, by go_num, Bb⟩
          case measure => simp [intOf]; omega
        · by_cases hd4 : d = 4
          · subst hd4
            have HE3 : ∀ W H1, Ha w.heap.size w W g r f S (endL f S o.xid 3) H1 → Calls Try.prog 16 #[.pointer (some ⟨r, 0, none⟩), .int .u64 (o.xid : Int), .int .i64 3] W fun e w' => e = .returned (.int .i64 (endE f S o.xid)) ∧ ∃ H', Bo w.heap.size w w' g r f (endL f S o.xid 3) H' ∧ Chg H1 H' W w' := fun W H1 hh => by
              have := ha_end o.xid 3 hh hx64
              rw [show ((3 : Nat) : Int) = 3 from rfl] at this
              exact this
            have HE3 := HE3
            go_wp2_with (first
              | (go_at_call 17; (with_reducible refine (bo_abort o.xid hBW hx64).mono ?_); rintro e w3 ⟨rfl, H3, B3, _⟩)
              | (go_at_call 16; (with_reducible refine (HE3 _ _ B3).mono ?_); rintro e w4 ⟨rfl, H4, B4, _⟩)
              | (go_at_call 20; (with_reducible refine (bo_state o.xid B4).mono ?_); rintro e w5 ⟨rfl, q5, hw5⟩; have B5 := B4.drewN q5; rw [← hw5] at B5; clear hw5)
              | (go_at_call 21; (with_reducible refine (bo_rstate o.xid B5 hx64).mono ?_); rintro e w6 ⟨rfl, q6, hw6⟩; have B6 := B5.drewN q6; rw [← hw6] at B6; clear hw6)
              | (go_at_call 22; (with_reducible refine (bo_next B6).mono ?_); rintro e w7 ⟨rfl, q7, hw7⟩; have B7 := B6.drewN q7; rw [← hw7] at B7; clear hw7)
              | (go_at_call 23; (with_reducible refine (bo_rnext B7).mono ?_); rintro e w8 ⟨rfl, q8, hw8⟩; have B8 := B7.drewN q8; rw [← hw8] at B8; clear hw8)
              | (go_at_call 25; (with_reducible refine (bo_all B8).mono ?_); rintro e w9 ⟨v9, rfl, o9, b9⟩; have B9 := B8.below b9; clear b9)
              | (go_at_call 26; (with_reducible refine (bo_rall B9).mono ?_); rintro e wa ⟨va, rfl, oa, ba⟩; have Ba := B9.below ba; have o9a := own_below o9 ba; clear ba o9)
              | (go_at_call 24; (with_reducible refine (same_any _ _ _ _ _ _ o9a oa).mono ?_); rintro e wb ⟨rfl, qb, hwb⟩; have Bb := Ba.drewN qb; rw [← hwb] at Bb; clear hwb))
            go_roundw
            case rel => exact ⟨i + 1, _, _, by omega, by omega, by go_num, Bb⟩
            case measure => simp [intOf]; omega
          · have t3 : ((d : Int) == 3) = false := beq_eq_false_iff_ne.2 (by omega)
            have t4 : ((d : Int) == 4) = false := beq_eq_false_iff_ne.2 (by omega)
            obtain ⟨ra, rb, hrab⟩ := begR_form f S
            have HB1 := fun {W H1} (hh : Bo w.heap.size w W g r f S H1) => bo_begin hh
            rw [hrab] at HB1
            have HB2 := fun W H1 (hh : Ha w.heap.size w W g r f S (begL f S) H1) => ha_begin hh
            rw [hrab] at HB2
            clear hrab
            go_wp2_with (first
              | (go_at_call 18; (with_reducible refine (HB1 hBW).mono ?_); rintro e w3 ⟨rfl, H3, B3, _⟩)
              | (go_at_call 19; (with_reducible refine (HB2 _ _ B3).mono ?_); rintro e w4 ⟨rfl, H4, B4, _⟩)
              | (go_at_call 20; (with_reducible refine (bo_state o.xid B4).mono ?_); rintro e w5 ⟨rfl, q5, hw5⟩; have B5 := B4.drewN q5; rw [← hw5] at B5; clear hw5)
              | (go_at_call 21; (with_reducible refine (bo_rstate o.xid B5 hx64).mono ?_); rintro e w6 ⟨rfl, q6, hw6⟩; have B6 := B5.drewN q6; rw [← hw6] at B6; clear hw6)
              | (go_at_call 22; (with_reducible refine (bo_next B6).mono ?_); rintro e w7 ⟨rfl, q7, hw7⟩; have B7 := B6.drewN q7; rw [← hw7] at B7; clear hw7)
              | (go_at_call 23; (with_reducible refine (bo_rnext B7).mono ?_); rintro e w8 ⟨rfl, q8, hw8⟩; have B8 := B7.drewN q8; rw [← hw8] at B8; clear hw8)
              | (go_at_call 25; (with_reducible refine (bo_all B8).mono ?_); rintro e w9 ⟨v9, rfl, o9, b9⟩; have B9 := B8.below b9; clear b9)
              | (go_at_call 26; (with_reducible refine (bo_rall B9).mono ?_); rintro e wa ⟨va, rfl, oa, ba⟩; have Ba := B9.below ba; have o9a := own_below o9 ba; clear ba o9)
              | (go_at_call 24; (with_reducible refine (same_any _ _ _ _ _ _ o9a oa).mono ?_); rintro e wb ⟨rfl, qb, hwb⟩; have Bb := Ba.drewN qb; rw [← hwb] at Bb; clear hwb))
            go_roundw
            case rel => exact ⟨i + 1, _, _, by omega, by omega, by go_num, Bb⟩
            case measure => simp [intOf]; omega
      · rw [hnear] at hBW c0 c1 c2 q2
        have hx64 := hx6
        by_cases hd3 : d = 3
        · subst hd3
          have HE2 : ∀ W H1, Ha w.heap.size w W g r f S (endL f S x 2) H1 → Calls Try.prog 16 #[.pointer (some ⟨r, 0, none⟩), .int .u64 (x : Int), .int .i64 2] W fun e w' => e = .returned (.int .i64 (endE f S x)) ∧ ∃ H', Bo w.heap.size w w' g r f (endL f S x 2) H' ∧ Chg H1 H' W w' := fun W H1 hh => by
            have := ha_end x 2 hh hx64
            rw [show ((2 : Nat) : Int) = 2 from rfl] at this
            exact this
          have HE2 := HE2
          go_wp2_with (first
            | (go_at_call 15; (with_reducible refine (bo_commit x hBW hx64).mono ?_); rintro e w3 ⟨rfl, H3, B3, _⟩)
            | (go_at_call 16; (with_reducible refine (HE2 _ _ B3).mono ?_); rintro e w4 ⟨rfl, H4, B4, _⟩)
            | (go_at_call 20; (with_reducible refine (bo_state x B4).mono ?_); rintro e w5 ⟨rfl, q5, hw5⟩; have B5 := B4.drewN q5; rw [← hw5] at B5; clear hw5)
            | (go_at_call 21; (with_reducible refine (bo_rstate x B5 hx64).mono ?_); rintro e w6 ⟨rfl, q6, hw6⟩; have B6 := B5.drewN q6; rw [← hw6] at B6; clear hw6)
            | (go_at_call 22; (with_reducible refine (bo_next B6).mono ?_); rintro e w7 ⟨rfl, q7, hw7⟩; have B7 := B6.drewN q7; rw [← hw7] at B7; clear hw7)
            | (go_at_call 23; (with_reducible refine (bo_rnext B7).mono ?_); rintro e w8 ⟨rfl, q8, hw8⟩; have B8 := B7.drewN q8; rw [← hw8] at B8; clear hw8)
            | (go_at_call 25; (with_reducible refine (bo_all B8).mono ?_); rintro e w9 ⟨v9, rfl, o9, b9⟩; have B9 := B8.below b9; clear b9)
            | (go_at_call 26; (with_reducible refine (bo_rall B9).mono ?_); rintro e wa ⟨va, rfl, oa, ba⟩; have Ba := B9.below ba; have o9a := own_below o9 ba; clear ba o9)
            | (go_at_call 24; (with_reducible refine (same_any _ _ _ _ _ _ o9a oa).mono ?_); rintro e wb ⟨rfl, qb, hwb⟩; have Bb := Ba.drewN qb; rw [← hwb] at Bb; clear hwb))
          go_roundw
          case rel => exact ⟨i + 1, _, _, by omega, by omega, by go_num, Bb⟩
          case measure => simp [intOf]; omega
        · by_cases hd4 : d = 4
          · subst hd4
            have HE3 : ∀ W H1, Ha w.heap.size w W g r f S (endL f S x 3) H1 → Calls Try.prog 16 #[.pointer (some ⟨r, 0, none⟩), .int .u64 (x : Int), .int .i64 3] W fun e w' => e = .returned (.int .i64 (endE f S x)) ∧ ∃ H', Bo w.heap.size w w' g r f (endL f S x 3) H' ∧ Chg H1 H' W w' := fun W H1 hh => by
              have := ha_end x 3 hh hx64
              rw [show ((3 : Nat) : Int) = 3 from rfl] at this
              exact this
            have HE3 := HE3
            go_wp2_with (first
              | (go_at_call 17; (with_reducible refine (bo_abort x hBW hx64).mono ?_); rintro e w3 ⟨rfl, H3, B3, _⟩)
              | (go_at_call 16; (with_reducible refine (HE3 _ _ B3).mono ?_); rintro e w4 ⟨rfl, H4, B4, _⟩)
              | (go_at_call 20; (with_reducible refine (bo_state x B4).mono ?_); rintro e w5 ⟨rfl, q5, hw5⟩; have B5 := B4.drewN q5; rw [← hw5] at B5; clear hw5)
              | (go_at_call 21; (with_reducible refine (bo_rstate x B5 hx64).mono ?_); rintro e w6 ⟨rfl, q6, hw6⟩; have B6 := B5.drewN q6; rw [← hw6] at B6; clear hw6)
              | (go_at_call 22; (with_reducible refine (bo_next B6).mono ?_); rintro e w7 ⟨rfl, q7, hw7⟩; have B7 := B6.drewN q7; rw [← hw7] at B7; clear hw7)
              | (go_at_call 23; (with_reducible refine (bo_rnext B7).mono ?_); rintro e w8 ⟨rfl, q8, hw8⟩; have B8 := B7.drewN q8; rw [← hw8] at B8; clear hw8)
              | (go_at_call 25; (with_reducible refine (bo_all B8).mono ?_); rintro e w9 ⟨v9, rfl, o9, b9⟩; have B9 := B8.below b9; clear b9)
              | (go_at_call 26; (with_reducible refine (bo_rall B9).mono ?_); rintro e wa ⟨va, rfl, oa, ba⟩; have Ba := B9.below ba; have o9a := own_below o9 ba; clear ba o9)
              | (go_at_call 24; (with_reducible refine (same_any _ _ _ _ _ _ o9a oa).mono ?_); rintro e wb ⟨rfl, qb, hwb⟩; have Bb := Ba.drewN qb; rw [← hwb] at Bb; clear hwb))
            go_roundw
            case rel => exact ⟨i + 1, _, _, by omega, by omega, by go_num, Bb⟩
            case measure => simp [intOf]; omega
          · have t3 : ((d : Int) == 3) = false := beq_eq_false_iff_ne.2 (by omega)
            have t4 : ((d : Int) == 4) = false := beq_eq_false_iff_ne.2 (by omega)
            obtain ⟨ra, rb, hrab⟩ := begR_form f S
            have HB1 := fun {W H1} (hh : Bo w.heap.size w W g r f S H1) => bo_begin hh
            rw [hrab] at HB1
            have HB2 := fun W H1 (hh : Ha w.heap.size w W g r f S (begL f S) H1) => ha_begin hh
            rw [hrab] at HB2
            clear hrab
            go_wp2_with (first
              | (go_at_call 18; (with_reducible refine (HB1 hBW).mono ?_); rintro e w3 ⟨rfl, H3, B3, _⟩)
              | (go_at_call 19; (with_reducible refine (HB2 _ _ B3).mono ?_); rintro e w4 ⟨rfl, H4, B4, _⟩)
              | (go_at_call 20; (with_reducible refine (bo_state x B4).mono ?_); rintro e w5 ⟨rfl, q5, hw5⟩; have B5 := B4.drewN q5; rw [← hw5] at B5; clear hw5)
              | (go_at_call 21; (with_reducible refine (bo_rstate x B5 hx64).mono ?_); rintro e w6 ⟨rfl, q6, hw6⟩; have B6 := B5.drewN q6; rw [← hw6] at B6; clear hw6)
              | (go_at_call 22; (with_reducible refine (bo_next B6).mono ?_); rintro e w7 ⟨rfl, q7, hw7⟩; have B7 := B6.drewN q7; rw [← hw7] at B7; clear hw7)
              | (go_at_call 23; (with_reducible refine (bo_rnext B7).mono ?_); rintro e w8 ⟨rfl, q8, hw8⟩; have B8 := B7.drewN q8; rw [← hw8] at B8; clear hw8)
              | (go_at_call 25; (with_reducible refine (bo_all B8).mono ?_); rintro e w9 ⟨v9, rfl, o9, b9⟩; have B9 := B8.below b9; clear b9)
              | (go_at_call 26; (with_reducible refine (bo_rall B9).mono ?_); rintro e wa ⟨va, rfl, oa, ba⟩; have Ba := B9.below ba; have o9a := own_below o9 ba; clear ba o9)
              | (go_at_call 24; (with_reducible refine (same_any _ _ _ _ _ _ o9a oa).mono ?_); rintro e wb ⟨rfl, qb, hwb⟩; have Bb := Ba.drewN qb; rw [← hwb] at Bb; clear hwb))
            go_roundw
            case rel => exact ⟨i + 1, _, _, by omega, by omega, by go_num, Bb⟩
            case measure => simp [intOf]; omega
    · rcases (show i = l.length ∨ (i < l.length ∧ i = 60) by omega) with hil | ⟨hlt2, hil⟩
      · subst hil
        have hF := hS
        clear hS
        clear r0 S0
        go_wp2_with fail
        go_loopw [127] (fun iv wr => ∃ j : Nat, j ≤ 62 ∧ iv = .int .u64 (j : Int) ∧ Bo w.heap.size w wr g r f S H) (fun iv _ => 62 - (intOf iv).toNat)
        case atStart => exact ⟨0, by omega, rfl, hF⟩
        case round =>
          obtain ⟨j, hj, rfl, hG⟩ := hrel
          by_cases hj2 : j < 62
          · obtain ⟨x, hx64, ex⟩ := wrap_sum f j
            go_wp2_with (first
              | (go_at_call 20; (with_reducible refine (bo_state x hG).mono ?_); rintro e w5 ⟨rfl, q5, hw5⟩; have G5 := hG.drewN q5; rw [← hw5] at G5; clear hw5)
              | (go_at_call 21; (with_reducible refine (bo_rstate x G5 hx64).mono ?_); rintro e w6 ⟨rfl, q6, hw6⟩; have G6 := G5.drewN q6; rw [← hw6] at G6; clear hw6))
            go_roundw
            case rel => exact ⟨j + 1, by omega, by go_num, G6⟩
            case measure => simp [intOf]; omega
          · obtain rfl : j = 62 := by omega
            go_wp2
            go_ret
            exact ⟨rfl, hG.mine.below⟩
      · obtain ⟨ad, rfl, q0, q1, q2⟩ := op9_at (Rd.below r0 (hS.mine.below.mono (Nat.le_refl _))) hlt2
        have ix := idx_op9 ad l.length cc i hlt2
        generalize l[i] = o at *
        have h60 : (60 : Int) ≤ (i : Int) := by omega
        have hd60 : decide ((60 : Int) ≤ (i : Int)) = true := decide_eq_true h60
        have hF := hS.alloc (.cells #[.int .u8 (o.do_ : Int), .int .u64 (o.xid : Int), .bool o.near] 33)
        clear hS
        clear hil hi6
        clear r0 S0
        go_wp2_with fail
        go_loopw [127] (fun iv wr => ∃ j : Nat, j ≤ 62 ∧ iv = .int .u64 (j : Int) ∧ Bo w.heap.size w wr g r f S H) (fun iv _ => 62 - (intOf iv).toNat)
        case atStart => exact ⟨0, by omega, rfl, hF⟩
        case round =>
          obtain ⟨j, hj, rfl, hG⟩ := hrel
          by_cases hj2 : j < 62
          · obtain ⟨x, hx64, ex⟩ := wrap_sum f j
            go_wp2_with (first
              | (go_at_call 20; (with_reducible refine (bo_state x hG).mono ?_); rintro e w5 ⟨rfl, q5, hw5⟩; have G5 := hG.drewN q5; rw [← hw5] at G5; clear hw5)
              | (go_at_call 21; (with_reducible refine (bo_rstate x G5 hx64).mono ?_); rintro e w6 ⟨rfl, q6, hw6⟩; have G6 := G5.drewN q6; rw [← hw6] at G6; clear hw6))
            go_roundw
            case rel => exact ⟨j + 1, by omega, by go_num, G6⟩
            case measure => simp [intOf]; omega
          · obtain rfl : j = 62 := by omega
            go_wp2
            go_ret
            exact ⟨rfl, hG.mine.below⟩
theorem walk (nn : Bool) (f : Nat) (A : Option Addr) (cc : Nat) (l : List Op9) (w : World) (hf64 : f < 18446744073709551616) (r0 : Rd w 3 A l.length (l.flatMap Op9.e)) (n0 : l.length ≤ cc) (m0 : cc ≤ 9223372036854775807) :
    Calls Try.prog 3 #[.bool nn, .int .u64 (f : Int), .slice A l.length cc] w fun e w' => e = .returned (.bool true) ∧ Below w.heap.size w w' := by
  by_cases h : 1 ≤ f ∧ f ≤ 1099511627776
  · cases nn with
    | true => exact walk_none true f A cc l w hf64 r0 n0 m0 h.1 h.2 rfl
    | false => exact walk_two false f A cc l w hf64 r0 n0 m0 h.1 h.2 rfl
  · cases nn with
    | true => exact walk_no1 true f A cc l w hf64 r0 n0 m0 (by omega) rfl
    | false => exact walk_no0 false f A cc l w hf64 r0 n0 m0 (by omega) rfl
end Go.Proofs.Ytjkjomooklhdbaa.clogPlays
