/-
  ClogEnds: the walk: the law answers true; of what was there nothing has turned.
-/
import Derived.Test.YtjkjomooklhdbaaClogF
namespace Go.Proofs.Ytjkjomooklhdbaa.clogEnds
open Go.RowKit
set_option linter.unusedVariables false

theorem runs_ones (f k : Nat) : (runs f (List.replicate k 1)).length = k := by
  induction k generalizing f with
  | zero => rfl
  | succ k ih => rw [List.replicate_succ]; simp only [runs, if_pos]; rw [List.length_cons, ih]
theorem stt_ones (f k x : Nat) : stt f (List.replicate k 1) x = if f ≤ x ∧ x < f + k then 1 else 0 := by
  unfold stt
  by_cases h1 : f ≤ x
  · rw [if_pos h1, List.getD_eq_getElem?_getD]
    by_cases h2 : x < f + k
    · rw [if_pos ⟨h1, h2⟩, List.getElem?_replicate, if_pos (by omega)]; rfl
    · rw [if_neg (fun h => h2 h.2), List.getElem?_replicate, if_neg (by omega)]; rfl
  · rw [if_neg h1, if_neg (fun h => h1 h.1)]
theorem begL_ones (f k n : Nat) (hf : f = 1099511627776 - n) (hn : n < 20) (hk : k ≤ n + 1) : begL f (List.replicate k 1) = List.replicate (min (k + 1) (n + 1)) 1 := by
  unfold begL
  rw [List.length_replicate]
  by_cases h : f + k ≤ 1099511627776
  · rw [if_pos h, ← List.replicate_succ', show min (k + 1) (n + 1) = k + 1 by omega]
  · rw [if_neg h, show min (k + 1) (n + 1) = k by omega]
set_option maxRecDepth 100000 in
set_option maxHeartbeats 1000000 in
theorem walk (a b : Nat) (w : World) (ha : a < 256) (hb : b < 256) :
    Calls Try.prog 6 #[.int .u8 (a : Int), .int .u8 (b : Int)] w fun e w' => e = .returned (.bool true) ∧ Below w.heap.size w w' := by
  obtain ⟨n, hn⟩ : ∃ n, n = a % 20 := ⟨_, rfl⟩
  obtain ⟨m, hm⟩ : ∃ m, m = b % 5 := ⟨_, rfl⟩
  have hn20 : n < 20 := by omega
  have hm5 : m < 5 := by omega
  have e1 : ((a : Int)).tmod 20 = (n : Int) := by rw [hn, Int.tmod_eq_emod_of_nonneg (by omega)]; omega
  have e2 : ((b : Int)).tmod 5 = (m : Int) := by rw [hm, Int.tmod_eq_emod_of_nonneg (by omega)]; omega
  obtain ⟨f, hf⟩ : ∃ f, f = 1099511627776 - n := ⟨_, rfl⟩
  have e3 : IntKind.u64.wrap (1099511627776 - (n : Int)) = (f : Int) := by rw [show 1099511627776 - (n : Int) = (f : Int) by omega]; exact IntWalk.u64_in _ (by omega)
  have HF := Lib.hid hf
  have hf0 : 1 ≤ f ∧ f ≤ 1099511627776 := by omega
  clear hn hm hf
  go_enter Try.func6, Try.ntmps6
  go_wp2_with fail
  refine (awake9_any w).mono ?_
  rintro e w1 ⟨rfl, hb1⟩
  go_wp2_with fail
  refine (lg_new w1 f hf0.1 hf0.2).mono ?_
  rintro e w2 ⟨rfl, h2, hb2⟩
  have m2 : Mine w.heap.size w w2 (fun k => k = w1.heap.size) := ⟨fun k hk => by have := hb1.size; omega, hb1.trans (hb2.mono hb1.size), Nat.le_trans hb1.size hb2.size⟩
  clear hb1 hb2
  generalize w1.heap.size = g at *
  have H2 := Lib.hid h2
  clear h2
  go_wp2
  go_loopw [30] (fun iv wr => ∃ (k : Nat) (F : Nat → Prop), k ≤ n + 1 + m ∧ iv = .int .u64 (k : Int) ∧ LG wr g f (List.replicate (min k (n + 1)) 1) F ∧ Mine w.heap.size w wr F) (fun iv _ => n + 1 + m - (intOf iv).toNat)
  case atStart => exact ⟨0, _, by omega, rfl, by rw [Nat.zero_min]; exact H2.out, m2⟩
  case round =>
    obtain ⟨k, F, hk, rfl, hL, hM⟩ := hrel
    by_cases hlt : k < n + 1 + m
    · have hB := lg_begin wr g f _ _ hL
      have hbl := begL_ones f (min k (n + 1)) n HF.out hn20 (by omega)
      rw [show min (min k (n + 1) + 1) (n + 1) = min (k + 1) (n + 1) by omega] at hbl
      rw [hbl] at hB
      clear hL hbl
      by_cases hkn : k ≤ n
      · have hbr : begR f (List.replicate (min k (n + 1)) 1) = .tuple #[.int .u64 ((f + k : Nat) : Int), .int .i64 0] := by
          unfold begR
          rw [List.length_replicate, show min k (n + 1) = k by omega, if_pos (by have := HF.out; omega)]
        rw [hbr] at hB
        have HB := Lib.hid hB
        clear hB hbr
        go_wp2_with (go_at_call 18; (with_reducible refine (HB.out).mono ?_); rintro e w3 ⟨rfl, F3, h3, c3⟩; have m3 := hM.chg c3; clear c3)
        go_roundw
        case rel => exact ⟨k + 1, F3, by omega, by go_num, h3, m3⟩
        case measure => simp [intOf]; omega
      · have hbr : begR f (List.replicate (min k (n + 1)) 1) = .tuple #[.int .u64 0, .int .i64 12] := by
          unfold begR
          rw [List.length_replicate, show min k (n + 1) = n + 1 by omega, if_neg (by have := HF.out; omega)]
        rw [hbr] at hB
        have HB := Lib.hid hB
        clear hB hbr
        go_wp2_with (go_at_call 18; (with_reducible refine (HB.out).mono ?_); rintro e w3 ⟨rfl, F3, h3, c3⟩; have m3 := hM.chg c3; clear c3)
        go_roundw
        case rel => exact ⟨k + 1, F3, by omega, by go_num, h3, m3⟩
        case measure => simp [intOf]; omega
    · obtain rfl : k = n + 1 + m := by omega
      rw [show min (n + 1 + m) (n + 1) = n + 1 by omega] at hL
      have hA := lg_all wr g f _ _ hL
      rw [runs_ones] at hA
      have hN : ∀ W, LG W g f (List.replicate (n + 1) 1) F → Calls Try.prog 22 #[.pointer (some ⟨g, 0, none⟩)] W fun e w' => e = .returned (.int .u64 1099511627777) ∧ ∃ q, w' = W.drewN q := fun W h => by
        have := lg_next W g f _ _ h
        rw [List.length_replicate, show ((f + (n + 1) : Nat) : Int) = 1099511627777 by have := HF.out; omega] at this
        exact this
      have hS1 : ∀ W, LG W g f (List.replicate (n + 1) 1) F → Calls Try.prog 20 #[.pointer (some ⟨g, 0, none⟩), .int .u64 1099511627776] W fun e w' => e = .returned (.int .i64 1) ∧ ∃ q, w' = W.drewN q := fun W h => by
        have := lg_state W g f 1099511627776 _ _ h
        rw [stt_ones, if_pos (by have := HF.out; omega)] at this
        exact this
      have hS2 : ∀ W, LG W g f (List.replicate (n + 1) 1) F → Calls Try.prog 20 #[.pointer (some ⟨g, 0, none⟩), .int .u64 1099511627777] W fun e w' => e = .returned (.int .i64 0) ∧ ∃ q, w' = W.drewN q := fun W h => by
        have := lg_state W g f 1099511627777 _ _ h
        rw [stt_ones, if_neg (by have := HF.out; omega)] at this
        exact this
      have HA := Lib.hid hA
      have HN := Lib.hid hN
      have HS1 := Lib.hid hS1
      have HS2 := Lib.hid hS2
      have HL := Lib.hid hL
      clear hA hN hS1 hS2 hL
      go_wp2_with (first
        | (go_at_call 25; (with_reducible refine (HA.out).mono ?_); rintro e w4 ⟨v4, rfl, o4, b4⟩; have h4 := HL.out.below b4; have m4 := hM.next b4; obtain ⟨A4, c4, rfl, _, _, _⟩ := own_form o4; clear b4 o4)
        | (go_at_call 22; (with_reducible refine (HN.out _ h4).mono ?_); rintro e w5 ⟨rfl, q5, hw5⟩; have h5 := h4.drewN q5; have m5 := m4.drewN q5; rw [← hw5] at h5 m5; clear hw5)
        | (go_at_call 20; (with_reducible refine (HS1.out _ h5).mono ?_); rintro e w6 ⟨rfl, q6, hw6⟩; have h6 := h5.drewN q6; have m6 := m5.drewN q6; rw [← hw6] at h6 m6; clear hw6)
        | (go_at_call 20; (with_reducible refine (HS2.out _ h6).mono ?_); rintro e w7 ⟨rfl, q7, hw7⟩; have m7 := m6.drewN q7; rw [← hw7] at m7; clear hw7))
      go_ret
      exact ⟨rfl, m7.below⟩
end Go.Proofs.Ytjkjomooklhdbaa.clogEnds
