/-
  Pages: Free.
-/
import Derived.Test.YtpnkmkenmpbekaaPageI
namespace Go.Proofs.Ytpnkmkenmpbekaa
open Go.RowKit

/-- How many slots stay where free ones at the end are removed. -/
def trimF (f : Nat → UInt8) : Nat → Nat
  | 0 => 0
  | n + 1 => if fr f n then trimF f n else n + 1
theorem trimF_le (f : Nat → UInt8) : ∀ n, trimF f n ≤ n
  | 0 => Nat.le_refl _
  | n + 1 => by unfold trimF; split; have := trimF_le f n; omega; exact Nat.le_refl _
def frF2 (f : Nat → UInt8) (k : Nat) : Nat → UInt8 := lay (lay f (nA f k) (zer (nZ f k))) (4 + 4 * k) (zer 4)
def freeF (f : Nat → UInt8) (k : Nat) : Nat → UInt8 := lay (frF2 f k) 0 (leb (trimF (frF2 f k) (nS (frF2 f k))) 2)
theorem pfree_no (w : World) (g : Nat) (f : Nat → UInt8) (x : Int) (h : Pgm w g f) (hn : nS f ≤ 127) (hh : hasF f x = false) :
    Calls Try.prog 41 #[.pointer (some ⟨g, 0, none⟩), .int .i64 x] w fun e w' => e = .returned (.int .i64 15) ∧ w' = w := by
  have hha := has_any w g f x h hn
  rw [hh] at hha
  have HH := Lib.hid hha
  clear hha hh h
  go_enter Try.func41, Try.ntmps41
  go_wp2_with (go_at_call 77; (with_reducible refine (HH.out).mono ?_); rintro e w1 ⟨rfl, hw1⟩; have hw := hw1.symm; subst hw)
  go_ret
  exact ⟨rfl, rfl⟩
theorem pfree_nil (w : World) (x : Int) : Calls Try.prog 41 #[.pointer none, .int .i64 x] w fun e w' => e = .returned (.int .i64 15) ∧ w' = w := by
  have HH := Lib.hid (has_nil w x)
  go_enter Try.func41, Try.ntmps41
  go_wp2_with (go_at_call 77; (with_reducible refine (HH.out).mono ?_); rintro e w1 ⟨rfl, hw1⟩; have hw := hw1.symm; subst hw)
  go_ret
  exact ⟨rfl, rfl⟩
set_option maxRecDepth 100000 in
set_option maxHeartbeats 1000000 in
theorem pfree_yes (w : World) (g : Nat) (f : Nat → UInt8) (x : Int) (k : Nat) (hx : x = (k : Int)) (h : Pgm w g f) (hf : Snd f) (hk : k < nS f) (hfr : fr f k = false) (hs2 : nS (frF2 f k) ≤ 127) :
    Calls Try.prog 41 #[.pointer (some ⟨g, 0, none⟩), .int .i64 x] w fun e w' => e = .returned (.int .i64 0) ∧ Pgm w' g (freeF f k) ∧ w.grownBy w' (some g) := by
  subst hx
  have hs := hf.slots
  obtain ⟨v1, v2⟩ := hf.ver k hk hfr
  have hha := has_any w g f (k : Int) h hs
  rw [show hasF f (k : Int) = true by unfold hasF; rw [decide_eq_true (by omega), decide_eq_true (by omega), Int.toNat_natCast, hfr]; rfl] at hha
  have hsp := span_any w g f (k : Int) k rfl (by omega) h
  have hF : freeF f k = lay (frF2 f k) 0 (leb (trimF (frF2 f k) (nS (frF2 f k))) 2) := rfl
  have hF2 : frF2 f k = lay (lay f (nA f k) (zer (nZ f k))) (4 + 4 * k) (zer 4) := rfl
  have HH := Lib.hid hha
  have HSP := Lib.hid hsp
  have HFF := Lib.hid hF
  have HF2 := Lib.hid hF2
  generalize hff : frF2 f k = f2 at *
  generalize freeF f k = f3 at *
  generalize nA f k = a at *
  generalize nZ f k = z at *
  have hsl := sl_both g a (a + z) (a : Int) ((a : Int) + (z : Int)) rfl (by omega) (by omega) (by omega)
  have hs2' := sl_both g (4 + 4 * k) (4 + 4 * k + 4) (4 + 4 * (k : Int)) (4 + 4 * ((k : Int) + 1)) (by omega) (by omega) (by omega) (by omega)
  have hw1 : IntKind.i64.wrap ((k : Int) + 1) = (k : Int) + 1 := IntWalk.i64_in _ (by omega)
  have h4 : 4 + 4 * k + 4 - (4 + 4 * k) = 4 := by omega
  rw [h4] at hs2'
  rw [show a + z - a = z by omega] at hsl
  clear hha hsp hF hF2 hff hfr h4 hf
  go_enter Try.func41, Try.ntmps41
  go_wp2_with (first
    | (go_at_call 77; (with_reducible refine (HH.out).mono ?_); rintro e w1 ⟨rfl, hw1⟩; have hw := hw1.symm; subst hw)
    | (go_at_call 74; (with_reducible refine (HSP.out).mono ?_); rintro e w1 ⟨rfl, hw1⟩; have hw := hw1.symm; subst hw)
    | (with_reducible refine wpList_clear_pg rfl (.tmp 25) rfl g a z (512 - a) f h rfl (by omega) ?_; intro w1 h1 g1 z1; have H1 := Lib.hid h1; have Z1 := Lib.hid z1; clear h1 z1))
  refine wp_region_still_tail 9 (by kernel_rfl) (by kernel_rfl) ?_
  simp only [List.take_succ_cons, List.take_zero, List.drop_succ_cons, List.drop_zero]
  repeat (first | still_step | still_call (slotsEnd_any _ (k : Int) (by omega) (by omega)) | still_call (slotsEnd_any _ ((k : Int) + 1) (by omega) (by omega)))
  refine wpStill_nil ?_
  refine wpList_clear_pg rfl (.tmp 34) rfl g (4 + 4 * k) 4 (512 - (4 + 4 * k)) _ H1.out.drew rfl (by omega) ?_
  intro w2 h2 g2 z2
  rw [← HF2.out] at h2
  have hs3 := slots_any w2 g f2 h2
  have hfr3 := fun (j : Nat) hj => free_any w2 g f2 (j : Int) j rfl hj h2
  have hst := fun (j : Nat) hj => setSlots_any w2 g f2 (j : Int) j rfl hj h2
  have htr : ∀ j, trimF f2 (j + 1) = if fr f2 j then trimF f2 j else j + 1 := fun _ => rfl
  generalize nS f2 = n at *
  have HS := Lib.hid hs3
  have HFR := Lib.hid hfr3
  have HST := Lib.hid hst
  have HTR := Lib.hid htr
  clear h2 hs3 hfr3 hst htr h H1
  go_wp2_with (go_at_call 29; (with_reducible refine (HS.out).mono ?_); rintro e w1 ⟨rfl, hw1⟩; have hw := hw1.symm; subst hw)
  go_loop [7] (fun s => ∃ j : Nat, j ≤ n ∧ s = .int .i64 (j : Int) ∧ trimF f2 n = trimF f2 j) (fun s => (intOf s).toNat)
  case atStart => exact ⟨n, Nat.le_refl _, rfl, rfl⟩
  case round =>
    obtain ⟨j, hj, rfl, hrj⟩ := hrel
    have HJ := Lib.hid hrj
    clear hrj
    have fin : ∀ x : Int, x = (j : Int) → trimF f2 j = j → (Calls Try.prog 85 #[.pointer (some ⟨g, 0, none⟩), .int .i64 x] w2 fun e w' => e = .returned (.tuple #[]) ∧ Pgm w' g f3 ∧ w2.grownBy w' (some g) ∧ w'.heap.size = w2.heap.size) := fun x hx hT => by
      subst hx
      rw [HFF.out, HJ.out, hT]; exact HST.out j (by omega)
    rcases Nat.eq_zero_or_pos j with hj0 | hj0
    · subst hj0
      have h1 := fin 0 rfl rfl
      have H1 := Lib.hid h1
      clear h1 fin
      go_wp2_with (go_at_call 85; (with_reducible refine (H1.out).mono ?_); rintro e w3 ⟨rfl, h3, g3, z3⟩; have H3 := Lib.hid h3; clear h3)
      go_ret
      exact ⟨rfl, H3.out, grown_tr g1 (grown_tr (grown_drew _ _) (grown_tr g2 g3))⟩
    · obtain ⟨i, rfl⟩ : ∃ i, j = i + 1 := ⟨j - 1, by omega⟩
      have hT := HTR.out i
      have hfi := HFR.out i (by omega)
      have hw2 : IntKind.i64.wrap (((i + 1 : Nat) : Int) - 1) = (i : Int) := by rw [show ((i + 1 : Nat) : Int) - 1 = (i : Int) by omega]; exact IntWalk.i64_in _ (by omega)
      have hw3 : ((i + 1 : Nat) : Int) - 1 = (i : Int) := by omega
      by_cases hx : fr f2 i = true
      · rw [hx] at hfi hT
        have HX := Lib.hid hfi
        have HT := Lib.hid hT
        clear hfi hT hx fin
        go_wp2_with (go_at_call 75; (with_reducible refine (HX.out).mono ?_); rintro e w1 ⟨rfl, hw1⟩; have hw := hw1.symm; subst hw)
        go_round
        case rel => exact ⟨i, by omega, rfl, by rw [HJ.out, HT.out]; rfl⟩
        case measure => simp [intOf]; try omega
      · have hx' : fr f2 i = false := by simpa using hx
        rw [hx'] at hfi hT
        have h1 := fin ((i : Int) + 1) (by omega) hT
        have HX := Lib.hid hfi
        have H1 := Lib.hid h1
        clear hfi hT hx hx' fin h1
        go_wp2_with (first
          | (go_at_call 75; (with_reducible refine (HX.out).mono ?_); rintro e w1 ⟨rfl, hw1⟩; have hw := hw1.symm; subst hw)
          | (go_at_call 85; (with_reducible refine (H1.out).mono ?_); rintro e w3 ⟨rfl, h3, g3, z3⟩; have H3 := Lib.hid h3; clear h3))
        go_ret
        exact ⟨rfl, H3.out, grown_tr g1 (grown_tr (grown_drew _ _) (grown_tr g2 g3))⟩
end Go.Proofs.Ytpnkmkenmpbekaa
