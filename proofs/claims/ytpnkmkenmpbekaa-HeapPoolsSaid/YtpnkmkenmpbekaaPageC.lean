/-
  Pages: lowestFree, Room, Used, has.
-/
import Derived.Test.YtpnkmkenmpbekaaPageB
namespace Go.Proofs.Ytpnkmkenmpbekaa
open Go.RowKit

/-- The first free one of so many slots; else the one behind them. -/
def lowF (f : Nat → UInt8) : Nat → Nat
  | 0 => 0
  | n + 1 => if lowF f n < n then lowF f n else if fr f n then n else n + 1
structure Low (f : Nat → UInt8) (n k : Nat) : Prop where
  le : k ≤ n
  before : ∀ j, j < k → fr f j = false
  at_ : k < n → fr f k = true
theorem lowF_low (f : Nat → UInt8) : ∀ n, Low f n (lowF f n)
  | 0 => ⟨Nat.le_refl _, fun j hj => by simp [lowF] at hj, fun h => by simp [lowF] at h⟩
  | n + 1 => by
    have ih := lowF_low f n
    unfold lowF
    by_cases h : lowF f n < n
    · rw [if_pos h]; exact ⟨by omega, ih.before, fun _ => ih.at_ h⟩
    · rw [if_neg h]
      have e : lowF f n = n := by have := ih.le; omega
      have hb := ih.before
      rw [e] at hb
      by_cases h2 : fr f n = true
      · rw [if_pos h2]; exact ⟨by omega, hb, fun _ => h2⟩
      · rw [if_neg h2]
        refine ⟨Nat.le_refl _, fun j hj => ?_, fun h => by omega⟩
        by_cases ej : j = n
        · subst ej; simpa using h2
        · exact hb j (by omega)
theorem Low.one {f : Nat → UInt8} {n k m : Nat} (h : Low f n k) (h' : Low f n m) : k = m := by
  rcases Nat.lt_trichotomy k m with e | e | e
  · have h1 := h.at_ (by have := h'.le; omega)
    rw [h'.before k e] at h1; cases h1
  · exact e
  · have h1 := h'.at_ (by have := h.le; omega)
    rw [h.before m e] at h1; cases h1
def totF (f : Nat → UInt8) : Nat → Nat
  | 0 => 0
  | n + 1 => totF f n + nZ f n
theorem totF_le (f : Nat → UInt8) : ∀ n, totF f n ≤ n * 65535
  | 0 => Nat.le_refl _
  | n + 1 => by have := totF_le f n; have h2 := nZ_lt f n; unfold totF; omega
def usedF (f : Nat → UInt8) : Nat → Nat
  | 0 => 0
  | n + 1 => usedF f n + (if fr f n then 0 else 1)
theorem usedF_le (f : Nat → UInt8) : ∀ n, usedF f n ≤ n
  | 0 => Nat.le_refl _
  | n + 1 => by have := usedF_le f n; unfold usedF; split <;> omega
def roomF (f : Nat → UInt8) : Int := max (512 - (4 + 4 * (max (nS f) (lowF f (nS f) + 1) : Nat)) - 30 - (totF f (nS f) : Nat)) (-1)
def hasF (f : Nat → UInt8) (x : Int) : Bool := decide (0 ≤ x) && (decide (x < (nS f : Int)) && !fr f x.toNat)
set_option maxRecDepth 100000 in
theorem lowest_any (w : World) (g : Nat) (f : Nat → UInt8) (h : Pgm w g f) (hn : nS f ≤ 127) :
    Calls Try.prog 73 #[.pointer (some ⟨g, 0, none⟩)] w fun e w' => e = .returned (.int .i64 (lowF f (nS f) : Int)) ∧ w' = w := by
  have hs := slots_any w g f h
  have hfr := fun (k : Nat) hk => free_any w g f (k : Int) k rfl hk h
  have hlow := fun (k : Nat) (hl : Low f (nS f) k) => hl.one (lowF_low f (nS f))
  generalize nS f = n at *
  generalize lowF f n = m at *
  have HS := Lib.hid hs
  have HF := Lib.hid hfr
  have HL := Lib.hid hlow
  clear hs hfr hlow h
  go_enter Try.func73, Try.ntmps73
  go_wp2_with (go_at_call 29; (with_reducible refine (HS.out).mono ?_); rintro e w1 ⟨rfl, hw1⟩; have hw := hw1.symm; subst hw)
  go_loop [8] (fun s => ∃ k : Nat, k ≤ n ∧ s = .int .i64 (k : Int) ∧ ∀ j, j < k → fr f j = false) (fun s => n - (intOf s).toNat)
  case atStart => exact ⟨0, Nat.zero_le _, rfl, fun j hj => by omega⟩
  case round =>
    obtain ⟨k, hk, rfl, hall⟩ := hrel
    have HA := Lib.hid hall
    clear hall
    by_cases hlt : k < n
    · have h1 := HF.out k (by omega)
      by_cases hx : fr f k = true
      · rw [hx] at h1
        have hm := HL.out k ⟨hk, HA.out, fun _ => hx⟩
        have H1 := Lib.hid h1
        subst hm
        clear h1 hx
        go_wp2_with (go_at_call 75; (with_reducible refine (H1.out).mono ?_); rintro e w1 ⟨rfl, hw1⟩; have hw := hw1.symm; subst hw)
        go_ret
        exact ⟨rfl, rfl⟩
      · have hx' : fr f k = false := by simpa using hx
        rw [hx'] at h1
        have H1 := Lib.hid h1
        have HX := Lib.hid hx'
        clear h1 hx hx'
        go_wp2_with (go_at_call 75; (with_reducible refine (H1.out).mono ?_); rintro e w1 ⟨rfl, hw1⟩; have hw := hw1.symm; subst hw)
        go_round
        case rel => exact ⟨k + 1, by omega, by go_num, fun j hj => by
          by_cases e : j = k
          · subst e; exact HX.out
          · exact HA.out j (by omega)⟩
        case measure => simp [intOf]; omega
    · obtain rfl : k = n := by omega
      have hm := HL.out k ⟨hk, HA.out, fun h => by omega⟩
      subst hm
      go_wp2
      go_ret
      exact ⟨rfl, rfl⟩
theorem room_nil (w : World) : Calls Try.prog 25 #[.pointer none] w fun e w' => e = .returned (.int .i64 (-1)) ∧ w' = w := by
  go_enter Try.func25, Try.ntmps25
  go_wp2
  go_ret
  exact ⟨rfl, rfl⟩
set_option maxRecDepth 100000 in
set_option maxHeartbeats 1000000 in
theorem proom_any (w : World) (g : Nat) (f : Nat → UInt8) (h : Pgm w g f) (hn : nS f ≤ 127) :
    Calls Try.prog 25 #[.pointer (some ⟨g, 0, none⟩)] w fun e w' => e = .returned (.int .i64 (roomF f)) ∧ w' = w := by
  have hs := slots_any w g f h
  have hl := lowest_any w g f h hn
  have hsp := fun (k : Nat) hk => span_any w g f (k : Int) k rfl hk h
  have htot : ∀ k, totF f (k + 1) = totF f k + nZ f k := fun _ => rfl
  have hte := totF_le f
  have hzl := nZ_lt f
  have hm0 : ∃ m : Nat, m = max (nS f) (lowF f (nS f) + 1) := ⟨_, rfl⟩
  obtain ⟨m, hm⟩ := hm0
  have hr : roomF f = max (512 - (4 + 4 * (m : Int)) - 30 - (totF f (nS f) : Nat)) (-1) := by unfold roomF; rw [hm]
  have hlo := (lowF_low f (nS f)).le
  rw [hr]
  generalize nS f = n at *
  generalize lowF f n = l at *
  have hm1 : (l + 1 ≤ n ∧ m = n) ∨ (l = n ∧ m = n + 1) := by omega
  have HS := Lib.hid hs
  have HL := Lib.hid hl
  have HP := Lib.hid hsp
  have HT := Lib.hid htot
  have HTE := Lib.hid hte
  have HZL := Lib.hid hzl
  clear hs hl hsp htot hte hzl h hr hm
  rcases hm1 with ⟨h1, e⟩ | ⟨h1, e⟩
  · subst e
    go_enter Try.func25, Try.ntmps25
    go_wp2_with (first
      | (go_at_call 29; (with_reducible refine (HS.out).mono ?_); rintro e w1 ⟨rfl, hw1⟩; have hw := hw1.symm; subst hw)
      | (go_at_call 73; (with_reducible refine (HL.out).mono ?_); rintro e w1 ⟨rfl, hw1⟩; have hw := hw1.symm; subst hw)
      | (go_at_call 72; (with_reducible refine (slotsEnd_any _ _ (by omega) (by omega)).mono ?_); rintro e w1 ⟨rfl, hw1⟩; have hw := hw1.symm; subst hw))
    go_loop [3, 20] (fun r s => ∃ k : Nat, k ≤ m ∧ s = .int .i64 (k : Int) ∧ r = .int .i64 (512 - (4 + 4 * (m : Int)) - 30 - (totF f k : Int))) (fun _ s => m - (intOf s).toNat)
    case atStart => exact ⟨0, Nat.zero_le _, rfl, by simp [totF]⟩
    case round =>
      obtain ⟨k, hk, rfl, rfl⟩ := hrel
      have ht := HTE.out k
      have ht' : totF f k ≤ 127 * 65535 := Nat.le_trans ht (Nat.mul_le_mul_right _ (by omega))
      clear ht
      by_cases hlt : k < m
      · have hp := HP.out k (by omega)
        have HF := HT.out k
        have hz := HZL.out k
        generalize totF f k = t at *
        generalize nA f k = a at *
        generalize nZ f k = z at *
        have HPP := Lib.hid hp
        have HFF := Lib.hid HF
        clear hp HF
        go_wp2_with (go_at_call 74; (with_reducible refine (HPP.out).mono ?_); rintro e w1 ⟨rfl, hw1⟩; have hw := hw1.symm; subst hw)
        go_round
        case rel => exact ⟨k + 1, by omega, by go_num, by rw [HFF.out]; go_num⟩
        case measure => simp [intOf]; omega
      · obtain rfl : k = m := by omega
        by_cases hge : -1 ≤ 512 - (4 + 4 * (k : Int)) - 30 - (totF f k : Int)
        · have e1 : max (512 - (4 + 4 * (k : Int)) - 30 - (totF f k : Int)) (-1) = 512 - (4 + 4 * (k : Int)) - 30 - (totF f k : Int) := by omega
          have E1 := Lib.hid e1
          clear e1
          go_wp2
          go_ret
          exact ⟨by rw [E1.out]; rfl, rfl⟩
        · have e1 : max (512 - (4 + 4 * (k : Int)) - 30 - (totF f k : Int)) (-1) = -1 := by omega
          have E1 := Lib.hid e1
          clear e1
          go_wp2
          go_ret
          exact ⟨by rw [E1.out]; rfl, rfl⟩
  · subst e
    subst h1
    go_enter Try.func25, Try.ntmps25
    go_wp2_with (first
      | (go_at_call 29; (with_reducible refine (HS.out).mono ?_); rintro e w1 ⟨rfl, hw1⟩; have hw := hw1.symm; subst hw)
      | (go_at_call 73; (with_reducible refine (HL.out).mono ?_); rintro e w1 ⟨rfl, hw1⟩; have hw := hw1.symm; subst hw)
      | (go_at_call 72; (with_reducible refine (slotsEnd_any _ _ (by omega) (by omega)).mono ?_); rintro e w1 ⟨rfl, hw1⟩; have hw := hw1.symm; subst hw))
    go_loop [3, 20] (fun r s => ∃ k : Nat, k ≤ l ∧ s = .int .i64 (k : Int) ∧ r = .int .i64 (512 - (4 + 4 * ((l : Int) + 1)) - 30 - (totF f k : Int))) (fun _ s => l - (intOf s).toNat)
    case atStart => exact ⟨0, Nat.zero_le _, rfl, by simp [totF]⟩
    case round =>
      obtain ⟨k, hk, rfl, rfl⟩ := hrel
      have ht := HTE.out k
      have ht' : totF f k ≤ 127 * 65535 := Nat.le_trans ht (Nat.mul_le_mul_right _ (by omega))
      clear ht
      by_cases hlt : k < l
      · have hp := HP.out k (by omega)
        have HF := HT.out k
        have hz := HZL.out k
        generalize totF f k = t at *
        generalize nA f k = a at *
        generalize nZ f k = z at *
        have HPP := Lib.hid hp
        have HFF := Lib.hid HF
        clear hp HF
        go_wp2_with (go_at_call 74; (with_reducible refine (HPP.out).mono ?_); rintro e w1 ⟨rfl, hw1⟩; have hw := hw1.symm; subst hw)
        go_round
        case rel => exact ⟨k + 1, by omega, by go_num, by rw [HFF.out]; go_num⟩
        case measure => simp [intOf]; omega
      · obtain rfl : k = l := by omega
        by_cases hge : -1 ≤ 512 - (4 + 4 * ((k : Int) + 1)) - 30 - (totF f k : Int)
        · have e1 : max (512 - (4 + 4 * ((k : Int) + 1)) - 30 - (totF f k : Int)) (-1) = 512 - (4 + 4 * ((k : Int) + 1)) - 30 - (totF f k : Int) := by omega
          have E1 := Lib.hid e1
          clear e1
          go_wp2
          go_ret
          exact ⟨by rw [E1.out]; rfl, rfl⟩
        · have e1 : max (512 - (4 + 4 * ((k : Int) + 1)) - 30 - (totF f k : Int)) (-1) = -1 := by omega
          have E1 := Lib.hid e1
          clear e1
          go_wp2
          go_ret
          exact ⟨by rw [E1.out]; rfl, rfl⟩
set_option maxRecDepth 100000 in
theorem used_any (w : World) (g : Nat) (f : Nat → UInt8) (h : Pgm w g f) (hn : nS f ≤ 127) :
    Calls Try.prog 27 #[.pointer (some ⟨g, 0, none⟩)] w fun e w' => e = .returned (.int .i64 (usedF f (nS f) : Int)) ∧ w' = w := by
  have hs := slots_any w g f h
  have hfr := fun (k : Nat) hk => free_any w g f (k : Int) k rfl hk h
  have hu : ∀ k, usedF f (k + 1) = usedF f k + (if fr f k then 0 else 1) := fun _ => rfl
  have hle := usedF_le f
  generalize nS f = n at *
  have HS := Lib.hid hs
  have HF := Lib.hid hfr
  have HU := Lib.hid hu
  have HLE := Lib.hid hle
  clear hs hfr hu hle h
  go_enter Try.func27, Try.ntmps27
  go_wp2_with (go_at_call 29; (with_reducible refine (HS.out).mono ?_); rintro e w1 ⟨rfl, hw1⟩; have hw := hw1.symm; subst hw)
  go_loop [3, 7] (fun u s => ∃ k : Nat, k ≤ n ∧ s = .int .i64 (k : Int) ∧ u = .int .i64 (usedF f k : Int)) (fun _ s => n - (intOf s).toNat)
  case atStart => exact ⟨0, Nat.zero_le _, rfl, rfl⟩
  case round =>
    obtain ⟨k, hk, rfl, rfl⟩ := hrel
    have hle := HLE.out k
    by_cases hlt : k < n
    · have h1 := HF.out k (by omega)
      have hu := HU.out k
      by_cases hx : fr f k = true
      · rw [hx] at h1 hu
        have H1 := Lib.hid h1
        have HUU := Lib.hid hu
        clear h1 hu hx
        go_wp2_with (go_at_call 75; (with_reducible refine (H1.out).mono ?_); rintro e w1 ⟨rfl, hw1⟩; have hw := hw1.symm; subst hw)
        go_round
        case rel => exact ⟨k + 1, by omega, by go_num, by rw [HUU.out]; rfl⟩
        case measure => simp [intOf]; omega
      · have hx' : fr f k = false := by simpa using hx
        rw [hx'] at h1 hu
        have H1 := Lib.hid h1
        have HUU := Lib.hid hu
        clear h1 hu hx hx'
        generalize usedF f k = u at *
        go_wp2_with (go_at_call 75; (with_reducible refine (H1.out).mono ?_); rintro e w1 ⟨rfl, hw1⟩; have hw := hw1.symm; subst hw)
        go_round
        case rel => exact ⟨k + 1, by omega, by go_num, by rw [HUU.out]; simp⟩
        case measure => simp [intOf]; omega
    · obtain rfl : k = n := by omega
      go_wp2
      go_ret
      exact ⟨rfl, rfl⟩
theorem used_nil (w : World) : Calls Try.prog 27 #[.pointer none] w fun e w' => e = .returned (.int .i64 0) ∧ w' = w := by
  have HS := Lib.hid (slots_nil w)
  go_enter Try.func27, Try.ntmps27
  go_wp2_with (go_at_call 29; (with_reducible refine (HS.out).mono ?_); rintro e w1 ⟨rfl, hw1⟩; have hw := hw1.symm; subst hw)
  refine wp_loop_rounds 1 ?_
  rw [rounds_succ]
  go_wp2
  go_ret
  exact ⟨rfl, rfl⟩
set_option maxRecDepth 100000 in
theorem has_any (w : World) (g : Nat) (f : Nat → UInt8) (x : Int) (h : Pgm w g f) (hn : nS f ≤ 127) :
    Calls Try.prog 77 #[.pointer (some ⟨g, 0, none⟩), .int .i64 x] w fun e w' => e = .returned (.bool (hasF f x)) ∧ w' = w := by
  have hs := slots_any w g f h
  have hfr := fun (k : Nat) hk => free_any w g f (k : Int) k rfl hk h
  by_cases h0 : 0 ≤ x
  · obtain ⟨k, rfl⟩ : ∃ k : Nat, x = (k : Int) := ⟨x.toNat, by omega⟩
    by_cases h1 : k < nS f
    · have hb : hasF f (k : Int) = !fr f k := by unfold hasF; rw [decide_eq_true h0, decide_eq_true (by omega), Int.toNat_natCast]; rfl
      have h2 := hfr k (by omega)
      rw [hb]
      generalize nS f = n at *
      generalize fr f k = b at *
      have HS := Lib.hid hs
      have HF := Lib.hid h2
      clear hs hfr h2 h hb
      go_enter Try.func77, Try.ntmps77
      go_wp2_with (first
        | (go_at_call 29; (with_reducible refine (HS.out).mono ?_); rintro e w1 ⟨rfl, hw1⟩; have hw := hw1.symm; subst hw)
        | (go_at_call 75; (with_reducible refine (HF.out).mono ?_); rintro e w1 ⟨rfl, hw1⟩; have hw := hw1.symm; subst hw))
      go_ret
      exact ⟨rfl, rfl⟩
    · have hb : hasF f (k : Int) = false := by unfold hasF; rw [decide_eq_false (show ¬ ((k : Int) < (nS f : Int)) by omega)]; simp
      rw [hb]
      generalize nS f = n at *
      have HS := Lib.hid hs
      have hd : decide (k < n) = false := decide_eq_false (by omega)
      clear hs hfr h hb
      go_enter Try.func77, Try.ntmps77
      go_wp2_with (go_at_call 29; (with_reducible refine (HS.out).mono ?_); rintro e w1 ⟨rfl, hw1⟩; have hw := hw1.symm; subst hw)
      go_ret
      exact ⟨rfl, rfl⟩
  · have hb : hasF f x = false := by unfold hasF; rw [decide_eq_false h0]; rfl
    rw [hb]
    have hd : decide (0 ≤ x) = false := decide_eq_false h0
    clear hs hfr h hb
    go_enter Try.func77, Try.ntmps77
    go_wp2
    go_ret
    exact ⟨rfl, rfl⟩
theorem has_nil (w : World) (x : Int) : Calls Try.prog 77 #[.pointer none, .int .i64 x] w fun e w' => e = .returned (.bool false) ∧ w' = w := by
  have HS := Lib.hid (slots_nil w)
  by_cases h0 : 0 ≤ x
  · have hd : decide (x < 0) = false := decide_eq_false (by omega)
    go_enter Try.func77, Try.ntmps77
    go_wp2_with (go_at_call 29; (with_reducible refine (HS.out).mono ?_); rintro e w1 ⟨rfl, hw1⟩; have hw := hw1.symm; subst hw)
    go_ret
    exact ⟨rfl, rfl⟩
  · have hd : decide (0 ≤ x) = false := decide_eq_false h0
    go_enter Try.func77, Try.ntmps77
    go_wp2
    go_ret
    exact ⟨rfl, rfl⟩
end Go.Proofs.Ytpnkmkenmpbekaa
