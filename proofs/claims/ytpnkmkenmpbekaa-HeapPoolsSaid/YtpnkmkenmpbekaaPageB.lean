/-
  Pages: slotsEnd, Slots, begin, span, free, setBegin, setSlots, setSpan, New.
-/
import Derived.Test.YtpnkmkenmpbekaaPageA
namespace Go.Proofs.Ytpnkmkenmpbekaa
open Go.RowKit

theorem number_i (w : World) (g : Nat) (f : Nat → UInt8) (x y : Int) (a k : Nat) (hx : x = (a : Int)) (hy : y = (k : Int)) (h : Pgm w g f) (hk : k ≤ 8) (ha : a + k ≤ 512) (hlt : a < 512) :
    Calls Try.prog 76 #[.pointer (some ⟨g, 0, none⟩), .int .i64 x, .int .i64 y] w fun e w' => e = .returned (.int .u64 (le f a k : Int)) ∧ w' = w := by
  subst hx hy
  exact number_any w g f a k h hk ha hlt
theorem setNumber_i (w : World) (g : Nat) (f : Nat → UInt8) (x y z : Int) (a k n : Nat) (hx : x = (a : Int)) (hy : y = (k : Int)) (hz : z = (n : Int)) (h : Pgm w g f) (hk : k ≤ 8) (ha : a + k ≤ 512) :
    Calls Try.prog 98 #[.pointer (some ⟨g, 0, none⟩), .int .i64 x, .int .i64 y, .int .u64 z] w fun e w' => e = .returned (.tuple #[]) ∧ Pgm w' g (lay f a (leb n k)) ∧ w.grownBy w' (some g) ∧ w'.heap.size = w.heap.size := by
  subst hx hy hz
  exact setNumber_any w g f a k n h hk ha
theorem slotsEnd_any (w : World) (x : Int) (h0 : 0 ≤ x) (h1 : x ≤ 1000000) :
    Calls Try.prog 72 #[.int .i64 x] w fun e w' => e = .returned (.int .i64 (4 + 4 * x)) ∧ w' = w := by
  go_enter Try.func72, Try.ntmps72
  go_wp2
  go_ret
  exact ⟨rfl, rfl⟩
/-- How many slots; where the data begin; where a slot's version lies, and how many bytes it has. -/
def nS (f : Nat → UInt8) : Nat := le f 0 2
def nB (f : Nat → UInt8) : Nat := le f 2 2
def nA (f : Nat → UInt8) (k : Nat) : Nat := le f (4 + 4 * k) 2
def nZ (f : Nat → UInt8) (k : Nat) : Nat := le f (6 + 4 * k) 2
theorem nS_lt (f : Nat → UInt8) : nS f < 65536 := le_lt f 0 2
theorem nB_lt (f : Nat → UInt8) : nB f < 65536 := le_lt f 2 2
theorem nA_lt (f : Nat → UInt8) (k : Nat) : nA f k < 65536 := le_lt f _ 2
theorem nZ_lt (f : Nat → UInt8) (k : Nat) : nZ f k < 65536 := le_lt f _ 2
set_option maxRecDepth 100000 in
theorem slots_any (w : World) (g : Nat) (f : Nat → UInt8) (h : Pgm w g f) :
    Calls Try.prog 29 #[.pointer (some ⟨g, 0, none⟩)] w fun e w' => e = .returned (.int .i64 (nS f : Int)) ∧ w' = w := by
  have hn := number_i w g f 0 2 0 2 rfl rfl h (by omega) (by omega) (by omega)
  have hl := nS_lt f
  rw [show le f 0 2 = nS f from rfl] at hn
  generalize nS f = n at *
  have HN := Lib.hid hn
  clear hn
  go_enter Try.func29, Try.ntmps29
  go_wp2_with (go_at_call 76; (with_reducible refine (HN.out).mono ?_); rintro e w1 ⟨rfl, hw1⟩; have hw := hw1.symm; subst hw)
  go_ret
  exact ⟨rfl, rfl⟩
theorem slots_nil (w : World) : Calls Try.prog 29 #[.pointer none] w fun e w' => e = .returned (.int .i64 0) ∧ w' = w := by
  go_enter Try.func29, Try.ntmps29
  go_wp2
  go_ret
  exact ⟨rfl, rfl⟩
set_option maxRecDepth 100000 in
theorem begin_any (w : World) (g : Nat) (f : Nat → UInt8) (h : Pgm w g f) :
    Calls Try.prog 83 #[.pointer (some ⟨g, 0, none⟩)] w fun e w' => e = .returned (.int .i64 (nB f : Int)) ∧ w' = w := by
  have hn := number_i w g f 2 2 2 2 rfl rfl h (by omega) (by omega) (by omega)
  have hl := nB_lt f
  rw [show le f 2 2 = nB f from rfl] at hn
  generalize nB f = n at *
  have HN := Lib.hid hn
  clear hn
  go_enter Try.func83, Try.ntmps83
  go_wp2_with (go_at_call 76; (with_reducible refine (HN.out).mono ?_); rintro e w1 ⟨rfl, hw1⟩; have hw := hw1.symm; subst hw)
  go_ret
  exact ⟨rfl, rfl⟩
set_option maxRecDepth 100000 in
theorem span_any (w : World) (g : Nat) (f : Nat → UInt8) (x : Int) (k : Nat) (hx : x = (k : Int)) (hk : k < 127) (h : Pgm w g f) :
    Calls Try.prog 74 #[.pointer (some ⟨g, 0, none⟩), .int .i64 x] w fun e w' => e = .returned (.tuple #[.int .i64 (nA f k : Int), .int .i64 (nZ f k : Int)]) ∧ w' = w := by
  subst hx
  have hn := number_i w g f (4 + 4 * (k : Int)) 2 (4 + 4 * k) 2 (by omega) rfl h (by omega) (by omega) (by omega)
  have hm := number_i w g f (4 + 4 * (k : Int) + 2) 2 (6 + 4 * k) 2 (by omega) rfl h (by omega) (by omega) (by omega)
  have hs := slotsEnd_any w (k : Int) (by omega) (by omega)
  have hl := nA_lt f k
  have hl2 := nZ_lt f k
  rw [show le f (4 + 4 * k) 2 = nA f k from rfl] at hn
  rw [show le f (6 + 4 * k) 2 = nZ f k from rfl] at hm
  generalize nA f k = n at *
  generalize nZ f k = m at *
  have HN := Lib.hid hn
  have HM := Lib.hid hm
  have HS := Lib.hid hs
  clear hn hm hs
  go_enter Try.func74, Try.ntmps74
  go_wp2_with (first
    | (go_at_call 72; (with_reducible refine (HS.out).mono ?_); rintro e w1 ⟨rfl, hw1⟩; have hw := hw1.symm; subst hw)
    | (go_at_call 76; (with_reducible refine (HN.out).mono ?_); rintro e w1 ⟨rfl, hw1⟩; have hw := hw1.symm; subst hw)
    | (go_at_call 76; (with_reducible refine (HM.out).mono ?_); rintro e w1 ⟨rfl, hw1⟩; have hw := hw1.symm; subst hw))
  go_ret2
  exact ⟨rfl, rfl⟩
/-- Is a slot free? -/
def fr (f : Nat → UInt8) (k : Nat) : Bool := decide (nA f k = 0 ∧ nZ f k = 0)
set_option maxRecDepth 100000 in
theorem free_any (w : World) (g : Nat) (f : Nat → UInt8) (x : Int) (k : Nat) (hx : x = (k : Int)) (hk : k < 127) (h : Pgm w g f) :
    Calls Try.prog 75 #[.pointer (some ⟨g, 0, none⟩), .int .i64 x] w fun e w' => e = .returned (.bool (fr f k)) ∧ w' = w := by
  have hs := span_any w g f x k hx hk h
  have hfr : fr f k = decide (nA f k = 0 ∧ nZ f k = 0) := rfl
  generalize fr f k = b at *
  have hl := nA_lt f k
  have hl2 := nZ_lt f k
  generalize nA f k = n at *
  generalize nZ f k = m at *
  have HS := Lib.hid hs
  clear hs hx h
  by_cases hn : n = 0
  · by_cases hm : m = 0
    · subst hn hm
      obtain rfl : b = true := by rw [hfr]; rfl
      clear hfr
      go_enter Try.func75, Try.ntmps75
      go_wp2_with (go_at_call 74; (with_reducible refine (HS.out).mono ?_); rintro e w1 ⟨rfl, hw1⟩; have hw := hw1.symm; subst hw)
      go_ret
      exact ⟨rfl, rfl⟩
    · subst hn
      obtain rfl : b = false := by rw [hfr]; exact decide_eq_false (fun h => hm h.2)
      clear hfr
      have h1 : ((m : Int) == 0) = false := beq_eq_false_iff_ne.2 (by omega)
      go_enter Try.func75, Try.ntmps75
      go_wp2_with (go_at_call 74; (with_reducible refine (HS.out).mono ?_); rintro e w1 ⟨rfl, hw1⟩; have hw := hw1.symm; subst hw)
      go_ret
      exact ⟨rfl, rfl⟩
  · obtain rfl : b = false := by rw [hfr]; exact decide_eq_false (fun h => hn h.1)
    clear hfr
    have h1 : ((n : Int) == 0) = false := beq_eq_false_iff_ne.2 (by omega)
    go_enter Try.func75, Try.ntmps75
    go_wp2_with (go_at_call 74; (with_reducible refine (HS.out).mono ?_); rintro e w1 ⟨rfl, hw1⟩; have hw := hw1.symm; subst hw)
    go_ret
    exact ⟨rfl, rfl⟩
set_option maxRecDepth 100000 in
theorem setBegin_any (w : World) (g : Nat) (f : Nat → UInt8) (x : Int) (n : Nat) (hx : x = (n : Int)) (hn : n < 65536) (h : Pgm w g f) :
    Calls Try.prog 64 #[.pointer (some ⟨g, 0, none⟩), .int .i64 x] w fun e w' => e = .returned (.tuple #[]) ∧ Pgm w' g (lay f 2 (leb n 2)) ∧ w.grownBy w' (some g) ∧ w'.heap.size = w.heap.size := by
  have hs := setNumber_i w g f 2 2 x 2 2 n rfl rfl hx h (by omega) (by omega)
  have HS := Lib.hid hs
  have h0 : 0 ≤ x := by omega
  have h1 : x < 65536 := by omega
  clear hs hx
  go_enter Try.func64, Try.ntmps64
  go_wp2_with (go_at_call 98; (with_reducible refine (HS.out).mono ?_); rintro e w1 ⟨rfl, hp, hg, hz⟩; have HP := Lib.hid hp; have HZ := Lib.hid hz; clear hp hz)
  go_end0
  exact ⟨rfl, HP.out, hg, HZ.out⟩
set_option maxRecDepth 100000 in
theorem setSlots_any (w : World) (g : Nat) (f : Nat → UInt8) (x : Int) (n : Nat) (hx : x = (n : Int)) (hn : n < 65536) (h : Pgm w g f) :
    Calls Try.prog 85 #[.pointer (some ⟨g, 0, none⟩), .int .i64 x] w fun e w' => e = .returned (.tuple #[]) ∧ Pgm w' g (lay f 0 (leb n 2)) ∧ w.grownBy w' (some g) ∧ w'.heap.size = w.heap.size := by
  have hs := setNumber_i w g f 0 2 x 0 2 n rfl rfl hx h (by omega) (by omega)
  have HS := Lib.hid hs
  have h0 : 0 ≤ x := by omega
  have h1 : x < 65536 := by omega
  clear hs hx
  go_enter Try.func85, Try.ntmps85
  go_wp2_with (go_at_call 98; (with_reducible refine (HS.out).mono ?_); rintro e w1 ⟨rfl, hp, hg, hz⟩; have HP := Lib.hid hp; have HZ := Lib.hid hz; clear hp hz)
  go_end0
  exact ⟨rfl, HP.out, hg, HZ.out⟩
set_option maxRecDepth 100000 in
theorem setSpan_any (w : World) (g : Nat) (f : Nat → UInt8) (x y z : Int) (k a n : Nat) (hx : x = (k : Int)) (hy : y = (a : Int)) (hz : z = (n : Int)) (hk : k < 127) (ha : a < 65536) (hn : n < 65536) (h : Pgm w g f) :
    Calls Try.prog 86 #[.pointer (some ⟨g, 0, none⟩), .int .i64 x, .int .i64 y, .int .i64 z] w fun e w' => e = .returned (.tuple #[]) ∧ Pgm w' g (lay (lay f (4 + 4 * k) (leb a 2)) (6 + 4 * k) (leb n 2)) ∧ w.grownBy w' (some g) ∧ w'.heap.size = w.heap.size := by
  have hs := setNumber_i w g f (4 + 4 * x) 2 y (4 + 4 * k) 2 a (by omega) rfl hy h (by omega) (by omega)
  have HS := Lib.hid hs
  have ht := fun w => setNumber_i w g (lay f (4 + 4 * k) (leb a 2)) (4 + 4 * x + 2) 2 z (6 + 4 * k) 2 n (by omega) rfl hz
  have HT := Lib.hid ht
  have h0 : 0 ≤ x := by omega
  have h1 : x ≤ 127 := by omega
  have h2 : 0 ≤ y := by omega
  have h3 : y < 65536 := by omega
  have h4 : 0 ≤ z := by omega
  have h5 : z < 65536 := by omega
  clear hs hx hy hz ht h
  go_enter Try.func86, Try.ntmps86
  go_wp2_with (first
    | (go_at_call 72; (with_reducible refine (slotsEnd_any _ x h0 (by omega)).mono ?_); rintro e w1 ⟨rfl, hw1⟩; have hw := hw1.symm; subst hw)
    | (go_at_call 98; (with_reducible refine (HS.out).mono ?_); rintro e w1 ⟨rfl, hp, hg, hz⟩; have HP := Lib.hid hp; have HZ := Lib.hid hz; clear hp hz)
    | (go_at_call 98; (with_reducible refine (HT.out w1 HP.out (by omega) (by omega)).mono ?_); rintro e w2 ⟨rfl, hp, hg2, hz⟩; have HP2 := Lib.hid hp; have HZ2 := Lib.hid (hz.trans HZ.out); clear hp hz))
  go_end0
  exact ⟨rfl, HP2.out, grown_tr hg hg2, HZ2.out⟩
end Go.Proofs.Ytpnkmkenmpbekaa
