/-
  Pages: Get, Bytes, New.
-/
import Derived.Test.YtpnkmkenmpbekaaPageG
namespace Go.Proofs.Ytpnkmkenmpbekaa
open Go.RowKit

def noTup : Value := .agg #[.int .u64 0, .int .u64 0, .int .u64 0, .int .i64 0, .int .i64 0, .slice none 0 0]
set_option maxRecDepth 100000 in
theorem get_no_aux (w : World) (P : Value) (x : Int) (hh : Calls Try.prog 77 #[P, .int .i64 x] (w.alloc (.cells #[.int .u64 0, .int .u64 0, .int .u64 0, .int .i64 0, .int .i64 0, .slice none 0 0] 44)) fun e w' => e = .returned (.bool false) ∧ w' = w.alloc (.cells #[.int .u64 0, .int .u64 0, .int .u64 0, .int .i64 0, .int .i64 0, .slice none 0 0] 44)) :
    Calls Try.prog 30 #[P, .int .i64 x] w fun e w' => e = .returned (.tuple #[noTup, .bool false]) ∧ Below w.heap.size w w' := by
  have b0 := Bx.new w 44 _ [.int .u64 0, .int .u64 0, .int .u64 0, .int .i64 0, .int .i64 0, .slice none 0 0] rfl
  have hb0 := (Below.refl w.heap.size w).alloc (Nat.le_refl _) (.cells #[.int .u64 0, .int .u64 0, .int .u64 0, .int .i64 0, .int .i64 0, .slice none 0 0] 44)
  have HH := Lib.hid hh
  clear hh
  go_enter Try.func30, Try.ntmps30
  go_wp2_with fail
  generalize w.alloc (.cells #[.int .u64 0, .int .u64 0, .int .u64 0, .int .i64 0, .int .i64 0, .slice none 0 0] 44) = W at *
  refine HH.out.mono ?_
  rintro e w1 ⟨rfl, hw⟩
  have hw' := hw.symm
  subst hw'
  have k0 := b0.cell 0
  have k1 := b0.cell 1
  have k2 := b0.cell 2
  have k3 := b0.cell 3
  have k4 := b0.cell 4
  have k5 := b0.cell 5
  have f0 := b0.frozen 0
  have f1 := b0.frozen 1
  have f2 := b0.frozen 2
  have f3 := b0.frozen 3
  have f4 := b0.frozen 4
  have f5 := b0.frozen 5
  go_wp2
  have bz := ((((((b0.set 0 (.int .u64 0)).set 1 (.int .u64 0)).set 2 (.int .u64 0)).set 3 (.int .i64 0)).set 4 (.int .i64 0)).set 5 (.slice none 0 0))
  have lz := below_set6 (u0 := .int .u64 0) (u1 := .int .u64 0) (u2 := .int .u64 0) (u3 := .int .i64 0) (u4 := .int .i64 0) (u5 := .slice none 0 0) hb0
  clear k0 k1 k2 k3 k4 k5 f0 f1 f2 f3 f4 f5
  generalize ((((((W.setCell ⟨w.heap.size, 0, none⟩ (.int .u64 0)).setCell ⟨w.heap.size, 1, none⟩ (.int .u64 0)).setCell ⟨w.heap.size, 2, none⟩ (.int .u64 0)).setCell ⟨w.heap.size, 3, none⟩ (.int .i64 0)).setCell ⟨w.heap.size, 4, none⟩ (.int .i64 0)).setCell ⟨w.heap.size, 5, none⟩ (.slice none 0 0)) = V at *
  have k0 := bz.cell 0
  have k1 := bz.cell 1
  have k2 := bz.cell 2
  have k3 := bz.cell 3
  have k4 := bz.cell 4
  have k5 := bz.cell 5
  refine bodyPost_ret (v := .tuple #[noTup, .bool false]) (by simp [results, Try.results30, go_sem, k0, k1, k2, k3, k4, k5, noTup]) rfl ?_
  exact ⟨rfl, lz⟩
theorem get_nil (w : World) (x : Int) : Calls Try.prog 30 #[.pointer none, .int .i64 x] w fun e w' => e = .returned (.tuple #[noTup, .bool false]) ∧ Below w.heap.size w w' :=
  get_no_aux w _ x (has_nil _ x)
theorem get_no (w : World) (g : Nat) (f : Nat → UInt8) (x : Int) (h : Pgm w g f) (hn : nS f ≤ 127) (hh : hasF f x = false) : Calls Try.prog 30 #[.pointer (some ⟨g, 0, none⟩), .int .i64 x] w fun e w' => e = .returned (.tuple #[noTup, .bool false]) ∧ Below w.heap.size w w' := by
  have hha := has_any (w.alloc (.cells #[.int .u64 0, .int .u64 0, .int .u64 0, .int .i64 0, .int .i64 0, .slice none 0 0] 44)) g f x (h.alloc _) hn
  rw [hh] at hha
  exact get_no_aux w _ x hha
set_option maxRecDepth 100000 in
theorem get_yes (w : World) (g : Nat) (f : Nat → UInt8) (x : Int) (k : Nat) (hx : x = (k : Int)) (h : Pgm w g f) (hf : Snd f) (hk : k < nS f) (hfr : fr f k = false) :
    Calls Try.prog 30 #[.pointer (some ⟨g, 0, none⟩), .int .i64 x] w fun e w' => ∃ v, e = .returned (.tuple #[tupV (le f (nA f k) 8) (le f (nA f k + 8) 8) (le f (nA f k + 16) 8) ((le f (nA f k + 24) 4 : Int) - 1) ((le f (nA f k + 28) 2 : Int) - 1) v, .bool true]) ∧ Byt w' w.heap.size v (btl f (nA f k + 30) (nZ f k - 30)) ∧ Below w.heap.size w w' := by
  have b0 := Bx.new w 44 _ [.int .u64 0, .int .u64 0, .int .u64 0, .int .i64 0, .int .i64 0, .slice none 0 0] rfl
  have hb0 := (Below.refl w.heap.size w).alloc (Nat.le_refl _) (.cells #[.int .u64 0, .int .u64 0, .int .u64 0, .int .i64 0, .int .i64 0, .slice none 0 0] 44)
  have h0 := h.alloc (.cells #[.int .u64 0, .int .u64 0, .int .u64 0, .int .i64 0, .int .i64 0, .slice none 0 0] 44)
  have hs := hf.slots
  obtain ⟨v1, v2⟩ := hf.ver k hk hfr
  have hha := fun W hp => has_any W g f x hp hs
  rw [show hasF f x = true by unfold hasF; subst hx; rw [decide_eq_true (by omega), decide_eq_true (by omega), Int.toNat_natCast, hfr]; rfl] at hha
  have hrd := fun W hp => read_any W g f x k hx (by omega) hp v1 v2
  have HH := Lib.hid hha
  have HR := Lib.hid hrd
  generalize le f (nA f k) 8 = q0 at *
  generalize le f (nA f k + 8) 8 = q1 at *
  generalize le f (nA f k + 16) 8 = q2 at *
  generalize le f (nA f k + 24) 4 = q3 at *
  generalize le f (nA f k + 28) 2 = q4 at *
  generalize btl f (nA f k + 30) (nZ f k - 30) = l at *
  clear hha hrd h v1 v2 hfr hk hf hs hx
  go_enter Try.func30, Try.ntmps30
  go_wp2_with fail
  have hz0 : w.heap.size < (w.alloc (.cells #[.int .u64 0, .int .u64 0, .int .u64 0, .int .i64 0, .int .i64 0, .slice none 0 0] 44)).heap.size := by simp
  generalize w.alloc (.cells #[.int .u64 0, .int .u64 0, .int .u64 0, .int .i64 0, .int .i64 0, .slice none 0 0] 44) = W at *
  refine (HH.out _ h0).mono ?_
  rintro e w1 ⟨rfl, hw⟩
  have hw' := hw.symm
  subst hw'
  go_wp2_with fail
  refine (HR.out _ h0).mono ?_
  rintro e w5 ⟨v, rfl, ho5, hb5⟩
  obtain ⟨A5, c5, rfl, hn5, hm5, hr5⟩ := own_form ho5
  have b5 := Bx.kept b0 (grown_of_below hb5 none) (by simp)
  have hS5 : Below w.heap.size w w5 := Below.next hb0 hb5
  have k0 := b5.cell 0
  have k1 := b5.cell 1
  have k2 := b5.cell 2
  have k3 := b5.cell 3
  have k4 := b5.cell 4
  have k5 := b5.cell 5
  have f0 := b5.frozen 0
  have f1 := b5.frozen 1
  have f2 := b5.frozen 2
  have f3 := b5.frozen 3
  have f4 := b5.frozen 4
  have f5 := b5.frozen 5
  go_wp2
  have bz := ((((((b5.set 0 (.int .u64 (q0 : Int))).set 1 (.int .u64 (q1 : Int))).set 2 (.int .u64 (q2 : Int))).set 3 (.int .i64 ((q3 : Int) - 1))).set 4 (.int .i64 ((q4 : Int) - 1))).set 5 (.slice A5 l.length c5))
  have oz := own_set6 (b := w.heap.size) ho5 hz0 (Nat.le_of_lt hz0) (.int .u64 (q0 : Int)) (.int .u64 (q1 : Int)) (.int .u64 (q2 : Int)) (.int .i64 ((q3 : Int) - 1)) (.int .i64 ((q4 : Int) - 1)) (.slice A5 l.length c5)
  have lz := below_set6 (u0 := .int .u64 (q0 : Int)) (u1 := .int .u64 (q1 : Int)) (u2 := .int .u64 (q2 : Int)) (u3 := .int .i64 ((q3 : Int) - 1)) (u4 := .int .i64 ((q4 : Int) - 1)) (u5 := .slice A5 l.length c5) hS5
  clear k0 k1 k2 k3 k4 k5 f0 f1 f2 f3 f4 f5
  generalize ((((((w5.setCell ⟨w.heap.size, 0, none⟩ (.int .u64 (q0 : Int))).setCell ⟨w.heap.size, 1, none⟩ (.int .u64 (q1 : Int))).setCell ⟨w.heap.size, 2, none⟩ (.int .u64 (q2 : Int))).setCell ⟨w.heap.size, 3, none⟩ (.int .i64 ((q3 : Int) - 1))).setCell ⟨w.heap.size, 4, none⟩ (.int .i64 ((q4 : Int) - 1))).setCell ⟨w.heap.size, 5, none⟩ (.slice A5 l.length c5)) = V at *
  have k0 := bz.cell 0
  have k1 := bz.cell 1
  have k2 := bz.cell 2
  have k3 := bz.cell 3
  have k4 := bz.cell 4
  have k5 := bz.cell 5
  refine bodyPost_ret (v := .tuple #[tupV q0 q1 q2 ((q3 : Int) - 1) ((q4 : Int) - 1) (.slice A5 l.length c5), .bool true]) (by simp [results, Try.results30, go_sem, k0, k1, k2, k3, k4, k5, tupV]) rfl ?_
  exact ⟨_, rfl, oz, lz⟩
theorem sl_all (g : Nat) (W : World) : (Instr.sliceAt 121 (.pointer (some ⟨g, 0, none⟩)) none none none).run Try.prog W = .ok (.slice (some ⟨g, 0, none⟩) 512 512) W := by
  rw [run_sliceAt_array_all W _ _ arr_under, arr_elem, size_u8, arr_len]
  simp only [Result.andThen, slicedAt, Nat.zero_mul, Nat.sub_zero]
  rw [if_neg (by decide), Addr.add_lit]
set_option maxRecDepth 100000 in
theorem pbytes_any (w : World) (g : Nat) (f : Nat → UInt8) (h : Pgm w g f) :
    Calls Try.prog 23 #[.pointer (some ⟨g, 0, none⟩)] w fun e w' => ∃ v, e = .returned v ∧ Byt w' w.heap.size v (btl f 0 512) ∧ Below w.heap.size w w' := by
  have hB := h.brd (a := 0) (n := 512) (by omega)
  rw [adr_lt (by decide)] at hB
  have hcl := clone_any ⟨g, 0, none⟩ 512 _ w hB (by rw [btl_length]; decide)
  rw [btl_length] at hcl
  have hsl := sl_all g
  have HC := Lib.hid hcl
  clear hcl h hB
  go_enter Try.func23, Try.ntmps23
  go_wp2_with (go_at_call 68; (with_reducible refine (HC.out).mono ?_); rintro e w5 ⟨v5, rfl, ho5, hb5⟩)
  go_ret
  exact ⟨_, rfl, ho5, hb5⟩
theorem pbytes_nil (w : World) : Calls Try.prog 23 #[.pointer none] w fun e w' => e = .returned (.slice none 0 0) ∧ w' = w := by
  go_enter Try.func23, Try.ntmps23
  go_wp2
  go_ret
  exact ⟨rfl, rfl⟩
end Go.Proofs.Ytpnkmkenmpbekaa
