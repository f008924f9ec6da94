/-
  The document's own answer for pages (ref05), its small calls: Far, Right, Same, Few; and the laws' own: nowhere, awake.
-/
import Derived.Test.YtpnkmkenmpbekaaPageR
namespace Go.Proofs.Ytpnkmkenmpbekaa
open Go.RowKit

set_option maxRecDepth 100000 in
theorem far_any (w : World) (p s : Int) :
    Calls Try.prog 91 #[.agg #[.int .i64 p, .int .i64 s]] w fun e w' => e = .returned (.bool (!vnB p s)) ∧ Below w.heap.size w w' := by
  by_cases h1 : p = -1
  · by_cases h2 : s = -1
    · subst h1 h2
      rw [show vnB (-1) (-1) = true by decide]
      go_enter Try.func91, Try.ntmps91
      go_wp2
      go_ret
      exact ⟨rfl, (Below.refl _ _).alloc (Nat.le_refl _) _⟩
    · subst h1
      rw [show vnB (-1) s = false from decide_eq_false (by omega)]
      have hb : (s == -1) = false := beq_eq_false_iff_ne.2 h2
      go_enter Try.func91, Try.ntmps91
      go_wp2
      go_ret
      exact ⟨rfl, (Below.refl _ _).alloc (Nat.le_refl _) _⟩
  · have hb : (p == -1) = false := beq_eq_false_iff_ne.2 h1
    by_cases h2 : s ≤ 65534
    · go_enter Try.func91, Try.ntmps91
      go_wp2
      all_goals
        go_ret
        refine ⟨congrArg Ending.returned (congrArg Value.bool ?_), (Below.refl _ _).alloc (Nat.le_refl _) _⟩
        first
          | (rw [show vnB p s = true from decide_eq_true (by omega)]; first | rfl | (simp; omega))
          | (rw [show vnB p s = false from decide_eq_false (by omega)]; first | rfl | (simp; omega))
    · go_enter Try.func91, Try.ntmps91
      go_wp2
      all_goals
        go_ret
        refine ⟨congrArg Ending.returned (congrArg Value.bool ?_), (Below.refl _ _).alloc (Nat.le_refl _) _⟩
        first
          | (rw [show vnB p s = true from decide_eq_true (by omega)]; first | rfl | (simp; omega))
          | (rw [show vnB p s = false from decide_eq_false (by omega)]; first | rfl | (simp; omega))
set_option maxRecDepth 100000 in
theorem right_any (w : World) (r x m : Nat) (p s : Int) (A : Option Addr) (n c : Nat) :
    Calls Try.prog 81 #[.agg #[.int .u64 (r : Int), .int .u64 (x : Int), .int .u64 (m : Int), .int .i64 p, .int .i64 s, .slice A n c]] w fun e w' => e = .returned (.bool (vdB r x m p s n)) ∧ Below w.heap.size w w' := by
  have hv := fun w => far_any w p s
  have hvb : vdB r x m p s n = decide (r ≤ 1099511627776 ∧ x ≤ 1099511627776 ∧ m ≤ 1099511627776 ∧ vnB p s = true ∧ n ≤ 200) := rfl
  generalize vdB r x m p s n = b at *
  generalize vnB p s = vb at *
  have HV := Lib.hid hv
  have HB := Lib.hid hvb
  clear hv hvb
  cases vb
  all_goals
    go_enter Try.func81, Try.ntmps81
    go_wp2_with (go_at_call 91; (with_reducible refine (HV.out _).mono ?_); rintro e w1 ⟨rfl, hb⟩; obtain ⟨hc, hf⟩ := bcell hb)
    all_goals
      go_ret
      refine ⟨congrArg Ending.returned (congrArg Value.bool ?_), ?_⟩
      · rw [HB.out]
        first
          | (exact (decide_eq_false (by omega)).symm)
          | (refine decide_eq_decide.2 ⟨fun h => ⟨by omega, by omega, by omega, rfl, by omega⟩, fun h => by omega⟩)
          | (exact (decide_eq_false (fun h => Bool.noConfusion h.2.2.2.1)).symm)
          | (refine decide_eq_decide.2 ⟨fun h => ⟨by omega, by omega, by omega, trivial, by omega⟩, fun h => by omega⟩)
      · first | exact (Below.refl _ _).alloc (Nat.le_refl _) _ | exact ((Below.refl _ _).alloc (Nat.le_refl _) _).trans (hb.mono (by simp))
set_option maxRecDepth 100000 in
theorem same5_any (w : World) (r x m : Nat) (p s : Int) (A B : Option Addr) (c d : Nat) (l : List UInt8) (ha : Brd w A l) (hb : Brd w B l) :
    Calls Try.prog 32 #[.agg #[.int .u64 (r : Int), .int .u64 (x : Int), .int .u64 (m : Int), .int .i64 p, .int .i64 s, .slice A l.length c], .agg #[.int .u64 (r : Int), .int .u64 (x : Int), .int .u64 (m : Int), .int .i64 p, .int .i64 s, .slice B l.length d]] w fun e w' => e = .returned (.bool true) ∧ Below w.heap.size w w' := by
  have hs := fun o1 o2 => same3_any A B c d l l ((w.alloc o1).alloc o2) (Rd.alloc (Rd.alloc ha o1) o2) (Rd.alloc (Rd.alloc hb o1) o2)
  rw [show leqB l l = true by simp [leqB]] at hs
  have HS := Lib.hid hs
  clear hs ha hb
  go_enter Try.func32, Try.ntmps32
  go_wp2_with (go_at_call 22; (with_reducible refine (HS.out _ _).mono ?_); rintro e w1 ⟨rfl, hw1⟩; have hw := hw1.symm; subst hw)
  go_ret
  exact ⟨rfl, ((Below.refl _ _).alloc (Nat.le_refl _) _).alloc (by simp) _⟩
theorem nowhere_any (w : World) : Calls Try.prog 63 #[] w fun e w' => e = .returned (.agg #[.int .i64 (-1), .int .i64 (-1)]) ∧ Below w.heap.size w w' := by
  go_enter Try.func63, Try.ntmps63
  go_wp2
  refine bodyPost_ret (v := .agg #[.int .i64 (-1), .int .i64 (-1)]) (by simp [results, Try.results63, go_sem]) rfl ?_
  exact ⟨rfl, (Below.refl _ _).alloc (Nat.le_refl _) _⟩
theorem below_six {B : Nat} {w W : World} {u0 u1 u2 u3 u4 u5 : Value} (h : Below B w W) {b : Nat} (hb : B ≤ b) : Below B w ((((((W.setCell ⟨b, 0, none⟩ u0).setCell ⟨b, 1, none⟩ u1).setCell ⟨b, 2, none⟩ u2).setCell ⟨b, 3, none⟩ u3).setCell ⟨b, 4, none⟩ u4).setCell ⟨b, 5, none⟩ u5) :=
  (((((h.setCell hb _).setCell hb _).setCell hb _).setCell hb _).setCell hb _).setCell hb _
set_option maxRecDepth 100000 in
theorem few_any (w : World) (r x m c : Nat) (p s : Int) (A : Option Addr) (l : List UInt8) (ha : Brd w A l) (hc : l.length ≤ c) (hm : c ≤ 9223372036854775807) :
    Calls Try.prog 38 #[.agg #[.int .u64 (r : Int), .int .u64 (x : Int), .int .u64 (m : Int), .int .i64 p, .int .i64 s, .slice A l.length c]] w fun e w' => ∃ v, e = .returned (tupV r x m p s v) ∧ Byt w' w.heap.size v (l.take 230) ∧ Below w.heap.size w w' := by
  have hs := fun o1 o2 => cut3_any A c 230 l ((w.alloc o1).alloc o2) (Rd.alloc (Rd.alloc ha o1) o2) hc hm (by decide)
  have b0 := Bx.new w 44 _ [.int .u64 (r : Int), .int .u64 (x : Int), .int .u64 (m : Int), .int .i64 p, .int .i64 s, .slice A l.length c] rfl
  have bA := Bx.kept b0 (World.grownBy_alloc _ (.cells #[.int .u64 0, .int .u64 0, .int .u64 0, .int .i64 0, .int .i64 0, .slice none 0 0] 44) none) (by simp)
  have bB := Bx.new (w.alloc (.cells #[.int .u64 (r : Int), .int .u64 (x : Int), .int .u64 (m : Int), .int .i64 p, .int .i64 s, .slice A l.length c] 44)) 44 _ [.int .u64 0, .int .u64 0, .int .u64 0, .int .i64 0, .int .i64 0, .slice none 0 0] rfl
  have hz : (w.alloc (.cells #[.int .u64 (r : Int), .int .u64 (x : Int), .int .u64 (m : Int), .int .i64 p, .int .i64 s, .slice A l.length c] 44)).heap.size = w.heap.size + 1 := by simp
  rw [hz] at bB
  have hb2 := ((Below.refl w.heap.size w).alloc (Nat.le_refl _) (.cells #[.int .u64 (r : Int), .int .u64 (x : Int), .int .u64 (m : Int), .int .i64 p, .int .i64 s, .slice A l.length c] 44)).alloc (by rw [hz]; omega) (.cells #[.int .u64 0, .int .u64 0, .int .u64 0, .int .i64 0, .int .i64 0, .slice none 0 0] 44)
  have hz2 : ((w.alloc (.cells #[.int .u64 (r : Int), .int .u64 (x : Int), .int .u64 (m : Int), .int .i64 p, .int .i64 s, .slice A l.length c] 44)).alloc (.cells #[.int .u64 0, .int .u64 0, .int .u64 0, .int .i64 0, .int .i64 0, .slice none 0 0] 44)).heap.size = w.heap.size + 2 := by simp
  obtain ⟨l', hl'⟩ : ∃ l' : List UInt8, l' = l.take 230 := ⟨_, rfl⟩
  rw [← hl'] at hs
  have HL := Lib.hid hl'
  clear hl'
  have HS := Lib.hid hs
  have HZ2 := Lib.hid hz2
  clear hs ha hz hz2
  go_enter Try.func38, Try.ntmps38
  go_wp2_with fail
  refine (HS.out _ _).mono ?_
  rintro e w1 ⟨v, rfl, ho, hb⟩
  obtain ⟨A5, c5, rfl, hn5, hm5, hr5⟩ := own_form ho
  have hSS : Below w.heap.size w w1 := hb2.trans (hb.mono (by rw [HZ2.out]; omega))
  have b1 := Bx.kept bA (grown_of_below hb none) (by simp)
  have b2 := Bx.kept bB (grown_of_below hb none) (by simp)
  rw [HZ2.out] at ho
  clear hb hb2 bA bB b0 HS HZ2
  have k0 := b1.cell 0
  have k1 := b1.cell 1
  have k2 := b1.cell 2
  have k3 := b1.cell 3
  have k4 := b1.cell 4
  have k5 := b1.cell 5
  have f5 := b1.frozen 5
  have j0 := b2.cell 0
  have j1 := b2.cell 1
  have j2 := b2.cell 2
  have j3 := b2.cell 3
  have j4 := b2.cell 4
  have j5 := b2.cell 5
  have g0 := b2.frozen 0
  have g1 := b2.frozen 1
  have g2 := b2.frozen 2
  have g3 := b2.frozen 3
  have g4 := b2.frozen 4
  have g5 := b2.frozen 5
  go_wp2_with fail
  have b3 := Bx.kept b2 (grown_set w1 w.heap.size 5 (.slice A5 l'.length c5)) (by simp)
  have o3 := own_set (i := 5) (u := .slice A5 l'.length c5) ho (show w.heap.size < w.heap.size + 2 by omega)
  have e3 := hSS.setCell (p := ⟨w.heap.size, 5, none⟩) (Nat.le_refl _) (.slice A5 l'.length c5)
  clear k0 k1 k2 k3 k4 k5 f5 j0 j1 j2 j3 j4 j5 g0 g1 g2 g3 g4 g5 b1 b2 ho hSS
  generalize w1.setCell ⟨w.heap.size, 5, none⟩ (.slice A5 l'.length c5) = W at *
  have bz := ((((((b3.set 0 (.int .u64 (r : Int))).set 1 (.int .u64 (x : Int))).set 2 (.int .u64 (m : Int))).set 3 (.int .i64 p)).set 4 (.int .i64 s)).set 5 (.slice A5 l'.length c5))
  have oz := own_set6 (b := w.heap.size) o3 (show w.heap.size + 1 < w.heap.size + 2 by omega) (by omega) (.int .u64 (r : Int)) (.int .u64 (x : Int)) (.int .u64 (m : Int)) (.int .i64 p) (.int .i64 s) (.slice A5 l'.length c5)
  have lz := below_six (u0 := .int .u64 (r : Int)) (u1 := .int .u64 (x : Int)) (u2 := .int .u64 (m : Int)) (u3 := .int .i64 p) (u4 := .int .i64 s) (u5 := .slice A5 l'.length c5) e3 (b := w.heap.size + 1) (by omega)
  generalize ((((((W.setCell ⟨w.heap.size + 1, 0, none⟩ (.int .u64 (r : Int))).setCell ⟨w.heap.size + 1, 1, none⟩ (.int .u64 (x : Int))).setCell ⟨w.heap.size + 1, 2, none⟩ (.int .u64 (m : Int))).setCell ⟨w.heap.size + 1, 3, none⟩ (.int .i64 p)).setCell ⟨w.heap.size + 1, 4, none⟩ (.int .i64 s)).setCell ⟨w.heap.size + 1, 5, none⟩ (.slice A5 l'.length c5)) = V at *
  have k0 := bz.cell 0
  have k1 := bz.cell 1
  have k2 := bz.cell 2
  have k3 := bz.cell 3
  have k4 := bz.cell 4
  have k5 := bz.cell 5
  refine bodyPost_ret (v := tupV r x m p s (.slice A5 l'.length c5)) (by simp [results, Try.results38, go_sem, k0, k1, k2, k3, k4, k5, tupV]) rfl ?_
  exact ⟨_, rfl, by rw [← HL.out]; exact oz, lz⟩
end Go.Proofs.Ytpnkmkenmpbekaa
