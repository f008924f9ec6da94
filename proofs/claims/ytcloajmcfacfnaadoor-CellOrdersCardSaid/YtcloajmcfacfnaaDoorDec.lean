/-
  calc.Dec and the document's own (ref01.Dec): a number's digits.
-/
import Derived.Test.YtcloajmcfacfnaaDoorCellEnv
import Derived.Test.YtcloajmcfacfnaaDoorDbl
import Derived.Test.YtcloajmcfacfnaaDoorRefA
namespace Go.Proofs.YtcloajmcfacfnaaDoor
open Go.RowKit

theorem below_grown' (w : World) (k : Nat) (os : Array Obj) : Below w.heap.size w (Sort.grow (w.drewN k) os) :=
  ⟨rfl, rfl, rfl, by show w.heap.size ≤ (w.heap ++ os).size; rw [Array.size_append]; omega, fun j hj => by show (w.heap ++ os)[j]? = w.heap[j]?; rw [Array.getElem?_append_left hj]⟩

set_option maxHeartbeats 400000 in
theorem dec_any (n : Int) (a0 : -9223372036854775808 ≤ n) (a1 : n ≤ 9223372036854775807) (w : World) (htab : Lib.TabIs Tryd.prog w "internal/strconv.uint64pow10" .u64 Lib.pow10Tab) :
    Calls Tryd.prog 13 #[.int .i64 n] w fun e w' => e = .returned (.string ⟨(Lib.itoa n).toArray⟩) ∧ Below w.heap.size w w' := by
  have c := Tryd.strconv_FormatInt_10 n a0 a1 w htab
  generalize Lib.itoa n = l at *
  have C := Lib.hid c
  clear c htab
  go_enter Tryd.func13, Tryd.ntmps13
  go_wp2_with (go_at_call 36; (with_reducible refine (C.out).mono ?_); rintro e w1 ⟨rfl, k, os, rfl⟩)
  go_ret
  exact ⟨rfl, below_grown' _ _ _⟩

theorem u64_tmod (u : Nat) : ((u : Int)).tmod 10 = ((u % 10 : Nat) : Int) := by
  rw [Int.tmod_eq_emod_of_nonneg (by omega)]; omega
theorem itoa_neg {n : Int} (h : n < 0) : Lib.itoa n = 45 :: Lib.decDigits n.natAbs := if_pos h
theorem itoa_pos {n : Int} (h : ¬ n < 0) : Lib.itoa n = Lib.decDigits n.toNat := if_neg h

/-- How far the loop still goes. -/
def left (s u : Value) : Nat := (intOf u).toNat + (match s with | .string b => if b.size = 0 then 1 else 0 | _ => 0)
theorem left_less {a b : ByteArray} {k : Nat} (h : 0 < k ∨ b.size = 0) (ha : a.size ≠ 0) : left (.string a) (.int .u64 ((k : Int) / 10)) < left (.string b) (.int .u64 k) := by
  unfold left
  simp only [intOf, if_neg ha]
  have e : ((k : Int) / 10).toNat = k / 10 := by omega
  rw [e]
  split <;> omega
theorem few {L m : Nat} (h : 10 ^ L ≤ m) (hm : m ≤ 9223372036854775808) : L ≤ 18 := by
  apply Classical.byContradiction
  intro hc
  have := Nat.pow_le_pow_right (show 0 < 10 by omega) (show 19 ≤ L by omega)
  have e : 10 ^ 19 = 10000000000000000000 := by decide
  omega
/-- What the loop carries. -/
structure Dg (m k : Nat) (d : List UInt8) : Prop where
  w : Writes m k d
  p : k * 10 ^ d.length ≤ m
  l : d.length ≤ 19
theorem Dg.next {m k : Nat} {d : List UInt8} (hm : m ≤ 9223372036854775808) (h : Dg m k d) (hgo : 0 < k ∨ d = []) : Dg m (k / 10) (UInt8.ofNat (48 + k % 10) :: d) := by
  refine ⟨h.w.next hgo, ?_, ?_⟩
  · rw [List.length_cons, Nat.pow_succ, Nat.mul_comm (10 ^ d.length) 10, ← Nat.mul_assoc]
    exact Nat.le_trans (Nat.mul_le_mul_right _ (by omega)) h.p
  · rw [List.length_cons]
    rcases hgo with h0 | h0
    · have : 10 ^ d.length ≤ m := Nat.le_trans (Nat.le_mul_of_pos_left _ h0) h.p
      have := few this hm
      omega
    · subst h0; simp
theorem cut_app {k : Nat} (d : List UInt8) : (⟨#[48, 49, 50, 51, 52, 53, 54, 55, 56, 57]⟩ : ByteArray).extract (k % 10) (k % 10 + 1) ++ (⟨d.toArray⟩ : ByteArray) = ⟨(UInt8.ofNat (48 + k % 10) :: d).toArray⟩ := by
  rw [digit_cut _ (Nat.mod_lt _ (by decide))]
  apply str_ext
  simp

set_option maxHeartbeats 1000000 in
theorem rdec_any (n : Int) (a0 : -9223372036854775808 ≤ n) (a1 : n ≤ 9223372036854775807) (w : World) :
    Calls Tryd.prog 14 #[.int .i64 n] w fun e w' => e = .returned (.string ⟨(Lib.itoa n).toArray⟩) ∧ w = w' := by
  obtain ⟨m0, m1⟩ := mag_bounds a0 a1
  have hsz := size_any n a0 a1
  obtain ⟨m, hm⟩ : ∃ m : Nat, mag n = m := ⟨(mag n).toNat, by omega⟩
  have hm' : n.natAbs = m := by unfold mag at hm; split at hm <;> omega
  rw [hm] at hsz
  have HS := Lib.hid hsz
  have HM := Lib.hid hm'
  have m2 : m ≤ 9223372036854775808 := by omega
  clear hsz hm hm' m0 m1
  go_enter Tryd.func14, Tryd.ntmps14
  go_wp2_with (go_at_call 37; (with_reducible refine (HS.out _).mono ?_); rintro e w' ⟨rfl, rfl⟩)
  go_loop [3, 4] (fun s u => ∃ (k : Nat) (d : List UInt8), k ≤ m ∧ s = .string ⟨d.toArray⟩ ∧ u = .int .u64 k ∧ d.length ≤ 19 ∧ Hid (Dg m k d)) (fun s u => left s u)
  case atStart => exact ⟨m, [], Nat.le_refl _, rfl, rfl, by simp, Lib.hid ⟨.inl ⟨rfl, rfl⟩, by simp, by simp⟩⟩
  case round =>
    obtain ⟨k, d, hk, rfl, rfl, hl, hw⟩ := hrel
    have hlt : k % 10 < 10 := Nat.mod_lt _ (by decide)
    by_cases h0 : 0 < k
    · have HN := Lib.hid (hw.out.next m2 (.inl h0))
      go_wp2
      exact ⟨⟨k / 10, _, by omega, congrArg Value.string (cut_app d), by go_num, HN.out.l, HN⟩, left_less (.inl h0) (by rw [cut_app]; simp [ByteArray.size])⟩
    · obtain rfl : k = 0 := by omega
      by_cases hd : d = []
      · subst hd
        have HN := Lib.hid (hw.out.next m2 (.inr rfl))
        go_wp2
        refine ⟨⟨0, [48], by omega, rfl, rfl, by simp, HN⟩, ?_⟩
        exact (show (0 : Nat) < 1 by decide)
      · have hd1 : d.isEmpty = false := by simpa using hd
        have hfin := hw.out.w.last rfl hd
        have HF := Lib.hid hfin
        clear hfin hd hk
        by_cases hn : n < 0
        · go_wp2
          go_ret
          exact ⟨ret_str (by rw [itoa_neg hn, HM.out, ← HF.out]; simp), rfl⟩
        · have hn0 : 0 ≤ n := by omega
          have HI := Lib.hid (show Lib.itoa n = d by rw [itoa_pos hn, show n.toNat = m by have := HM.out; omega, ← HF.out])
          go_wp2
          go_ret
          exact ⟨ret_str (by rw [HI.out]), rfl⟩
end Go.Proofs.YtcloajmcfacfnaaDoor
