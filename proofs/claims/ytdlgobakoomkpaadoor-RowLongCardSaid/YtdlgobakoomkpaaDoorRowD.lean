/-
  row.readNumber: eight bytes, the least first.
-/
import Derived.Test.YtdlgobakoomkpaaDoorRowC
import Derived.Test.YtdlgobakoomkpaaDoorKeyR
namespace Go.Proofs.YtdlgobakoomkpaaDoor
open Go.RowKit

def leN : List UInt8 → Nat
  | [] => 0
  | b :: t => b.toNat + 256 * leN t
theorem leN_lt : ∀ l, leN l < 256 ^ l.length
  | [] => by simp [leN]
  | b :: t => by
    have h := leN_lt t
    have hb := b.toNat_lt
    rw [leN, List.length_cons, Nat.pow_succ]
    omega
theorem leN_snoc (b : UInt8) : ∀ l, leN (l ++ [b]) = leN l + 256 ^ l.length * b.toNat
  | [] => by simp [leN]
  | a :: t => by
    rw [List.cons_append, leN, leN, leN_snoc b t, List.length_cons, Nat.pow_succ, Nat.mul_add, Nat.mul_comm (256 ^ t.length) 256, Nat.mul_assoc]
    omega
theorem shl_in {b k : Nat} (hk : k < 8) (hb : b < 256) : IntKind.u64.wrap ((b : Int) * 2 ^ (8 * k)) = (b : Int) * 2 ^ (8 * k) := by
  have hw : ∀ i : Int, IntKind.u64.wrap i = i % 18446744073709551616 := fun _ => rfl
  have e2 : (2 : Nat) ^ (8 * k) = 256 ^ k := by rw [Nat.pow_mul]
  have hp : (256 : Nat) ^ k ≤ 72057594037927936 := Nat.le_trans (Nat.pow_le_pow_right (by decide) (show k ≤ 7 by omega)) (by decide)
  have hm : b * 256 ^ k ≤ 255 * 256 ^ k := Nat.mul_le_mul_right _ (by omega)
  have e3 : ((b : Int) * 2 ^ (8 * k)) = ((b * 256 ^ k : Nat) : Int) := by rw [← e2]; simp
  rw [e3, hw]
  omega
theorem or_high {f b k : Nat} (hk : k < 8) (hf : f < 256 ^ k) (hb : b < 256) : bits .or .u64 (f : Int) ((b : Int) * 2 ^ (8 * k)) = ((f + 256 ^ k * b : Nat) : Int) := by
  have e2 : (2 : Nat) ^ (8 * k) = 256 ^ k := by rw [Nat.pow_mul]
  have hp : (256 : Nat) ^ k ≤ 72057594037927936 := Nat.le_trans (Nat.pow_le_pow_right (by decide) (show k ≤ 7 by omega)) (by decide)
  have hm : b * 256 ^ k ≤ 255 * 256 ^ k := Nat.mul_le_mul_right _ (by omega)
  have e3 : ((b : Int) * 2 ^ (8 * k)) = ((b * 256 ^ k : Nat) : Int) := by rw [← e2]; simp
  rw [e3, u64_or _ _ (by omega) (by omega) (by omega) (by omega), Int.toNat_natCast, Int.toNat_natCast, Nat.or_comm, Nat.mul_comm b, ← e2, ← Nat.two_pow_add_eq_or_of_lt (by rw [e2]; exact hf) b]
  congr 1
  omega

set_option maxHeartbeats 1000000 in
theorem rowReadNumber_any (A : Option Addr) (c : Nat) (q : List UInt8) (w : World) (h8 : 8 ≤ q.length) (hc : q.length ≤ c) (ha : Brd w A q) :
    Calls Tryd.prog 60 #[.slice A q.length c] w fun e w' => e = .returned (.int .i64 (IntKind.i64.wrap (leN (q.take 8)))) ∧ w' = w := by
  have hc8 : 8 ≤ c := by omega
  go_enter Tryd.func60, Tryd.ntmps60
  go_wp2
  go_loop [3, 9] (fun u i => ∃ k : Nat, k ≤ 8 ∧ i = .int .i64 k ∧ u = .int .u64 ((leN (q.take k) : Nat) : Int)) (fun _ i => 8 - (intOf i).toNat)
  case atStart => exact ⟨0, by omega, rfl, rfl⟩
  case round =>
    obtain ⟨k, hk, rfl, rfl⟩ := hrel
    by_cases hlt : k < 8
    · obtain ⟨ad, rfl, hcell⟩ := ha.at_ (k := k) (by omega)
      have hlen : (q.take k).length = k := by rw [List.length_take]; omega
      have hF0 := leN_snoc (q[k]'(by omega)) (q.take k)
      rw [← List.take_succ_eq_append_getElem (by omega), hlen] at hF0
      have hF := Lib.hid hF0
      have hl := leN_lt (q.take k)
      rw [hlen] at hl
      have hb := (q[k]'(by omega)).toNat_lt
      have ho := or_high hlt hl hb
      have hs := shl_in hlt hb
      clear hF0
      generalize leN (q.take k) = f at *
      generalize (q[k]'(by omega)).toNat = b at *
      go_wp2
      go_round
      case rel => exact ⟨k + 1, by omega, by go_num, by first | (rw [hF.out]; rfl) | (rw [hF.out]; simp; done) | (rw [hF.out, Nat.mul_comm]; rfl)⟩
      case measure => simp [intOf]; omega
    · obtain rfl : k = 8 := by omega
      have hwr : wrap64 ((leN (q.take 8) : Nat) : Int) = IntKind.i64.wrap ((leN (q.take 8) : Nat) : Int) := by first | exact (IntKind.wrap_i64 _).symm | (rw [IntKind.wrap_i64]; unfold wrap64; omega)
      go_wp2
      go_ret
      exact ⟨by rw [← hwr]; rfl, rfl⟩
end Go.Proofs.YtdlgobakoomkpaaDoor
