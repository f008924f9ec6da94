/-
  Bytes of the call's own, in memory; a byte's place in a number.
-/
import Derived.Test.YtpnkmkenmpbekaaMem
import Derived.Test.YtpnkmkenmpbekaaProg
import Derived.Laws.BitsAllLaws
namespace Go.Proofs.Ytpnkmkenmpbekaa
open Go.RowKit

theorem info_u8 : (Try.prog.info? 5).map (fun i => (i.zero, i.size, i.bytes)) = some (some (.int .u8 0), 1, 1) := by kernel_rfl

/-- Bytes of the call's own, at a value. -/
def Byt (w : World) (base : Nat) (v : Value) (l : List UInt8) : Prop := w.ownsRow base 5 1 v l.length (bcells l)

theorem byt_app {w : World} {base : Nat} {v : Value} {l m : List UInt8} (h : w.ownsRow base 5 1 v (l.length + m.length) (bcells l ++ bcells m)) : Byt w base v (l ++ m) := by
  unfold Byt
  rw [List.length_append, bcells_append]
  exact h
theorem byt_of {w : World} {base n : Nat} {v : Value} {xs : List Value} {m : List UInt8} (h : w.ownsRow base 5 1 v n xs) (hx : xs = bcells m) : Byt w base v m := by
  have h1 := h.1
  subst hx
  rw [bcells_length, Nat.mul_one] at h1
  subst h1
  exact h
/-- A block that was laid behind the row is none of it. -/
theorem Byt.ne_new {w : World} {base : Nat} {v : Value} {l : List UInt8} (h : Byt w base v l) {g : Nat} (hg : w.heap.size ≤ g) : some g ≠ v.ownBlock := fun e => by
  have := (h.lt g e.symm).2
  omega
theorem byt_nil (w : World) (base : Nat) : Byt w base (.slice none 0 0) [] := World.ownsRow_nil _ _ _ _
theorem shl_in {b k : Nat} (hk : k < 8) (hb : b < 256) : IntKind.u64.wrap ((b : Int) * 2 ^ (8 * k)) = (b : Int) * 2 ^ (8 * k) := by
  have hw : ∀ i : Int, IntKind.u64.wrap i = i % 18446744073709551616 := fun _ => rfl
  have e2 : (2 : Nat) ^ (8 * k) = 256 ^ k := by rw [Nat.pow_mul]
  have hp : (256 : Nat) ^ k ≤ 72057594037927936 := Nat.le_trans (Nat.pow_le_pow_right (by decide) (show k ≤ 7 by omega)) (by decide)
  have hm : b * 256 ^ k ≤ 255 * 256 ^ k := Nat.mul_le_mul_right _ (by omega)
  have e3 : ((b : Int) * 2 ^ (8 * k)) = ((b * 256 ^ k : Nat) : Int) := by rw [← e2]; simp
  rw [e3, hw]
  omega
theorem or_high {f b k : Nat} (hk : k < 8) (hf : f < 256 ^ k) (hb : b < 256) : bits .or .u64 (f : Int) ((b : Int) * 2 ^ (8 * k)) = ((f + 256 ^ k * b : Nat) : Int) := by
  have e2 : (2 : Nat) ^ (8 * k) = 256 ^ k := by rw [Nat.pow_mul]
  have hp : (256 : Nat) ^ k ≤ 72057594037927936 := Nat.le_trans (Nat.pow_le_pow_right (by decide) (show k ≤ 7 by omega)) (by decide)
  have hm : b * 256 ^ k ≤ 255 * 256 ^ k := Nat.mul_le_mul_right _ (by omega)
  have e3 : ((b : Int) * 2 ^ (8 * k)) = ((b * 256 ^ k : Nat) : Int) := by rw [← e2]; simp
  rw [e3, u64_or _ _ (by omega) (by omega) (by omega) (by omega), Int.toNat_natCast, Int.toNat_natCast, Nat.or_comm, Nat.mul_comm b, ← e2, ← Nat.two_pow_add_eq_or_of_lt (by rw [e2]; exact hf) b]
  congr 1
  omega

end Go.Proofs.Ytpnkmkenmpbekaa
