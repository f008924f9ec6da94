/-
  The plain side of calc.Read: a text of digits and the number that it writes. No program in sight.
-/
import Derived.Test.YtcloajmcfacfnabDoorNum
import Derived.Lib.OthersKept
import Derived.Lib.DecodeN
namespace Go.Proofs.YtcloajmcfacfnabDoor
open Go.RowKit

/-- Is a byte a digit? -/
def dig (c : UInt8) : Bool := decide (48 ≤ c.toNat ∧ c.toNat ≤ 57)
/-- Digits alone. -/
def digs (l : List UInt8) : Bool := l.all dig
/-- The number that digits write. -/
def num (l : List UInt8) : Int := l.foldl (fun n c => n * 10 + ((c.toNat : Int) - 48)) 0
/-- What Read answers. -/
def readv (l : List UInt8) : Int := if l = [] ∨ digs l = false then 0 else okv (num l)
def reade (l : List UInt8) : Int := if l = [] ∨ digs l = false then 3 else oke (num l)

theorem readv_bad {l : List UInt8} (h : l = [] ∨ digs l = false) : readv l = 0 := if_pos h
theorem reade_bad {l : List UInt8} (h : l = [] ∨ digs l = false) : reade l = 3 := if_pos h
theorem readv_good {l : List UInt8} (h : ¬ (l = [] ∨ digs l = false)) : readv l = okv (num l) := if_neg h
theorem reade_good {l : List UInt8} (h : ¬ (l = [] ∨ digs l = false)) : reade l = oke (num l) := if_neg h

theorem num_snoc (l : List UInt8) (c : UInt8) : num (l ++ [c]) = num l * 10 + ((c.toNat : Int) - 48) := by
  unfold num; rw [List.foldl_append]; rfl
theorem digs_snoc (l : List UInt8) (c : UInt8) : digs (l ++ [c]) = (digs l && dig c) := by
  unfold digs; rw [List.all_append]; simp
theorem num_from (l : List UInt8) : ∀ n : Int, 0 ≤ n → digs l = true → 0 ≤ l.foldl (fun n c => n * 10 + ((c.toNat : Int) - 48)) n := by
  induction l with
  | nil => intro n h _; exact h
  | cons c t ih =>
    intro n h hd
    unfold digs at hd
    rw [List.all_cons, Bool.and_eq_true] at hd
    have hc : 48 ≤ c.toNat ∧ c.toNat ≤ 57 := of_decide_eq_true hd.1
    exact ih _ (by show 0 ≤ n * 10 + ((c.toNat : Int) - 48); omega) hd.2
theorem num_nonneg {l : List UInt8} (h : digs l = true) : 0 ≤ num l := num_from l 0 (by omega) h

theorem digs_take {l : List UInt8} {k : Nat} (h : digs (l.take k) = false) : digs l = false := by
  rw [← List.take_append_drop k l]
  unfold digs at *
  rw [List.all_append, h]; rfl

theorem take_snoc (s : ByteArray) (k : Nat) (h : k < s.size) : s.data.toList.take (k + 1) = s.data.toList.take k ++ [s[k]] := by
  rw [List.take_succ_eq_append_getElem (by simpa using h)]; rfl

/-- A rune that is no byte of ASCII is 128 or more. -/
theorem decode_high (s : ByteArray) (pos : Nat) (h : pos < s.size) (h128 : ¬ (s[pos]'h).toNat < 128) : 128 ≤ (Utf8.decode s pos).1 := by
  rw [Lib.decode_at]
  have e : (s.get! pos) = s[pos]'h := by
    cases s; simp [ByteArray.get!]; exact getElem!_pos _ _ _
  rw [e]
  unfold Lib.decodeN
  rw [if_neg h128]
  repeat' split
  all_goals (simp only []; omega)

theorem okv_next {n d : Int} (h : In64 n) : okv n * 10 + d = n * 10 + d := by rw [okv_in h]
theorem ext_over {n d : Int} (n0 : 0 ≤ n) (d0 : 0 ≤ d) (h : ¬ In64 n) : ¬ In64 (n * 10 + d) := by
  unfold In64 at *; omega
end Go.Proofs.YtcloajmcfacfnabDoor
