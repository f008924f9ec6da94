/-
  Pages: lowestFree, Room, Used, has.
-/
import Derived.Test.YteikfkefahaodaaPageB
namespace Go.Proofs.Yteikfkefahaodaa
open Go.RowKit

/-- The first free one of so many slots; else the one behind them. -/
def lowF (f : Nat → UInt8) : Nat → Nat
  | 0 => 0
  | n + 1 => if lowF f n < n then lowF f n else if fr f n then n else n + 1
def totF (f : Nat → UInt8) : Nat → Nat
  | 0 => 0
  | n + 1 => totF f n + nZ f n
theorem totF_le (f : Nat → UInt8) : ∀ n, totF f n ≤ n * 65535
  | 0 => Nat.le_refl _
  | n + 1 => by have := totF_le f n; have h2 := nZ_lt f n; unfold totF; omega
def usedF (f : Nat → UInt8) : Nat → Nat
  | 0 => 0
  | n + 1 => usedF f n + (if fr f n then 0 else 1)
theorem usedF_le (f : Nat → UInt8) : ∀ n, usedF f n ≤ n
  | 0 => Nat.le_refl _
  | n + 1 => by have := usedF_le f n; unfold usedF; split <;> omega
def roomF (f : Nat → UInt8) : Int := max (512 - (4 + 4 * (max (nS f) (lowF f (nS f) + 1) : Nat)) - 30 - (totF f (nS f) : Nat)) (-1)
def hasF (f : Nat → UInt8) (x : Int) : Bool := decide (0 ≤ x) && (decide (x < (nS f : Int)) && !fr f x.toNat)
end Go.Proofs.Yteikfkefahaodaa
