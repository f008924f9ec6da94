/-
  Pages: slotsEnd, Slots, begin, span, free, setBegin, setSlots, setSpan, New.
-/
import Derived.Test.YteikfkefahaodaaPageA
namespace Go.Proofs.Yteikfkefahaodaa
open Go.RowKit

/-- How many slots; where the data begin; where a slot's version lies, and how many bytes it has. -/
def nS (f : Nat → UInt8) : Nat := le f 0 2
def nB (f : Nat → UInt8) : Nat := le f 2 2
def nA (f : Nat → UInt8) (k : Nat) : Nat := le f (4 + 4 * k) 2
def nZ (f : Nat → UInt8) (k : Nat) : Nat := le f (6 + 4 * k) 2
theorem nS_lt (f : Nat → UInt8) : nS f < 65536 := le_lt f 0 2
theorem nB_lt (f : Nat → UInt8) : nB f < 65536 := le_lt f 2 2
theorem nA_lt (f : Nat → UInt8) (k : Nat) : nA f k < 65536 := le_lt f _ 2
theorem nZ_lt (f : Nat → UInt8) (k : Nat) : nZ f k < 65536 := le_lt f _ 2
/-- Is a slot free? -/
def fr (f : Nat → UInt8) (k : Nat) : Bool := decide (nA f k = 0 ∧ nZ f k = 0)
end Go.Proofs.Yteikfkefahaodaa
