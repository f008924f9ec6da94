/-
  Pages in memory: a page's 512 bytes; number, setNumber.
-/
import Derived.Test.YteikfkefahaodaaPageP
import Derived.Test.YteikfkefahaodaaByt
import Derived.Test.YteikfkefahaodaaNum
import Derived.Test.YteikfkefahaodaaProg
import Derived.Lib.Hide
import Derived.OwnWalk
import Derived.Maps.Range
import Derived.WalkLawsBesides
import Derived.StillTailTactics
import Derived.Outline
namespace Go.Proofs.Yteikfkefahaodaa
open Go.RowKit

def pcells (f : Nat → UInt8) : List Value := (List.range 512).map fun i => .int .u8 ((f i).toNat : Int)
theorem pcells_length (f : Nat → UInt8) : (pcells f).length = 512 := by simp [pcells]
theorem pcells_get (f : Nat → UInt8) {i : Nat} (h : i < 512) : (pcells f)[i]? = some (.int .u8 ((f i).toNat : Int)) := by
  unfold pcells; rw [List.getElem?_map, List.getElem?_range h]; rfl
theorem pcells_eq {l : List Value} {f : Nat → UInt8} (hl : l.length = 512) (h : ∀ i, i < 512 → l[i]? = some (.int .u8 ((f i).toNat : Int))) : l = pcells f := by
  apply List.ext_getElem?
  intro i
  by_cases hi : i < 512
  · rw [h i hi, pcells_get f hi]
  · rw [List.getElem?_eq_none (by omega), List.getElem?_eq_none (by rw [pcells_length]; omega)]
theorem pcells_set (f : Nat → UInt8) (k : Nat) (b : UInt8) : (pcells f).set k (.int .u8 (b.toNat : Int)) = pcells (upd f k b) := by
  refine pcells_eq (by rw [List.length_set, pcells_length]) fun i hi => ?_
  by_cases e : i = k
  · subst e
    rw [List.getElem?_set_self (by rw [pcells_length]; exact hi), upd_same]
  · rw [List.getElem?_set_ne (fun h => e h.symm), pcells_get f hi, upd_other e]
theorem pcells_congr {f g : Nat → UInt8} (h : ∀ i, i < 512 → f i = g i) : pcells f = pcells g :=
  pcells_eq (pcells_length f) fun i hi => by rw [pcells_get f hi, h i hi]
section
variable {w w' : World} {g : Nat} {f : Nat → UInt8}
theorem grown_drew (w : World) (row : Option Nat) : w.grownBy w.drew row := ⟨rfl, rfl, rfl, Nat.le_refl _, fun _ _ _ => rfl⟩
theorem grown_set (w : World) (g i : Nat) (v : Value) : w.grownBy (w.setCell ⟨g, i, none⟩ v) (some g) :=
  ⟨rfl, rfl, rfl, by simp [World.setCell], fun k _ hne => heap_setCell_other w ⟨g, i, none⟩ k v (fun e => hne (by rw [e]))⟩
theorem grown_tr {a b c : World} {row : Option Nat} (h : a.grownBy b row) (k : b.grownBy c row) : a.grownBy c row := h.andThen k fun _ hj => .inr hj
theorem grown_of_below {a b : World} (h : Below a.heap.size a b) (row : Option Nat) : a.grownBy b row := ⟨h.os, h.tape, h.output, h.size, fun k hk _ => h.block k hk⟩
theorem below_of_grown {a b : World} {B g : Nat} (h : a.grownBy b (some g)) (hg : B ≤ g) (hB : B ≤ a.heap.size) : Below B a b :=
  ⟨h.os, h.tape, h.output, h.size, fun k hk => h.block k (by omega) (fun e => by injection e with e; omega)⟩
end
theorem shr_byte {n j : Nat} : IntKind.u8.wrap ((n : Int) / 2 ^ (8 * j)) = ((dg n j).toNat : Int) := by
  have hw : ∀ i : Int, IntKind.u8.wrap i = i % 256 := fun _ => rfl
  rw [dg_toNat]
  have e : (2 : Int) ^ (8 * j) = ((256 ^ j : Nat) : Int) := by
    rw [show (256 : Nat) = 2 ^ 8 by decide, ← Nat.pow_mul, Int.natCast_pow]; rfl
  rw [hw, e]; omega

theorem size_u8 (W : World) : (sizeOf 5).run Try.prog W = .ok 1 W := by kernel_rfl
end Go.Proofs.Yteikfkefahaodaa
