/-
  A block held whole (the same as in PageE, for seats that have no page).
-/
import Derived.Test.YtbmkhopmhmmibaaMem
import Derived.OwnWalk
import Derived.Maps.Range
import Derived.WalkLawsBesides
import Derived.Lib.Hide
namespace Go.Proofs.Ytbmkhopmhmmibaa
open Go.RowKit

/-- Block b holds just these cells. -/
def Bx (w : World) (b : Nat) (T : TypeId) (l : List Value) : Prop := w.heap[b]? = some (.cells l.toArray T (0, 0))
section
variable {w w' : World} {b : Nat} {T : TypeId} {l : List Value}
theorem Bx.lt (h : Bx w b T l) : b < w.heap.size := (Array.getElem?_eq_some_iff.1 h).1
theorem Bx.cell (h : Bx w b T l) (i : Nat) : w.cell? ⟨b, i, none⟩ = l[i]? := by rw [cell_of_row w b i _ _ _ h]; simp
theorem Bx.frozen (h : Bx w b T l) (i : Nat) : w.frozen? ⟨b, i, none⟩ = false := frozen_of_row w b i _ _ h
theorem Bx.kept (h : Bx w b T l) {row : Option Nat} (hg : w.grownBy w' row) (hne : row ≠ some b) : Bx w' b T l := (hg.block b h.lt (fun e => hne e.symm)).trans h
theorem Bx.new (w : World) (T : TypeId) (C : Array Value) (l : List Value) (hC : C = l.toArray) : Bx (w.alloc (.cells C T)) w.heap.size T l := by subst hC; exact heap_alloc_new w _
end
theorem Bx.set {w : World} {b : Nat} {T : TypeId} {l : List Value} (h : Bx w b T l) (i : Nat) (u : Value) : Bx (w.setCell ⟨b, i, none⟩ u) b T (l.set i u) := by
  have := heap_setCell_same w b i _ _ u h
  unfold Bx
  simpa using this
end Go.Proofs.Ytbmkhopmhmmibaa
