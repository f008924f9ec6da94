/-
  Package cell: Less, Same, Compare, of any two values.
-/
import Derived.Test.YtdlgobakoomkpaaDoorCellA
import Derived.Deep.RegionHeld3
namespace Go.Proofs.YtdlgobakoomkpaaDoor
open Go.RowKit

theorem bcell {W w1 : World} (hb : Below W.heap.size W w1) : (∀ b o, b < W.heap.size → w1.cell? ⟨b, o, none⟩ = W.cell? ⟨b, o, none⟩) ∧ (∀ b o, b < W.heap.size → w1.frozen? ⟨b, o, none⟩ = W.frozen? ⟨b, o, none⟩) :=
  ⟨fun b o h => hb.cell (p := ⟨b, o, none⟩) h, fun b o h => hb.frozen (p := ⟨b, o, none⟩) h⟩

/-- In this world block b holds a value, field by field. -/
def HoldsVal (w : World) (b : Nat) (v : Val) : Prop :=
  w.cell? ⟨b, 0, none⟩ = some (.int .u8 v.k) ∧ w.cell? ⟨b, 1, none⟩ = some (.int .i64 v.i) ∧ w.cell? ⟨b, 2, none⟩ = some (.string v.s) ∧ w.cell? ⟨b, 3, none⟩ = some (.bool v.b)

/-- What cell.Less answers. -/
def cless (a b : Val) : Bool := if rnk (opn a) = rnk (opn b) then decide (ord2 (opn a) (opn b) < 0) else decide (rnk (opn a) < rnk (opn b))

/-- What cell.Same answers. -/
def csame (a b : Val) : Bool := !cless a b && !cless b a

/-- What cell.Compare answers. -/
def isNil : Held → Bool
  | .nil => true
  | _ => false
def unk (a b : Val) : Bool := isNil (opn a) || isNil (opn b)
def cmpv (a b : Val) : Int := if unk a b = true ∨ ¬ rnk (opn a) = rnk (opn b) then 0 else ord2 (opn a) (opn b)
def cmpk (a b : Val) : Bool := !unk a b && decide (rnk (opn a) = rnk (opn b))
def cmpe (a b : Val) : Int := if unk a b = true ∨ rnk (opn a) = rnk (opn b) then 0 else 8

theorem nil_of {h : Held} (hn : isNil h = true) : h = .nil := by cases h <;> simp [isNil] at hn ⊢

theorem eqnil (x : Held) (w : World) : (binOp .eql 20 x.val .nilIface).run Tryd.prog w = .ok (.bool (isNil x)) w := by
  cases x <;> kernel_rfl

theorem eqg (x : Held) (o : Operand) (w : World) : (eqGuard .eql 20 o (.const .nilIface) x.val .nilIface).run Tryd.prog w = .ok () w := by
  cases o <;> cases x <;> kernel_rfl

end Go.Proofs.YtdlgobakoomkpaaDoor
