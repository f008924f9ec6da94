/-
  Package cell: And, Or, Not.
-/
import Derived.Test.YtdlgobakoomkpaaDoorCellD
namespace Go.Proofs.YtdlgobakoomkpaaDoor
open Go.RowKit

/-- What Not answers. -/
def notv (x : Held) : Val :=
  match x with
  | .bool b => ⟨3, 0, ⟨#[]⟩, !b⟩
  | _ => ⟨0, 0, ⟨#[]⟩, false⟩
def note (x : Held) : Int := if isTruth x = true then 0 else 8

end Go.Proofs.YtdlgobakoomkpaaDoor
