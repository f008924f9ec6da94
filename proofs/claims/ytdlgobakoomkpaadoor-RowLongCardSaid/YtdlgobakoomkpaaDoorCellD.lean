/-
  Package cell: join, And, Or, Not.
-/
import Derived.Test.YtdlgobakoomkpaaDoorCellC
namespace Go.Proofs.YtdlgobakoomkpaaDoor
open Go.RowKit

/-- What And and Or answer: a value, and the error's number. -/
def joinv (x y : Held) (strong : Bool) : Val :=
  if isTruth x = false ∨ isTruth y = false then ⟨0, 0, ⟨#[]⟩, false⟩
  else if isIt x strong = true ∨ isIt y strong = true then ⟨3, 0, ⟨#[]⟩, strong⟩
  else if isNil x = true ∨ isNil y = true then ⟨0, 0, ⟨#[]⟩, false⟩
  else ⟨3, 0, ⟨#[]⟩, !strong⟩
def joine (x y : Held) : Int := if isTruth x = false ∨ isTruth y = false then 8 else 0

end Go.Proofs.YtdlgobakoomkpaaDoor
