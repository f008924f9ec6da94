/-
  The document's own answers for cell (ref02): And, Or, Not.
-/
import Derived.Test.YtdlgobakoomkpaaDoorCell2A
namespace Go.Proofs.YtdlgobakoomkpaaDoor
open Go.RowKit

/-- What ref's And and Or answer. -/
def randv (a b : Val) : Val := if thr a < 0 ∨ thr b < 0 then ⟨0, 0, ⟨#[]⟩, false⟩ else bck (min (thr a) (thr b))
def rorv (a b : Val) : Val := if thr a < 0 ∨ thr b < 0 then ⟨0, 0, ⟨#[]⟩, false⟩ else bck (max (thr a) (thr b))
def rande (a b : Val) : Int := if thr a < 0 ∨ thr b < 0 then 8 else 0
def rnotv (a : Val) : Val := if thr a < 0 then ⟨0, 0, ⟨#[]⟩, false⟩ else bck (2 - thr a)
def rnote (a : Val) : Int := if thr a < 0 then 8 else 0
theorem thr_bounds (a : Val) : -1 ≤ thr a ∧ thr a ≤ 2 := by
  unfold thr; repeat' split
  all_goals omega

end Go.Proofs.YtdlgobakoomkpaaDoor
