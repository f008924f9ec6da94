/-
  Two maps side by side: package room's and the document's own (ref06); what a writing call of the one leaves of the other.
-/
import Derived.Test.YteikfkefahaodaaRoomG
namespace Go.Proofs.Yteikfkefahaodaa
open Go.RowKit

section
variable {w0 w w' : World} {B b1 r1 b2 r2 g1 g2 : Nat} {v1 v2 v' : Value} {L1 L2 L' : List Int}
end
