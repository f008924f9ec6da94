/-
  The document's own answer for room (ref06): Set, Find, Get of a map that is one.
-/
import Derived.Test.YtpnkmkenmpbekaaRoomE
namespace Go.Proofs.Ytpnkmkenmpbekaa
open Go.RowKit

section
variable {w w' : World} {base br g : Nat} {v : Value} {l : List Int}
end
end Go.Proofs.Ytpnkmkenmpbekaa
