/-
  The document's own answer for room (ref06): Set of the next page, Find.
-/
import Derived.Test.YtpnkmkenmpbekaaRoomF
namespace Go.Proofs.Ytpnkmkenmpbekaa
open Go.RowKit

theorem int_nil (w : World) (e : TypeId) (size : Nat) : (w.alloc (.cells #[] e)).ownsRow w.heap.size e size (.slice (some ⟨w.heap.size, 0, none⟩) 0 0) 0 [] :=
  World.ownsRow_made w #[] 0 (Nat.le_refl _) (by unfold maxLen; omega) (by simp)
end Go.Proofs.Ytpnkmkenmpbekaa
