/-
  No cell of these rows narrows 'for every input' (looked for: loops, veiled, ifaces, maps, wideKeys, modest, calm, conditions, laid).
  DERIVED. THE GIVEN ROWS OF THIS SEAT. 10 by the template 'for every input the law returns true; each argument reads behind the call as it read before'; 0 by the template 'total and deterministic' (their statements: YtdbkmmkmfbjkbaaTotals.lean).
  GIVEN WITH THE SEED: the statements are not yours to turn. If you find one false, say at which input.
  Laid BY PROGRAM, IN A SANDBOX (cutbox-rows.mjs): the forced cells as the released guide's own fill.sh prints them over the translation 5a94e276fb89dd87… (all of the seat's roots in one cut). By AI agents, Wed Nov 11 2026. No macro, syntax, notation, axiom, sorry.
-/
import Derived.Test.YtdbkmmkmfbjkbaaChecked
import GoSem.Claim
import GoSem.ClaimJoined
import GoSem.ClaimMapViews
import Derived.JoinedTies
import Derived.KernelRfl
namespace Go.Proofs.Ytdbkmmkmfbjkbaa
/- THE CELL 'sum', in the pinned program and in every row, IS THE sha256 OF THE DUMP (.gsa) THAT YtdbkmmkmfbjkbaaProg.lean LOADS. Nothing in Lean hashes anything: it is a label: what it is worth is what the hold of that sum in a sandbox is worth. -/
noncomputable def Try.pinned : Pinned := { name := "ytdbkmmkmfbjkbaa", sum := "5a94e276fb89dd87495ebeceecefa084aec4a8b264a7eedb2a3f314ce1b89bd8", checked := Try.checked }
namespace Rows
def none {H : Type} : Left H := { results := [], args := [] }

/-- 'lapidarylaw05.PagePlays': WHATEVER THE INPUT: true; the input reads as it did. -/
def pagePlaysSpec : ChangeSpec := { name := "pagePlays", fn := fun _ => fun
  | [d1, d2] => { results := [.lit (.bool true)], args := [d1, d2] }
  | _ => none }
def pagePlaysRow : OpenClaim := { program := "ytdbkmmkmfbjkbaa", sum := "5a94e276fb89dd87495ebeceecefa084aec4a8b264a7eedb2a3f314ce1b89bd8", func := "lapidary/lapidarylaw05.PagePlays", spec := "pagePlays", apart := false }
def PagePlaysSaid : Prop := pagePlaysRow.holds Try.pinned (OpenSpec.ofChange pagePlaysSpec)

/-- ITS FALSE NEIGHBOUR: 'it returns false'. Refute it at one input. -/
def pagePlaysWrong : ChangeSpec := { name := "pagePlays", fn := fun _ => fun
  | [d1, d2] => { results := [.lit (.bool false)], args := [d1, d2] }
  | _ => none }
def PagePlaysWrongFalsely : Prop := pagePlaysRow.holds Try.pinned (OpenSpec.ofChange pagePlaysWrong)

/-- 'lapidarylaw05.PageLoads': WHATEVER THE INPUT: true; the input reads as it did. -/
def pageLoadsSpec : ChangeSpec := { name := "pageLoads", fn := fun _ => fun
  | [d] => { results := [.lit (.bool true)], args := [d] }
  | _ => none }
def pageLoadsRow : OpenClaim := { program := "ytdbkmmkmfbjkbaa", sum := "5a94e276fb89dd87495ebeceecefa084aec4a8b264a7eedb2a3f314ce1b89bd8", func := "lapidary/lapidarylaw05.PageLoads", spec := "pageLoads", apart := false }
def PageLoadsSaid : Prop := pageLoadsRow.holds Try.pinned (OpenSpec.ofChange pageLoadsSpec)

/-- ITS FALSE NEIGHBOUR: 'it returns false'. Refute it at one input. -/
def pageLoadsWrong : ChangeSpec := { name := "pageLoads", fn := fun _ => fun
  | [d] => { results := [.lit (.bool false)], args := [d] }
  | _ => none }
def PageLoadsWrongFalsely : Prop := pageLoadsRow.holds Try.pinned (OpenSpec.ofChange pageLoadsWrong)

/-- 'lapidarylaw05.PageFills': WHATEVER THE INPUT: true; the input reads as it did. -/
def pageFillsSpec : ChangeSpec := { name := "pageFills", fn := fun _ => fun
  | [d1, d2] => { results := [.lit (.bool true)], args := [d1, d2] }
  | _ => none }
def pageFillsRow : OpenClaim := { program := "ytdbkmmkmfbjkbaa", sum := "5a94e276fb89dd87495ebeceecefa084aec4a8b264a7eedb2a3f314ce1b89bd8", func := "lapidary/lapidarylaw05.PageFills", spec := "pageFills", apart := false }
def PageFillsSaid : Prop := pageFillsRow.holds Try.pinned (OpenSpec.ofChange pageFillsSpec)

/-- ITS FALSE NEIGHBOUR: 'it returns false'. Refute it at one input. -/
def pageFillsWrong : ChangeSpec := { name := "pageFills", fn := fun _ => fun
  | [d1, d2] => { results := [.lit (.bool false)], args := [d1, d2] }
  | _ => none }
def PageFillsWrongFalsely : Prop := pageFillsRow.holds Try.pinned (OpenSpec.ofChange pageFillsWrong)

/-- 'lapidarylaw05.PageStays': WHATEVER THE INPUT: true; the input reads as it did. -/
def pageStaysSpec : ChangeSpec := { name := "pageStays", fn := fun _ => fun
  | [d1, d2] => { results := [.lit (.bool true)], args := [d1, d2] }
  | _ => none }
def pageStaysRow : OpenClaim := { program := "ytdbkmmkmfbjkbaa", sum := "5a94e276fb89dd87495ebeceecefa084aec4a8b264a7eedb2a3f314ce1b89bd8", func := "lapidary/lapidarylaw05.PageStays", spec := "pageStays", apart := false }
def PageStaysSaid : Prop := pageStaysRow.holds Try.pinned (OpenSpec.ofChange pageStaysSpec)

/-- ITS FALSE NEIGHBOUR: 'it returns false'. Refute it at one input. -/
def pageStaysWrong : ChangeSpec := { name := "pageStays", fn := fun _ => fun
  | [d1, d2] => { results := [.lit (.bool false)], args := [d1, d2] }
  | _ => none }
def PageStaysWrongFalsely : Prop := pageStaysRow.holds Try.pinned (OpenSpec.ofChange pageStaysWrong)

/-- 'lapidarylaw05.PageStamps': WHATEVER THE INPUT: true; the input reads as it did. -/
def pageStampsSpec : ChangeSpec := { name := "pageStamps", fn := fun _ => fun
  | [d1, d2, d3] => { results := [.lit (.bool true)], args := [d1, d2, d3] }
  | _ => none }
def pageStampsRow : OpenClaim := { program := "ytdbkmmkmfbjkbaa", sum := "5a94e276fb89dd87495ebeceecefa084aec4a8b264a7eedb2a3f314ce1b89bd8", func := "lapidary/lapidarylaw05.PageStamps", spec := "pageStamps", apart := false }
def PageStampsSaid : Prop := pageStampsRow.holds Try.pinned (OpenSpec.ofChange pageStampsSpec)

/-- ITS FALSE NEIGHBOUR: 'it returns false'. Refute it at one input. -/
def pageStampsWrong : ChangeSpec := { name := "pageStamps", fn := fun _ => fun
  | [d1, d2, d3] => { results := [.lit (.bool false)], args := [d1, d2, d3] }
  | _ => none }
def PageStampsWrongFalsely : Prop := pageStampsRow.holds Try.pinned (OpenSpec.ofChange pageStampsWrong)

/-- 'lapidarylaw05.PageTwice': WHATEVER THE INPUT: true; the input reads as it did. -/
def pageTwiceSpec : ChangeSpec := { name := "pageTwice", fn := fun _ => fun
  | [d1, d2] => { results := [.lit (.bool true)], args := [d1, d2] }
  | _ => none }
def pageTwiceRow : OpenClaim := { program := "ytdbkmmkmfbjkbaa", sum := "5a94e276fb89dd87495ebeceecefa084aec4a8b264a7eedb2a3f314ce1b89bd8", func := "lapidary/lapidarylaw05.PageTwice", spec := "pageTwice", apart := false }
def PageTwiceSaid : Prop := pageTwiceRow.holds Try.pinned (OpenSpec.ofChange pageTwiceSpec)

/-- ITS FALSE NEIGHBOUR: 'it returns false'. Refute it at one input. -/
def pageTwiceWrong : ChangeSpec := { name := "pageTwice", fn := fun _ => fun
  | [d1, d2] => { results := [.lit (.bool false)], args := [d1, d2] }
  | _ => none }
def PageTwiceWrongFalsely : Prop := pageTwiceRow.holds Try.pinned (OpenSpec.ofChange pageTwiceWrong)

/-- 'lapidarylaw06.RoomPlays': WHATEVER THE INPUT: true; the input reads as it did. -/
def roomPlaysSpec : ChangeSpec := { name := "roomPlays", fn := fun _ => fun
  | [d1, d2] => { results := [.lit (.bool true)], args := [d1, d2] }
  | _ => none }
def roomPlaysRow : OpenClaim := { program := "ytdbkmmkmfbjkbaa", sum := "5a94e276fb89dd87495ebeceecefa084aec4a8b264a7eedb2a3f314ce1b89bd8", func := "lapidary/lapidarylaw06.RoomPlays", spec := "roomPlays", apart := false }
def RoomPlaysSaid : Prop := roomPlaysRow.holds Try.pinned (OpenSpec.ofChange roomPlaysSpec)

/-- ITS FALSE NEIGHBOUR: 'it returns false'. Refute it at one input. -/
def roomPlaysWrong : ChangeSpec := { name := "roomPlays", fn := fun _ => fun
  | [d1, d2] => { results := [.lit (.bool false)], args := [d1, d2] }
  | _ => none }
def RoomPlaysWrongFalsely : Prop := roomPlaysRow.holds Try.pinned (OpenSpec.ofChange roomPlaysWrong)

/-- 'lapidarylaw06.RoomLeast': WHATEVER THE INPUT: true; the input reads as it did. -/
def roomLeastSpec : ChangeSpec := { name := "roomLeast", fn := fun _ => fun
  | [d1, d2] => { results := [.lit (.bool true)], args := [d1, d2] }
  | _ => none }
def roomLeastRow : OpenClaim := { program := "ytdbkmmkmfbjkbaa", sum := "5a94e276fb89dd87495ebeceecefa084aec4a8b264a7eedb2a3f314ce1b89bd8", func := "lapidary/lapidarylaw06.RoomLeast", spec := "roomLeast", apart := false }
def RoomLeastSaid : Prop := roomLeastRow.holds Try.pinned (OpenSpec.ofChange roomLeastSpec)

/-- ITS FALSE NEIGHBOUR: 'it returns false'. Refute it at one input. -/
def roomLeastWrong : ChangeSpec := { name := "roomLeast", fn := fun _ => fun
  | [d1, d2] => { results := [.lit (.bool false)], args := [d1, d2] }
  | _ => none }
def RoomLeastWrongFalsely : Prop := roomLeastRow.holds Try.pinned (OpenSpec.ofChange roomLeastWrong)

/-- 'lapidarylaw06.RoomLast': WHATEVER THE INPUT: true; the input reads as it did. -/
def roomLastSpec : ChangeSpec := { name := "roomLast", fn := fun _ => fun
  | [d] => { results := [.lit (.bool true)], args := [d] }
  | _ => none }
def roomLastRow : OpenClaim := { program := "ytdbkmmkmfbjkbaa", sum := "5a94e276fb89dd87495ebeceecefa084aec4a8b264a7eedb2a3f314ce1b89bd8", func := "lapidary/lapidarylaw06.RoomLast", spec := "roomLast", apart := false }
def RoomLastSaid : Prop := roomLastRow.holds Try.pinned (OpenSpec.ofChange roomLastSpec)

/-- ITS FALSE NEIGHBOUR: 'it returns false'. Refute it at one input. -/
def roomLastWrong : ChangeSpec := { name := "roomLast", fn := fun _ => fun
  | [d] => { results := [.lit (.bool false)], args := [d] }
  | _ => none }
def RoomLastWrongFalsely : Prop := roomLastRow.holds Try.pinned (OpenSpec.ofChange roomLastWrong)

/-- 'lapidarylaw06.RoomMost': WHATEVER THE INPUT: true; the input reads as it did. -/
def roomMostSpec : ChangeSpec := { name := "roomMost", fn := fun _ => fun
  | [d1, d2] => { results := [.lit (.bool true)], args := [d1, d2] }
  | _ => none }
def roomMostRow : OpenClaim := { program := "ytdbkmmkmfbjkbaa", sum := "5a94e276fb89dd87495ebeceecefa084aec4a8b264a7eedb2a3f314ce1b89bd8", func := "lapidary/lapidarylaw06.RoomMost", spec := "roomMost", apart := false }
def RoomMostSaid : Prop := roomMostRow.holds Try.pinned (OpenSpec.ofChange roomMostSpec)

/-- ITS FALSE NEIGHBOUR: 'it returns false'. Refute it at one input. -/
def roomMostWrong : ChangeSpec := { name := "roomMost", fn := fun _ => fun
  | [d1, d2] => { results := [.lit (.bool false)], args := [d1, d2] }
  | _ => none }
def RoomMostWrongFalsely : Prop := roomMostRow.holds Try.pinned (OpenSpec.ofChange roomMostWrong)

/- THE SECOND FORM. 'bulk': how many values and letters a reading holds, each counted each time it is reached (what is shared counts as often as it is met; a slice's spare places count too). A statement '..UptoSaid' is the law's where the arguments, and the package variables that the reading takes, are together of bulk at most 1048576: NARROWER than '..Said'. Prove '..Said' where nothing that the law and all that it calls make is longer than what came in: it says more and counts as full. Else prove '..UptoSaid'. A law counts once. -/
mutual
def uptoBulk {H : Type} : DataW H → Nat
  | .lit (.string bytes) => bytes.length + 1
  | .lit _ => 1
  | .nil => 1
  | .ptr d => uptoBulk d + 1
  | .slice elems spare => uptoBulkAll elems + uptoBulkAll spare + 1
  | .agg parts => uptoBulkAll parts + 1
  | .iface _ d => uptoBulk d + 1
  | .map entries => uptoBulkEntries entries + 1
  | .held _ => 1
def uptoBulkAll {H : Type} : List (DataW H) → Nat
  | [] => 0
  | d :: r => uptoBulk d + uptoBulkAll r
def uptoBulkEntries {H : Type} : List (Lit × DataW H) → Nat
  | [] => 0
  | x :: r => uptoBulkEntry x + uptoBulkEntries r
def uptoBulkEntry {H : Type} : Lit × DataW H → Nat
  | (.string bytes, d) => bytes.length + uptoBulk d + 1
  | (_, d) => uptoBulk d + 1
 end
def uptoSmall : (H : Type) → List (DataW H) → Bool := fun _ ds => decide (uptoBulkAll ds ≤ 1048576)
def OpenSpec.upto (s : _root_.Go.ChangeSpec) : _root_.Go.OpenSpec := { _root_.Go.OpenSpec.ofChange s with cond := some uptoSmall }

/-- 'lapidarylaw05.PagePlays', WHERE WHAT IT READS IS OF BULK AT MOST 1048576: true; the input reads as it did. -/
def pagePlaysUptoRow : OpenClaim := { program := "ytdbkmmkmfbjkbaa", sum := "5a94e276fb89dd87495ebeceecefa084aec4a8b264a7eedb2a3f314ce1b89bd8", func := "lapidary/lapidarylaw05.PagePlays", spec := "pagePlays", apart := false, narrowed := true }
def PagePlaysUptoSaid : Prop := pagePlaysUptoRow.holds Try.pinned (OpenSpec.upto pagePlaysSpec)

/-- 'lapidarylaw05.PageLoads', WHERE WHAT IT READS IS OF BULK AT MOST 1048576: true; the input reads as it did. -/
def pageLoadsUptoRow : OpenClaim := { program := "ytdbkmmkmfbjkbaa", sum := "5a94e276fb89dd87495ebeceecefa084aec4a8b264a7eedb2a3f314ce1b89bd8", func := "lapidary/lapidarylaw05.PageLoads", spec := "pageLoads", apart := false, narrowed := true }
def PageLoadsUptoSaid : Prop := pageLoadsUptoRow.holds Try.pinned (OpenSpec.upto pageLoadsSpec)

/-- 'lapidarylaw05.PageFills', WHERE WHAT IT READS IS OF BULK AT MOST 1048576: true; the input reads as it did. -/
def pageFillsUptoRow : OpenClaim := { program := "ytdbkmmkmfbjkbaa", sum := "5a94e276fb89dd87495ebeceecefa084aec4a8b264a7eedb2a3f314ce1b89bd8", func := "lapidary/lapidarylaw05.PageFills", spec := "pageFills", apart := false, narrowed := true }
def PageFillsUptoSaid : Prop := pageFillsUptoRow.holds Try.pinned (OpenSpec.upto pageFillsSpec)

/-- 'lapidarylaw05.PageStays', WHERE WHAT IT READS IS OF BULK AT MOST 1048576: true; the input reads as it did. -/
def pageStaysUptoRow : OpenClaim := { program := "ytdbkmmkmfbjkbaa", sum := "5a94e276fb89dd87495ebeceecefa084aec4a8b264a7eedb2a3f314ce1b89bd8", func := "lapidary/lapidarylaw05.PageStays", spec := "pageStays", apart := false, narrowed := true }
def PageStaysUptoSaid : Prop := pageStaysUptoRow.holds Try.pinned (OpenSpec.upto pageStaysSpec)

/-- 'lapidarylaw05.PageStamps', WHERE WHAT IT READS IS OF BULK AT MOST 1048576: true; the input reads as it did. -/
def pageStampsUptoRow : OpenClaim := { program := "ytdbkmmkmfbjkbaa", sum := "5a94e276fb89dd87495ebeceecefa084aec4a8b264a7eedb2a3f314ce1b89bd8", func := "lapidary/lapidarylaw05.PageStamps", spec := "pageStamps", apart := false, narrowed := true }
def PageStampsUptoSaid : Prop := pageStampsUptoRow.holds Try.pinned (OpenSpec.upto pageStampsSpec)

/-- 'lapidarylaw05.PageTwice', WHERE WHAT IT READS IS OF BULK AT MOST 1048576: true; the input reads as it did. -/
def pageTwiceUptoRow : OpenClaim := { program := "ytdbkmmkmfbjkbaa", sum := "5a94e276fb89dd87495ebeceecefa084aec4a8b264a7eedb2a3f314ce1b89bd8", func := "lapidary/lapidarylaw05.PageTwice", spec := "pageTwice", apart := false, narrowed := true }
def PageTwiceUptoSaid : Prop := pageTwiceUptoRow.holds Try.pinned (OpenSpec.upto pageTwiceSpec)

/-- 'lapidarylaw06.RoomPlays', WHERE WHAT IT READS IS OF BULK AT MOST 1048576: true; the input reads as it did. -/
def roomPlaysUptoRow : OpenClaim := { program := "ytdbkmmkmfbjkbaa", sum := "5a94e276fb89dd87495ebeceecefa084aec4a8b264a7eedb2a3f314ce1b89bd8", func := "lapidary/lapidarylaw06.RoomPlays", spec := "roomPlays", apart := false, narrowed := true }
def RoomPlaysUptoSaid : Prop := roomPlaysUptoRow.holds Try.pinned (OpenSpec.upto roomPlaysSpec)

/-- 'lapidarylaw06.RoomLeast', WHERE WHAT IT READS IS OF BULK AT MOST 1048576: true; the input reads as it did. -/
def roomLeastUptoRow : OpenClaim := { program := "ytdbkmmkmfbjkbaa", sum := "5a94e276fb89dd87495ebeceecefa084aec4a8b264a7eedb2a3f314ce1b89bd8", func := "lapidary/lapidarylaw06.RoomLeast", spec := "roomLeast", apart := false, narrowed := true }
def RoomLeastUptoSaid : Prop := roomLeastUptoRow.holds Try.pinned (OpenSpec.upto roomLeastSpec)

/-- 'lapidarylaw06.RoomLast', WHERE WHAT IT READS IS OF BULK AT MOST 1048576: true; the input reads as it did. -/
def roomLastUptoRow : OpenClaim := { program := "ytdbkmmkmfbjkbaa", sum := "5a94e276fb89dd87495ebeceecefa084aec4a8b264a7eedb2a3f314ce1b89bd8", func := "lapidary/lapidarylaw06.RoomLast", spec := "roomLast", apart := false, narrowed := true }
def RoomLastUptoSaid : Prop := roomLastUptoRow.holds Try.pinned (OpenSpec.upto roomLastSpec)

/-- 'lapidarylaw06.RoomMost', WHERE WHAT IT READS IS OF BULK AT MOST 1048576: true; the input reads as it did. -/
def roomMostUptoRow : OpenClaim := { program := "ytdbkmmkmfbjkbaa", sum := "5a94e276fb89dd87495ebeceecefa084aec4a8b264a7eedb2a3f314ce1b89bd8", func := "lapidary/lapidarylaw06.RoomMost", spec := "roomMost", apart := false, narrowed := true }
def RoomMostUptoSaid : Prop := roomMostUptoRow.holds Try.pinned (OpenSpec.upto roomMostSpec)

end Rows
end Go.Proofs.Ytdbkmmkmfbjkbaa
