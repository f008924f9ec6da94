/-
  DERIVED. GIVEN WITH THE SEED: THE CARDS: each row of YtcloajmcfacfnabDoorRows.lean that lists a variable, with what it lists TIED to the program's text (the seventh form; the later family's looks); each row that meets fmt, with fmt's text TOLD by the authors' own Lean function (tested against real Go, not proved from fmt's source: count such statements apart). THE CARD IS WHAT COUNTS. Prove the row's statement (the work); the ties are given (YtcloajmcfacfnabDoorTie.lean); close each card by the builder's one call (the guide's Derived/Test/ToyasCard.lean, 'card_holds'). Laid BY PROGRAM, IN A SANDBOX (cutbox-door.mjs). By AI agents, Wed Nov 11 2026. No macro, syntax, notation, axiom, sorry.
-/
import Derived.Test.YtcloajmcfacfnabDoorRows
import GoSem.ClaimSeven
namespace Go.Proofs.YtcloajmcfacfnabDoor
namespace Rows

/-- THE TIED CARD OF 'lapidarylaw02.CellTotals'. -/
def cellTotalsCard : Claim7 := { stood := { row := cellTotalsRow, standIns := [], harness := (true, "7c338543929a9622a8e1780e0b1d7ad839f621afe32f18e90e27fb63685c69ce"), looks := true }, kinds := [], alts := [], laidByText := true, laidKinds := [.data, .data, .data, .data, .pinned], laidTests := true, laidLooks := .later }
def CellTotalsCardSaid : Prop := Claim7.holds Tryd.pinned (.plain (OpenSpec.ofChange cellTotalsSpec)) cellTotalsCard

/-- THE TIED CARD OF 'lapidarylaw02.CellApart'. -/
def cellApartCard : Claim7 := { stood := { row := cellApartRow, standIns := [], harness := (true, "7c338543929a9622a8e1780e0b1d7ad839f621afe32f18e90e27fb63685c69ce"), looks := true }, kinds := [], alts := [], laidByText := true, laidKinds := [.data, .data, .data, .data, .pinned], laidTests := true, laidLooks := .later }
def CellApartCardSaid : Prop := Claim7.holds Tryd.pinned (.plain (OpenSpec.ofChange cellApartSpec)) cellApartCard

/-- THE TIED CARD OF 'lapidarylaw02.CellNots'. -/
def cellNotsCard : Claim7 := { stood := { row := cellNotsRow, standIns := [], harness := (true, "7c338543929a9622a8e1780e0b1d7ad839f621afe32f18e90e27fb63685c69ce"), looks := true }, kinds := [], alts := [], laidByText := true, laidKinds := [.data, .data, .data, .data, .pinned], laidTests := true, laidLooks := .later }
def CellNotsCardSaid : Prop := Claim7.holds Tryd.pinned (.plain (OpenSpec.ofChange cellNotsSpec)) cellNotsCard

/-- THE SECOND FORM's CARD OF 'lapidarylaw02.CellTotals'. -/
def cellTotalsUptoCard : Claim7 := { stood := { row := cellTotalsUptoRow, standIns := [], harness := (true, "7c338543929a9622a8e1780e0b1d7ad839f621afe32f18e90e27fb63685c69ce"), looks := true }, kinds := [], alts := [], laidByText := true, laidKinds := [.data, .data, .data, .data, .pinned], laidTests := true, laidLooks := .later }
def CellTotalsUptoCardSaid : Prop := Claim7.holds Tryd.pinned (.plain (OpenSpec.upto cellTotalsSpec)) cellTotalsUptoCard

/-- THE SECOND FORM's CARD OF 'lapidarylaw02.CellApart'. -/
def cellApartUptoCard : Claim7 := { stood := { row := cellApartUptoRow, standIns := [], harness := (true, "7c338543929a9622a8e1780e0b1d7ad839f621afe32f18e90e27fb63685c69ce"), looks := true }, kinds := [], alts := [], laidByText := true, laidKinds := [.data, .data, .data, .data, .pinned], laidTests := true, laidLooks := .later }
def CellApartUptoCardSaid : Prop := Claim7.holds Tryd.pinned (.plain (OpenSpec.upto cellApartSpec)) cellApartUptoCard

/-- THE SECOND FORM's CARD OF 'lapidarylaw02.CellNots'. -/
def cellNotsUptoCard : Claim7 := { stood := { row := cellNotsUptoRow, standIns := [], harness := (true, "7c338543929a9622a8e1780e0b1d7ad839f621afe32f18e90e27fb63685c69ce"), looks := true }, kinds := [], alts := [], laidByText := true, laidKinds := [.data, .data, .data, .data, .pinned], laidTests := true, laidLooks := .later }
def CellNotsUptoCardSaid : Prop := Claim7.holds Tryd.pinned (.plain (OpenSpec.upto cellNotsSpec)) cellNotsUptoCard
end Rows
end Go.Proofs.YtcloajmcfacfnabDoor
