/-
  DERIVED. GIVEN WITH THE SEED: THE CARDS: each row of YtcloajmcfacfnaaDoorRows.lean that lists a variable, with what it lists TIED to the program's text (the seventh form; the later family's looks); each row that meets fmt, with fmt's text TOLD by the authors' own Lean function (tested against real Go, not proved from fmt's source: count such statements apart). THE CARD IS WHAT COUNTS. Prove the row's statement (the work); the ties are given (YtcloajmcfacfnaaDoorTie.lean); close each card by the builder's one call (the guide's Derived/Test/ToyasCard.lean, 'card_holds'). Laid BY PROGRAM, IN A SANDBOX (cutbox-door.mjs). By AI agents, Wed Nov 11 2026. No macro, syntax, notation, axiom, sorry.
-/
import Derived.Test.YtcloajmcfacfnaaDoorRows
import GoSem.ClaimSeven
namespace Go.Proofs.YtcloajmcfacfnaaDoor
namespace Rows

/-- THE TIED CARD OF 'lapidarylaw01.CalcReads'. -/
def calcReadsCard : Claim7 := { stood := { row := calcReadsRow, standIns := [], harness := (true, "fd48b6fec09ecf39592e811949c1fec5f5cfa5ea4b66d03acad7df087ad57ca3"), looks := true }, kinds := [], alts := [], laidByText := true, laidKinds := [.data, .data, .data], laidTests := true, laidLooks := .later }
def CalcReadsCardSaid : Prop := Claim7.holds Tryd.pinned (.plain (OpenSpec.ofChange calcReadsSpec)) calcReadsCard

/-- THE TIED CARD OF 'lapidarylaw02.CellRights'. -/
def cellRightsCard : Claim7 := { stood := { row := cellRightsRow, standIns := [], harness := (true, "fd48b6fec09ecf39592e811949c1fec5f5cfa5ea4b66d03acad7df087ad57ca3"), looks := true }, kinds := [], alts := [], laidByText := true, laidKinds := [.data, .data, .data, .data, .pinned], laidTests := true, laidLooks := .later }
def CellRightsCardSaid : Prop := Claim7.holds Tryd.pinned (.plain (OpenSpec.ofChange cellRightsSpec)) cellRightsCard

/-- THE TIED CARD OF 'lapidarylaw02.CellOrders'. -/
def cellOrdersCard : Claim7 := { stood := { row := cellOrdersRow, standIns := [], harness := (true, "fd48b6fec09ecf39592e811949c1fec5f5cfa5ea4b66d03acad7df087ad57ca3"), looks := true }, kinds := [], alts := [], laidByText := true, laidKinds := [.data, .data, .data, .data, .pinned], laidTests := true, laidLooks := .later }
def CellOrdersCardSaid : Prop := Claim7.holds Tryd.pinned (.plain (OpenSpec.ofChange cellOrdersSpec)) cellOrdersCard

/-- THE TIED CARD OF 'lapidarylaw02.CellSorts'. -/
def cellSortsCard : Claim7 := { stood := { row := cellSortsRow, standIns := [], harness := (true, "fd48b6fec09ecf39592e811949c1fec5f5cfa5ea4b66d03acad7df087ad57ca3"), looks := true }, kinds := [], alts := [], laidByText := true, laidKinds := [.data, .data, .data, .data, .pinned], laidTests := true, laidLooks := .later }
def CellSortsCardSaid : Prop := Claim7.holds Tryd.pinned (.plain (OpenSpec.ofChange cellSortsSpec)) cellSortsCard

/-- THE TIED CARD OF 'lapidarylaw02.CellTruths'. -/
def cellTruthsCard : Claim7 := { stood := { row := cellTruthsRow, standIns := [], harness := (true, "fd48b6fec09ecf39592e811949c1fec5f5cfa5ea4b66d03acad7df087ad57ca3"), looks := true }, kinds := [], alts := [], laidByText := true, laidKinds := [.data, .data, .data, .data, .pinned], laidTests := true, laidLooks := .later }
def CellTruthsCardSaid : Prop := Claim7.holds Tryd.pinned (.plain (OpenSpec.ofChange cellTruthsSpec)) cellTruthsCard

/-- THE TIED CARD OF 'lapidarylaw02.CellMorgan'. -/
def cellMorganCard : Claim7 := { stood := { row := cellMorganRow, standIns := [], harness := (true, "fd48b6fec09ecf39592e811949c1fec5f5cfa5ea4b66d03acad7df087ad57ca3"), looks := true }, kinds := [], alts := [], laidByText := true, laidKinds := [.data, .data, .data, .data, .pinned], laidTests := true, laidLooks := .later }
def CellMorganCardSaid : Prop := Claim7.holds Tryd.pinned (.plain (OpenSpec.ofChange cellMorganSpec)) cellMorganCard

/-- THE TIED CARD OF 'lapidarylaw02.CellLiterals'. -/
def cellLiteralsCard : Claim7 := { stood := { row := cellLiteralsRow, standIns := [], harness := (true, "fd48b6fec09ecf39592e811949c1fec5f5cfa5ea4b66d03acad7df087ad57ca3"), looks := true }, kinds := [], alts := [], laidByText := true, laidKinds := [.data, .data, .data, .data, .pinned], laidTests := true, laidLooks := .later }
def CellLiteralsCardSaid : Prop := Claim7.holds Tryd.pinned (.plain (OpenSpec.ofChange cellLiteralsSpec)) cellLiteralsCard

/-- THE SECOND FORM's CARD OF 'lapidarylaw01.CalcReads'. -/
def calcReadsUptoCard : Claim7 := { stood := { row := calcReadsUptoRow, standIns := [], harness := (true, "fd48b6fec09ecf39592e811949c1fec5f5cfa5ea4b66d03acad7df087ad57ca3"), looks := true }, kinds := [], alts := [], laidByText := true, laidKinds := [.data, .data, .data], laidTests := true, laidLooks := .later }
def CalcReadsUptoCardSaid : Prop := Claim7.holds Tryd.pinned (.plain (OpenSpec.upto calcReadsSpec)) calcReadsUptoCard

/-- THE SECOND FORM's CARD OF 'lapidarylaw02.CellRights'. -/
def cellRightsUptoCard : Claim7 := { stood := { row := cellRightsUptoRow, standIns := [], harness := (true, "fd48b6fec09ecf39592e811949c1fec5f5cfa5ea4b66d03acad7df087ad57ca3"), looks := true }, kinds := [], alts := [], laidByText := true, laidKinds := [.data, .data, .data, .data, .pinned], laidTests := true, laidLooks := .later }
def CellRightsUptoCardSaid : Prop := Claim7.holds Tryd.pinned (.plain (OpenSpec.upto cellRightsSpec)) cellRightsUptoCard

/-- THE SECOND FORM's CARD OF 'lapidarylaw02.CellOrders'. -/
def cellOrdersUptoCard : Claim7 := { stood := { row := cellOrdersUptoRow, standIns := [], harness := (true, "fd48b6fec09ecf39592e811949c1fec5f5cfa5ea4b66d03acad7df087ad57ca3"), looks := true }, kinds := [], alts := [], laidByText := true, laidKinds := [.data, .data, .data, .data, .pinned], laidTests := true, laidLooks := .later }
def CellOrdersUptoCardSaid : Prop := Claim7.holds Tryd.pinned (.plain (OpenSpec.upto cellOrdersSpec)) cellOrdersUptoCard

/-- THE SECOND FORM's CARD OF 'lapidarylaw02.CellSorts'. -/
def cellSortsUptoCard : Claim7 := { stood := { row := cellSortsUptoRow, standIns := [], harness := (true, "fd48b6fec09ecf39592e811949c1fec5f5cfa5ea4b66d03acad7df087ad57ca3"), looks := true }, kinds := [], alts := [], laidByText := true, laidKinds := [.data, .data, .data, .data, .pinned], laidTests := true, laidLooks := .later }
def CellSortsUptoCardSaid : Prop := Claim7.holds Tryd.pinned (.plain (OpenSpec.upto cellSortsSpec)) cellSortsUptoCard

/-- THE SECOND FORM's CARD OF 'lapidarylaw02.CellTruths'. -/
def cellTruthsUptoCard : Claim7 := { stood := { row := cellTruthsUptoRow, standIns := [], harness := (true, "fd48b6fec09ecf39592e811949c1fec5f5cfa5ea4b66d03acad7df087ad57ca3"), looks := true }, kinds := [], alts := [], laidByText := true, laidKinds := [.data, .data, .data, .data, .pinned], laidTests := true, laidLooks := .later }
def CellTruthsUptoCardSaid : Prop := Claim7.holds Tryd.pinned (.plain (OpenSpec.upto cellTruthsSpec)) cellTruthsUptoCard

/-- THE SECOND FORM's CARD OF 'lapidarylaw02.CellMorgan'. -/
def cellMorganUptoCard : Claim7 := { stood := { row := cellMorganUptoRow, standIns := [], harness := (true, "fd48b6fec09ecf39592e811949c1fec5f5cfa5ea4b66d03acad7df087ad57ca3"), looks := true }, kinds := [], alts := [], laidByText := true, laidKinds := [.data, .data, .data, .data, .pinned], laidTests := true, laidLooks := .later }
def CellMorganUptoCardSaid : Prop := Claim7.holds Tryd.pinned (.plain (OpenSpec.upto cellMorganSpec)) cellMorganUptoCard

/-- THE SECOND FORM's CARD OF 'lapidarylaw02.CellLiterals'. -/
def cellLiteralsUptoCard : Claim7 := { stood := { row := cellLiteralsUptoRow, standIns := [], harness := (true, "fd48b6fec09ecf39592e811949c1fec5f5cfa5ea4b66d03acad7df087ad57ca3"), looks := true }, kinds := [], alts := [], laidByText := true, laidKinds := [.data, .data, .data, .data, .pinned], laidTests := true, laidLooks := .later }
def CellLiteralsUptoCardSaid : Prop := Claim7.holds Tryd.pinned (.plain (OpenSpec.upto cellLiteralsSpec)) cellLiteralsUptoCard
end Rows
end Go.Proofs.YtcloajmcfacfnaaDoor
