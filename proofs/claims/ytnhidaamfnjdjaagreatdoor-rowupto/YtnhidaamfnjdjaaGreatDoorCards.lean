/-
  DERIVED. GIVEN WITH THE SEED: THE CARDS: each row of YtnhidaamfnjdjaaGreatDoorRows.lean that lists a variable, with what it lists TIED to the program's text (the seventh form; the later family's looks); each row that meets fmt, with fmt's text TOLD by the authors' own Lean function (tested against real Go, not proved from fmt's source: count such statements apart). THE CARD IS WHAT COUNTS. Prove the row's statement (the work); the ties are given (YtnhidaamfnjdjaaGreatDoorTie.lean); close each card by the builder's one call (the guide's Derived/Test/ToyasCard.lean, 'card_holds'). Laid BY PROGRAM, IN A SANDBOX (cutbox-door.mjs). By AI agents, Wed Nov 11 2026. No macro, syntax, notation, axiom, sorry.
-/
import Derived.Test.YtnhidaamfnjdjaaGreatDoorRows
import GoSem.ClaimSeven
namespace Go.Proofs.YtnhidaamfnjdjaaGreatDoor
namespace Rows

/-- THE TIED CARD OF 'shuttlelaw.Checks'. -/
def checksCard : Claim7 := { stood := { row := checksRow, standIns := [], harness := (true, "52ac78ea144005df6338994291787569787a3eaf9834c36f44180d39727f4353"), looks := true }, kinds := [], alts := [], laidByText := true, laidKinds := [.data, .data, .data, .data, .sentinel, .sentinel, .pinned], laidTests := true, laidLooks := .later }
def ChecksCardSaid : Prop := Claim7.holds Tryz.pinned (.plain (OpenSpec.ofChange checksSpec)) checksCard

/-- THE TIED CARD OF 'shuttlelaw.Alone'. -/
def aloneCard : Claim7 := { stood := { row := aloneRow, standIns := [], harness := (true, "52ac78ea144005df6338994291787569787a3eaf9834c36f44180d39727f4353"), looks := true }, kinds := [], alts := [], laidByText := true, laidKinds := [.data, .data, .data, .data, .sentinel, .sentinel, .pinned], laidTests := true, laidLooks := .later }
def AloneCardSaid : Prop := Claim7.holds Tryz.pinned (.plain (OpenSpec.ofChange aloneSpec)) aloneCard

/-- THE TIED CARD OF 'shuttlelaw.All'. -/
def allCard : Claim7 := { stood := { row := allRow, standIns := [], harness := (true, "52ac78ea144005df6338994291787569787a3eaf9834c36f44180d39727f4353"), looks := true }, kinds := [], alts := [], laidByText := true, laidKinds := [.data, .data, .data, .data, .sentinel, .sentinel, .pinned], laidTests := true, laidLooks := .later }
def AllCardSaid : Prop := Claim7.holds Tryz.pinned (.plain (OpenSpec.ofChange allSpec)) allCard

/-- THE TIED CARD OF 'shuttlekeep.Shares'. -/
def sharesCard : Claim7 := { stood := { row := sharesRow, standIns := [], harness := (true, "52ac78ea144005df6338994291787569787a3eaf9834c36f44180d39727f4353"), looks := true }, kinds := [], alts := [], laidByText := true, laidKinds := [.data, .data, .data, .data, .sentinel, .sentinel, .pinned], laidTests := true, laidLooks := .later }
def SharesCardSaid : Prop := Claim7.holds Tryz.pinned (.plain (OpenSpec.ofChange sharesSpec)) sharesCard

/-- THE TIED CARD OF 'shuttlekeep.Blank'. -/
def blankCard : Claim7 := { stood := { row := blankRow, standIns := [], harness := (true, "52ac78ea144005df6338994291787569787a3eaf9834c36f44180d39727f4353"), looks := true }, kinds := [], alts := [], laidByText := true, laidKinds := [.data, .data, .data, .data, .sentinel, .sentinel, .pinned], laidTests := true, laidLooks := .later }
def BlankCardSaid : Prop := Claim7.holds Tryz.pinned (.plain (OpenSpec.ofChange blankSpec)) blankCard

/-- THE TIED CARD OF 'shuttlekeep.Plain'. -/
def plainCard : Claim7 := { stood := { row := plainRow, standIns := [], harness := (true, "52ac78ea144005df6338994291787569787a3eaf9834c36f44180d39727f4353"), looks := true }, kinds := [], alts := [], laidByText := true, laidKinds := [.data, .data, .data, .data, .sentinel, .sentinel, .pinned], laidTests := true, laidLooks := .later }
def PlainCardSaid : Prop := Claim7.holds Tryz.pinned (.plain (OpenSpec.ofChange plainSpec)) plainCard

/-- THE TIED CARD OF 'shuttlekeep.Pieces'. -/
def piecesCard : Claim7 := { stood := { row := piecesRow, standIns := [], harness := (true, "52ac78ea144005df6338994291787569787a3eaf9834c36f44180d39727f4353"), looks := true }, kinds := [], alts := [], laidByText := true, laidKinds := [.data, .data, .data, .data, .sentinel, .sentinel, .pinned], laidTests := true, laidLooks := .later }
def PiecesCardSaid : Prop := Claim7.holds Tryz.pinned (.plain (OpenSpec.ofChange piecesSpec)) piecesCard

/-- THE TIED CARD OF 'shuttlekeep.Row'. -/
def rowCard : Claim7 := { stood := { row := rowRow, standIns := [], harness := (true, "52ac78ea144005df6338994291787569787a3eaf9834c36f44180d39727f4353"), looks := true }, kinds := [], alts := [], laidByText := true, laidKinds := [.data, .data, .data, .data, .sentinel, .sentinel, .pinned], laidTests := true, laidLooks := .later }
def RowCardSaid : Prop := Claim7.holds Tryz.pinned (.plain (OpenSpec.ofChange rowSpec)) rowCard

/-- THE TIED CARD OF 'shuttlekeep.Timed'. -/
def timedCard : Claim7 := { stood := { row := timedRow, standIns := [], harness := (true, "52ac78ea144005df6338994291787569787a3eaf9834c36f44180d39727f4353"), looks := true }, kinds := [], alts := [], laidByText := true, laidKinds := [.data, .data, .data, .data, .sentinel, .sentinel, .pinned], laidTests := true, laidLooks := .later }
def TimedCardSaid : Prop := Claim7.holds Tryz.pinned (.plain (OpenSpec.ofChange timedSpec)) timedCard

/-- THE TIED CARD OF 'shuttlekeep.Merged'. -/
def mergedCard : Claim7 := { stood := { row := mergedRow, standIns := [], harness := (true, "52ac78ea144005df6338994291787569787a3eaf9834c36f44180d39727f4353"), looks := true }, kinds := [], alts := [], laidByText := true, laidKinds := [.data, .data, .data, .data, .sentinel, .sentinel, .pinned], laidTests := true, laidLooks := .later }
def MergedCardSaid : Prop := Claim7.holds Tryz.pinned (.plain (OpenSpec.ofChange mergedSpec)) mergedCard

/-- THE SECOND FORM's CARD OF 'shuttlelaw.Checks'. -/
def checksUptoCard : Claim7 := { stood := { row := checksUptoRow, standIns := [], harness := (true, "52ac78ea144005df6338994291787569787a3eaf9834c36f44180d39727f4353"), looks := true }, kinds := [], alts := [], laidByText := true, laidKinds := [.data, .data, .data, .data, .sentinel, .sentinel, .pinned], laidTests := true, laidLooks := .later }
def ChecksUptoCardSaid : Prop := Claim7.holds Tryz.pinned (.plain (OpenSpec.upto checksSpec)) checksUptoCard

/-- THE SECOND FORM's CARD OF 'shuttlelaw.Alone'. -/
def aloneUptoCard : Claim7 := { stood := { row := aloneUptoRow, standIns := [], harness := (true, "52ac78ea144005df6338994291787569787a3eaf9834c36f44180d39727f4353"), looks := true }, kinds := [], alts := [], laidByText := true, laidKinds := [.data, .data, .data, .data, .sentinel, .sentinel, .pinned], laidTests := true, laidLooks := .later }
def AloneUptoCardSaid : Prop := Claim7.holds Tryz.pinned (.plain (OpenSpec.upto aloneSpec)) aloneUptoCard

/-- THE SECOND FORM's CARD OF 'shuttlelaw.All'. -/
def allUptoCard : Claim7 := { stood := { row := allUptoRow, standIns := [], harness := (true, "52ac78ea144005df6338994291787569787a3eaf9834c36f44180d39727f4353"), looks := true }, kinds := [], alts := [], laidByText := true, laidKinds := [.data, .data, .data, .data, .sentinel, .sentinel, .pinned], laidTests := true, laidLooks := .later }
def AllUptoCardSaid : Prop := Claim7.holds Tryz.pinned (.plain (OpenSpec.upto allSpec)) allUptoCard

/-- THE SECOND FORM's CARD OF 'shuttlekeep.Shares'. -/
def sharesUptoCard : Claim7 := { stood := { row := sharesUptoRow, standIns := [], harness := (true, "52ac78ea144005df6338994291787569787a3eaf9834c36f44180d39727f4353"), looks := true }, kinds := [], alts := [], laidByText := true, laidKinds := [.data, .data, .data, .data, .sentinel, .sentinel, .pinned], laidTests := true, laidLooks := .later }
def SharesUptoCardSaid : Prop := Claim7.holds Tryz.pinned (.plain (OpenSpec.upto sharesSpec)) sharesUptoCard

/-- THE SECOND FORM's CARD OF 'shuttlekeep.Blank'. -/
def blankUptoCard : Claim7 := { stood := { row := blankUptoRow, standIns := [], harness := (true, "52ac78ea144005df6338994291787569787a3eaf9834c36f44180d39727f4353"), looks := true }, kinds := [], alts := [], laidByText := true, laidKinds := [.data, .data, .data, .data, .sentinel, .sentinel, .pinned], laidTests := true, laidLooks := .later }
def BlankUptoCardSaid : Prop := Claim7.holds Tryz.pinned (.plain (OpenSpec.upto blankSpec)) blankUptoCard

/-- THE SECOND FORM's CARD OF 'shuttlekeep.Plain'. -/
def plainUptoCard : Claim7 := { stood := { row := plainUptoRow, standIns := [], harness := (true, "52ac78ea144005df6338994291787569787a3eaf9834c36f44180d39727f4353"), looks := true }, kinds := [], alts := [], laidByText := true, laidKinds := [.data, .data, .data, .data, .sentinel, .sentinel, .pinned], laidTests := true, laidLooks := .later }
def PlainUptoCardSaid : Prop := Claim7.holds Tryz.pinned (.plain (OpenSpec.upto plainSpec)) plainUptoCard

/-- THE SECOND FORM's CARD OF 'shuttlekeep.Pieces'. -/
def piecesUptoCard : Claim7 := { stood := { row := piecesUptoRow, standIns := [], harness := (true, "52ac78ea144005df6338994291787569787a3eaf9834c36f44180d39727f4353"), looks := true }, kinds := [], alts := [], laidByText := true, laidKinds := [.data, .data, .data, .data, .sentinel, .sentinel, .pinned], laidTests := true, laidLooks := .later }
def PiecesUptoCardSaid : Prop := Claim7.holds Tryz.pinned (.plain (OpenSpec.upto piecesSpec)) piecesUptoCard

/-- THE SECOND FORM's CARD OF 'shuttlekeep.Row'. -/
def rowUptoCard : Claim7 := { stood := { row := rowUptoRow, standIns := [], harness := (true, "52ac78ea144005df6338994291787569787a3eaf9834c36f44180d39727f4353"), looks := true }, kinds := [], alts := [], laidByText := true, laidKinds := [.data, .data, .data, .data, .sentinel, .sentinel, .pinned], laidTests := true, laidLooks := .later }
def RowUptoCardSaid : Prop := Claim7.holds Tryz.pinned (.plain (OpenSpec.upto rowSpec)) rowUptoCard

/-- THE SECOND FORM's CARD OF 'shuttlekeep.Timed'. -/
def timedUptoCard : Claim7 := { stood := { row := timedUptoRow, standIns := [], harness := (true, "52ac78ea144005df6338994291787569787a3eaf9834c36f44180d39727f4353"), looks := true }, kinds := [], alts := [], laidByText := true, laidKinds := [.data, .data, .data, .data, .sentinel, .sentinel, .pinned], laidTests := true, laidLooks := .later }
def TimedUptoCardSaid : Prop := Claim7.holds Tryz.pinned (.plain (OpenSpec.upto timedSpec)) timedUptoCard

/-- THE SECOND FORM's CARD OF 'shuttlekeep.Merged'. -/
def mergedUptoCard : Claim7 := { stood := { row := mergedUptoRow, standIns := [], harness := (true, "52ac78ea144005df6338994291787569787a3eaf9834c36f44180d39727f4353"), looks := true }, kinds := [], alts := [], laidByText := true, laidKinds := [.data, .data, .data, .data, .sentinel, .sentinel, .pinned], laidTests := true, laidLooks := .later }
def MergedUptoCardSaid : Prop := Claim7.holds Tryz.pinned (.plain (OpenSpec.upto mergedSpec)) mergedUptoCard
end Rows
end Go.Proofs.YtnhidaamfnjdjaaGreatDoor
