/-
  DERIVED. GIVEN WITH THE SEED: THE CARDS: each row of YtijcgaebpplngaaGreatDoorRows.lean that lists a variable, with what it lists TIED to the program's text (the seventh form; the later family's looks); each row that meets fmt, with fmt's text TOLD by the authors' own Lean function (tested against real Go, not proved from fmt's source: count such statements apart). THE CARD IS WHAT COUNTS. Prove the row's statement (the work); the ties are given (YtijcgaebpplngaaGreatDoorTie.lean); close each card by the builder's one call (the guide's Derived/Test/ToyasCard.lean, 'card_holds'). Laid BY PROGRAM, IN A SANDBOX (cutbox-door.mjs). By AI agents, Wed Nov 11 2026. No macro, syntax, notation, axiom, sorry.
-/
import Derived.Test.YtijcgaebpplngaaGreatDoorRows
import GoSem.ClaimSeven
namespace Go.Proofs.YtijcgaebpplngaaGreatDoor
namespace Rows

/-- THE TIED CARD OF 'shuttlelaw.Checks'. -/
def checksCard : Claim7 := { stood := { row := checksRow, standIns := [], harness := (true, "afe26c25e207732c71de674bc8f2e2c267ea4d745c83ce2a15045b9693401310"), looks := true }, kinds := [], alts := [], laidByText := true, laidKinds := [.data, .data, .data, .data, .sentinel, .sentinel, .pinned], laidTests := true, laidLooks := .later }
def ChecksCardSaid : Prop := Claim7.holds Tryz.pinned (.plain (OpenSpec.ofChange checksSpec)) checksCard

/-- THE TIED CARD OF 'shuttlelaw.Alone'. -/
def aloneCard : Claim7 := { stood := { row := aloneRow, standIns := [], harness := (true, "afe26c25e207732c71de674bc8f2e2c267ea4d745c83ce2a15045b9693401310"), looks := true }, kinds := [], alts := [], laidByText := true, laidKinds := [.data, .data, .data, .data, .sentinel, .sentinel, .pinned], laidTests := true, laidLooks := .later }
def AloneCardSaid : Prop := Claim7.holds Tryz.pinned (.plain (OpenSpec.ofChange aloneSpec)) aloneCard

/-- THE TIED CARD OF 'shuttlekeep.Shares'. -/
def sharesCard : Claim7 := { stood := { row := sharesRow, standIns := [], harness := (true, "afe26c25e207732c71de674bc8f2e2c267ea4d745c83ce2a15045b9693401310"), looks := true }, kinds := [], alts := [], laidByText := true, laidKinds := [.data, .data, .data, .data, .sentinel, .sentinel, .pinned], laidTests := true, laidLooks := .later }
def SharesCardSaid : Prop := Claim7.holds Tryz.pinned (.plain (OpenSpec.ofChange sharesSpec)) sharesCard

/-- THE TIED CARD OF 'shuttlekeep.Blank'. -/
def blankCard : Claim7 := { stood := { row := blankRow, standIns := [], harness := (true, "afe26c25e207732c71de674bc8f2e2c267ea4d745c83ce2a15045b9693401310"), looks := true }, kinds := [], alts := [], laidByText := true, laidKinds := [.data, .data, .data, .data, .sentinel, .sentinel, .pinned], laidTests := true, laidLooks := .later }
def BlankCardSaid : Prop := Claim7.holds Tryz.pinned (.plain (OpenSpec.ofChange blankSpec)) blankCard

/-- THE TIED CARD OF 'shuttlekeep.Plain'. -/
def plainCard : Claim7 := { stood := { row := plainRow, standIns := [], harness := (true, "afe26c25e207732c71de674bc8f2e2c267ea4d745c83ce2a15045b9693401310"), looks := true }, kinds := [], alts := [], laidByText := true, laidKinds := [.data, .data, .data, .data, .sentinel, .sentinel, .pinned], laidTests := true, laidLooks := .later }
def PlainCardSaid : Prop := Claim7.holds Tryz.pinned (.plain (OpenSpec.ofChange plainSpec)) plainCard

/-- THE TIED CARD OF 'shuttlekeep.Pieces'. -/
def piecesCard : Claim7 := { stood := { row := piecesRow, standIns := [], harness := (true, "afe26c25e207732c71de674bc8f2e2c267ea4d745c83ce2a15045b9693401310"), looks := true }, kinds := [], alts := [], laidByText := true, laidKinds := [.data, .data, .data, .data, .sentinel, .sentinel, .pinned], laidTests := true, laidLooks := .later }
def PiecesCardSaid : Prop := Claim7.holds Tryz.pinned (.plain (OpenSpec.ofChange piecesSpec)) piecesCard

/-- THE SECOND FORM's CARD OF 'shuttlelaw.Checks'. -/
def checksUptoCard : Claim7 := { stood := { row := checksUptoRow, standIns := [], harness := (true, "afe26c25e207732c71de674bc8f2e2c267ea4d745c83ce2a15045b9693401310"), looks := true }, kinds := [], alts := [], laidByText := true, laidKinds := [.data, .data, .data, .data, .sentinel, .sentinel, .pinned], laidTests := true, laidLooks := .later }
def ChecksUptoCardSaid : Prop := Claim7.holds Tryz.pinned (.plain (OpenSpec.upto checksSpec)) checksUptoCard

/-- THE SECOND FORM's CARD OF 'shuttlelaw.Alone'. -/
def aloneUptoCard : Claim7 := { stood := { row := aloneUptoRow, standIns := [], harness := (true, "afe26c25e207732c71de674bc8f2e2c267ea4d745c83ce2a15045b9693401310"), looks := true }, kinds := [], alts := [], laidByText := true, laidKinds := [.data, .data, .data, .data, .sentinel, .sentinel, .pinned], laidTests := true, laidLooks := .later }
def AloneUptoCardSaid : Prop := Claim7.holds Tryz.pinned (.plain (OpenSpec.upto aloneSpec)) aloneUptoCard

/-- THE SECOND FORM's CARD OF 'shuttlekeep.Shares'. -/
def sharesUptoCard : Claim7 := { stood := { row := sharesUptoRow, standIns := [], harness := (true, "afe26c25e207732c71de674bc8f2e2c267ea4d745c83ce2a15045b9693401310"), looks := true }, kinds := [], alts := [], laidByText := true, laidKinds := [.data, .data, .data, .data, .sentinel, .sentinel, .pinned], laidTests := true, laidLooks := .later }
def SharesUptoCardSaid : Prop := Claim7.holds Tryz.pinned (.plain (OpenSpec.upto sharesSpec)) sharesUptoCard

/-- THE SECOND FORM's CARD OF 'shuttlekeep.Blank'. -/
def blankUptoCard : Claim7 := { stood := { row := blankUptoRow, standIns := [], harness := (true, "afe26c25e207732c71de674bc8f2e2c267ea4d745c83ce2a15045b9693401310"), looks := true }, kinds := [], alts := [], laidByText := true, laidKinds := [.data, .data, .data, .data, .sentinel, .sentinel, .pinned], laidTests := true, laidLooks := .later }
def BlankUptoCardSaid : Prop := Claim7.holds Tryz.pinned (.plain (OpenSpec.upto blankSpec)) blankUptoCard

/-- THE SECOND FORM's CARD OF 'shuttlekeep.Plain'. -/
def plainUptoCard : Claim7 := { stood := { row := plainUptoRow, standIns := [], harness := (true, "afe26c25e207732c71de674bc8f2e2c267ea4d745c83ce2a15045b9693401310"), looks := true }, kinds := [], alts := [], laidByText := true, laidKinds := [.data, .data, .data, .data, .sentinel, .sentinel, .pinned], laidTests := true, laidLooks := .later }
def PlainUptoCardSaid : Prop := Claim7.holds Tryz.pinned (.plain (OpenSpec.upto plainSpec)) plainUptoCard

/-- THE SECOND FORM's CARD OF 'shuttlekeep.Pieces'. -/
def piecesUptoCard : Claim7 := { stood := { row := piecesUptoRow, standIns := [], harness := (true, "afe26c25e207732c71de674bc8f2e2c267ea4d745c83ce2a15045b9693401310"), looks := true }, kinds := [], alts := [], laidByText := true, laidKinds := [.data, .data, .data, .data, .sentinel, .sentinel, .pinned], laidTests := true, laidLooks := .later }
def PiecesUptoCardSaid : Prop := Claim7.holds Tryz.pinned (.plain (OpenSpec.upto piecesSpec)) piecesUptoCard
end Rows
end Go.Proofs.YtijcgaebpplngaaGreatDoor
