/-
  DERIVED. GIVEN WITH THE SEED: THE CARDS: each row of YtcobkpapimnjaaaGreatDoorRows.lean that lists a variable, with what it lists TIED to the program's text (the seventh form; the later family's looks); each row that meets fmt, with fmt's text TOLD by the authors' own Lean function (tested against real Go, not proved from fmt's source: count such statements apart). THE CARD IS WHAT COUNTS. Prove the row's statement (the work); the ties are given (YtcobkpapimnjaaaGreatDoorTie.lean); close each card by the builder's one call (the guide's Derived/Test/ToyasCard.lean, 'card_holds'). Laid BY PROGRAM, IN A SANDBOX (cutbox-door.mjs). By AI agents, Wed Nov 11 2026. No macro, syntax, notation, axiom, sorry.
-/
import Derived.Test.YtcobkpapimnjaaaGreatDoorRows
import GoSem.ClaimSeven
namespace Go.Proofs.YtcobkpapimnjaaaGreatDoor
namespace Rows

/-- THE TIED CARD OF 'siftlaw.Splits'. -/
def splitsCard : Claim7 := { stood := { row := splitsRow, standIns := [], harness := (true, "b7f111c9cdbdf59423df4c0c3592a93e1594d9e576e5f6dc473c65780d59e0e2"), looks := false }, kinds := [], alts := [], laidByText := true, laidKinds := [.data, .data, .data], laidTests := true, laidLooks := .later }
def SplitsCardSaid : Prop := Claim7.holds Tryz.pinned (.plain (OpenSpec.ofChange splitsSpec)) splitsCard

/-- THE TIED CARD OF 'siftlaw.Checks'. -/
def checksCard : Claim7 := { stood := { row := checksRow, standIns := [], harness := (true, "b7f111c9cdbdf59423df4c0c3592a93e1594d9e576e5f6dc473c65780d59e0e2"), looks := false }, kinds := [], alts := [], laidByText := true, laidKinds := [.data, .data, .data], laidTests := true, laidLooks := .later }
def ChecksCardSaid : Prop := Claim7.holds Tryz.pinned (.plain (OpenSpec.ofChange checksSpec)) checksCard

/-- THE TIED CARD OF 'siftlaw.Packs'. -/
def packsCard : Claim7 := { stood := { row := packsRow, standIns := [], harness := (true, "b7f111c9cdbdf59423df4c0c3592a93e1594d9e576e5f6dc473c65780d59e0e2"), looks := false }, kinds := [], alts := [], laidByText := true, laidKinds := [.data, .data, .data], laidTests := true, laidLooks := .later }
def PacksCardSaid : Prop := Claim7.holds Tryz.pinned (.plain (OpenSpec.ofChange packsSpec)) packsCard

/-- THE SECOND FORM's CARD OF 'siftlaw.Splits'. -/
def splitsUptoCard : Claim7 := { stood := { row := splitsUptoRow, standIns := [], harness := (true, "b7f111c9cdbdf59423df4c0c3592a93e1594d9e576e5f6dc473c65780d59e0e2"), looks := false }, kinds := [], alts := [], laidByText := true, laidKinds := [.data, .data, .data], laidTests := true, laidLooks := .later }
def SplitsUptoCardSaid : Prop := Claim7.holds Tryz.pinned (.plain (OpenSpec.upto splitsSpec)) splitsUptoCard

/-- THE SECOND FORM's CARD OF 'siftlaw.Checks'. -/
def checksUptoCard : Claim7 := { stood := { row := checksUptoRow, standIns := [], harness := (true, "b7f111c9cdbdf59423df4c0c3592a93e1594d9e576e5f6dc473c65780d59e0e2"), looks := false }, kinds := [], alts := [], laidByText := true, laidKinds := [.data, .data, .data], laidTests := true, laidLooks := .later }
def ChecksUptoCardSaid : Prop := Claim7.holds Tryz.pinned (.plain (OpenSpec.upto checksSpec)) checksUptoCard

/-- THE SECOND FORM's CARD OF 'siftlaw.Packs'. -/
def packsUptoCard : Claim7 := { stood := { row := packsUptoRow, standIns := [], harness := (true, "b7f111c9cdbdf59423df4c0c3592a93e1594d9e576e5f6dc473c65780d59e0e2"), looks := false }, kinds := [], alts := [], laidByText := true, laidKinds := [.data, .data, .data], laidTests := true, laidLooks := .later }
def PacksUptoCardSaid : Prop := Claim7.holds Tryz.pinned (.plain (OpenSpec.upto packsSpec)) packsUptoCard
end Rows
end Go.Proofs.YtcobkpapimnjaaaGreatDoor
