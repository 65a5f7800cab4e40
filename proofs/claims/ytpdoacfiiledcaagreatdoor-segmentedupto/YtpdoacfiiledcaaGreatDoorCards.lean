/-
  DERIVED. GIVEN WITH THE SEED: THE CARDS: each row of YtpdoacfiiledcaaGreatDoorRows.lean that lists a variable, with what it lists TIED to the program's text (the seventh form; the later family's looks); each row that meets fmt, with fmt's text TOLD by the authors' own Lean function (tested against real Go, not proved from fmt's source: count such statements apart). THE CARD IS WHAT COUNTS. Prove the row's statement (the work); the ties are given (YtpdoacfiiledcaaGreatDoorTie.lean); close each card by the builder's one call (the guide's Derived/Test/ToyasCard.lean, 'card_holds'). Laid BY PROGRAM, IN A SANDBOX (cutbox-door.mjs). By AI agents, Wed Nov 11 2026. No macro, syntax, notation, axiom, sorry.
-/
import Derived.Test.YtpdoacfiiledcaaGreatDoorRows
import GoSem.ClaimSeven
namespace Go.Proofs.YtpdoacfiiledcaaGreatDoor
namespace Rows

/-- THE TIED CARD OF 'siftlaw.Splits'. -/
def splitsCard : Claim7 := { stood := { row := splitsRow, standIns := [], harness := (true, "7faaa4890d59b0f819695fefd53b7c3fb078b448550b52062390e3dbcc1c9a74"), looks := false }, kinds := [], alts := [], goes := true, laidByText := true, laidKinds := [.data, .data, .data], laidTests := true, laidLooks := .later }
def SplitsCardSaid : Prop := Claim7.holds Tryz.pinned (.plain (OpenSpec.ofChange splitsSpec)) splitsCard

/-- THE TIED CARD OF 'siftlaw.Checks'. -/
def checksCard : Claim7 := { stood := { row := checksRow, standIns := [], harness := (true, "7faaa4890d59b0f819695fefd53b7c3fb078b448550b52062390e3dbcc1c9a74"), looks := false }, kinds := [], alts := [], goes := true, laidByText := true, laidKinds := [.data, .data, .data], laidTests := true, laidLooks := .later }
def ChecksCardSaid : Prop := Claim7.holds Tryz.pinned (.plain (OpenSpec.ofChange checksSpec)) checksCard

/-- THE TIED CARD OF 'siftlaw.Packs'. -/
def packsCard : Claim7 := { stood := { row := packsRow, standIns := [], harness := (true, "7faaa4890d59b0f819695fefd53b7c3fb078b448550b52062390e3dbcc1c9a74"), looks := false }, kinds := [], alts := [], goes := true, laidByText := true, laidKinds := [.data, .data, .data], laidTests := true, laidLooks := .later }
def PacksCardSaid : Prop := Claim7.holds Tryz.pinned (.plain (OpenSpec.ofChange packsSpec)) packsCard

/-- THE TIED CARD OF 'siftlaw.Searches'. -/
def searchesCard : Claim7 := { stood := { row := searchesRow, standIns := [], harness := (true, "7faaa4890d59b0f819695fefd53b7c3fb078b448550b52062390e3dbcc1c9a74"), looks := false }, kinds := [], alts := [], goes := true, laidByText := true, laidKinds := [.data, .data, .data], laidTests := true, laidLooks := .later }
def SearchesCardSaid : Prop := Claim7.holds Tryz.pinned (.plain (OpenSpec.ofChange searchesSpec)) searchesCard

/-- THE TIED CARD OF 'siftlaw.Segmented'. -/
def segmentedCard : Claim7 := { stood := { row := segmentedRow, standIns := [], harness := (true, "7faaa4890d59b0f819695fefd53b7c3fb078b448550b52062390e3dbcc1c9a74"), looks := false }, kinds := [], alts := [], goes := true, laidByText := true, laidKinds := [.data, .data, .data], laidTests := true, laidLooks := .later }
def SegmentedCardSaid : Prop := Claim7.holds Tryz.pinned (.plain (OpenSpec.ofChange segmentedSpec)) segmentedCard

/-- THE TIED CARD OF 'siftlaw.Merges'. -/
def mergesCard : Claim7 := { stood := { row := mergesRow, standIns := [], harness := (true, "7faaa4890d59b0f819695fefd53b7c3fb078b448550b52062390e3dbcc1c9a74"), looks := false }, kinds := [], alts := [], goes := true, laidByText := true, laidKinds := [.data, .data, .data], laidTests := true, laidLooks := .later }
def MergesCardSaid : Prop := Claim7.holds Tryz.pinned (.plain (OpenSpec.ofChange mergesSpec)) mergesCard

/-- THE TIED CARD OF 'siftlaw.Commits'. -/
def commitsCard : Claim7 := { stood := { row := commitsRow, standIns := [], harness := (true, "7faaa4890d59b0f819695fefd53b7c3fb078b448550b52062390e3dbcc1c9a74"), looks := false }, kinds := [], alts := [], goes := true, laidByText := true, laidKinds := [.data, .data, .data], laidTests := true, laidLooks := .later }
def CommitsCardSaid : Prop := Claim7.holds Tryz.pinned (.plain (OpenSpec.ofChange commitsSpec)) commitsCard

/-- THE TIED CARD OF 'siftlaw.All'. -/
def allCard : Claim7 := { stood := { row := allRow, standIns := [], harness := (true, "7faaa4890d59b0f819695fefd53b7c3fb078b448550b52062390e3dbcc1c9a74"), looks := false }, kinds := [], alts := [], goes := true, laidByText := true, laidKinds := [.data, .data, .data], laidTests := true, laidLooks := .later }
def AllCardSaid : Prop := Claim7.holds Tryz.pinned (.plain (OpenSpec.ofChange allSpec)) allCard

/-- THE TIED CARD OF 'siftkeep.Found'. -/
def foundCard : Claim7 := { stood := { row := foundRow, standIns := [], harness := (true, "7faaa4890d59b0f819695fefd53b7c3fb078b448550b52062390e3dbcc1c9a74"), looks := false }, kinds := [], alts := [], goes := true, laidByText := true, laidKinds := [.data, .data, .data], laidTests := true, laidLooks := .later }
def FoundCardSaid : Prop := Claim7.holds Tryz.pinned (.plain (OpenSpec.ofChange foundSpec)) foundCard

/-- THE TIED CARD OF 'siftkeep.Same'. -/
def sameCard : Claim7 := { stood := { row := sameRow, standIns := [], harness := (true, "7faaa4890d59b0f819695fefd53b7c3fb078b448550b52062390e3dbcc1c9a74"), looks := false }, kinds := [], alts := [], goes := true, laidByText := true, laidKinds := [.data, .data, .data], laidTests := true, laidLooks := .later }
def SameCardSaid : Prop := Claim7.holds Tryz.pinned (.plain (OpenSpec.ofChange sameSpec)) sameCard

/-- THE SECOND FORM's CARD OF 'siftlaw.Splits'. -/
def splitsUptoCard : Claim7 := { stood := { row := splitsUptoRow, standIns := [], harness := (true, "7faaa4890d59b0f819695fefd53b7c3fb078b448550b52062390e3dbcc1c9a74"), looks := false }, kinds := [], alts := [], goes := true, laidByText := true, laidKinds := [.data, .data, .data], laidTests := true, laidLooks := .later }
def SplitsUptoCardSaid : Prop := Claim7.holds Tryz.pinned (.plain (OpenSpec.upto splitsSpec)) splitsUptoCard

/-- THE SECOND FORM's CARD OF 'siftlaw.Checks'. -/
def checksUptoCard : Claim7 := { stood := { row := checksUptoRow, standIns := [], harness := (true, "7faaa4890d59b0f819695fefd53b7c3fb078b448550b52062390e3dbcc1c9a74"), looks := false }, kinds := [], alts := [], goes := true, laidByText := true, laidKinds := [.data, .data, .data], laidTests := true, laidLooks := .later }
def ChecksUptoCardSaid : Prop := Claim7.holds Tryz.pinned (.plain (OpenSpec.upto checksSpec)) checksUptoCard

/-- THE SECOND FORM's CARD OF 'siftlaw.Packs'. -/
def packsUptoCard : Claim7 := { stood := { row := packsUptoRow, standIns := [], harness := (true, "7faaa4890d59b0f819695fefd53b7c3fb078b448550b52062390e3dbcc1c9a74"), looks := false }, kinds := [], alts := [], goes := true, laidByText := true, laidKinds := [.data, .data, .data], laidTests := true, laidLooks := .later }
def PacksUptoCardSaid : Prop := Claim7.holds Tryz.pinned (.plain (OpenSpec.upto packsSpec)) packsUptoCard

/-- THE SECOND FORM's CARD OF 'siftlaw.Searches'. -/
def searchesUptoCard : Claim7 := { stood := { row := searchesUptoRow, standIns := [], harness := (true, "7faaa4890d59b0f819695fefd53b7c3fb078b448550b52062390e3dbcc1c9a74"), looks := false }, kinds := [], alts := [], goes := true, laidByText := true, laidKinds := [.data, .data, .data], laidTests := true, laidLooks := .later }
def SearchesUptoCardSaid : Prop := Claim7.holds Tryz.pinned (.plain (OpenSpec.upto searchesSpec)) searchesUptoCard

/-- THE SECOND FORM's CARD OF 'siftlaw.Segmented'. -/
def segmentedUptoCard : Claim7 := { stood := { row := segmentedUptoRow, standIns := [], harness := (true, "7faaa4890d59b0f819695fefd53b7c3fb078b448550b52062390e3dbcc1c9a74"), looks := false }, kinds := [], alts := [], goes := true, laidByText := true, laidKinds := [.data, .data, .data], laidTests := true, laidLooks := .later }
def SegmentedUptoCardSaid : Prop := Claim7.holds Tryz.pinned (.plain (OpenSpec.upto segmentedSpec)) segmentedUptoCard

/-- THE SECOND FORM's CARD OF 'siftlaw.Merges'. -/
def mergesUptoCard : Claim7 := { stood := { row := mergesUptoRow, standIns := [], harness := (true, "7faaa4890d59b0f819695fefd53b7c3fb078b448550b52062390e3dbcc1c9a74"), looks := false }, kinds := [], alts := [], goes := true, laidByText := true, laidKinds := [.data, .data, .data], laidTests := true, laidLooks := .later }
def MergesUptoCardSaid : Prop := Claim7.holds Tryz.pinned (.plain (OpenSpec.upto mergesSpec)) mergesUptoCard

/-- THE SECOND FORM's CARD OF 'siftlaw.Commits'. -/
def commitsUptoCard : Claim7 := { stood := { row := commitsUptoRow, standIns := [], harness := (true, "7faaa4890d59b0f819695fefd53b7c3fb078b448550b52062390e3dbcc1c9a74"), looks := false }, kinds := [], alts := [], goes := true, laidByText := true, laidKinds := [.data, .data, .data], laidTests := true, laidLooks := .later }
def CommitsUptoCardSaid : Prop := Claim7.holds Tryz.pinned (.plain (OpenSpec.upto commitsSpec)) commitsUptoCard

/-- THE SECOND FORM's CARD OF 'siftlaw.All'. -/
def allUptoCard : Claim7 := { stood := { row := allUptoRow, standIns := [], harness := (true, "7faaa4890d59b0f819695fefd53b7c3fb078b448550b52062390e3dbcc1c9a74"), looks := false }, kinds := [], alts := [], goes := true, laidByText := true, laidKinds := [.data, .data, .data], laidTests := true, laidLooks := .later }
def AllUptoCardSaid : Prop := Claim7.holds Tryz.pinned (.plain (OpenSpec.upto allSpec)) allUptoCard

/-- THE SECOND FORM's CARD OF 'siftkeep.Found'. -/
def foundUptoCard : Claim7 := { stood := { row := foundUptoRow, standIns := [], harness := (true, "7faaa4890d59b0f819695fefd53b7c3fb078b448550b52062390e3dbcc1c9a74"), looks := false }, kinds := [], alts := [], goes := true, laidByText := true, laidKinds := [.data, .data, .data], laidTests := true, laidLooks := .later }
def FoundUptoCardSaid : Prop := Claim7.holds Tryz.pinned (.plain (OpenSpec.upto foundSpec)) foundUptoCard

/-- THE SECOND FORM's CARD OF 'siftkeep.Same'. -/
def sameUptoCard : Claim7 := { stood := { row := sameUptoRow, standIns := [], harness := (true, "7faaa4890d59b0f819695fefd53b7c3fb078b448550b52062390e3dbcc1c9a74"), looks := false }, kinds := [], alts := [], goes := true, laidByText := true, laidKinds := [.data, .data, .data], laidTests := true, laidLooks := .later }
def SameUptoCardSaid : Prop := Claim7.holds Tryz.pinned (.plain (OpenSpec.upto sameSpec)) sameUptoCard
end Rows
end Go.Proofs.YtpdoacfiiledcaaGreatDoor
