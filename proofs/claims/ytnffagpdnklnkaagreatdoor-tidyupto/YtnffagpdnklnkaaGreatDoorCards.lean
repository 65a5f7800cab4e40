/-
  DERIVED. GIVEN WITH THE SEED: THE CARDS: each row of YtnffagpdnklnkaaGreatDoorRows.lean that lists a variable, with what it lists TIED to the program's text (the seventh form; the later family's looks); each row that meets fmt, with fmt's text TOLD by the authors' own Lean function (tested against real Go, not proved from fmt's source: count such statements apart). THE CARD IS WHAT COUNTS. Prove the row's statement (the work); the ties are given (YtnffagpdnklnkaaGreatDoorTie.lean); close each card by the builder's one call (the guide's Derived/Test/ToyasCard.lean, 'card_holds'). Laid BY PROGRAM, IN A SANDBOX (cutbox-door.mjs). By AI agents, Wed Nov 11 2026. No macro, syntax, notation, axiom, sorry.
-/
import Derived.Test.YtnffagpdnklnkaaGreatDoorRows
import GoSem.ClaimSeven
namespace Go.Proofs.YtnffagpdnklnkaaGreatDoor
namespace Rows

/-- THE TIED CARD OF 'siftkeep.Tidy'. -/
def tidyCard : Claim7 := { stood := { row := tidyRow, standIns := [], harness := (true, "4d295f91c520e44593c8418d0d2bc92ce89fa7a7f64a2aaf79490aac7f688a25"), looks := false }, kinds := [], alts := [], laidByText := true, laidKinds := [.data, .data, .data], laidTests := true, laidLooks := .later }
def TidyCardSaid : Prop := Claim7.holds Tryz.pinned (.plain (OpenSpec.ofChange tidySpec)) tidyCard

/-- THE SECOND FORM's CARD OF 'siftkeep.Tidy'. -/
def tidyUptoCard : Claim7 := { stood := { row := tidyUptoRow, standIns := [], harness := (true, "4d295f91c520e44593c8418d0d2bc92ce89fa7a7f64a2aaf79490aac7f688a25"), looks := false }, kinds := [], alts := [], laidByText := true, laidKinds := [.data, .data, .data], laidTests := true, laidLooks := .later }
def TidyUptoCardSaid : Prop := Claim7.holds Tryz.pinned (.plain (OpenSpec.upto tidySpec)) tidyUptoCard
end Rows
end Go.Proofs.YtnffagpdnklnkaaGreatDoor
