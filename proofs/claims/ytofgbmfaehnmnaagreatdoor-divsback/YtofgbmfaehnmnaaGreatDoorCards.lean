/-
  DERIVED. GIVEN WITH THE SEED: THE CARDS: each row of YtofgbmfaehnmnaaGreatDoorRows.lean that lists a variable, with what it lists TIED to the program's text (the seventh form; the later family's looks); each row that meets fmt, with fmt's text TOLD by the authors' own Lean function (tested against real Go, not proved from fmt's source: count such statements apart). THE CARD IS WHAT COUNTS. Prove the row's statement (the work); the ties are given (YtofgbmfaehnmnaaGreatDoorTie.lean); close each card by the builder's one call (the guide's Derived/Test/ToyasCard.lean, 'card_holds'). Laid BY PROGRAM, IN A SANDBOX (cutbox-door.mjs). By AI agents, Wed Nov 11 2026. No macro, syntax, notation, axiom, sorry.
-/
import Derived.Test.YtofgbmfaehnmnaaGreatDoorRows
import GoSem.ClaimSeven
namespace Go.Proofs.YtofgbmfaehnmnaaGreatDoor
namespace Rows

/-- THE TIED CARD OF 'zigguratlaw13.DivsBack'. -/
def divsBackCard : Claim7 := { stood := { row := divsBackRow, standIns := [], harness := (true, "67b2bdab20f10d1ab49aaa0e989cc531492110f19b5374403e38b9af76bc2fe2"), looks := false }, kinds := [], alts := [], laidByText := true, laidKinds := [.data, .data], laidTests := true, laidLooks := .later }
def DivsBackCardSaid : Prop := Claim7.holds Tryz.pinned (.plain (OpenSpec.ofChange divsBackSpec)) divsBackCard

/-- THE SECOND FORM's CARD OF 'zigguratlaw13.DivsBack'. -/
def divsBackUptoCard : Claim7 := { stood := { row := divsBackUptoRow, standIns := [], harness := (true, "67b2bdab20f10d1ab49aaa0e989cc531492110f19b5374403e38b9af76bc2fe2"), looks := false }, kinds := [], alts := [], laidByText := true, laidKinds := [.data, .data], laidTests := true, laidLooks := .later }
def DivsBackUptoCardSaid : Prop := Claim7.holds Tryz.pinned (.plain (OpenSpec.upto divsBackSpec)) divsBackUptoCard
end Rows
end Go.Proofs.YtofgbmfaehnmnaaGreatDoor
