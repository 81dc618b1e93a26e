/-
  DERIVED. GIVEN WITH THE SEED: THE CARDS: each row of YtiekgpphggejcabGreatDoorRows.lean that lists a variable, with what it lists TIED to the program's text (the seventh form; the later family's looks); each row that meets fmt, with fmt's text TOLD by the authors' own Lean function (tested against real Go, not proved from fmt's source: count such statements apart). THE CARD IS WHAT COUNTS. Prove the row's statement (the work); the ties are given (YtiekgpphggejcabGreatDoorTie.lean); close each card by the builder's one call (the guide's Derived/Test/ToyasCard.lean, 'card_holds'). Laid BY PROGRAM, IN A SANDBOX (cutbox-door.mjs). By AI agents, Wed Nov 11 2026. No macro, syntax, notation, axiom, sorry.
-/
import Derived.Test.YtiekgpphggejcabGreatDoorRows
import GoSem.ClaimSeven
namespace Go.Proofs.YtiekgpphggejcabGreatDoor
namespace Rows

/-- THE TIED CARD OF 'zigguratlaw12.MulLaws'. -/
def mulLawsCard : Claim7 := { stood := { row := mulLawsRow, standIns := [], harness := (true, "8e0eee0e2f923a27bc61a2319f2b39207a4ad7000973646c374c35d7a9600841"), looks := false }, kinds := [], alts := [], laidByText := true, laidKinds := [.data, .data], laidTests := true, laidLooks := .later }
def MulLawsCardSaid : Prop := Claim7.holds Tryz.pinned (.plain (OpenSpec.ofChange mulLawsSpec)) mulLawsCard

/-- THE TIED CARD OF 'zigguratlaw12.MulGreat'. -/
def mulGreatCard : Claim7 := { stood := { row := mulGreatRow, standIns := [], harness := (true, "8e0eee0e2f923a27bc61a2319f2b39207a4ad7000973646c374c35d7a9600841"), looks := false }, kinds := [], alts := [], laidByText := true, laidKinds := [.data, .data], laidTests := true, laidLooks := .later }
def MulGreatCardSaid : Prop := Claim7.holds Tryz.pinned (.plain (OpenSpec.ofChange mulGreatSpec)) mulGreatCard

/-- THE SECOND FORM's CARD OF 'zigguratlaw12.MulLaws'. -/
def mulLawsUptoCard : Claim7 := { stood := { row := mulLawsUptoRow, standIns := [], harness := (true, "8e0eee0e2f923a27bc61a2319f2b39207a4ad7000973646c374c35d7a9600841"), looks := false }, kinds := [], alts := [], laidByText := true, laidKinds := [.data, .data], laidTests := true, laidLooks := .later }
def MulLawsUptoCardSaid : Prop := Claim7.holds Tryz.pinned (.plain (OpenSpec.upto mulLawsSpec)) mulLawsUptoCard

/-- THE SECOND FORM's CARD OF 'zigguratlaw12.MulGreat'. -/
def mulGreatUptoCard : Claim7 := { stood := { row := mulGreatUptoRow, standIns := [], harness := (true, "8e0eee0e2f923a27bc61a2319f2b39207a4ad7000973646c374c35d7a9600841"), looks := false }, kinds := [], alts := [], laidByText := true, laidKinds := [.data, .data], laidTests := true, laidLooks := .later }
def MulGreatUptoCardSaid : Prop := Claim7.holds Tryz.pinned (.plain (OpenSpec.upto mulGreatSpec)) mulGreatUptoCard
end Rows
end Go.Proofs.YtiekgpphggejcabGreatDoor
