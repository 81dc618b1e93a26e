/-
  DERIVED. GIVEN WITH THE SEED: THE CARDS: each row of YtpifgkhgnilpdaaDoorRows.lean that lists a variable, with what it lists TIED to the program's text (the seventh form; the later family's looks); each row that meets fmt, with fmt's text TOLD by the authors' own Lean function (tested against real Go, not proved from fmt's source: count such statements apart). THE CARD IS WHAT COUNTS. Prove the row's statement (the work); the ties are given (YtpifgkhgnilpdaaDoorTie.lean); close each card by the builder's one call (the guide's Derived/Test/ToyasCard.lean, 'card_holds'). Laid BY PROGRAM, IN A SANDBOX (cutbox-door.mjs). By AI agents, Wed Nov 11 2026. No macro, syntax, notation, axiom, sorry.
-/
import Derived.Test.YtpifgkhgnilpdaaDoorRows
import GoSem.ClaimSeven
namespace Go.Proofs.YtpifgkhgnilpdaaDoor
namespace Rows

/-- THE TIED CARD OF 'zigguratlaw09.ConvWords'. -/
def convWordsCard : Claim7 := { stood := { row := convWordsRow, standIns := [], harness := (true, "69f3d47c439cc0f713c590cae6eee05b5296ad03d90e1e61da980ee40f836ecb"), looks := false }, kinds := [], alts := [], laidByText := true, laidKinds := [.data, .data], laidTests := true, laidLooks := .later }
def ConvWordsCardSaid : Prop := Claim7.holds Tryd.pinned (.plain (OpenSpec.ofChange convWordsSpec)) convWordsCard

/-- THE TIED CARD OF 'zigguratlaw09.ConvMuls'. -/
def convMulsCard : Claim7 := { stood := { row := convMulsRow, standIns := [], harness := (true, "69f3d47c439cc0f713c590cae6eee05b5296ad03d90e1e61da980ee40f836ecb"), looks := false }, kinds := [], alts := [], laidByText := true, laidKinds := [.data, .data], laidTests := true, laidLooks := .later }
def ConvMulsCardSaid : Prop := Claim7.holds Tryd.pinned (.plain (OpenSpec.ofChange convMulsSpec)) convMulsCard

/-- THE TIED CARD OF 'zigguratlaw09.ConvSquares'. -/
def convSquaresCard : Claim7 := { stood := { row := convSquaresRow, standIns := [], harness := (true, "69f3d47c439cc0f713c590cae6eee05b5296ad03d90e1e61da980ee40f836ecb"), looks := false }, kinds := [], alts := [], laidByText := true, laidKinds := [.data, .data], laidTests := true, laidLooks := .later }
def ConvSquaresCardSaid : Prop := Claim7.holds Tryd.pinned (.plain (OpenSpec.ofChange convSquaresSpec)) convSquaresCard

/-- THE TIED CARD OF 'zigguratlaw09.ConvGreat'. -/
def convGreatCard : Claim7 := { stood := { row := convGreatRow, standIns := [], harness := (true, "69f3d47c439cc0f713c590cae6eee05b5296ad03d90e1e61da980ee40f836ecb"), looks := false }, kinds := [], alts := [], laidByText := true, laidKinds := [.data, .data], laidTests := true, laidLooks := .later }
def ConvGreatCardSaid : Prop := Claim7.holds Tryd.pinned (.plain (OpenSpec.ofChange convGreatSpec)) convGreatCard

/-- THE SECOND FORM's CARD OF 'zigguratlaw09.ConvWords'. -/
def convWordsUptoCard : Claim7 := { stood := { row := convWordsUptoRow, standIns := [], harness := (true, "69f3d47c439cc0f713c590cae6eee05b5296ad03d90e1e61da980ee40f836ecb"), looks := false }, kinds := [], alts := [], laidByText := true, laidKinds := [.data, .data], laidTests := true, laidLooks := .later }
def ConvWordsUptoCardSaid : Prop := Claim7.holds Tryd.pinned (.plain (OpenSpec.upto convWordsSpec)) convWordsUptoCard

/-- THE SECOND FORM's CARD OF 'zigguratlaw09.ConvMuls'. -/
def convMulsUptoCard : Claim7 := { stood := { row := convMulsUptoRow, standIns := [], harness := (true, "69f3d47c439cc0f713c590cae6eee05b5296ad03d90e1e61da980ee40f836ecb"), looks := false }, kinds := [], alts := [], laidByText := true, laidKinds := [.data, .data], laidTests := true, laidLooks := .later }
def ConvMulsUptoCardSaid : Prop := Claim7.holds Tryd.pinned (.plain (OpenSpec.upto convMulsSpec)) convMulsUptoCard

/-- THE SECOND FORM's CARD OF 'zigguratlaw09.ConvSquares'. -/
def convSquaresUptoCard : Claim7 := { stood := { row := convSquaresUptoRow, standIns := [], harness := (true, "69f3d47c439cc0f713c590cae6eee05b5296ad03d90e1e61da980ee40f836ecb"), looks := false }, kinds := [], alts := [], laidByText := true, laidKinds := [.data, .data], laidTests := true, laidLooks := .later }
def ConvSquaresUptoCardSaid : Prop := Claim7.holds Tryd.pinned (.plain (OpenSpec.upto convSquaresSpec)) convSquaresUptoCard

/-- THE SECOND FORM's CARD OF 'zigguratlaw09.ConvGreat'. -/
def convGreatUptoCard : Claim7 := { stood := { row := convGreatUptoRow, standIns := [], harness := (true, "69f3d47c439cc0f713c590cae6eee05b5296ad03d90e1e61da980ee40f836ecb"), looks := false }, kinds := [], alts := [], laidByText := true, laidKinds := [.data, .data], laidTests := true, laidLooks := .later }
def ConvGreatUptoCardSaid : Prop := Claim7.holds Tryd.pinned (.plain (OpenSpec.upto convGreatSpec)) convGreatUptoCard
end Rows
end Go.Proofs.YtpifgkhgnilpdaaDoor
