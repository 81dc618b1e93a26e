/-
  DERIVED. GIVEN WITH THE SEED: THE CARDS: each row of YtgcnhfgpflncaaaGreatDoorRows.lean that lists a variable, with what it lists TIED to the program's text (the seventh form; the later family's looks); each row that meets fmt, with fmt's text TOLD by the authors' own Lean function (tested against real Go, not proved from fmt's source: count such statements apart). THE CARD IS WHAT COUNTS. Prove the row's statement (the work); the ties are given (YtgcnhfgpflncaaaGreatDoorTie.lean); close each card by the builder's one call (the guide's Derived/Test/ToyasCard.lean, 'card_holds'). Laid BY PROGRAM, IN A SANDBOX (cutbox-door.mjs). By AI agents, Wed Nov 11 2026. No macro, syntax, notation, axiom, sorry.
-/
import Derived.Test.YtgcnhfgpflncaaaGreatDoorRows
import GoSem.ClaimSeven
namespace Go.Proofs.YtgcnhfgpflncaaaGreatDoor
namespace Rows

/-- THE TIED CARD OF 'zigguratlaw16.RootSqrts'. -/
def rootSqrtsCard : Claim7 := { stood := { row := rootSqrtsRow, standIns := [], harness := (true, "d92cf638b848d05afd82b6f2e26bf4f2de18101d41b266b2e97caf7467b64c29"), looks := false }, kinds := [], alts := [], laidByText := true, laidKinds := [.data, .data], laidTests := true, laidLooks := .later }
def RootSqrtsCardSaid : Prop := Claim7.holds Tryz.pinned (.plain (OpenSpec.ofChange rootSqrtsSpec)) rootSqrtsCard

/-- THE TIED CARD OF 'zigguratlaw16.RootSquares'. -/
def rootSquaresCard : Claim7 := { stood := { row := rootSquaresRow, standIns := [], harness := (true, "d92cf638b848d05afd82b6f2e26bf4f2de18101d41b266b2e97caf7467b64c29"), looks := false }, kinds := [], alts := [], laidByText := true, laidKinds := [.data, .data], laidTests := true, laidLooks := .later }
def RootSquaresCardSaid : Prop := Claim7.holds Tryz.pinned (.plain (OpenSpec.ofChange rootSquaresSpec)) rootSquaresCard

/-- THE TIED CARD OF 'zigguratlaw16.RootRoots'. -/
def rootRootsCard : Claim7 := { stood := { row := rootRootsRow, standIns := [], harness := (true, "d92cf638b848d05afd82b6f2e26bf4f2de18101d41b266b2e97caf7467b64c29"), looks := false }, kinds := [], alts := [], laidByText := true, laidKinds := [.data, .data], laidTests := true, laidLooks := .later }
def RootRootsCardSaid : Prop := Claim7.holds Tryz.pinned (.plain (OpenSpec.ofChange rootRootsSpec)) rootRootsCard

/-- THE TIED CARD OF 'zigguratlaw16.RootBounds'. -/
def rootBoundsCard : Claim7 := { stood := { row := rootBoundsRow, standIns := [], harness := (true, "d92cf638b848d05afd82b6f2e26bf4f2de18101d41b266b2e97caf7467b64c29"), looks := false }, kinds := [], alts := [], laidByText := true, laidKinds := [.data, .data], laidTests := true, laidLooks := .later }
def RootBoundsCardSaid : Prop := Claim7.holds Tryz.pinned (.plain (OpenSpec.ofChange rootBoundsSpec)) rootBoundsCard

/-- THE TIED CARD OF 'zigguratlaw16.RootTables'. -/
def rootTablesCard : Claim7 := { stood := { row := rootTablesRow, standIns := [], harness := (true, "d92cf638b848d05afd82b6f2e26bf4f2de18101d41b266b2e97caf7467b64c29"), looks := false }, kinds := [], alts := [], laidByText := true, laidKinds := [.data, .data], laidTests := true, laidLooks := .later }
def RootTablesCardSaid : Prop := Claim7.holds Tryz.pinned (.plain (OpenSpec.ofChange rootTablesSpec)) rootTablesCard

/-- THE SECOND FORM's CARD OF 'zigguratlaw16.RootSqrts'. -/
def rootSqrtsUptoCard : Claim7 := { stood := { row := rootSqrtsUptoRow, standIns := [], harness := (true, "d92cf638b848d05afd82b6f2e26bf4f2de18101d41b266b2e97caf7467b64c29"), looks := false }, kinds := [], alts := [], laidByText := true, laidKinds := [.data, .data], laidTests := true, laidLooks := .later }
def RootSqrtsUptoCardSaid : Prop := Claim7.holds Tryz.pinned (.plain (OpenSpec.upto rootSqrtsSpec)) rootSqrtsUptoCard

/-- THE SECOND FORM's CARD OF 'zigguratlaw16.RootSquares'. -/
def rootSquaresUptoCard : Claim7 := { stood := { row := rootSquaresUptoRow, standIns := [], harness := (true, "d92cf638b848d05afd82b6f2e26bf4f2de18101d41b266b2e97caf7467b64c29"), looks := false }, kinds := [], alts := [], laidByText := true, laidKinds := [.data, .data], laidTests := true, laidLooks := .later }
def RootSquaresUptoCardSaid : Prop := Claim7.holds Tryz.pinned (.plain (OpenSpec.upto rootSquaresSpec)) rootSquaresUptoCard

/-- THE SECOND FORM's CARD OF 'zigguratlaw16.RootRoots'. -/
def rootRootsUptoCard : Claim7 := { stood := { row := rootRootsUptoRow, standIns := [], harness := (true, "d92cf638b848d05afd82b6f2e26bf4f2de18101d41b266b2e97caf7467b64c29"), looks := false }, kinds := [], alts := [], laidByText := true, laidKinds := [.data, .data], laidTests := true, laidLooks := .later }
def RootRootsUptoCardSaid : Prop := Claim7.holds Tryz.pinned (.plain (OpenSpec.upto rootRootsSpec)) rootRootsUptoCard

/-- THE SECOND FORM's CARD OF 'zigguratlaw16.RootBounds'. -/
def rootBoundsUptoCard : Claim7 := { stood := { row := rootBoundsUptoRow, standIns := [], harness := (true, "d92cf638b848d05afd82b6f2e26bf4f2de18101d41b266b2e97caf7467b64c29"), looks := false }, kinds := [], alts := [], laidByText := true, laidKinds := [.data, .data], laidTests := true, laidLooks := .later }
def RootBoundsUptoCardSaid : Prop := Claim7.holds Tryz.pinned (.plain (OpenSpec.upto rootBoundsSpec)) rootBoundsUptoCard

/-- THE SECOND FORM's CARD OF 'zigguratlaw16.RootTables'. -/
def rootTablesUptoCard : Claim7 := { stood := { row := rootTablesUptoRow, standIns := [], harness := (true, "d92cf638b848d05afd82b6f2e26bf4f2de18101d41b266b2e97caf7467b64c29"), looks := false }, kinds := [], alts := [], laidByText := true, laidKinds := [.data, .data], laidTests := true, laidLooks := .later }
def RootTablesUptoCardSaid : Prop := Claim7.holds Tryz.pinned (.plain (OpenSpec.upto rootTablesSpec)) rootTablesUptoCard
end Rows
end Go.Proofs.YtgcnhfgpflncaaaGreatDoor
