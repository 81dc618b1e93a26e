/-
  DERIVED. GIVEN WITH THE SEED: THE CARDS: each row of YtpcfghnenhnlpaaGreatDoorRows.lean that lists a variable, with what it lists TIED to the program's text (the seventh form; the later family's looks); each row that meets fmt, with fmt's text TOLD by the authors' own Lean function (tested against real Go, not proved from fmt's source: count such statements apart). THE CARD IS WHAT COUNTS. Prove the row's statement (the work); the ties are given (YtpcfghnenhnlpaaGreatDoorTie.lean); close each card by the builder's one call (the guide's Derived/Test/ToyasCard.lean, 'card_holds'). Laid BY PROGRAM, IN A SANDBOX (cutbox-door.mjs). By AI agents, Wed Nov 11 2026. No macro, syntax, notation, axiom, sorry.
-/
import Derived.Test.YtpcfghnenhnlpaaGreatDoorRows
import GoSem.ClaimSeven
namespace Go.Proofs.YtpcfghnenhnlpaaGreatDoor
namespace Rows

/-- THE TIED CARD OF 'zigguratlaw14.RecipRecips'. -/
def recipRecipsCard : Claim7 := { stood := { row := recipRecipsRow, standIns := [], harness := (true, "a3f30557305f3ca1328f7ad895db1d4427776e93894930eb6fd83bd5f5aeb626"), looks := false }, kinds := [], alts := [], laidByText := true, laidKinds := [.data, .data], laidTests := true, laidLooks := .later }
def RecipRecipsCardSaid : Prop := Claim7.holds Tryz.pinned (.plain (OpenSpec.ofChange recipRecipsSpec)) recipRecipsCard

/-- THE TIED CARD OF 'zigguratlaw14.RecipBys'. -/
def recipBysCard : Claim7 := { stood := { row := recipBysRow, standIns := [], harness := (true, "a3f30557305f3ca1328f7ad895db1d4427776e93894930eb6fd83bd5f5aeb626"), looks := false }, kinds := [], alts := [], laidByText := true, laidKinds := [.data, .data], laidTests := true, laidLooks := .later }
def RecipBysCardSaid : Prop := Claim7.holds Tryz.pinned (.plain (OpenSpec.ofChange recipBysSpec)) recipBysCard

/-- THE TIED CARD OF 'zigguratlaw14.RecipBounds'. -/
def recipBoundsCard : Claim7 := { stood := { row := recipBoundsRow, standIns := [], harness := (true, "a3f30557305f3ca1328f7ad895db1d4427776e93894930eb6fd83bd5f5aeb626"), looks := false }, kinds := [], alts := [], laidByText := true, laidKinds := [.data, .data], laidTests := true, laidLooks := .later }
def RecipBoundsCardSaid : Prop := Claim7.holds Tryz.pinned (.plain (OpenSpec.ofChange recipBoundsSpec)) recipBoundsCard

/-- THE TIED CARD OF 'zigguratlaw14.RecipTables'. -/
def recipTablesCard : Claim7 := { stood := { row := recipTablesRow, standIns := [], harness := (true, "a3f30557305f3ca1328f7ad895db1d4427776e93894930eb6fd83bd5f5aeb626"), looks := false }, kinds := [], alts := [], laidByText := true, laidKinds := [.data, .data], laidTests := true, laidLooks := .later }
def RecipTablesCardSaid : Prop := Claim7.holds Tryz.pinned (.plain (OpenSpec.ofChange recipTablesSpec)) recipTablesCard

/-- THE SECOND FORM's CARD OF 'zigguratlaw14.RecipRecips'. -/
def recipRecipsUptoCard : Claim7 := { stood := { row := recipRecipsUptoRow, standIns := [], harness := (true, "a3f30557305f3ca1328f7ad895db1d4427776e93894930eb6fd83bd5f5aeb626"), looks := false }, kinds := [], alts := [], laidByText := true, laidKinds := [.data, .data], laidTests := true, laidLooks := .later }
def RecipRecipsUptoCardSaid : Prop := Claim7.holds Tryz.pinned (.plain (OpenSpec.upto recipRecipsSpec)) recipRecipsUptoCard

/-- THE SECOND FORM's CARD OF 'zigguratlaw14.RecipBys'. -/
def recipBysUptoCard : Claim7 := { stood := { row := recipBysUptoRow, standIns := [], harness := (true, "a3f30557305f3ca1328f7ad895db1d4427776e93894930eb6fd83bd5f5aeb626"), looks := false }, kinds := [], alts := [], laidByText := true, laidKinds := [.data, .data], laidTests := true, laidLooks := .later }
def RecipBysUptoCardSaid : Prop := Claim7.holds Tryz.pinned (.plain (OpenSpec.upto recipBysSpec)) recipBysUptoCard

/-- THE SECOND FORM's CARD OF 'zigguratlaw14.RecipBounds'. -/
def recipBoundsUptoCard : Claim7 := { stood := { row := recipBoundsUptoRow, standIns := [], harness := (true, "a3f30557305f3ca1328f7ad895db1d4427776e93894930eb6fd83bd5f5aeb626"), looks := false }, kinds := [], alts := [], laidByText := true, laidKinds := [.data, .data], laidTests := true, laidLooks := .later }
def RecipBoundsUptoCardSaid : Prop := Claim7.holds Tryz.pinned (.plain (OpenSpec.upto recipBoundsSpec)) recipBoundsUptoCard

/-- THE SECOND FORM's CARD OF 'zigguratlaw14.RecipTables'. -/
def recipTablesUptoCard : Claim7 := { stood := { row := recipTablesUptoRow, standIns := [], harness := (true, "a3f30557305f3ca1328f7ad895db1d4427776e93894930eb6fd83bd5f5aeb626"), looks := false }, kinds := [], alts := [], laidByText := true, laidKinds := [.data, .data], laidTests := true, laidLooks := .later }
def RecipTablesUptoCardSaid : Prop := Claim7.holds Tryz.pinned (.plain (OpenSpec.upto recipTablesSpec)) recipTablesUptoCard
end Rows
end Go.Proofs.YtpcfghnenhnlpaaGreatDoor
