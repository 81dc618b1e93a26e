/-
  DERIVED. GIVEN WITH THE SEED: THE CARDS: each row of YtpdpnomocbehkaaGreatDoorRows.lean that lists a variable, with what it lists TIED to the program's text (the seventh form; the later family's looks); each row that meets fmt, with fmt's text TOLD by the authors' own Lean function (tested against real Go, not proved from fmt's source: count such statements apart). THE CARD IS WHAT COUNTS. Prove the row's statement (the work); the ties are given (YtpdpnomocbehkaaGreatDoorTie.lean); close each card by the builder's one call (the guide's Derived/Test/ToyasCard.lean, 'card_holds'). Laid BY PROGRAM, IN A SANDBOX (cutbox-door.mjs). By AI agents, Wed Nov 11 2026. No macro, syntax, notation, axiom, sorry.
-/
import Derived.Test.YtpdpnomocbehkaaGreatDoorRows
import GoSem.ClaimSeven
namespace Go.Proofs.YtpdpnomocbehkaaGreatDoor
namespace Rows

/-- THE TIED CARD OF 'zigguratlaw15.DivMods'. -/
def divModsCard : Claim7 := { stood := { row := divModsRow, standIns := [], harness := (true, "29f2dfcf0c965ffdd92d9648be3dc73dac68750a7db21965cae5641788a3187d"), looks := false }, kinds := [], alts := [], laidByText := true, laidKinds := [.data, .data], laidTests := true, laidLooks := .later }
def DivModsCardSaid : Prop := Claim7.holds Tryz.pinned (.plain (OpenSpec.ofChange divModsSpec)) divModsCard

/-- THE TIED CARD OF 'zigguratlaw15.DivWays'. -/
def divWaysCard : Claim7 := { stood := { row := divWaysRow, standIns := [], harness := (true, "29f2dfcf0c965ffdd92d9648be3dc73dac68750a7db21965cae5641788a3187d"), looks := false }, kinds := [], alts := [], laidByText := true, laidKinds := [.data, .data], laidTests := true, laidLooks := .later }
def DivWaysCardSaid : Prop := Claim7.holds Tryz.pinned (.plain (OpenSpec.ofChange divWaysSpec)) divWaysCard

/-- THE TIED CARD OF 'zigguratlaw15.DivTables'. -/
def divTablesCard : Claim7 := { stood := { row := divTablesRow, standIns := [], harness := (true, "29f2dfcf0c965ffdd92d9648be3dc73dac68750a7db21965cae5641788a3187d"), looks := false }, kinds := [], alts := [], laidByText := true, laidKinds := [.data, .data], laidTests := true, laidLooks := .later }
def DivTablesCardSaid : Prop := Claim7.holds Tryz.pinned (.plain (OpenSpec.ofChange divTablesSpec)) divTablesCard

/-- THE TIED CARD OF 'zigguratlaw15.DivExacts'. -/
def divExactsCard : Claim7 := { stood := { row := divExactsRow, standIns := [], harness := (true, "29f2dfcf0c965ffdd92d9648be3dc73dac68750a7db21965cae5641788a3187d"), looks := false }, kinds := [], alts := [], laidByText := true, laidKinds := [.data, .data], laidTests := true, laidLooks := .later }
def DivExactsCardSaid : Prop := Claim7.holds Tryz.pinned (.plain (OpenSpec.ofChange divExactsSpec)) divExactsCard

/-- THE TIED CARD OF 'zigguratlaw15.DivTrees'. -/
def divTreesCard : Claim7 := { stood := { row := divTreesRow, standIns := [], harness := (true, "29f2dfcf0c965ffdd92d9648be3dc73dac68750a7db21965cae5641788a3187d"), looks := false }, kinds := [], alts := [], laidByText := true, laidKinds := [.data, .data], laidTests := true, laidLooks := .later }
def DivTreesCardSaid : Prop := Claim7.holds Tryz.pinned (.plain (OpenSpec.ofChange divTreesSpec)) divTreesCard

/-- THE TIED CARD OF 'zigguratlaw15.DivBack'. -/
def divBackCard : Claim7 := { stood := { row := divBackRow, standIns := [], harness := (true, "29f2dfcf0c965ffdd92d9648be3dc73dac68750a7db21965cae5641788a3187d"), looks := false }, kinds := [], alts := [], laidByText := true, laidKinds := [.data, .data], laidTests := true, laidLooks := .later }
def DivBackCardSaid : Prop := Claim7.holds Tryz.pinned (.plain (OpenSpec.ofChange divBackSpec)) divBackCard

/-- THE SECOND FORM's CARD OF 'zigguratlaw15.DivMods'. -/
def divModsUptoCard : Claim7 := { stood := { row := divModsUptoRow, standIns := [], harness := (true, "29f2dfcf0c965ffdd92d9648be3dc73dac68750a7db21965cae5641788a3187d"), looks := false }, kinds := [], alts := [], laidByText := true, laidKinds := [.data, .data], laidTests := true, laidLooks := .later }
def DivModsUptoCardSaid : Prop := Claim7.holds Tryz.pinned (.plain (OpenSpec.upto divModsSpec)) divModsUptoCard

/-- THE SECOND FORM's CARD OF 'zigguratlaw15.DivWays'. -/
def divWaysUptoCard : Claim7 := { stood := { row := divWaysUptoRow, standIns := [], harness := (true, "29f2dfcf0c965ffdd92d9648be3dc73dac68750a7db21965cae5641788a3187d"), looks := false }, kinds := [], alts := [], laidByText := true, laidKinds := [.data, .data], laidTests := true, laidLooks := .later }
def DivWaysUptoCardSaid : Prop := Claim7.holds Tryz.pinned (.plain (OpenSpec.upto divWaysSpec)) divWaysUptoCard

/-- THE SECOND FORM's CARD OF 'zigguratlaw15.DivTables'. -/
def divTablesUptoCard : Claim7 := { stood := { row := divTablesUptoRow, standIns := [], harness := (true, "29f2dfcf0c965ffdd92d9648be3dc73dac68750a7db21965cae5641788a3187d"), looks := false }, kinds := [], alts := [], laidByText := true, laidKinds := [.data, .data], laidTests := true, laidLooks := .later }
def DivTablesUptoCardSaid : Prop := Claim7.holds Tryz.pinned (.plain (OpenSpec.upto divTablesSpec)) divTablesUptoCard

/-- THE SECOND FORM's CARD OF 'zigguratlaw15.DivExacts'. -/
def divExactsUptoCard : Claim7 := { stood := { row := divExactsUptoRow, standIns := [], harness := (true, "29f2dfcf0c965ffdd92d9648be3dc73dac68750a7db21965cae5641788a3187d"), looks := false }, kinds := [], alts := [], laidByText := true, laidKinds := [.data, .data], laidTests := true, laidLooks := .later }
def DivExactsUptoCardSaid : Prop := Claim7.holds Tryz.pinned (.plain (OpenSpec.upto divExactsSpec)) divExactsUptoCard

/-- THE SECOND FORM's CARD OF 'zigguratlaw15.DivTrees'. -/
def divTreesUptoCard : Claim7 := { stood := { row := divTreesUptoRow, standIns := [], harness := (true, "29f2dfcf0c965ffdd92d9648be3dc73dac68750a7db21965cae5641788a3187d"), looks := false }, kinds := [], alts := [], laidByText := true, laidKinds := [.data, .data], laidTests := true, laidLooks := .later }
def DivTreesUptoCardSaid : Prop := Claim7.holds Tryz.pinned (.plain (OpenSpec.upto divTreesSpec)) divTreesUptoCard

/-- THE SECOND FORM's CARD OF 'zigguratlaw15.DivBack'. -/
def divBackUptoCard : Claim7 := { stood := { row := divBackUptoRow, standIns := [], harness := (true, "29f2dfcf0c965ffdd92d9648be3dc73dac68750a7db21965cae5641788a3187d"), looks := false }, kinds := [], alts := [], laidByText := true, laidKinds := [.data, .data], laidTests := true, laidLooks := .later }
def DivBackUptoCardSaid : Prop := Claim7.holds Tryz.pinned (.plain (OpenSpec.upto divBackSpec)) divBackUptoCard
end Rows
end Go.Proofs.YtpdpnomocbehkaaGreatDoor
