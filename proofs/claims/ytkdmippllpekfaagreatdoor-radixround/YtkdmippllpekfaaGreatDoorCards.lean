/-
  DERIVED. GIVEN WITH THE SEED: THE CARDS: each row of YtkdmippllpekfaaGreatDoorRows.lean that lists a variable, with what it lists TIED to the program's text (the seventh form; the later family's looks); each row that meets fmt, with fmt's text TOLD by the authors' own Lean function (tested against real Go, not proved from fmt's source: count such statements apart). THE CARD IS WHAT COUNTS. Prove the row's statement (the work); the ties are given (YtkdmippllpekfaaGreatDoorTie.lean); close each card by the builder's one call (the guide's Derived/Test/ToyasCard.lean, 'card_holds'). Laid BY PROGRAM, IN A SANDBOX (cutbox-door.mjs). By AI agents, Wed Nov 11 2026. No macro, syntax, notation, axiom, sorry.
-/
import Derived.Test.YtkdmippllpekfaaGreatDoorRows
import GoSem.ClaimSeven
namespace Go.Proofs.YtkdmippllpekfaaGreatDoor
namespace Rows

/-- THE TIED CARD OF 'zigguratlaw17.RadixTexts'. -/
def radixTextsCard : Claim7 := { stood := { row := radixTextsRow, standIns := [], harness := (true, "2d771df03d63f77d7861fd6fd38bec0f637406900b762608b9cd97885c092bca"), looks := false }, kinds := [], alts := [], laidByText := true, laidKinds := [.data, .data], laidTests := true, laidLooks := .later }
def RadixTextsCardSaid : Prop := Claim7.holds Tryz.pinned (.plain (OpenSpec.ofChange radixTextsSpec)) radixTextsCard

/-- THE TIED CARD OF 'zigguratlaw17.RadixParses'. -/
def radixParsesCard : Claim7 := { stood := { row := radixParsesRow, standIns := [], harness := (true, "2d771df03d63f77d7861fd6fd38bec0f637406900b762608b9cd97885c092bca"), looks := false }, kinds := [], alts := [], laidByText := true, laidKinds := [.data, .data], laidTests := true, laidLooks := .later }
def RadixParsesCardSaid : Prop := Claim7.holds Tryz.pinned (.plain (OpenSpec.ofChange radixParsesSpec)) radixParsesCard

/-- THE TIED CARD OF 'zigguratlaw17.RadixBack'. -/
def radixBackCard : Claim7 := { stood := { row := radixBackRow, standIns := [], harness := (true, "2d771df03d63f77d7861fd6fd38bec0f637406900b762608b9cd97885c092bca"), looks := false }, kinds := [], alts := [], laidByText := true, laidKinds := [.data, .data], laidTests := true, laidLooks := .later }
def RadixBackCardSaid : Prop := Claim7.holds Tryz.pinned (.plain (OpenSpec.ofChange radixBackSpec)) radixBackCard

/-- THE TIED CARD OF 'zigguratlaw17.RadixDigits'. -/
def radixDigitsCard : Claim7 := { stood := { row := radixDigitsRow, standIns := [], harness := (true, "2d771df03d63f77d7861fd6fd38bec0f637406900b762608b9cd97885c092bca"), looks := false }, kinds := [], alts := [], laidByText := true, laidKinds := [.data, .data], laidTests := true, laidLooks := .later }
def RadixDigitsCardSaid : Prop := Claim7.holds Tryz.pinned (.plain (OpenSpec.ofChange radixDigitsSpec)) radixDigitsCard

/-- THE TIED CARD OF 'zigguratlaw17.RadixValues'. -/
def radixValuesCard : Claim7 := { stood := { row := radixValuesRow, standIns := [], harness := (true, "2d771df03d63f77d7861fd6fd38bec0f637406900b762608b9cd97885c092bca"), looks := false }, kinds := [], alts := [], laidByText := true, laidKinds := [.data, .data], laidTests := true, laidLooks := .later }
def RadixValuesCardSaid : Prop := Claim7.holds Tryz.pinned (.plain (OpenSpec.ofChange radixValuesSpec)) radixValuesCard

/-- THE TIED CARD OF 'zigguratlaw17.RadixRound'. -/
def radixRoundCard : Claim7 := { stood := { row := radixRoundRow, standIns := [], harness := (true, "2d771df03d63f77d7861fd6fd38bec0f637406900b762608b9cd97885c092bca"), looks := false }, kinds := [], alts := [], laidByText := true, laidKinds := [.data, .data], laidTests := true, laidLooks := .later }
def RadixRoundCardSaid : Prop := Claim7.holds Tryz.pinned (.plain (OpenSpec.ofChange radixRoundSpec)) radixRoundCard

/-- THE SECOND FORM's CARD OF 'zigguratlaw17.RadixTexts'. -/
def radixTextsUptoCard : Claim7 := { stood := { row := radixTextsUptoRow, standIns := [], harness := (true, "2d771df03d63f77d7861fd6fd38bec0f637406900b762608b9cd97885c092bca"), looks := false }, kinds := [], alts := [], laidByText := true, laidKinds := [.data, .data], laidTests := true, laidLooks := .later }
def RadixTextsUptoCardSaid : Prop := Claim7.holds Tryz.pinned (.plain (OpenSpec.upto radixTextsSpec)) radixTextsUptoCard

/-- THE SECOND FORM's CARD OF 'zigguratlaw17.RadixParses'. -/
def radixParsesUptoCard : Claim7 := { stood := { row := radixParsesUptoRow, standIns := [], harness := (true, "2d771df03d63f77d7861fd6fd38bec0f637406900b762608b9cd97885c092bca"), looks := false }, kinds := [], alts := [], laidByText := true, laidKinds := [.data, .data], laidTests := true, laidLooks := .later }
def RadixParsesUptoCardSaid : Prop := Claim7.holds Tryz.pinned (.plain (OpenSpec.upto radixParsesSpec)) radixParsesUptoCard

/-- THE SECOND FORM's CARD OF 'zigguratlaw17.RadixBack'. -/
def radixBackUptoCard : Claim7 := { stood := { row := radixBackUptoRow, standIns := [], harness := (true, "2d771df03d63f77d7861fd6fd38bec0f637406900b762608b9cd97885c092bca"), looks := false }, kinds := [], alts := [], laidByText := true, laidKinds := [.data, .data], laidTests := true, laidLooks := .later }
def RadixBackUptoCardSaid : Prop := Claim7.holds Tryz.pinned (.plain (OpenSpec.upto radixBackSpec)) radixBackUptoCard

/-- THE SECOND FORM's CARD OF 'zigguratlaw17.RadixDigits'. -/
def radixDigitsUptoCard : Claim7 := { stood := { row := radixDigitsUptoRow, standIns := [], harness := (true, "2d771df03d63f77d7861fd6fd38bec0f637406900b762608b9cd97885c092bca"), looks := false }, kinds := [], alts := [], laidByText := true, laidKinds := [.data, .data], laidTests := true, laidLooks := .later }
def RadixDigitsUptoCardSaid : Prop := Claim7.holds Tryz.pinned (.plain (OpenSpec.upto radixDigitsSpec)) radixDigitsUptoCard

/-- THE SECOND FORM's CARD OF 'zigguratlaw17.RadixValues'. -/
def radixValuesUptoCard : Claim7 := { stood := { row := radixValuesUptoRow, standIns := [], harness := (true, "2d771df03d63f77d7861fd6fd38bec0f637406900b762608b9cd97885c092bca"), looks := false }, kinds := [], alts := [], laidByText := true, laidKinds := [.data, .data], laidTests := true, laidLooks := .later }
def RadixValuesUptoCardSaid : Prop := Claim7.holds Tryz.pinned (.plain (OpenSpec.upto radixValuesSpec)) radixValuesUptoCard

/-- THE SECOND FORM's CARD OF 'zigguratlaw17.RadixRound'. -/
def radixRoundUptoCard : Claim7 := { stood := { row := radixRoundUptoRow, standIns := [], harness := (true, "2d771df03d63f77d7861fd6fd38bec0f637406900b762608b9cd97885c092bca"), looks := false }, kinds := [], alts := [], laidByText := true, laidKinds := [.data, .data], laidTests := true, laidLooks := .later }
def RadixRoundUptoCardSaid : Prop := Claim7.holds Tryz.pinned (.plain (OpenSpec.upto radixRoundSpec)) radixRoundUptoCard
end Rows
end Go.Proofs.YtkdmippllpekfaaGreatDoor
