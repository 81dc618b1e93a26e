/-
  DERIVED. GIVEN WITH THE SEED: THE CARDS: each row of YtohgekhjaodehaaDoorRows.lean that lists a variable, with what it lists TIED to the program's text (the seventh form; the later family's looks); each row that meets fmt, with fmt's text TOLD by the authors' own Lean function (tested against real Go, not proved from fmt's source: count such statements apart). THE CARD IS WHAT COUNTS. Prove the row's statement (the work); the ties are given (YtohgekhjaodehaaDoorTie.lean); close each card by the builder's one call (the guide's Derived/Test/ToyasCard.lean, 'card_holds'). Laid BY PROGRAM, IN A SANDBOX (cutbox-door.mjs). By AI agents, Wed Nov 11 2026. No macro, syntax, notation, axiom, sorry.
-/
import Derived.Test.YtohgekhjaodehaaDoorRows
import GoSem.ClaimSeven
namespace Go.Proofs.YtohgekhjaodehaaDoor
namespace Rows

/-- THE TIED CARD OF 'zigguratlaw07.PrimeSmall'. -/
def primeSmallCard : Claim7 := { stood := { row := primeSmallRow, standIns := [], harness := (true, "f28587f902877b39aab99ab4067f8c8bcbcb51734ed4fa401f3caff95ef31fce"), looks := false }, kinds := [], alts := [], laidByText := true, laidKinds := [.data, .data], laidTests := true, laidLooks := .later }
def PrimeSmallCardSaid : Prop := Claim7.holds Tryd.pinned (.plain (OpenSpec.ofChange primeSmallSpec)) primeSmallCard

/-- THE TIED CARD OF 'zigguratlaw07.PrimeProducts'. -/
def primeProductsCard : Claim7 := { stood := { row := primeProductsRow, standIns := [], harness := (true, "f28587f902877b39aab99ab4067f8c8bcbcb51734ed4fa401f3caff95ef31fce"), looks := false }, kinds := [], alts := [], laidByText := true, laidKinds := [.data, .data], laidTests := true, laidLooks := .later }
def PrimeProductsCardSaid : Prop := Claim7.holds Tryd.pinned (.plain (OpenSpec.ofChange primeProductsSpec)) primeProductsCard

/-- THE TIED CARD OF 'zigguratlaw07.PrimeWords'. -/
def primeWordsCard : Claim7 := { stood := { row := primeWordsRow, standIns := [], harness := (true, "f28587f902877b39aab99ab4067f8c8bcbcb51734ed4fa401f3caff95ef31fce"), looks := false }, kinds := [], alts := [], laidByText := true, laidKinds := [.data, .data], laidTests := true, laidLooks := .later }
def PrimeWordsCardSaid : Prop := Claim7.holds Tryd.pinned (.plain (OpenSpec.ofChange primeWordsSpec)) primeWordsCard

/-- THE TIED CARD OF 'zigguratlaw07.PrimeNexts'. -/
def primeNextsCard : Claim7 := { stood := { row := primeNextsRow, standIns := [], harness := (true, "f28587f902877b39aab99ab4067f8c8bcbcb51734ed4fa401f3caff95ef31fce"), looks := false }, kinds := [], alts := [], laidByText := true, laidKinds := [.data, .data], laidTests := true, laidLooks := .later }
def PrimeNextsCardSaid : Prop := Claim7.holds Tryd.pinned (.plain (OpenSpec.ofChange primeNextsSpec)) primeNextsCard

/-- THE TIED CARD OF 'zigguratlaw07.PrimeMods'. -/
def primeModsCard : Claim7 := { stood := { row := primeModsRow, standIns := [], harness := (true, "f28587f902877b39aab99ab4067f8c8bcbcb51734ed4fa401f3caff95ef31fce"), looks := false }, kinds := [], alts := [], laidByText := true, laidKinds := [.data, .data], laidTests := true, laidLooks := .later }
def PrimeModsCardSaid : Prop := Claim7.holds Tryd.pinned (.plain (OpenSpec.ofChange primeModsSpec)) primeModsCard

/-- THE TIED CARD OF 'zigguratlaw07.PrimeThree'. -/
def primeThreeCard : Claim7 := { stood := { row := primeThreeRow, standIns := [], harness := (true, "f28587f902877b39aab99ab4067f8c8bcbcb51734ed4fa401f3caff95ef31fce"), looks := false }, kinds := [], alts := [], laidByText := true, laidKinds := [.data, .data], laidTests := true, laidLooks := .later }
def PrimeThreeCardSaid : Prop := Claim7.holds Tryd.pinned (.plain (OpenSpec.ofChange primeThreeSpec)) primeThreeCard

/-- THE SECOND FORM's CARD OF 'zigguratlaw07.PrimeSmall'. -/
def primeSmallUptoCard : Claim7 := { stood := { row := primeSmallUptoRow, standIns := [], harness := (true, "f28587f902877b39aab99ab4067f8c8bcbcb51734ed4fa401f3caff95ef31fce"), looks := false }, kinds := [], alts := [], laidByText := true, laidKinds := [.data, .data], laidTests := true, laidLooks := .later }
def PrimeSmallUptoCardSaid : Prop := Claim7.holds Tryd.pinned (.plain (OpenSpec.upto primeSmallSpec)) primeSmallUptoCard

/-- THE SECOND FORM's CARD OF 'zigguratlaw07.PrimeProducts'. -/
def primeProductsUptoCard : Claim7 := { stood := { row := primeProductsUptoRow, standIns := [], harness := (true, "f28587f902877b39aab99ab4067f8c8bcbcb51734ed4fa401f3caff95ef31fce"), looks := false }, kinds := [], alts := [], laidByText := true, laidKinds := [.data, .data], laidTests := true, laidLooks := .later }
def PrimeProductsUptoCardSaid : Prop := Claim7.holds Tryd.pinned (.plain (OpenSpec.upto primeProductsSpec)) primeProductsUptoCard

/-- THE SECOND FORM's CARD OF 'zigguratlaw07.PrimeWords'. -/
def primeWordsUptoCard : Claim7 := { stood := { row := primeWordsUptoRow, standIns := [], harness := (true, "f28587f902877b39aab99ab4067f8c8bcbcb51734ed4fa401f3caff95ef31fce"), looks := false }, kinds := [], alts := [], laidByText := true, laidKinds := [.data, .data], laidTests := true, laidLooks := .later }
def PrimeWordsUptoCardSaid : Prop := Claim7.holds Tryd.pinned (.plain (OpenSpec.upto primeWordsSpec)) primeWordsUptoCard

/-- THE SECOND FORM's CARD OF 'zigguratlaw07.PrimeNexts'. -/
def primeNextsUptoCard : Claim7 := { stood := { row := primeNextsUptoRow, standIns := [], harness := (true, "f28587f902877b39aab99ab4067f8c8bcbcb51734ed4fa401f3caff95ef31fce"), looks := false }, kinds := [], alts := [], laidByText := true, laidKinds := [.data, .data], laidTests := true, laidLooks := .later }
def PrimeNextsUptoCardSaid : Prop := Claim7.holds Tryd.pinned (.plain (OpenSpec.upto primeNextsSpec)) primeNextsUptoCard

/-- THE SECOND FORM's CARD OF 'zigguratlaw07.PrimeMods'. -/
def primeModsUptoCard : Claim7 := { stood := { row := primeModsUptoRow, standIns := [], harness := (true, "f28587f902877b39aab99ab4067f8c8bcbcb51734ed4fa401f3caff95ef31fce"), looks := false }, kinds := [], alts := [], laidByText := true, laidKinds := [.data, .data], laidTests := true, laidLooks := .later }
def PrimeModsUptoCardSaid : Prop := Claim7.holds Tryd.pinned (.plain (OpenSpec.upto primeModsSpec)) primeModsUptoCard

/-- THE SECOND FORM's CARD OF 'zigguratlaw07.PrimeThree'. -/
def primeThreeUptoCard : Claim7 := { stood := { row := primeThreeUptoRow, standIns := [], harness := (true, "f28587f902877b39aab99ab4067f8c8bcbcb51734ed4fa401f3caff95ef31fce"), looks := false }, kinds := [], alts := [], laidByText := true, laidKinds := [.data, .data], laidTests := true, laidLooks := .later }
def PrimeThreeUptoCardSaid : Prop := Claim7.holds Tryd.pinned (.plain (OpenSpec.upto primeThreeSpec)) primeThreeUptoCard
end Rows
end Go.Proofs.YtohgekhjaodehaaDoor
