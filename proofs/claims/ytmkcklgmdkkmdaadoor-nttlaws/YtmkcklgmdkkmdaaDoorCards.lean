/-
  DERIVED. GIVEN WITH THE SEED: THE CARDS: each row of YtmkcklgmdkkmdaaDoorRows.lean that lists a variable, with what it lists TIED to the program's text (the seventh form; the later family's looks); each row that meets fmt, with fmt's text TOLD by the authors' own Lean function (tested against real Go, not proved from fmt's source: count such statements apart). THE CARD IS WHAT COUNTS. Prove the row's statement (the work); the ties are given (YtmkcklgmdkkmdaaDoorTie.lean); close each card by the builder's one call (the guide's Derived/Test/ToyasCard.lean, 'card_holds'). Laid BY PROGRAM, IN A SANDBOX (cutbox-door.mjs). By AI agents, Wed Nov 11 2026. No macro, syntax, notation, axiom, sorry.
-/
import Derived.Test.YtmkcklgmdkkmdaaDoorRows
import GoSem.ClaimSeven
namespace Go.Proofs.YtmkcklgmdkkmdaaDoor
namespace Rows

/-- THE TIED CARD OF 'zigguratlaw08.NttNews'. -/
def nttNewsCard : Claim7 := { stood := { row := nttNewsRow, standIns := [], harness := (true, "6470f5aca739333cf990d790d0e5cfb84b7dc65dbb3d0517a38f84e1f3495c87"), looks := false }, kinds := [], alts := [], laidByText := true, laidKinds := [.data, .data], laidTests := true, laidLooks := .later }
def NttNewsCardSaid : Prop := Claim7.holds Tryd.pinned (.plain (OpenSpec.ofChange nttNewsSpec)) nttNewsCard

/-- THE TIED CARD OF 'zigguratlaw08.NttForwards'. -/
def nttForwardsCard : Claim7 := { stood := { row := nttForwardsRow, standIns := [], harness := (true, "6470f5aca739333cf990d790d0e5cfb84b7dc65dbb3d0517a38f84e1f3495c87"), looks := false }, kinds := [], alts := [], laidByText := true, laidKinds := [.data, .data], laidTests := true, laidLooks := .later }
def NttForwardsCardSaid : Prop := Claim7.holds Tryd.pinned (.plain (OpenSpec.ofChange nttForwardsSpec)) nttForwardsCard

/-- THE TIED CARD OF 'zigguratlaw08.NttBack'. -/
def nttBackCard : Claim7 := { stood := { row := nttBackRow, standIns := [], harness := (true, "6470f5aca739333cf990d790d0e5cfb84b7dc65dbb3d0517a38f84e1f3495c87"), looks := false }, kinds := [], alts := [], laidByText := true, laidKinds := [.data, .data], laidTests := true, laidLooks := .later }
def NttBackCardSaid : Prop := Claim7.holds Tryd.pinned (.plain (OpenSpec.ofChange nttBackSpec)) nttBackCard

/-- THE TIED CARD OF 'zigguratlaw08.NttCyclics'. -/
def nttCyclicsCard : Claim7 := { stood := { row := nttCyclicsRow, standIns := [], harness := (true, "6470f5aca739333cf990d790d0e5cfb84b7dc65dbb3d0517a38f84e1f3495c87"), looks := false }, kinds := [], alts := [], laidByText := true, laidKinds := [.data, .data], laidTests := true, laidLooks := .later }
def NttCyclicsCardSaid : Prop := Claim7.holds Tryd.pinned (.plain (OpenSpec.ofChange nttCyclicsSpec)) nttCyclicsCard

/-- THE TIED CARD OF 'zigguratlaw08.NttConvs'. -/
def nttConvsCard : Claim7 := { stood := { row := nttConvsRow, standIns := [], harness := (true, "6470f5aca739333cf990d790d0e5cfb84b7dc65dbb3d0517a38f84e1f3495c87"), looks := false }, kinds := [], alts := [], laidByText := true, laidKinds := [.data, .data], laidTests := true, laidLooks := .later }
def NttConvsCardSaid : Prop := Claim7.holds Tryd.pinned (.plain (OpenSpec.ofChange nttConvsSpec)) nttConvsCard

/-- THE TIED CARD OF 'zigguratlaw08.NttLaws'. -/
def nttLawsCard : Claim7 := { stood := { row := nttLawsRow, standIns := [], harness := (true, "6470f5aca739333cf990d790d0e5cfb84b7dc65dbb3d0517a38f84e1f3495c87"), looks := false }, kinds := [], alts := [], laidByText := true, laidKinds := [.data, .data], laidTests := true, laidLooks := .later }
def NttLawsCardSaid : Prop := Claim7.holds Tryd.pinned (.plain (OpenSpec.ofChange nttLawsSpec)) nttLawsCard

/-- THE SECOND FORM's CARD OF 'zigguratlaw08.NttNews'. -/
def nttNewsUptoCard : Claim7 := { stood := { row := nttNewsUptoRow, standIns := [], harness := (true, "6470f5aca739333cf990d790d0e5cfb84b7dc65dbb3d0517a38f84e1f3495c87"), looks := false }, kinds := [], alts := [], laidByText := true, laidKinds := [.data, .data], laidTests := true, laidLooks := .later }
def NttNewsUptoCardSaid : Prop := Claim7.holds Tryd.pinned (.plain (OpenSpec.upto nttNewsSpec)) nttNewsUptoCard

/-- THE SECOND FORM's CARD OF 'zigguratlaw08.NttForwards'. -/
def nttForwardsUptoCard : Claim7 := { stood := { row := nttForwardsUptoRow, standIns := [], harness := (true, "6470f5aca739333cf990d790d0e5cfb84b7dc65dbb3d0517a38f84e1f3495c87"), looks := false }, kinds := [], alts := [], laidByText := true, laidKinds := [.data, .data], laidTests := true, laidLooks := .later }
def NttForwardsUptoCardSaid : Prop := Claim7.holds Tryd.pinned (.plain (OpenSpec.upto nttForwardsSpec)) nttForwardsUptoCard

/-- THE SECOND FORM's CARD OF 'zigguratlaw08.NttBack'. -/
def nttBackUptoCard : Claim7 := { stood := { row := nttBackUptoRow, standIns := [], harness := (true, "6470f5aca739333cf990d790d0e5cfb84b7dc65dbb3d0517a38f84e1f3495c87"), looks := false }, kinds := [], alts := [], laidByText := true, laidKinds := [.data, .data], laidTests := true, laidLooks := .later }
def NttBackUptoCardSaid : Prop := Claim7.holds Tryd.pinned (.plain (OpenSpec.upto nttBackSpec)) nttBackUptoCard

/-- THE SECOND FORM's CARD OF 'zigguratlaw08.NttCyclics'. -/
def nttCyclicsUptoCard : Claim7 := { stood := { row := nttCyclicsUptoRow, standIns := [], harness := (true, "6470f5aca739333cf990d790d0e5cfb84b7dc65dbb3d0517a38f84e1f3495c87"), looks := false }, kinds := [], alts := [], laidByText := true, laidKinds := [.data, .data], laidTests := true, laidLooks := .later }
def NttCyclicsUptoCardSaid : Prop := Claim7.holds Tryd.pinned (.plain (OpenSpec.upto nttCyclicsSpec)) nttCyclicsUptoCard

/-- THE SECOND FORM's CARD OF 'zigguratlaw08.NttConvs'. -/
def nttConvsUptoCard : Claim7 := { stood := { row := nttConvsUptoRow, standIns := [], harness := (true, "6470f5aca739333cf990d790d0e5cfb84b7dc65dbb3d0517a38f84e1f3495c87"), looks := false }, kinds := [], alts := [], laidByText := true, laidKinds := [.data, .data], laidTests := true, laidLooks := .later }
def NttConvsUptoCardSaid : Prop := Claim7.holds Tryd.pinned (.plain (OpenSpec.upto nttConvsSpec)) nttConvsUptoCard

/-- THE SECOND FORM's CARD OF 'zigguratlaw08.NttLaws'. -/
def nttLawsUptoCard : Claim7 := { stood := { row := nttLawsUptoRow, standIns := [], harness := (true, "6470f5aca739333cf990d790d0e5cfb84b7dc65dbb3d0517a38f84e1f3495c87"), looks := false }, kinds := [], alts := [], laidByText := true, laidKinds := [.data, .data], laidTests := true, laidLooks := .later }
def NttLawsUptoCardSaid : Prop := Claim7.holds Tryd.pinned (.plain (OpenSpec.upto nttLawsSpec)) nttLawsUptoCard
end Rows
end Go.Proofs.YtmkcklgmdkkmdaaDoor
