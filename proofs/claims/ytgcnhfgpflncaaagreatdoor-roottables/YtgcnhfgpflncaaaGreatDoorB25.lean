/- Plain mathematics of a division binary digit by binary digit. -/
import Derived.Test.YtgcnhfgpflncaaaGreatDoorB23
import Derived.Test.YtgcnhfgpflncaaaGreatDoorB5
import Derived.Test.YtgcnhfgpflncaaaGreatDoorB10
import Derived.Test.YtgcnhfgpflncaaaGreatDoorB7
namespace Go.Proofs.YtgcnhfgpflncaaaGreatDoor
end Go.Proofs.YtgcnhfgpflncaaaGreatDoor
/- DivMod:quotient and remainder of two naturals. -/
namespace Go.Proofs.YtgcnhfgpflncaaaGreatDoor
open Go.RowKit
theorem KN(w:World):aY w (.slice none 0 0) 0:=⟨none,0,0,0,[],rfl,Rep.nil _ _ _ _ _,sP,rfl⟩
end Go.Proofs.YtgcnhfgpflncaaaGreatDoor
