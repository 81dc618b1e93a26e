/- Shl: a natural moved up. -/
import Derived.Test.YtpdpnomocbehkaaGreatDoorB9
import Derived.Test.YtpdpnomocbehkaaGreatDoorB6
namespace Go.Proofs.YtpdpnomocbehkaaGreatDoor
open Go.RowKit
end Go.Proofs.YtpdpnomocbehkaaGreatDoor
