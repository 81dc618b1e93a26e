/- append(x, make([]uint64, k)...) : zero words on top of a row of the call's own. -/
import Derived.Test.YtpdpnomocbehkaaGreatDoorB9
import Derived.Lib.AppendZerosOnto
namespace Go.Proofs.YtpdpnomocbehkaaGreatDoor
open Go.RowKit
set_option linter.unusedSimpArgs false
end Go.Proofs.YtpdpnomocbehkaaGreatDoor
