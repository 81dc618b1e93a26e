/- append(x, make([]uint64, k)...) : zero words on top of a row of the call's own. -/
import Derived.Test.YtgcnhfgpflncaaaGreatDoorB12
import Derived.Lib.AppendZerosOnto
namespace Go.Proofs.YtgcnhfgpflncaaaGreatDoor
open Go.RowKit
set_option linter.unusedSimpArgs false
end Go.Proofs.YtgcnhfgpflncaaaGreatDoor
