/- Add64 and Sub64 of math/bits, for which the model stands in. -/
import Derived.Test.YtmkcklgmdkkmdaaDoorCMul64
import Derived.Laws.Externs
namespace Go.Proofs.YtmkcklgmdkkmdaaDoor
open Go.RowKit

end Go.Proofs.YtmkcklgmdkkmdaaDoor
