/- Add64 and Sub64 of math/bits, for which the model stands in. -/
import Derived.Test.YtohgekhjaodehaaDoorMul64
import Derived.Laws.Externs
namespace Go.Proofs.YtohgekhjaodehaaDoor
open Go.RowKit

end Go.Proofs.YtohgekhjaodehaaDoor
