/- Add64 and Sub64 of math/bits, for which the model stands in. -/
import Derived.Test.YtnmddjakfhlnnabMul64
import Derived.Laws.Externs
namespace Go.Proofs.Ytnmddjakfhlnnab
open Go.RowKit

end Go.Proofs.Ytnmddjakfhlnnab
