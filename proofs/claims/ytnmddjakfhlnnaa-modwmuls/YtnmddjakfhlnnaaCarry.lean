/- Add64 and Sub64 of math/bits, for which the model stands in. -/
import Derived.Test.YtnmddjakfhlnnaaMul64
import Derived.Laws.Externs
namespace Go.Proofs.Ytnmddjakfhlnnaa
open Go.RowKit

end Go.Proofs.Ytnmddjakfhlnnaa
