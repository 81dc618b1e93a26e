/- Route of package table, and the document's. -/
import Derived.Test.YtpaeihaiaegoeabRoute
namespace Go.Proofs.Ytpaeihaiaegoeab
open Go.RowKit

end Go.Proofs.Ytpaeihaiaegoeab
