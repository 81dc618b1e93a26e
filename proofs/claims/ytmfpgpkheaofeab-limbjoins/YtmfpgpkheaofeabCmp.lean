/- Cmp: how two naturals stand to each other. -/
import Derived.Test.YtmfpgpkheaofeabNorm
import Derived.Deep.QuietTactic
import Derived.BigQuiet
import Derived.WalkSmall
namespace Go.Proofs.Ytmfpgpkheaofeab
open Go.RowKit

end Go.Proofs.Ytmfpgpkheaofeab
