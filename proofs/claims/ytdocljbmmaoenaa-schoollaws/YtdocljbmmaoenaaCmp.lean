/- Cmp: how two naturals stand to each other. -/
import Derived.Test.YtdocljbmmaoenaaNorm
import Derived.Deep.QuietTactic
import Derived.BigQuiet
import Derived.WalkSmall
namespace Go.Proofs.Ytdocljbmmaoenaa
open Go.RowKit

end Go.Proofs.Ytdocljbmmaoenaa
