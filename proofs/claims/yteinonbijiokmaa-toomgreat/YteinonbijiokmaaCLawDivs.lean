/- WordDivs: what the law's walk comes to. -/
import Derived.Test.YteinonbijiokmaaM7
import Derived.Test.YteinonbijiokmaaM2
import Derived.Test.YteinonbijiokmaaM11
namespace Go.Proofs.Yteinonbijiokmaa
open Go.RowKit

theorem quot_small {hi lo d : Nat} (h : hi < d) (hl : lo < 18446744073709551616) : (18446744073709551616 * hi + lo) / d < 18446744073709551616 := by
  rw [Nat.div_lt_iff_lt_mul (by omega)]
  omega

end Go.Proofs.Yteinonbijiokmaa
