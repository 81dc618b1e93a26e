/- Div64 of math/bits, walked over this program. -/
import Derived.Test.YtiojfgcahopfmaaCLen
import Derived.Test.YtiojfgcahopfmaaCD64Plain
import Derived.Deep.QuietTactic
import Derived.BigQuiet
import Derived.WalkSmall
import Derived.Outline
namespace Go.Proofs.Ytiojfgcahopfmaa
open Go.RowKit

theorem mul_small {m q y : Nat} (hm : m = q * y) (hq : q ≤ 4294967297) (hy : y < 4294967296) : m < 18446744073709551616 := by
  have : q * y ≤ 4294967297 * 4294967295 := Nat.mul_le_mul hq (by omega)
  omega
theorem small_int {a b : Nat} (h : a = b) (h' : b < 4294967296) : (a : Int) < 4294967296 := by omega
theorem split5 {q r d m : Int} (h : 4294967296 ≤ q ∨ 4294967296 * r + d < m) : 4294967296 ≤ q ∨ (q < 4294967296 ∧ 4294967296 * r + d < m) := by omega
theorem ret_two {k l : IntKind} {a b c d : Int} (h : a = b) (h' : c = d) : Ending.returned (.tuple #[.int k a, .int l c]) = .returned (.tuple #[.int k b, .int l d]) := by rw [h, h']

end Go.Proofs.Ytiojfgcahopfmaa
