/- Sub: the difference of two naturals. -/
import Derived.Test.YtpifgkhgnilpdaaFrom
import Derived.Test.YtpifgkhgnilpdaaTwPlain
namespace Go.Proofs.Ytpifgkhgnilpdaa
open Go.RowKit

theorem own_snoc {w1 : World} {B t g cap k d : Nat} {os : List Nat} (h : w1.ownsRow B t 1 (.slice (some ⟨g, 0, none⟩) (k + 1) cap) (k + 1) (cellsOf os ++ [.int .u64 ((d : Nat) : Int)])) :
    w1.ownsRow B t 1 (.slice (some ⟨g, 0, none⟩) (k + 1) cap) (k + 1) (cellsOf (os ++ [d])) := by simpa using h

end Go.Proofs.Ytpifgkhgnilpdaa
