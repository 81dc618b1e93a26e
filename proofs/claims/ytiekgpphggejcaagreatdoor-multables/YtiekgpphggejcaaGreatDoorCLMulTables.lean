/- MulTables: what the law's walk comes to, once the code is what the document asks. -/
import Derived.Test.YtiekgpphggejcaaGreatDoorXMulTables
namespace Go.Proofs.YtiekgpphggejcaaGreatDoor
open Go.RowKit

theorem mulTables_any (SN : SpecMNew) (SM : SpecMMul) (SQ : SpecMSqr) (SP : SpecMProd) (T : Tab) (U : Tab) (ga : Option Addr) (ba oa ca la : Nat) (xs : List Nat) (gb : Option Addr) (bb ob cb lb : Nat) (ys : List Nat) (w : World) (hxs : xs.length = la) (HrA : Rep w ga ba oa ca xs) (kxs : ∀ j, xs.getD j 0 < 18446744073709551616) (hys : ys.length = lb) (HrB : Rep w gb bb ob cb ys) (kys : ∀ j, ys.getD j 0 < 18446744073709551616) (hT : TB w) :
    Calls Tryz.prog 6 #[T.val, U.val, .slice ga la ca, .slice gb lb cb] w fun e w' => e = .returned (.bool true) ∧ Below w.heap.size w w' := by
  by_cases hcl : T.clamp = U.clamp
  · exact mulTables_one SN SM SQ SP T U ga ba oa ca la xs gb bb ob cb lb ys w hxs HrA kxs hys HrB kys hcl hT
  · exact mulTables_two SN SM SQ SP T U ga ba oa ca la xs gb bb ob cb lb ys w hxs HrA kxs hys HrB kys hcl hT

end Go.Proofs.YtiekgpphggejcaaGreatDoor
