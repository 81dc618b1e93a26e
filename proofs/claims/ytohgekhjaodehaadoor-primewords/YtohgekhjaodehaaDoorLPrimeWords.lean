/- PrimeWords: what the law's walk comes to. -/
import Derived.Test.YtohgekhjaodehaaDoorPRef
import Derived.Test.YtohgekhjaodehaaDoorPMod
namespace Go.Proofs.YtohgekhjaodehaaDoor
open Go.RowKit

set_option maxHeartbeats 1600000 in
theorem primeWords_any (n : Nat) (w : World) (hn : n < 18446744073709551616) (hT : TB w) :
    Calls Tryd.prog 5 #[.int .u64 (n : Int)] w fun e w' => e = .returned (.bool true) ∧ Below w.heap.size w w' := by
  have CI := hide (is_any n w hn hT)
  have CP := hide (fun w => rPrime_any n w hn)
  have CW := hide (fun w' (b : Below w.heap.size w w') => primeWakes_any w' (hT.next b))
  clear hT
  generalize isP n = Z at *
  have hz : (Z == Z) = true := beq_self_eq_true Z
  go_enter Tryd.func5, Tryd.ntmps5
  go_wp2_with fail
  refine (unhide CI).mono ?_
  rintro e w1 ⟨rfl, b⟩
  go_wp2_with fail
  refine (unhide CP _).mono ?_
  rintro e w2 ⟨rfl, b2⟩
  have b := bstep b b2
  clear b2 CP CI
  go_wp2_with fail
  refine (unhide CW _ b).mono ?_
  rintro e w3 ⟨rfl, b2⟩
  have b := bstep b b2
  go_wp2
  go_ret
  exact ⟨rfl, b⟩

end Go.Proofs.YtohgekhjaodehaaDoor
