/- ModwNews: what the law's walk comes to. -/
import Derived.Test.YtnmddjakfhlnnaaQOdd
import Derived.Test.YtnmddjakfhlnnaaQRef
namespace Go.Proofs.Ytnmddjakfhlnnaa
open Go.RowKit

set_option maxHeartbeats 1600000 in
theorem modwNews_any (p : Nat) (w : World) :
    Calls Try.prog 3 #[.int .u64 (p : Int)] w fun e w' => e = .returned (.bool true) ∧ Below w.heap.size w w' := by
  by_cases h : p % 2 = 1 ∧ 3 ≤ p ∧ p < 4611686018427387904
  · obtain ⟨ho, hl, hh⟩ := h
    have CN := hide (fun w => modNew_any p w ho hl hh)
    have CM := hide (fun w => rMay_yes p w ho hl hh)
    clear ho hl hh
    go_enter Try.func3, Try.ntmps3
    go_wp2_with fail
    refine (unhide CN _).mono ?_
    rintro e w1 ⟨g, rfl, h, hg, b⟩
    have hM := hide h
    clear h CN hg
    go_wp2_with fail
    refine (unhide CM _).mono ?_
    rintro e w2 ⟨rfl, rfl⟩
    go_wp2_with fail
    refine (modP_any (unhide hM)).mono ?_
    rintro e w3 ⟨rfl, rfl⟩
    go_wp2_with fail
    refine (modWakes_any _).mono ?_
    rintro e w4 ⟨rfl, b4⟩
    go_wp2
    go_ret
    exact ⟨rfl, bstep b b4⟩
  · have CN := hide (fun w => modNew_no p w h)
    have CM := hide (fun w => rMay_no p w h)
    clear h
    go_enter Try.func3, Try.ntmps3
    go_wp2_with fail
    refine (unhide CN _).mono ?_
    rintro e w1 ⟨rfl, rfl⟩
    go_wp2_with fail
    refine (unhide CM _).mono ?_
    rintro e w2 ⟨rfl, rfl⟩
    go_wp2_with fail
    refine (modWakes_any _).mono ?_
    rintro e w4 ⟨rfl, b4⟩
    go_wp2
    go_ret
    exact ⟨rfl, b4⟩

end Go.Proofs.Ytnmddjakfhlnnaa
