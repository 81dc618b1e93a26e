/- Leave of a meter, as a deferred call. -/
import Derived.Test.YtiekgpphggejcaaGreatDoorB12
import Derived.Defers
namespace Go.Proofs.YtiekgpphggejcaaGreatDoor
open Go.RowKit

set_option maxHeartbeats 800000 in
theorem leave_deferred {w : World} {g o : Nat} {s l m : Int} (k : Int) (u : FrameMode) (h : Met w g o s l m) (hk : k = max (l - 1) 0) (h1 : 0 ≤ l) (h2 : l ≤ 9223372036854775807) :
    CallsD Tryz.prog 67 #[.pointer (some ⟨g, o, none⟩)] u w fun e u' w' => u' = u ∧ (e = .returned (.int .i64 k) ∧ Met w' g o s k m ∧ Touch g o 3 w w') := by
  have H := hide h
  obtain ⟨c0, c1, c2, f0, f1, f2⟩ := h
  by_cases hn : l - 1 < 0
  · have e : k = 0 := by omega
    subst e
    clear hk
    go_enter_d Tryz.func67, Tryz.ntmps67
    go_wp2
    go_ret
    exact ⟨rfl, (unhide H).set1 0, Touch.set g o 3 1 w _ (by omega)⟩
  · have e : l - 1 = k := by omega
    clear hk
    go_enter_d Tryz.func67, Tryz.ntmps67
    go_wp2
    go_ret
    exact ⟨rfl, (unhide H).set1 _, Touch.set g o 3 1 w _ (by omega)⟩

end Go.Proofs.YtiekgpphggejcaaGreatDoor
