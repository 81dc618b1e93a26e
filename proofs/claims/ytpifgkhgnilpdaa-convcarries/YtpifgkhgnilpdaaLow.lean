/- Low of a number that is low already: Shr and Shl at what comes to nothing. -/
import Derived.Test.YtpifgkhgnilpdaaSub
namespace Go.Proofs.Ytpifgkhgnilpdaa
open Go.RowKit

theorem isN_zero {w : World} {v : Value} (h : IsN w v 0) : ∃ ga cap, v = .slice ga 0 cap := by
  obtain ⟨ga, b, o, cap, xs, rfl, hr, hc, hv⟩ := h
  have hl : xs.length = 0 := Nat.le_zero.1 (len_le hc (L := 0) (by rw [hv]; decide))
  exact ⟨ga, cap, by rw [hl]⟩

theorem isN_none (w : World) : IsN w (.slice none 0 0) 0 := ⟨none, 0, 0, 0, [], rfl, Rep.nil _ _ _ _ _, can_nil, rfl⟩

set_option maxHeartbeats 800000 in
theorem shl_zero (w : World) (ga : Option Addr) (cap : Nat) (n : Int) :
    Calls Try.prog 15 #[.slice ga 0 cap, .int .i64 n] w fun e w' => e = .returned (.slice none 0 0) ∧ w' = w := by
  go_enter Try.func15, Try.ntmps15
  go_wp2
  go_ret
  exact ⟨rfl, rfl⟩

end Go.Proofs.Ytpifgkhgnilpdaa
