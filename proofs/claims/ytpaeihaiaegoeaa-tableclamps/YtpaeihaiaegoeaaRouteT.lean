/- Route of package table, and the document's. -/
import Derived.Test.YtpaeihaiaegoeaaRoute
namespace Go.Proofs.Ytpaeihaiaegoeaa
open Go.RowKit

set_option maxHeartbeats 3200000 in
theorem tRoute_any (T : Tab) (n m : Int) (w : World) :
    Calls Try.prog 18 #[T.val, .int .i64 n, .int .i64 m] w fun e w' => e = .returned (.int .i64 (rtT T n m)) ∧ Below w.heap.size w w' := by
  have bel := hide (fun o => (Below.refl w.heap.size w).alloc (Nat.le_refl _) o)
  by_cases h : 0 ≤ n ∧ n ≤ 16384 ∧ 0 ≤ m ∧ m ≤ 16384
  · obtain ⟨a1, a2, a3, a4⟩ := h
    have CC := hide (fun w => clamp_any T w)
    have RC := hide (rtT_comm T n m)
    have CR := hide (fun n m h1 h2 h3 w => route_int T n m w h1 h2 h3)
    obtain ⟨V, hV⟩ : ∃ V, V = T.clamp.val := ⟨_, rfl⟩
    rw [← hV] at CC CR
    clear hV
    unfold Tab.val
    by_cases hm : m < n
    all_goals
      go_enter Try.func18, Try.ntmps18
      go_wp2_with (first | (go_at_call 29; refine (tlength_yes _ _ (by omega) (by omega)).mono ?_; rintro e w' ⟨rfl, rfl⟩) | (go_at_call 9; refine (unhide CC _).mono ?_; rintro e w1 ⟨rfl, b1⟩) | (go_at_call 30; refine (unhide CR _ _ (by omega) (by omega) (by omega) _).mono ?_; rintro e w2 ⟨rfl, b2⟩))
    all_goals
      go_ret
      exact ⟨ret_int (by first | rfl | exact (unhide RC).symm | (obtain rfl : m = n := by omega
                                                                 rfl)), bstep (bstep (unhide bel _) b1) b2⟩
  · rw [rtT_out T h]
    unfold Tab.val
    by_cases a1 : 0 ≤ n <;> by_cases a2 : n ≤ 16384 <;> by_cases a3 : 0 ≤ m <;> by_cases a4 : m ≤ 16384
    all_goals first | (exfalso; omega) | skip
    all_goals
      go_enter Try.func18, Try.ntmps18
      go_wp2
      go_ret
      exact ⟨rfl, unhide bel _⟩

end Go.Proofs.Ytpaeihaiaegoeaa
