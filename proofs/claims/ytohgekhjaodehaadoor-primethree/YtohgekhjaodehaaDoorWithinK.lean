/- Within of keep. -/
import Derived.Test.YtohgekhjaodehaaDoorRep
import Derived.Deep.QuietTactic
import Derived.BigQuiet
import Derived.WalkSmall
namespace Go.Proofs.YtohgekhjaodehaaDoor
open Go.RowKit

theorem tmod_to {v n : Int} (hn : 0 < n) : -n < v.tmod n ∧ v.tmod n < n ∧ (0 ≤ v.tmod n → v % n = v.tmod n) ∧ (v.tmod n < 0 → v % n = v.tmod n + n) := by
  have h1 := Int.tmod_lt_of_pos v hn
  have h2 := Int.lt_tmod_of_pos v hn
  have e : v % n = v.tmod n % n := by
    conv => lhs; rw [← Int.mul_tdiv_add_tmod v n]
    rw [Int.mul_add_emod_self_left]
  refine ⟨h2, h1, fun h => ?_, fun h => ?_⟩
  · rw [e, Int.emod_eq_of_lt h h1]
  · rw [e, ← Int.add_emod_right, Int.emod_eq_of_lt (by omega) (by omega)]

set_option maxHeartbeats 800000 in
theorem within_any (v n : Int) (w : World) (_h1 : -9223372036854775808 ≤ v) (_h2 : v ≤ 9223372036854775807) (hn : 1 ≤ n) (hn2 : n ≤ 4611686018427387904) :
    Calls Tryd.prog 19 #[.int .i64 v, .int .i64 n] w fun e w' => e = .returned (.int .i64 (v % n)) ∧ w' = w := by
  have hn1 : ¬ n < 1 := by omega
  obtain ⟨t1, t2, t3, t4⟩ := tmod_to (v := v) (n := n) (by omega)
  have T3 := hide t3
  have T4 := hide t4
  clear t3 t4
  go_enter Tryd.func19, Tryd.ntmps19
  go_wp2
  · go_ret
    exact ⟨ret_int (by rw [unhide T4 (by assumption)]), rfl⟩
  · go_ret
    exact ⟨ret_int (by rw [unhide T3 (by assumption)]), rfl⟩

end Go.Proofs.YtohgekhjaodehaaDoor
