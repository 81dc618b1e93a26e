/- Package word: Div. -/
import Derived.Test.YtohgekhjaodehaaDoorWord
namespace Go.Proofs.YtohgekhjaodehaaDoor
open Go.RowKit

set_option maxHeartbeats 800000 in
theorem word_div_no (hi lo d : Nat) (w : World) (h : d ≤ hi) :
    Calls Tryd.prog 30 #[.int .u64 (hi : Int), .int .u64 (lo : Int), .int .u64 (d : Int)] w fun e w' => e = .returned (.tuple #[.int .u64 0, .int .u64 0, .bool false]) ∧ w' = w := by
  have h' : (d : Int) ≤ (hi : Int) := by omega
  go_enter Tryd.func30, Tryd.ntmps30
  go_wp2
  go_ret3
  exact ⟨ret_three rfl rfl rfl, rfl⟩

set_option maxHeartbeats 800000 in
theorem word_div (hi lo d Q R : Nat) (w : World) (h : hi < d) (hl : lo < 18446744073709551616) (hd : d < 18446744073709551616) (hQ : Q = (18446744073709551616 * hi + lo) / d) (hR : R = (18446744073709551616 * hi + lo) % d) :
    Calls Tryd.prog 30 #[.int .u64 (hi : Int), .int .u64 (lo : Int), .int .u64 (d : Int)] w fun e w' => e = .returned (.tuple #[.int .u64 (Q : Int), .int .u64 (R : Int), .bool true]) ∧ Below w.heap.size w w' := by
  have h' : ¬ (d : Int) ≤ (hi : Int) := by omega
  have hc := fun w => div64_nat hi lo d w h hl hd
  rw [← hQ, ← hR] at hc
  have HC := hide hc
  clear hc hQ hR
  go_enter Tryd.func30, Tryd.ntmps30
  go_wp2_with fail
  refine (unhide HC _).mono ?_
  rintro e w1 ⟨rfl, b1⟩
  go_wp2
  go_ret3
  exact ⟨ret_three rfl rfl rfl, b1⟩

end Go.Proofs.YtohgekhjaodehaaDoor
