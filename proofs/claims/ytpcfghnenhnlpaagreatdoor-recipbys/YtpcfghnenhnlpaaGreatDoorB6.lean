/- The three primes, of the code and of the reference. -/
import Derived.Test.YtpcfghnenhnlpaaGreatDoorB2
import Derived.Test.YtpcfghnenhnlpaaGreatDoorB3
namespace Go.Proofs.YtpcfghnenhnlpaaGreatDoor
open Go.RowKit

set_option maxHeartbeats 1600000 in
theorem primesThree_any (w : World) :
    Calls Tryz.prog 145 #[] w fun e w' => e = .returned (.agg #[.int .u64 180143985094819841, .int .i64 55, .int .u64 6, .int .u64 1945555039024054273, .int .i64 56, .int .u64 5, .int .u64 4179340454199820289, .int .i64 57, .int .u64 3]) ∧ Below w.heap.size w w' := by
  go_enter Tryz.func145, Tryz.ntmps145
  go_wp2
  refine bodyPost_ret (v := .agg #[.int .u64 180143985094819841, .int .i64 55, .int .u64 6, .int .u64 1945555039024054273, .int .i64 56, .int .u64 5, .int .u64 4179340454199820289, .int .i64 57, .int .u64 3]) (by simp [results, Tryz.results145, go_sem]) rfl ⟨rfl, ?_⟩
  exact (Below.refl _ _).alloc (Nat.le_refl _) _

end Go.Proofs.YtpcfghnenhnlpaaGreatDoor
