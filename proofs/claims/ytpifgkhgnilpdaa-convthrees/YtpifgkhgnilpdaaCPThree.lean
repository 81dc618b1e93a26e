/- The three primes, of the code and of the reference. -/
import Derived.Test.YtpifgkhgnilpdaaCPPlain
import Derived.Test.YtpifgkhgnilpdaaM2
namespace Go.Proofs.Ytpifgkhgnilpdaa
open Go.RowKit

set_option maxHeartbeats 1600000 in
theorem primesThree_any (w : World) :
    Calls Try.prog 26 #[] w fun e w' => e = .returned (.agg #[.int .u64 180143985094819841, .int .i64 55, .int .u64 6, .int .u64 1945555039024054273, .int .i64 56, .int .u64 5, .int .u64 4179340454199820289, .int .i64 57, .int .u64 3]) ∧ Below w.heap.size w w' := by
  go_enter Try.func26, Try.ntmps26
  go_wp2
  refine bodyPost_ret (v := .agg #[.int .u64 180143985094819841, .int .i64 55, .int .u64 6, .int .u64 1945555039024054273, .int .i64 56, .int .u64 5, .int .u64 4179340454199820289, .int .i64 57, .int .u64 3]) (by simp [results, Try.results26, go_sem]) rfl ⟨rfl, ?_⟩
  exact (Below.refl _ _).alloc (Nat.le_refl _) _

set_option maxHeartbeats 1600000 in
theorem rThree_any (w : World) :
    Calls Try.prog 7 #[] w fun e w' => e = .returned (.agg #[.int .u64 180143985094819841, .int .u64 1945555039024054273, .int .u64 4179340454199820289]) ∧ Below w.heap.size w w' := by
  go_enter Try.func7, Try.ntmps7
  go_wp2
  refine bodyPost_ret (v := .agg #[.int .u64 180143985094819841, .int .u64 1945555039024054273, .int .u64 4179340454199820289]) (by simp [results, Try.results7, go_sem]) rfl ⟨rfl, ?_⟩
  exact (Below.refl _ _).alloc (Nat.le_refl _) _

end Go.Proofs.Ytpifgkhgnilpdaa
