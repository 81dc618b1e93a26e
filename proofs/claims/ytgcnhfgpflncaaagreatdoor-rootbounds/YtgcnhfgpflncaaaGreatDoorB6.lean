/- The three primes, of the code and of the reference. -/
import Derived.Test.YtgcnhfgpflncaaaGreatDoorB2
import Derived.Test.YtgcnhfgpflncaaaGreatDoorB3
namespace Go.Proofs.YtgcnhfgpflncaaaGreatDoor
open Go.RowKit
set_option maxHeartbeats 1600000 in
theorem jr(w:World):
  Calls Tryz.prog 166 #[] w fun e w'=>e=.returned (.agg #[.int .u64 180143985094819841,.int .i64 55,.int .u64 6,.int .u64 1945555039024054273,.int .i64 56,.int .u64 5,.int .u64 4179340454199820289,.int .i64 57,.int .u64 3])/\Below w.heap.size w w':=by
 go_enter Tryz.func166,Tryz.ntmps166
 go_wp2
 refine bodyPost_ret (v:=.agg #[.int .u64 180143985094819841,.int .i64 55,.int .u64 6,.int .u64 1945555039024054273,.int .i64 56,.int .u64 5,.int .u64 4179340454199820289,.int .i64 57,.int .u64 3]) (by simp[results,Tryz.results166,go_sem]) rfl ⟨rfl,?_⟩
 exact(Below.refl _ _).alloc (Nat.le_refl _) _
end Go.Proofs.YtgcnhfgpflncaaaGreatDoor
