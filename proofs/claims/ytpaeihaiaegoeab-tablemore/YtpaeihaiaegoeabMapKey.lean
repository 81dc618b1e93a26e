/- A map whose keys are pairs of whole numbers: what a key reads as. -/
import Derived.Test.YtpaeihaiaegoeabTab
import Derived.Maps.OwnSet
import Derived.DeepKeys4
namespace Go.Proofs.Ytpaeihaiaegoeab
open Go.RowKit Go.Maps

theorem laidOutP : laidOutB Try.prog = true := by kernel_rfl
theorem keyLaw : WideMaps.KeyLaw Try.prog 44 := deep_law_laid laidOutP (m := 2) (by omega) (of_decide_eq_true (by kernel_rfl)) (by kernel_rfl) (by kernel_rfl)
theorem keyed : Keyed Try.prog 44 := Keyed.of_law keyLaw

/-- The key of a pair. -/
theorem key_pair (a b : Int) (ha : (Lit.int .i64 a).wf = true) (hb : (Lit.int .i64 b).wf = true) : ∃ kl, keyOf Try.prog 44 (.agg #[.int .i64 a, .int .i64 b]) = some kl := by
  have h1 : Try.prog.keyType 44 = true := by kernel_rfl
  have h2 : Try.prog.cellsOf 44 = 2 := by kernel_rfl
  have h3 : Try.prog.cellsOf 3 = 1 := by kernel_rfl
  have h4 : ∃ s, Try.prog.types.size = s + 1 := ⟨Try.prog.types.size - 1, by have : 0 < Try.prog.types.size := of_decide_eq_true (by kernel_rfl); omega⟩
  obtain ⟨s, hs⟩ := h4
  unfold keyOf
  rw [Try.underlying44]
  simp only [h1, Value.formed, Try.underlying44, h2]
  rw [hs]
  simp [Program.keyLits, Try.underlying44, Try.underlying3, h2, h3, Value.cells, List.range, List.range.loop, ha, hb]

end Go.Proofs.Ytpaeihaiaegoeab
