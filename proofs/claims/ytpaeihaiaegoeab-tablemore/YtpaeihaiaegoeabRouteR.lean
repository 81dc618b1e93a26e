/- Route of the document. -/
import Derived.Test.YtpaeihaiaegoeabRoute
namespace Go.Proofs.Ytpaeihaiaegoeab
open Go.RowKit

/-- A clamped table as a value. -/
theorem clamp_shape (T : Tab) : ∃ v3 v4 v5 v6 v7 v8 v9 v10 : Int, T.clamp.val = .agg #[.int .i64 (T.B : Int), .int .i64 (T.D : Int), .int .i64 (T.N : Int), .int .i64 v3, .int .i64 v4, .int .i64 v5, .int .i64 v6, .int .i64 v7, .int .i64 v8, .int .i64 v9, .int .i64 v10] :=
  ⟨T.clamp.d, T.clamp.r, T.clamp.l, T.clamp.x, T.clamp.p, T.clamp.k, T.clamp.s, T.clamp.e, by rw [← T.hB, ← T.hD, ← T.hN]; rfl⟩

/-- All old cells and marks read as before. -/
theorem bcell {W w1 : World} (hb : Below W.heap.size W w1) : (∀ b o, b < W.heap.size → w1.cell? ⟨b, o, none⟩ = W.cell? ⟨b, o, none⟩) ∧ (∀ b o, b < W.heap.size → w1.frozen? ⟨b, o, none⟩ = W.frozen? ⟨b, o, none⟩) :=
  ⟨fun b o h => hb.cell (p := ⟨b, o, none⟩) h, fun b o h => hb.frozen (p := ⟨b, o, none⟩) h⟩

end Go.Proofs.Ytpaeihaiaegoeab
