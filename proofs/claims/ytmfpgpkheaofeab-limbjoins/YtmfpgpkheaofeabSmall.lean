/- Small, and words as naturals. -/
import Derived.Test.YtmfpgpkheaofeabFrom
namespace Go.Proofs.Ytmfpgpkheaofeab
open Go.RowKit

/-- A row of words that was just laid. -/
theorem rep_new (w : World) (ws : List Nat) (t : TypeId) : Rep (w.alloc (.cells (cellsOf ws).toArray t)) (some ⟨w.heap.size, 0, none⟩) w.heap.size 0 ws.length ws :=
  ⟨fun _ => rfl, Nat.le_refl _, fun j hj => by
    rw [Nat.zero_add, World.cell?_alloc_new]
    simp [List.getElem?_eq_getElem hj]⟩

end Go.Proofs.Ytmfpgpkheaofeab
