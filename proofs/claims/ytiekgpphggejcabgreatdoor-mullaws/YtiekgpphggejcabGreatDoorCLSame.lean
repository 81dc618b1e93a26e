/- Two answers that say the same number have the same words. -/
import Derived.Test.YtiekgpphggejcabGreatDoorB45
import Derived.Test.YtiekgpphggejcabGreatDoorB14
import Derived.Test.YtiekgpphggejcabGreatDoorB32
namespace Go.Proofs.YtiekgpphggejcabGreatDoor
open Go.RowKit

theorem same_two (w : World) (u v : Value) (m n B C p : Nat) (hp : p ≤ 1073741824) (hm : m < 18446744073709551616 ^ p) (e : m = n) (hu : NewW B w u m) (hv : NewW C w v n) :
    Calls Tryz.prog 8 #[u, v] w fun e w' => e = .returned (.bool true) ∧ Below w.heap.size w w' := by
  obtain ⟨ga, b, cap, xs, rfl, hr, hc, hw, _⟩ := hu.rep
  obtain ⟨gb, bb, cb, rfl, rb⟩ := new_words hv hc (hw.trans e)
  have := wlen_le hc (L := p) (by rw [hw]; exact hm)
  exact keepSame_any w ga gb b 0 cap bb 0 cb _ xs rfl (by omega) hr rb

end Go.Proofs.YtiekgpphggejcabGreatDoor
