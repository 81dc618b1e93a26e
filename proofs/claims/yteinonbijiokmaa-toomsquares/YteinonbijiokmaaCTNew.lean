/- A Tune: New. -/
import Derived.Test.YteinonbijiokmaaCTab
import Derived.Test.YteinonbijiokmaaCMet
namespace Go.Proofs.Yteinonbijiokmaa
open Go.RowKit

/-- At block g lies a Tune: a meter that has spent nothing, and a clamped table. -/
structure Tune (w : World) (g : Nat) (T : Tab) : Prop where
  row : w.heap[g]? = some (.cells #[.int .i64 0, .int .i64 0, .int .i64 0, .int .i64 T.clamp.b, .int .i64 T.clamp.t, .int .i64 T.clamp.n, .int .i64 T.clamp.d, .int .i64 T.clamp.r, .int .i64 T.clamp.l, .int .i64 T.clamp.x, .int .i64 T.clamp.p, .int .i64 T.clamp.k, .int .i64 T.clamp.s, .int .i64 T.clamp.e] 75 (0, 0))
theorem Tune.lt {w : World} {g : Nat} {T : Tab} (h : Tune w g T) : g < w.heap.size := by
  obtain ⟨i, _⟩ := Array.getElem?_eq_some_iff.1 h.row; exact i
theorem Tune.next {w w' : World} {g : Nat} {T : Tab} (h : Tune w g T) (b : Below w.heap.size w w') : Tune w' g T := ⟨(b.block g h.lt).trans h.row⟩
theorem Tune.met {w : World} {g : Nat} {T : Tab} (h : Tune w g T) : Met w g 0 0 0 0 :=
  ⟨cell_of_row _ g 0 _ _ _ h.row, cell_of_row _ g 1 _ _ _ h.row, cell_of_row _ g 2 _ _ _ h.row, frozen_of_row _ g 0 _ _ h.row, frozen_of_row _ g 1 _ _ h.row, frozen_of_row _ g 2 _ _ h.row⟩

set_option maxHeartbeats 1600000 in
theorem new_any (T : Tab) (w : World) :
    Calls Try.prog 97 #[T.val] w fun e w' => ∃ g, e = .returned (.pointer (some ⟨g, 0, none⟩)) ∧ Tune w' g T ∧ w.heap.size ≤ g ∧ Below w.heap.size w w' := by
  have bel := hide (fun o => (Below.refl w.heap.size w).alloc (Nat.le_refl _) o)
  have CC := hide (fun w => clamp_any T w)
  have TN : Hid (∀ w1 : World, Tune (w1.alloc (.cells #[.int .i64 0, .int .i64 0, .int .i64 0, .int .i64 T.clamp.b, .int .i64 T.clamp.t, .int .i64 T.clamp.n, .int .i64 T.clamp.d, .int .i64 T.clamp.r, .int .i64 T.clamp.l, .int .i64 T.clamp.x, .int .i64 T.clamp.p, .int .i64 T.clamp.k, .int .i64 T.clamp.s, .int .i64 T.clamp.e] 75)) w1.heap.size T) := fun w1 => ⟨heap_alloc_new w1 _⟩
  unfold Tab.val at CC ⊢
  generalize T.clamp.b = t0 at CC TN
  generalize T.clamp.t = t1 at CC TN
  generalize T.clamp.n = t2 at CC TN
  generalize T.clamp.d = t3 at CC TN
  generalize T.clamp.r = t4 at CC TN
  generalize T.clamp.l = t5 at CC TN
  generalize T.clamp.x = t6 at CC TN
  generalize T.clamp.p = t7 at CC TN
  generalize T.clamp.k = t8 at CC TN
  generalize T.clamp.s = t9 at CC TN
  generalize T.clamp.e = t10 at CC TN
  go_enter Try.func97, Try.ntmps97
  go_wp2_with (go_at_call 105; refine (unhide CC _).mono ?_; rintro e w1 ⟨rfl, b1⟩)
  go_ret
  have b0 := bstep (unhide bel _) b1
  exact ⟨_, rfl, unhide TN _, b0.size, b0.alloc b0.size _⟩

end Go.Proofs.Yteinonbijiokmaa
