/- The example of the document, and the meter's laws: what a call's own meter is. -/
import Derived.Test.YtpamgdngfoocnaaMet
namespace Go.Proofs.Ytpamgdngfoocnaa
open Go.RowKit

/-- A meter that was just laid has spent nothing. -/
theorem met_new (w : World) (t : Nat) : Met (w.alloc (.cells #[.int .i64 0, .int .i64 0, .int .i64 0] t)) w.heap.size 0 0 0 0 := by
  have hk : (w.alloc (.cells #[.int .i64 0, .int .i64 0, .int .i64 0] t)).heap[w.heap.size]? = some (.cells #[.int .i64 0, .int .i64 0, .int .i64 0] t (0, 0)) := heap_alloc_new w _
  exact ⟨cell_of_row _ w.heap.size 0 _ t (0, 0) hk, cell_of_row _ w.heap.size 1 _ t (0, 0) hk, cell_of_row _ w.heap.size 2 _ t (0, 0) hk, frozen_of_row _ w.heap.size 0 _ _ hk, frozen_of_row _ w.heap.size 1 _ _ hk, frozen_of_row _ w.heap.size 2 _ _ hk⟩

/-- The meter, and that all which was ahead of the call is as it was. -/
structure Own (w W : World) (g o : Nat) (s l m : Int) : Prop where
  met : Met W g o s l m
  old : Below w.heap.size w W
  out : w.heap.size ≤ g

theorem Own.step {w W W' : World} {g o : Nat} {s l m s' l' m' : Int} (h : Own w W g o s l m) (k : Met W' g o s' l' m') (t : Touch g o 3 W W') : Own w W' g o s' l' m' :=
  ⟨k, Touch.below h.old t h.out h.old.size, h.out⟩
theorem Own.next {w W W' : World} {g o : Nat} {s l m : Int} (h : Own w W g o s l m) (b : Below W.heap.size W W') : Own w W' g o s l m :=
  ⟨h.met.next b, bstep h.old b, h.out⟩

theorem own_new (w : World) (t : Nat) : Own w (w.alloc (.cells #[.int .i64 0, .int .i64 0, .int .i64 0] t)) w.heap.size 0 0 0 0 :=
  ⟨met_new w t, (Below.refl _ _).alloc (Nat.le_refl _) _, Nat.le_refl _⟩

set_option maxHeartbeats 1600000 in
theorem meterWakes_any (w : World) : Calls Try.prog 14 #[] w fun e w' => e = .returned (.bool true) ∧ Below w.heap.size w w' := by
  have ow := own_new w 24
  go_enter Try.func14, Try.ntmps14
  go_wp2_with fail
  refine (enter_any 1 1 ow.met rfl rfl (by omega) (by omega)).mono ?_
  rintro e w1 ⟨rfl, k, t⟩
  have ow := ow.step k t
  clear k t
  go_wp2_with fail
  refine (enter_any 2 2 ow.met rfl rfl (by omega) (by omega)).mono ?_
  rintro e w2 ⟨rfl, k, t⟩
  have ow := ow.step k t
  clear k t
  go_wp2_with fail
  refine (leave_any 1 ow.met rfl (by omega) (by omega)).mono ?_
  rintro e w3 ⟨rfl, k, t⟩
  have ow := ow.step k t
  clear k t
  go_wp2_with fail
  refine (now_any ow.met).mono ?_
  rintro e w4 ⟨rfl, rfl⟩
  go_wp2_with fail
  refine (deep_any ow.met).mono ?_
  rintro e w5 ⟨rfl, rfl⟩
  go_wp2_with fail
  refine (spend_any 3 3 ow.met (by omega) (by omega) rfl).mono ?_
  rintro e w6 ⟨rfl, k, t⟩
  have ow := ow.step k t
  clear k t
  go_wp2
  go_ret
  exact ⟨rfl, ow.old⟩

end Go.Proofs.Ytpamgdngfoocnaa
