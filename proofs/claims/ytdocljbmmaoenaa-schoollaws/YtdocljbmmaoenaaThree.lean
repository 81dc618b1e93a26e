/- Parts that were just laid, joined and summed. -/
import Derived.Test.YtdocljbmmaoenaaRows2
namespace Go.Proofs.Ytdocljbmmaoenaa
open Go.RowKit

theorem parts_three (w : World) (u v x : Value) (m n p t : Nat) (hu : InW w u m) (hv : InW w v n) (hx : InW w x p) : Parts (w.alloc (.cells #[u, v, x] t)) (some ⟨w.heap.size, 0, none⟩) w.heap.size 0 [u, v, x] [m, n, p] := by
  have hb : Below w.heap.size w (w.alloc (.cells #[u, v, x] t)) := (Below.refl _ _).alloc (Nat.le_refl _) _
  refine ⟨fun _ => rfl, rfl, fun j hj => ?_, fun j hj => ?_⟩
  · have hj2 : j < 3 := hj
    rw [Nat.zero_add, cell_of_row _ w.heap.size j #[u, v, x] t (0, 0) (heap_alloc_new w _)]
    match j, hj2 with
    | 0, _ => rfl
    | 1, _ => rfl
    | 2, _ => rfl
  · have hj2 : j < 3 := hj
    match j, hj2 with
    | 0, _ => exact hu.next hb
    | 1, _ => exact hv.next hb
    | 2, _ => exact hx.next hb

theorem sum_three (w : World) (u v x : Value) (m n p : Nat) (hu : InW w u m) (hv : InW w v n) (hx : InW w x p) :
    Calls Try.prog 31 #[.slice (some ⟨w.heap.size, 0, none⟩) 3 3] (w.alloc (.cells #[u, v, x] 29)) fun e w' => ∃ r, e = .returned r ∧ NewW w.heap.size w' r (m + n + p) ∧ Below w.heap.size w w' := by
  have hb : Below w.heap.size w (w.alloc (.cells #[u, v, x] 29)) := (Below.refl _ _).alloc (Nat.le_refl _) _
  refine (sum_w _ _ _ _ 3 3 _ _ rfl (by omega) (parts_three w u v x m n p 29 hu hv hx)).mono ?_
  rintro e w' ⟨r, rfl, hr, h⟩
  have e3 : jsum 0 [m, n, p] 3 = m + n + p := by
    rw [jsum_zero_succ, jsum_zero_succ, jsum_zero_succ]; simp [jsum]
  rw [e3] at hr
  exact ⟨r, rfl, hr.mono hb.size, bstep hb h⟩

theorem join_two (w : World) (u v : Value) (m n k : Nat) (z : Int) (hz : (k : Int) = min (max z 0) 16384) (hu : InW w u m) (hv : InW w v n) :
    Calls Try.prog 40 #[.int .i64 z, .slice (some ⟨w.heap.size, 0, none⟩) 2 2] (w.alloc (.cells #[u, v] 29)) fun e w' => ∃ r, e = .returned r ∧ NewW w.heap.size w' r (m + 18446744073709551616 ^ k * n) ∧ Below w.heap.size w w' := by
  have hb : Below w.heap.size w (w.alloc (.cells #[u, v] 29)) := (Below.refl _ _).alloc (Nat.le_refl _) _
  refine (join_k _ _ _ _ 2 2 k z _ _ rfl (by omega) hz (parts_two w u v m n 29 hu hv)).mono ?_
  rintro e w' ⟨r, rfl, hr, h⟩
  have e2 : jsum k [m, n] 2 = m + 18446744073709551616 ^ k * n := by simp [jsum]
  rw [e2] at hr
  exact ⟨r, rfl, hr.mono hb.size, bstep hb h⟩

end Go.Proofs.Ytdocljbmmaoenaa
