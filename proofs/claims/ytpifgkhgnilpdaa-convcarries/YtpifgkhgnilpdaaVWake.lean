/- Package conv: the example of the document. -/
import Derived.Test.YtpifgkhgnilpdaaVCarry
import Derived.Test.YtpifgkhgnilpdaaKeepS
namespace Go.Proofs.Ytpifgkhgnilpdaa
open Go.RowKit

def exT : Nat → Nat
  | 0 => 18446744073709551621
  | _ => 7
theorem ex_sum : (sN 2 fun k => exT k * 18446744073709551616 ^ k) = wval [5, 8] := by decide +kernel
theorem ex_can : WCan [5, 8] := by
  refine ⟨fun j => ?_, fun _ => by decide⟩
  match j with
  | 0 => decide
  | 1 => decide
  | j + 2 => exact Nat.zero_lt_succ _
theorem ex_tri (w : World) : TriAt (w.alloc (.cells #[.int .u64 5, .int .u64 1, .int .u64 0, .int .u64 7, .int .u64 0, .int .u64 0] 26)) w.heap.size 2 exT := by
  have hk := heap_alloc_new w (.cells #[.int .u64 5, .int .u64 1, .int .u64 0, .int .u64 7, .int .u64 0, .int .u64 0] 26)
  intro k h
  match k, h with
  | 0, _ => exact ⟨5, 1, 0, by decide, by decide, by decide, by decide, cell_of_row _ _ 0 _ _ (0, 0) hk, cell_of_row _ _ 1 _ _ (0, 0) hk, cell_of_row _ _ 2 _ _ (0, 0) hk⟩
  | 1, _ => exact ⟨7, 0, 0, by decide, by decide, by decide, by decide, cell_of_row _ _ 3 _ _ (0, 0) hk, cell_of_row _ _ 4 _ _ (0, 0) hk, cell_of_row _ _ 5 _ _ (0, 0) hk⟩
theorem same_ex {w : World} {B : Nat} {v : Value} (h : NewW B w v (wval [5, 8])) :
    Calls Try.prog 23 #[v, .slice (some ⟨w.heap.size, 0, none⟩) 2 2] (w.alloc (.cells #[.int .u64 5, .int .u64 8] 22)) fun e w' => e = .returned (.bool true) ∧ Below w.heap.size w w' := by
  obtain ⟨ga, b, cap, xs, rfl, hr, hx, hv, _⟩ := h.rep
  obtain rfl := wCan_unique hx ex_can hv
  have hal : Below w.heap.size w (w.alloc (.cells #[.int .u64 5, .int .u64 8] 22)) := (Below.refl _ _).alloc (Nat.le_refl _) _
  have hB : Blk (w.alloc (.cells #[.int .u64 5, .int .u64 8] 22)) w.heap.size [5, 8] := heap_alloc_new w _
  refine (keepSame_any _ ga (some ⟨w.heap.size, 0, none⟩) b 0 cap w.heap.size 0 2 2 [5, 8] rfl (by decide) (hr.next hal) (hB.whole rfl)).mono ?_
  rintro e w' ⟨rfl, b'⟩
  exact ⟨rfl, bstep hal b'⟩

set_option maxRecDepth 100000 in
set_option maxHeartbeats 3200000 in
theorem spec_wakes : SpecWakes := by
  intro w
  have CC := hide (spec_carry _ _ 2 exT (by decide) (.inr ⟨w.heap.size, 2, rfl, Nat.le_refl _, ex_tri w⟩))
  rw [ex_sum] at CC
  have bl : Hid (Below w.heap.size w (w.alloc (.cells #[.int .u64 5, .int .u64 1, .int .u64 0, .int .u64 7, .int .u64 0, .int .u64 0] 26))) := (Below.refl _ _).alloc (Nat.le_refl _) _
  go_enter Try.func12, Try.ntmps12
  go_wp2_with fail
  refine (unhide CC).mono ?_
  rintro e w1 ⟨v, rfl, nv, b⟩
  have bl := hide (bstep (unhide bl) b)
  have CS := hide (same_ex nv)
  clear CC nv b
  go_wp2_with fail
  refine (unhide CS).mono ?_
  rintro e w2 ⟨rfl, b⟩
  have bl := bstep (unhide bl) b
  go_wp2
  go_ret
  exact ⟨rfl, bl⟩

end Go.Proofs.Ytpifgkhgnilpdaa
