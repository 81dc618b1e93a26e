/- The pieces of a product in memory; what School and Ntt cost. -/
import Derived.Test.YtpaeihaiaegoeabTParts
import Derived.Test.YtpaeihaiaegoeabTfm
import Derived.Test.YtpaeihaiaegoeabRouteT
namespace Go.Proofs.Ytpaeihaiaegoeab
open Go.RowKit

/-- Block g holds the pieces of a way. -/
def PartsAt (w : World) (g way n m : Nat) : Prop :=
  ∀ i, i < pK way → w.cell? ⟨g, i * 3, none⟩ = some (.int .i64 (pN way n m i : Int)) ∧ w.cell? ⟨g, i * 3 + 1, none⟩ = some (.int .i64 (pM way n m i : Int)) ∧ w.cell? ⟨g, i * 3 + 2, none⟩ = some (.int .i64 (pT way n m i : Int))

theorem parts_six {w : World} {t n m : Nat} {a0 a1 a2 a3 a4 a5 : Int} (e0 : a0 = (pN 2 n m 0 : Int)) (e1 : a1 = (pM 2 n m 0 : Int)) (e2 : a2 = (pT 2 n m 0 : Int)) (e3 : a3 = (pN 2 n m 1 : Int)) (e4 : a4 = (pM 2 n m 1 : Int)) (e5 : a5 = (pT 2 n m 1 : Int)) :
    PartsAt (w.alloc (.cells #[.int .i64 a0, .int .i64 a1, .int .i64 a2, .int .i64 a3, .int .i64 a4, .int .i64 a5] t)) w.heap.size 2 n m := by
  have hk : (w.alloc (.cells #[.int .i64 a0, .int .i64 a1, .int .i64 a2, .int .i64 a3, .int .i64 a4, .int .i64 a5] t)).heap[w.heap.size]? = some (.cells #[.int .i64 a0, .int .i64 a1, .int .i64 a2, .int .i64 a3, .int .i64 a4, .int .i64 a5] t (0, 0)) := heap_alloc_new w _
  intro i hi
  simp only [pK, if_true] at hi
  have : i = 0 ∨ i = 1 := by omega
  subst e0 e1 e2 e3 e4 e5
  rcases this with rfl | rfl
  · exact ⟨cell_of_row _ w.heap.size 0 _ t (0, 0) hk, cell_of_row _ w.heap.size 1 _ t (0, 0) hk, cell_of_row _ w.heap.size 2 _ t (0, 0) hk⟩
  · exact ⟨cell_of_row _ w.heap.size 3 _ t (0, 0) hk, cell_of_row _ w.heap.size 4 _ t (0, 0) hk, cell_of_row _ w.heap.size 5 _ t (0, 0) hk⟩
theorem parts_nine {w : World} {t way n m : Nat} {a0 a1 a2 a3 a4 a5 a6 a7 a8 : Int} (e0 : a0 = (pN way n m 0 : Int)) (e1 : a1 = (pM way n m 0 : Int)) (e2 : a2 = (pT way n m 0 : Int)) (e3 : a3 = (pN way n m 1 : Int)) (e4 : a4 = (pM way n m 1 : Int)) (e5 : a5 = (pT way n m 1 : Int))
    (e6 : a6 = (pN way n m 2 : Int)) (e7 : a7 = (pM way n m 2 : Int)) (e8 : a8 = (pT way n m 2 : Int)) :
    PartsAt (w.alloc (.cells #[.int .i64 a0, .int .i64 a1, .int .i64 a2, .int .i64 a3, .int .i64 a4, .int .i64 a5, .int .i64 a6, .int .i64 a7, .int .i64 a8] t)) w.heap.size way n m := by
  have hk : (w.alloc (.cells #[.int .i64 a0, .int .i64 a1, .int .i64 a2, .int .i64 a3, .int .i64 a4, .int .i64 a5, .int .i64 a6, .int .i64 a7, .int .i64 a8] t)).heap[w.heap.size]? = some (.cells #[.int .i64 a0, .int .i64 a1, .int .i64 a2, .int .i64 a3, .int .i64 a4, .int .i64 a5, .int .i64 a6, .int .i64 a7, .int .i64 a8] t (0, 0)) := heap_alloc_new w _
  intro i hi
  have hi3 : i < 3 := by unfold pK at hi; split at hi <;> omega
  have : i = 0 ∨ i = 1 ∨ i = 2 := by omega
  subst e0 e1 e2 e3 e4 e5 e6 e7 e8
  rcases this with rfl | rfl | rfl
  · exact ⟨cell_of_row _ w.heap.size 0 _ t (0, 0) hk, cell_of_row _ w.heap.size 1 _ t (0, 0) hk, cell_of_row _ w.heap.size 2 _ t (0, 0) hk⟩
  · exact ⟨cell_of_row _ w.heap.size 3 _ t (0, 0) hk, cell_of_row _ w.heap.size 4 _ t (0, 0) hk, cell_of_row _ w.heap.size 5 _ t (0, 0) hk⟩
  · exact ⟨cell_of_row _ w.heap.size 6 _ t (0, 0) hk, cell_of_row _ w.heap.size 7 _ t (0, 0) hk, cell_of_row _ w.heap.size 8 _ t (0, 0) hk⟩

set_option maxHeartbeats 1600000 in
theorem parts_two (n m : Nat) (w : World) (h1 : 0 < m) (h2 : n ≤ 16384) :
    Calls Try.prog 21 #[.int .i64 2, .int .i64 (n : Int), .int .i64 (m : Int)] w fun e w' => ∃ g, e = .returned (.slice (some ⟨g, 0, none⟩) (pK 2) (pK 2)) ∧ PartsAt w' g 2 n m ∧ w.heap.size ≤ g ∧ g < w'.heap.size ∧ Below w.heap.size w w' := by
  have h3 : (m : Int) ≠ 0 := by omega
  have E : Hid (wrap64 ((n : Int) / (m : Int)) = ((n / m : Nat) : Int)) := by
    show _ = _
    have := Nat.div_le_self n m
    rw [← Int.natCast_ediv]
    unfold wrap64
    generalize n / m = q at *
    omega
  go_enter Try.func21, Try.ntmps21
  go_wp2
  go_region
  all_goals go_wp2
  go_ret
  exact ⟨_, rfl, parts_six (by simp [pN]) (by simp [pM]) (by rw [unhide E]; simp [pT]) (by simp [pN]) (by simp [pM]) (by simp [pT]), Nat.le_refl _, by simp, ((Below.refl _ _).alloc (Nat.le_refl _) _).drew⟩

set_option maxHeartbeats 1600000 in
theorem parts_three (n m : Nat) (w : World) (h1 : m ≤ n) (h2 : n ≤ 16384) (h3 : n + 1 < 2 * m) :
    Calls Try.prog 21 #[.int .i64 3, .int .i64 (n : Int), .int .i64 (m : Int)] w fun e w' => ∃ g, e = .returned (.slice (some ⟨g, 0, none⟩) (pK 3) (pK 3)) ∧ PartsAt w' g 3 n m ∧ w.heap.size ≤ g ∧ g < w'.heap.size ∧ Below w.heap.size w w' := by
  go_enter Try.func21, Try.ntmps21
  go_wp2
  go_ret
  exact ⟨_, rfl, parts_nine (by simp [pN]) (by simp [pM]) (by simp [pT]) (by simp [pN]; omega) (by simp [pM]; omega) (by simp [pT]) (by simp [pN]) (by simp [pM]) (by simp [pT]), Nat.le_refl _, by simp, (Below.refl _ _).alloc (Nat.le_refl _) _⟩

set_option maxHeartbeats 1600000 in
theorem parts_four (n m : Nat) (w : World) (h1 : m ≤ n) (h2 : n ≤ 16384) (h3 : 2 * ((n + 2) / 3) < m) :
    Calls Try.prog 21 #[.int .i64 4, .int .i64 (n : Int), .int .i64 (m : Int)] w fun e w' => ∃ g, e = .returned (.slice (some ⟨g, 0, none⟩) (pK 4) (pK 4)) ∧ PartsAt w' g 4 n m ∧ w.heap.size ≤ g ∧ g < w'.heap.size ∧ Below w.heap.size w w' := by
  go_enter Try.func21, Try.ntmps21
  go_wp2
  go_ret
  exact ⟨_, rfl, parts_nine (by simp [pN]) (by simp [pM]) (by simp [pT]) (by simp [pN]) (by simp [pM]) (by simp [pT]) (by simp [pN]; omega) (by simp [pM]; omega) (by simp [pT]), Nat.le_refl _, by simp, (Below.refl _ _).alloc (Nat.le_refl _) _⟩

theorem PartsAt.next {w w' : World} {g way n m : Nat} (h : PartsAt w g way n m) (hg : g < w.heap.size) (b : Below w.heap.size w w') : PartsAt w' g way n m := fun i hi => by
  obtain ⟨a, b', c⟩ := h i hi
  exact ⟨(b.cell (p := ⟨g, i * 3, none⟩) hg).trans a, (b.cell (p := ⟨g, i * 3 + 1, none⟩) hg).trans b', (b.cell (p := ⟨g, i * 3 + 2, none⟩) hg).trans c⟩
theorem PartsAt.but {w w' : World} {g way n m k : Nat} (h : PartsAt w g way n m) (b : w.grownBy w' (some k)) (hk : g ≠ k) : PartsAt w' g way n m := fun i hi => by
  obtain ⟨x, y, z⟩ := h i hi
  exact ⟨b.cell x (by simpa using hk), b.cell y (by simpa using hk), b.cell z (by simpa using hk)⟩

end Go.Proofs.Ytpaeihaiaegoeab
