/- What the laws of chapter 4 call besides: New, the Route of a Tune, a length, the document's example. -/
import Derived.Test.YtpaeihaiaegoeaaLeast
import Derived.Test.YtpaeihaiaegoeaaRouteT
import Derived.Test.YtpaeihaiaegoeaaRouteR
import Derived.Test.YtpaeihaiaegoeaaWithinK
import Derived.Test.YtpaeihaiaegoeaaMet
namespace Go.Proofs.Ytpaeihaiaegoeaa
open Go.RowKit

/-- At block g lies a Tune: a meter that has spent nothing, and a clamped table. -/
structure Tune (w : World) (g : Nat) (T : Tab) : Prop where
  row : w.heap[g]? = some (.cells #[.int .i64 0, .int .i64 0, .int .i64 0, .int .i64 T.clamp.b, .int .i64 T.clamp.t, .int .i64 T.clamp.n, .int .i64 T.clamp.d, .int .i64 T.clamp.r, .int .i64 T.clamp.l, .int .i64 T.clamp.x, .int .i64 T.clamp.p, .int .i64 T.clamp.k, .int .i64 T.clamp.s, .int .i64 T.clamp.e] 31 (0, 0))
theorem Tune.lt {w : World} {g : Nat} {T : Tab} (h : Tune w g T) : g < w.heap.size := by
  obtain ⟨i, _⟩ := Array.getElem?_eq_some_iff.1 h.row; exact i
theorem Tune.next {w w' : World} {g : Nat} {T : Tab} (h : Tune w g T) (b : Below w.heap.size w w') : Tune w' g T := ⟨(b.block g h.lt).trans h.row⟩
theorem Tune.met {w : World} {g : Nat} {T : Tab} (h : Tune w g T) : Met w g 0 0 0 0 :=
  ⟨cell_of_row _ g 0 _ _ _ h.row, cell_of_row _ g 1 _ _ _ h.row, cell_of_row _ g 2 _ _ _ h.row, frozen_of_row _ g 0 _ _ h.row, frozen_of_row _ g 1 _ _ h.row, frozen_of_row _ g 2 _ _ h.row⟩

set_option maxHeartbeats 1600000 in
theorem new_any (T : Tab) (w : World) :
    Calls Try.prog 10 #[T.val] w fun e w' => ∃ g, e = .returned (.pointer (some ⟨g, 0, none⟩)) ∧ Tune w' g T ∧ w.heap.size ≤ g ∧ Below w.heap.size w w' := by
  have bel := hide (fun o => (Below.refl w.heap.size w).alloc (Nat.le_refl _) o)
  have CC := hide (fun w => clamp_any T w)
  have TN : Hid (∀ w1 : World, Tune (w1.alloc (.cells #[.int .i64 0, .int .i64 0, .int .i64 0, .int .i64 T.clamp.b, .int .i64 T.clamp.t, .int .i64 T.clamp.n, .int .i64 T.clamp.d, .int .i64 T.clamp.r, .int .i64 T.clamp.l, .int .i64 T.clamp.x, .int .i64 T.clamp.p, .int .i64 T.clamp.k, .int .i64 T.clamp.s, .int .i64 T.clamp.e] 31)) w1.heap.size T) := fun w1 => ⟨heap_alloc_new w1 _⟩
  unfold Tab.val at CC ⊢
  generalize T.clamp.b = t0 at CC TN
  generalize T.clamp.t = t1 at CC TN
  generalize T.clamp.n = t2 at CC TN
  generalize T.clamp.d = t3 at CC TN
  generalize T.clamp.r = t4 at CC TN
  generalize T.clamp.l = t5 at CC TN
  generalize T.clamp.x = t6 at CC TN
  generalize T.clamp.p = t7 at CC TN
  generalize T.clamp.k = t8 at CC TN
  generalize T.clamp.s = t9 at CC TN
  generalize T.clamp.e = t10 at CC TN
  go_enter Try.func10, Try.ntmps10
  go_wp2_with (go_at_call 9; refine (unhide CC _).mono ?_; rintro e w1 ⟨rfl, b1⟩)
  go_ret
  have b0 := bstep (unhide bel _) b1
  exact ⟨_, rfl, unhide TN _, b0.size, b0.alloc b0.size _⟩

theorem rtT_clamp (T : Tab) (n m : Int) : rtT T.clamp n m = rtT T n m := by unfold rtT; rw [T.B_clamp, T.D_clamp, T.N_clamp]
theorem costT_clamp (T : Tab) (n m : Int) : costT T.clamp n m = costT T n m := by unfold costT; rw [T.B_clamp, T.D_clamp, T.N_clamp]
theorem sqT_clamp (T : Tab) (n : Int) : sqT T.clamp n = sqT T n := by unfold sqT; rw [T.B_clamp, T.D_clamp, T.N_clamp]

set_option maxHeartbeats 1600000 in
theorem tuneRoute_any {T : Tab} {w : World} {g : Nat} (h : Tune w g T) (n m : Int) :
    Calls Try.prog 19 #[.pointer (some ⟨g, 0, none⟩), .int .i64 n, .int .i64 m] w fun e w' => e = .returned (.int .i64 (rtT T n m)) ∧ Below w.heap.size w w' := by
  have CR := hide (fun w => tRoute_any T.clamp n m w)
  rw [rtT_clamp] at CR
  have c3 : w.cell? ⟨g, 3, none⟩ = some (.int .i64 T.clamp.b) := cell_of_row _ g 3 _ _ _ h.row
  have c4 : w.cell? ⟨g, 4, none⟩ = some (.int .i64 T.clamp.t) := cell_of_row _ g 4 _ _ _ h.row
  have c5 : w.cell? ⟨g, 5, none⟩ = some (.int .i64 T.clamp.n) := cell_of_row _ g 5 _ _ _ h.row
  have c6 : w.cell? ⟨g, 6, none⟩ = some (.int .i64 T.clamp.d) := cell_of_row _ g 6 _ _ _ h.row
  have c7 : w.cell? ⟨g, 7, none⟩ = some (.int .i64 T.clamp.r) := cell_of_row _ g 7 _ _ _ h.row
  have c8 : w.cell? ⟨g, 8, none⟩ = some (.int .i64 T.clamp.l) := cell_of_row _ g 8 _ _ _ h.row
  have c9 : w.cell? ⟨g, 9, none⟩ = some (.int .i64 T.clamp.x) := cell_of_row _ g 9 _ _ _ h.row
  have c10 : w.cell? ⟨g, 10, none⟩ = some (.int .i64 T.clamp.p) := cell_of_row _ g 10 _ _ _ h.row
  have c11 : w.cell? ⟨g, 11, none⟩ = some (.int .i64 T.clamp.k) := cell_of_row _ g 11 _ _ _ h.row
  have c12 : w.cell? ⟨g, 12, none⟩ = some (.int .i64 T.clamp.s) := cell_of_row _ g 12 _ _ _ h.row
  have c13 : w.cell? ⟨g, 13, none⟩ = some (.int .i64 T.clamp.e) := cell_of_row _ g 13 _ _ _ h.row
  clear h
  unfold Tab.val at CR
  generalize T.clamp.b = t0 at CR c3
  generalize T.clamp.t = t1 at CR c4
  generalize T.clamp.n = t2 at CR c5
  generalize T.clamp.d = t3 at CR c6
  generalize T.clamp.r = t4 at CR c7
  generalize T.clamp.l = t5 at CR c8
  generalize T.clamp.x = t6 at CR c9
  generalize T.clamp.p = t7 at CR c10
  generalize T.clamp.k = t8 at CR c11
  generalize T.clamp.s = t9 at CR c12
  generalize T.clamp.e = t10 at CR c13
  go_enter Try.func19, Try.ntmps19
  go_wp2_with (go_at_call 18; refine (unhide CR _).mono ?_; rintro e w1 ⟨rfl, b1⟩)
  go_ret
  exact ⟨rfl, b1⟩

/-- Any number as a length that is played. -/
def lenT (n : Int) : Int := if n < 0 ∨ 400 < n then n % 400 else n
theorem lenT_low (n : Int) : 0 ≤ lenT n := by unfold lenT; split <;> omega
theorem lenT_high (n : Int) : lenT n ≤ 400 := by unfold lenT; split <;> omega

set_option maxHeartbeats 1600000 in
theorem lawLength_any (n : Int) (w : World) (h1 : -9223372036854775808 ≤ n) (h2 : n ≤ 9223372036854775807) :
    Calls Try.prog 16 #[.int .i64 n] w fun e w' => e = .returned (.int .i64 (lenT n)) ∧ w' = w := by
  have CW := hide (fun w => within_any n 400 w h1 h2 (by omega) (by omega))
  unfold lenT
  by_cases a : n < 0
  · rw [if_pos (Or.inl a)]
    go_enter Try.func16, Try.ntmps16
    go_wp2_with (go_at_call 28; refine (unhide CW _).mono ?_; rintro e w' ⟨rfl, rfl⟩)
    go_ret
    exact ⟨rfl, rfl⟩
  · by_cases b : 400 < n
    · rw [if_pos (Or.inr b)]
      go_enter Try.func16, Try.ntmps16
      go_wp2_with (go_at_call 28; refine (unhide CW _).mono ?_; rintro e w' ⟨rfl, rfl⟩)
      go_ret
      exact ⟨rfl, rfl⟩
    · rw [if_neg (by omega)]
      go_enter Try.func16, Try.ntmps16
      go_wp2_with fail
      go_ret
      exact ⟨rfl, rfl⟩

/-- A table of noughts. -/
def Tab.zero : Tab := ⟨0, 0, 0, 0, 0, 0, 0, 0, 0, 0, 0⟩
theorem wake_cost : costT (leastT 1 (fun _ => 4)) 4 4 = 17 := by decide +kernel
theorem wake_base : Tab.zero.clamp.b = 4 := by decide +kernel
theorem irow_one (w : World) (x : Int) (t : Nat) (h1 : -9223372036854775808 ≤ x) (h2 : x ≤ 9223372036854775807) : IRow (w.alloc (.cells #[.int .i64 x] t)) (some ⟨w.heap.size, 0, none⟩) w.heap.size 0 1 (fun _ => x) :=
  ⟨fun _ => rfl, fun j hj => by
    obtain rfl : j = 0 := by omega
    exact cell_of_row _ w.heap.size 0 _ t (0, 0) (heap_alloc_new w _), fun _ _ => h1, fun _ _ => h2⟩

set_option maxHeartbeats 1600000 in
theorem tabWakes_any (w : World) : Calls Try.prog 15 #[] w fun e w' => e = .returned (.bool true) ∧ Below w.heap.size w w' := by
  have bel := hide (fun o => (Below.refl w.heap.size w).alloc (Nat.le_refl _) o)
  have CL := hide (fun (w : World) => tLeast_any (w.alloc (.cells #[.int .i64 4] 3)) _ _ _ _ 1 _ (irow_one w 4 3 (by omega) (by omega)))
  have CT := hide (fun w => tCost_any (leastT 1 (fun _ => 4)) 4 4 w (by omega) (by omega) (by omega) (by omega))
  rw [wake_cost] at CT
  have CC := hide (fun w => clamp_any Tab.zero w)
  obtain ⟨V, hV⟩ : ∃ V, (leastT 1 (fun _ => 4)).val = V := ⟨_, rfl⟩
  rw [hV] at CL CT
  clear hV
  obtain ⟨v1, v2, v3, v4, v5, v6, v7, v8, v9, v10, hU⟩ : ∃ v1 v2 v3 v4 v5 v6 v7 v8 v9 v10 : Int, Tab.zero.clamp.val = .agg #[.int .i64 4, .int .i64 v1, .int .i64 v2, .int .i64 v3, .int .i64 v4, .int .i64 v5, .int .i64 v6, .int .i64 v7, .int .i64 v8, .int .i64 v9, .int .i64 v10] :=
    ⟨Tab.zero.clamp.t, Tab.zero.clamp.n, Tab.zero.clamp.d, Tab.zero.clamp.r, Tab.zero.clamp.l, Tab.zero.clamp.x, Tab.zero.clamp.p, Tab.zero.clamp.k, Tab.zero.clamp.s, Tab.zero.clamp.e, by rw [← wake_base]; rfl⟩
  rw [hU] at CC
  clear hU
  have hfd : ∀ w : World, (Instr.field 23 (.agg #[.int .i64 4, .int .i64 v1, .int .i64 v2, .int .i64 v3, .int .i64 v4, .int .i64 v5, .int .i64 v6, .int .i64 v7, .int .i64 v8, .int .i64 v9, .int .i64 v10]) 0).run Try.prog w = .ok (.int .i64 4) w := fun _ => by kernel_rfl
  go_enter Try.func15, Try.ntmps15
  go_wp2_with (first | (go_at_call 13; refine (unhide CL _).mono ?_; rintro e w1 ⟨rfl, b1⟩) | (go_at_call 20; refine (unhide CT _).mono ?_; rintro e w2 ⟨rfl, b2⟩) | (go_at_call 9; refine (unhide CC _).mono ?_; rintro e w3 ⟨rfl, b3⟩))
  go_ret
  exact ⟨rfl, bstep (bstep (bstep (unhide bel _) b1) b2) b3⟩

end Go.Proofs.Ytpaeihaiaegoeaa
