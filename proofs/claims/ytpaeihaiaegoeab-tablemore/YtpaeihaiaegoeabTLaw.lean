/- What the laws of chapter 4 call besides: a length, the document's example. -/
import Derived.Test.YtpaeihaiaegoeabLeast
import Derived.Test.YtpaeihaiaegoeabRouteT
import Derived.Test.YtpaeihaiaegoeabRouteR
import Derived.Test.YtpaeihaiaegoeabWithinK
namespace Go.Proofs.Ytpaeihaiaegoeab
open Go.RowKit

theorem rtT_clamp (T : Tab) (n m : Int) : rtT T.clamp n m = rtT T n m := by unfold rtT; rw [T.B_clamp, T.D_clamp, T.N_clamp]
theorem costT_clamp (T : Tab) (n m : Int) : costT T.clamp n m = costT T n m := by unfold costT; rw [T.B_clamp, T.D_clamp, T.N_clamp]
theorem sqT_clamp (T : Tab) (n : Int) : sqT T.clamp n = sqT T n := by unfold sqT; rw [T.B_clamp, T.D_clamp, T.N_clamp]

/-- Any number as a length that is played. -/
def lenT (n : Int) : Int := if n < 0 ∨ 400 < n then n % 400 else n
theorem lenT_low (n : Int) : 0 ≤ lenT n := by unfold lenT; split <;> omega
theorem lenT_high (n : Int) : lenT n ≤ 400 := by unfold lenT; split <;> omega

set_option maxHeartbeats 1600000 in
theorem lawLength_any (n : Int) (w : World) (h1 : -9223372036854775808 ≤ n) (h2 : n ≤ 9223372036854775807) :
    Calls Try.prog 4 #[.int .i64 n] w fun e w' => e = .returned (.int .i64 (lenT n)) ∧ w' = w := by
  have CW := hide (fun w => within_any n 400 w h1 h2 (by omega) (by omega))
  unfold lenT
  by_cases a : n < 0
  · rw [if_pos (Or.inl a)]
    go_enter Try.func4, Try.ntmps4
    go_wp2_with (go_at_call 10; refine (unhide CW _).mono ?_; rintro e w' ⟨rfl, rfl⟩)
    go_ret
    exact ⟨rfl, rfl⟩
  · by_cases b : 400 < n
    · rw [if_pos (Or.inr b)]
      go_enter Try.func4, Try.ntmps4
      go_wp2_with (go_at_call 10; refine (unhide CW _).mono ?_; rintro e w' ⟨rfl, rfl⟩)
      go_ret
      exact ⟨rfl, rfl⟩
    · rw [if_neg (by omega)]
      go_enter Try.func4, Try.ntmps4
      go_wp2_with fail
      go_ret
      exact ⟨rfl, rfl⟩

/-- A table of noughts. -/
def Tab.zero : Tab := ⟨0, 0, 0, 0, 0, 0, 0, 0, 0, 0, 0⟩
theorem wake_cost : costT (leastT 1 (fun _ => 4)) 4 4 = 17 := by decide +kernel
theorem wake_base : Tab.zero.clamp.b = 4 := by decide +kernel
theorem irow_one (w : World) (x : Int) (t : Nat) (h1 : -9223372036854775808 ≤ x) (h2 : x ≤ 9223372036854775807) : IRow (w.alloc (.cells #[.int .i64 x] t)) (some ⟨w.heap.size, 0, none⟩) w.heap.size 0 1 (fun _ => x) :=
  ⟨fun _ => rfl, fun j hj => by
    obtain rfl : j = 0 := by omega
    exact cell_of_row _ w.heap.size 0 _ t (0, 0) (heap_alloc_new w _), fun _ _ => h1, fun _ _ => h2⟩

set_option maxHeartbeats 1600000 in
theorem tabWakes_any (w : World) : Calls Try.prog 9 #[] w fun e w' => e = .returned (.bool true) ∧ Below w.heap.size w w' := by
  have bel := hide (fun o => (Below.refl w.heap.size w).alloc (Nat.le_refl _) o)
  have CL := hide (fun (w : World) => tLeast_any (w.alloc (.cells #[.int .i64 4] 3)) _ _ _ _ 1 _ (irow_one w 4 3 (by omega) (by omega)))
  have CT := hide (fun w => tCost_any (leastT 1 (fun _ => 4)) 4 4 w (by omega) (by omega) (by omega) (by omega))
  rw [wake_cost] at CT
  have CC := hide (fun w => clamp_any Tab.zero w)
  obtain ⟨V, hV⟩ : ∃ V, (leastT 1 (fun _ => 4)).val = V := ⟨_, rfl⟩
  rw [hV] at CL CT
  clear hV
  obtain ⟨v1, v2, v3, v4, v5, v6, v7, v8, v9, v10, hU⟩ : ∃ v1 v2 v3 v4 v5 v6 v7 v8 v9 v10 : Int, Tab.zero.clamp.val = .agg #[.int .i64 4, .int .i64 v1, .int .i64 v2, .int .i64 v3, .int .i64 v4, .int .i64 v5, .int .i64 v6, .int .i64 v7, .int .i64 v8, .int .i64 v9, .int .i64 v10] :=
    ⟨Tab.zero.clamp.t, Tab.zero.clamp.n, Tab.zero.clamp.d, Tab.zero.clamp.r, Tab.zero.clamp.l, Tab.zero.clamp.x, Tab.zero.clamp.p, Tab.zero.clamp.k, Tab.zero.clamp.s, Tab.zero.clamp.e, by rw [← wake_base]; rfl⟩
  rw [hU] at CC
  clear hU
  have hfd : ∀ w : World, (Instr.field 23 (.agg #[.int .i64 4, .int .i64 v1, .int .i64 v2, .int .i64 v3, .int .i64 v4, .int .i64 v5, .int .i64 v6, .int .i64 v7, .int .i64 v8, .int .i64 v9, .int .i64 v10]) 0).run Try.prog w = .ok (.int .i64 4) w := fun _ => by kernel_rfl
  go_enter Try.func9, Try.ntmps9
  go_wp2_with (first | (go_at_call 15; refine (unhide CL _).mono ?_; rintro e w1 ⟨rfl, b1⟩) | (go_at_call 7; refine (unhide CT _).mono ?_; rintro e w2 ⟨rfl, b2⟩) | (go_at_call 5; refine (unhide CC _).mono ?_; rintro e w3 ⟨rfl, b3⟩))
  go_ret
  exact ⟨rfl, bstep (bstep (bstep (unhide bel _) b1) b2) b3⟩

end Go.Proofs.Ytpaeihaiaegoeab
