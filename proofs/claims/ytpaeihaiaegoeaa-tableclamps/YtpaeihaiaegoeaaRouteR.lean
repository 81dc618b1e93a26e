/- Route of the document. -/
import Derived.Test.YtpaeihaiaegoeaaRoute
namespace Go.Proofs.Ytpaeihaiaegoeaa
open Go.RowKit

/-- A clamped table as a value. -/
theorem clamp_shape (T : Tab) : ∃ v3 v4 v5 v6 v7 v8 v9 v10 : Int, T.clamp.val = .agg #[.int .i64 (T.B : Int), .int .i64 (T.D : Int), .int .i64 (T.N : Int), .int .i64 v3, .int .i64 v4, .int .i64 v5, .int .i64 v6, .int .i64 v7, .int .i64 v8, .int .i64 v9, .int .i64 v10] :=
  ⟨T.clamp.d, T.clamp.r, T.clamp.l, T.clamp.x, T.clamp.p, T.clamp.k, T.clamp.s, T.clamp.e, by rw [← T.hB, ← T.hD, ← T.hN]; rfl⟩

/-- All old cells and marks read as before. -/
theorem bcell {W w1 : World} (hb : Below W.heap.size W w1) : (∀ b o, b < W.heap.size → w1.cell? ⟨b, o, none⟩ = W.cell? ⟨b, o, none⟩) ∧ (∀ b o, b < W.heap.size → w1.frozen? ⟨b, o, none⟩ = W.frozen? ⟨b, o, none⟩) :=
  ⟨fun b o h => hb.cell (p := ⟨b, o, none⟩) h, fun b o h => hb.frozen (p := ⟨b, o, none⟩) h⟩

set_option maxHeartbeats 3200000 in
theorem rRoute_one (T : Tab) (n m : Nat) (w : World) (n1 : n ≤ 16384) (m1 : m ≤ n) :
    Calls Try.prog 17 #[T.val, .int .i64 (n : Int), .int .i64 (m : Int)] w fun e w' => e = .returned (.int .i64 (rt T.B T.D T.N n m : Int)) ∧ Below w.heap.size w w' := by
  have bel := hide (fun o => (Below.refl w.heap.size w).alloc (Nat.le_refl _) o)
  have CC := hide (fun w => rclamp_any T w)
  obtain ⟨v3, v4, v5, v6, v7, v8, v9, v10, hV⟩ := clamp_shape T
  rw [hV] at CC
  clear hV
  unfold Tab.val
  generalize T.B = B at *
  generalize T.D = D at *
  generalize T.N = N at *
  unfold rt
  by_cases h0 : m = 0
  · rw [if_pos h0]
    go_enter Try.func17, Try.ntmps17
    go_wp2_with fail
    refine (unhide CC _).mono ?_
    rintro e w1 ⟨rfl, b1⟩
    obtain ⟨hc, hf⟩ := bcell b1
    go_wp2
    go_ret
    refine ⟨rfl, ?_⟩
    iterate 11 refine Below.setCell ?_ (by exact Nat.le_refl _) _
    exact bstep (unhide bel _) b1
  rw [if_neg h0]
  by_cases h1 : m < B
  · rw [if_pos h1]
    go_enter Try.func17, Try.ntmps17
    go_wp2_with fail
    refine (unhide CC _).mono ?_
    rintro e w1 ⟨rfl, b1⟩
    obtain ⟨hc, hf⟩ := bcell b1
    go_wp2
    go_ret
    refine ⟨rfl, ?_⟩
    iterate 11 refine Below.setCell ?_ (by exact Nat.le_refl _) _
    exact bstep (unhide bel _) b1
  rw [if_neg h1]
  by_cases h2 : 2 * m ≤ n + 1
  · rw [if_pos h2]
    go_enter Try.func17, Try.ntmps17
    go_wp2_with fail
    refine (unhide CC _).mono ?_
    rintro e w1 ⟨rfl, b1⟩
    obtain ⟨hc, hf⟩ := bcell b1
    go_wp2
    go_ret
    refine ⟨rfl, ?_⟩
    iterate 11 refine Below.setCell ?_ (by exact Nat.le_refl _) _
    exact bstep (unhide bel _) b1
  rw [if_neg h2]
  by_cases h3 : m < D
  · rw [if_pos h3]
    go_enter Try.func17, Try.ntmps17
    go_wp2_with fail
    refine (unhide CC _).mono ?_
    rintro e w1 ⟨rfl, b1⟩
    obtain ⟨hc, hf⟩ := bcell b1
    go_wp2
    go_ret
    refine ⟨rfl, ?_⟩
    iterate 11 refine Below.setCell ?_ (by exact Nat.le_refl _) _
    exact bstep (unhide bel _) b1
  rw [if_neg h3]
  by_cases h4 : N ≤ n + m
  · rw [if_pos h4]
    go_enter Try.func17, Try.ntmps17
    go_wp2_with fail
    refine (unhide CC _).mono ?_
    rintro e w1 ⟨rfl, b1⟩
    obtain ⟨hc, hf⟩ := bcell b1
    go_wp2
    go_ret
    refine ⟨rfl, ?_⟩
    iterate 11 refine Below.setCell ?_ (by exact Nat.le_refl _) _
    exact bstep (unhide bel _) b1
  rw [if_neg h4]
  by_cases h5 : 2 * ((n + 2) / 3) < m
  · rw [if_pos h5]
    go_enter Try.func17, Try.ntmps17
    go_wp2_with fail
    refine (unhide CC _).mono ?_
    rintro e w1 ⟨rfl, b1⟩
    obtain ⟨hc, hf⟩ := bcell b1
    go_wp2
    go_ret
    refine ⟨rfl, ?_⟩
    iterate 11 refine Below.setCell ?_ (by exact Nat.le_refl _) _
    exact bstep (unhide bel _) b1
  rw [if_neg h5]
  go_enter Try.func17, Try.ntmps17
  go_wp2_with fail
  refine (unhide CC _).mono ?_
  rintro e w1 ⟨rfl, b1⟩
  obtain ⟨hc, hf⟩ := bcell b1
  go_wp2
  go_ret
  refine ⟨rfl, ?_⟩
  iterate 11 refine Below.setCell ?_ (by exact Nat.le_refl _) _
  exact bstep (unhide bel _) b1

set_option maxHeartbeats 3200000 in
theorem rRoute_swap (T : Tab) (n m : Nat) (w : World) (n1 : n ≤ 16384) (m1 : m < n) :
    Calls Try.prog 17 #[T.val, .int .i64 (m : Int), .int .i64 (n : Int)] w fun e w' => e = .returned (.int .i64 (rt T.B T.D T.N n m : Int)) ∧ Below w.heap.size w w' := by
  have bel := hide (fun o => (Below.refl w.heap.size w).alloc (Nat.le_refl _) o)
  have CC := hide (fun w => rclamp_any T w)
  obtain ⟨v3, v4, v5, v6, v7, v8, v9, v10, hV⟩ := clamp_shape T
  rw [hV] at CC
  clear hV
  unfold Tab.val
  generalize T.B = B at *
  generalize T.D = D at *
  generalize T.N = N at *
  unfold rt
  by_cases h0 : m = 0
  · rw [if_pos h0]
    go_enter Try.func17, Try.ntmps17
    go_wp2_with fail
    refine (unhide CC _).mono ?_
    rintro e w1 ⟨rfl, b1⟩
    obtain ⟨hc, hf⟩ := bcell b1
    go_wp2
    go_ret
    refine ⟨rfl, ?_⟩
    iterate 11 refine Below.setCell ?_ (by exact Nat.le_refl _) _
    exact bstep (unhide bel _) b1
  rw [if_neg h0]
  by_cases h1 : m < B
  · rw [if_pos h1]
    go_enter Try.func17, Try.ntmps17
    go_wp2_with fail
    refine (unhide CC _).mono ?_
    rintro e w1 ⟨rfl, b1⟩
    obtain ⟨hc, hf⟩ := bcell b1
    go_wp2
    go_ret
    refine ⟨rfl, ?_⟩
    iterate 11 refine Below.setCell ?_ (by exact Nat.le_refl _) _
    exact bstep (unhide bel _) b1
  rw [if_neg h1]
  by_cases h2 : 2 * m ≤ n + 1
  · rw [if_pos h2]
    go_enter Try.func17, Try.ntmps17
    go_wp2_with fail
    refine (unhide CC _).mono ?_
    rintro e w1 ⟨rfl, b1⟩
    obtain ⟨hc, hf⟩ := bcell b1
    go_wp2
    go_ret
    refine ⟨rfl, ?_⟩
    iterate 11 refine Below.setCell ?_ (by exact Nat.le_refl _) _
    exact bstep (unhide bel _) b1
  rw [if_neg h2]
  by_cases h3 : m < D
  · rw [if_pos h3]
    go_enter Try.func17, Try.ntmps17
    go_wp2_with fail
    refine (unhide CC _).mono ?_
    rintro e w1 ⟨rfl, b1⟩
    obtain ⟨hc, hf⟩ := bcell b1
    go_wp2
    go_ret
    refine ⟨rfl, ?_⟩
    iterate 11 refine Below.setCell ?_ (by exact Nat.le_refl _) _
    exact bstep (unhide bel _) b1
  rw [if_neg h3]
  by_cases h4 : N ≤ n + m
  · rw [if_pos h4]
    go_enter Try.func17, Try.ntmps17
    go_wp2_with fail
    refine (unhide CC _).mono ?_
    rintro e w1 ⟨rfl, b1⟩
    obtain ⟨hc, hf⟩ := bcell b1
    go_wp2
    go_ret
    refine ⟨rfl, ?_⟩
    iterate 11 refine Below.setCell ?_ (by exact Nat.le_refl _) _
    exact bstep (unhide bel _) b1
  rw [if_neg h4]
  by_cases h5 : 2 * ((n + 2) / 3) < m
  · rw [if_pos h5]
    go_enter Try.func17, Try.ntmps17
    go_wp2_with fail
    refine (unhide CC _).mono ?_
    rintro e w1 ⟨rfl, b1⟩
    obtain ⟨hc, hf⟩ := bcell b1
    go_wp2
    go_ret
    refine ⟨rfl, ?_⟩
    iterate 11 refine Below.setCell ?_ (by exact Nat.le_refl _) _
    exact bstep (unhide bel _) b1
  rw [if_neg h5]
  go_enter Try.func17, Try.ntmps17
  go_wp2_with fail
  refine (unhide CC _).mono ?_
  rintro e w1 ⟨rfl, b1⟩
  obtain ⟨hc, hf⟩ := bcell b1
  go_wp2
  go_ret
  refine ⟨rfl, ?_⟩
  iterate 11 refine Below.setCell ?_ (by exact Nat.le_refl _) _
  exact bstep (unhide bel _) b1

set_option maxHeartbeats 3200000 in
theorem rRoute_no (T : Tab) (n m : Int) (w : World) (h : n < 0 ∨ m < 0 ∨ 16384 < n ∨ 16384 < m) :
    Calls Try.prog 17 #[T.val, .int .i64 n, .int .i64 m] w fun e w' => e = .returned (.int .i64 0) ∧ Below w.heap.size w w' := by
  have bel := hide (fun o => (Below.refl w.heap.size w).alloc (Nat.le_refl _) o)
  unfold Tab.val
  by_cases a1 : n < 0 <;> by_cases a3 : m < 0 <;> by_cases a2 : 16384 < n <;> by_cases a4 : 16384 < m
  all_goals first | (exfalso; omega) | skip
  all_goals
    go_enter Try.func17, Try.ntmps17
    go_wp2
    go_ret
    exact ⟨rfl, unhide bel _⟩

theorem rRoute_any (T : Tab) (n m : Int) (w : World) :
    Calls Try.prog 17 #[T.val, .int .i64 n, .int .i64 m] w fun e w' => e = .returned (.int .i64 (rtT T n m)) ∧ Below w.heap.size w w' := by
  by_cases h : 0 ≤ n ∧ n ≤ 16384 ∧ 0 ≤ m ∧ m ≤ 16384
  · obtain ⟨a1, a2, a3, a4⟩ := h
    obtain ⟨n, rfl⟩ := Int.eq_ofNat_of_zero_le a1
    obtain ⟨m, rfl⟩ := Int.eq_ofNat_of_zero_le a3
    by_cases hm : m ≤ n
    · rw [rtT_nat T hm (by omega)]
      exact rRoute_one T n m w (by omega) hm
    · rw [rtT_comm, rtT_nat T (show n ≤ m by omega) (by omega)]
      exact rRoute_swap T m n w (by omega) (by omega)
  · rw [rtT_out T h]
    exact rRoute_no T n m w (by omega)

end Go.Proofs.Ytpaeihaiaegoeaa
