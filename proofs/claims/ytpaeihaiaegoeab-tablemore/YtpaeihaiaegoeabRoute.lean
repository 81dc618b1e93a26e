/- Which way a product goes: package table's Route, and the document's. -/
import Derived.Test.YtpaeihaiaegoeabTab
namespace Go.Proofs.Ytpaeihaiaegoeab
open Go.RowKit

set_option maxHeartbeats 400000 in
theorem tlength_any (n : Int) (w : World) :
    Calls Try.prog 12 #[.int .i64 n] w fun e w' => e = .returned (.bool (decide (0 ≤ n) && decide (n ≤ 16384))) ∧ w' = w := by
  by_cases h1 : 0 ≤ n <;> by_cases h2 : n ≤ 16384
  all_goals
    go_enter Try.func12, Try.ntmps12
    go_wp2
    go_ret
    exact ⟨by simp [*], rfl⟩

theorem tlength_yes (n : Int) (w : World) (h1 : 0 ≤ n) (h2 : n ≤ 16384) : Calls Try.prog 12 #[.int .i64 n] w fun e w' => e = .returned (.bool true) ∧ w' = w :=
  (tlength_any n w).mono fun e w' ⟨a, b⟩ => ⟨by rw [a]; simp [h1, h2], b⟩
theorem tlength_no (n : Int) (w : World) (h : n < 0 ∨ 16384 < n) : Calls Try.prog 12 #[.int .i64 n] w fun e w' => e = .returned (.bool false) ∧ w' = w :=
  (tlength_any n w).mono fun e w' ⟨a, b⟩ => ⟨by rw [a]; rcases h with h | h <;> simp <;> omega, b⟩

set_option maxHeartbeats 1600000 in
theorem route_any (T : Tab) (B D N n m : Nat) (hb : T.b = (B : Int)) (ht : T.t = (D : Int)) (hn : T.n = (N : Int)) (n1 : n ≤ 100000) (m1 : m ≤ 100000) (w : World) :
    Calls Try.prog 18 #[T.val, .int .i64 (n : Int), .int .i64 (m : Int)] w fun e w' => e = .returned (.int .i64 (rt B D N n m : Int)) ∧ Below w.heap.size w w' := by
  unfold Tab.val
  rw [hb, ht, hn]
  clear hb ht hn
  unfold rt
  have bel := fun o => (Below.refl w.heap.size w).alloc (Nat.le_refl _) o
  by_cases h0 : m = 0
  · rw [if_pos h0]
    go_enter Try.func18, Try.ntmps18
    go_wp2
    go_ret
    exact ⟨rfl, bel _⟩
  rw [if_neg h0]
  by_cases h1 : m < B
  · rw [if_pos h1]
    go_enter Try.func18, Try.ntmps18
    go_wp2
    go_ret
    exact ⟨rfl, bel _⟩
  rw [if_neg h1]
  by_cases h2 : 2 * m ≤ n + 1
  · rw [if_pos h2]
    go_enter Try.func18, Try.ntmps18
    go_wp2
    go_ret
    exact ⟨rfl, bel _⟩
  rw [if_neg h2]
  by_cases h3 : m < D
  · rw [if_pos h3]
    go_enter Try.func18, Try.ntmps18
    go_wp2
    go_ret
    exact ⟨rfl, bel _⟩
  rw [if_neg h3]
  by_cases h4 : N ≤ n + m
  · rw [if_pos h4]
    go_enter Try.func18, Try.ntmps18
    go_wp2
    go_ret
    exact ⟨rfl, bel _⟩
  rw [if_neg h4]
  by_cases h5 : 2 * ((n + 2) / 3) < m
  · rw [if_pos h5]
    go_enter Try.func18, Try.ntmps18
    go_wp2
    go_ret
    exact ⟨rfl, bel _⟩
  rw [if_neg h5]
  go_enter Try.func18, Try.ntmps18
  go_wp2
  go_ret
  exact ⟨rfl, bel _⟩

/-- The three entries that choose a way, as naturals. -/
def Tab.B (T : Tab) : Nat := T.clamp.b.toNat
def Tab.D (T : Tab) : Nat := T.clamp.t.toNat
def Tab.N (T : Tab) : Nat := T.clamp.n.toNat
theorem Tab.hB (T : Tab) : T.clamp.b = (T.B : Int) := by have := cl_low (n := T.b) (lo := 4) (hi := 64) (by omega); unfold Tab.B; show cl _ _ _ = _; have e : T.clamp.b = cl T.b 4 64 := rfl; omega
theorem Tab.hD (T : Tab) : T.clamp.t = (T.D : Int) := by have := cl_low (n := T.t) (lo := 12) (hi := 8192) (by omega); unfold Tab.D; show cl _ _ _ = _; have e : T.clamp.t = cl T.t 12 8192 := rfl; omega
theorem Tab.hN (T : Tab) : T.clamp.n = (T.N : Int) := by have := cl_low (n := T.n) (lo := 64) (hi := 16384) (by omega); unfold Tab.N; show cl _ _ _ = _; have e : T.clamp.n = cl T.n 64 16384 := rfl; omega
theorem Tab.ent (T : Tab) : Ent T.B T.D T.N := by
  have a1 := T.hB; have a2 := T.hD; have a3 := T.hN
  have e1 : T.clamp.b = cl T.b 4 64 := rfl
  have e2 : T.clamp.t = cl T.t 12 8192 := rfl
  have e3 : T.clamp.n = cl T.n 64 16384 := rfl
  have b1 := cl_low (n := T.b) (lo := 4) (hi := 64) (by omega)
  have b2 := cl_high (n := T.b) (lo := 4) (hi := 64)
  have b3 := cl_low (n := T.t) (lo := 12) (hi := 8192) (by omega)
  have b4 := cl_high (n := T.t) (lo := 12) (hi := 8192)
  have b5 := cl_low (n := T.n) (lo := 64) (hi := 16384) (by omega)
  have b6 := cl_high (n := T.n) (lo := 64) (hi := 16384)
  exact ⟨by omega, by omega, by omega, by omega, by omega, by omega⟩
theorem Tab.B_clamp (T : Tab) : T.clamp.B = T.B := by unfold Tab.B; rw [T.clamp_clamp]
theorem Tab.D_clamp (T : Tab) : T.clamp.D = T.D := by unfold Tab.D; rw [T.clamp_clamp]
theorem Tab.N_clamp (T : Tab) : T.clamp.N = T.N := by unfold Tab.N; rw [T.clamp_clamp]

/-- Which way a product of n by m words goes, by any table, of any lengths. -/
def rtT (T : Tab) (n m : Int) : Int :=
  if 0 ≤ n ∧ n ≤ 16384 ∧ 0 ≤ m ∧ m ≤ 16384 then (rt T.B T.D T.N (max n m).toNat (min n m).toNat : Int) else 0
theorem rtT_comm (T : Tab) (n m : Int) : rtT T n m = rtT T m n := by
  unfold rtT
  rw [show max n m = max m n from by omega, show min n m = min m n from by omega]
  by_cases h : 0 ≤ n ∧ n ≤ 16384 ∧ 0 ≤ m ∧ m ≤ 16384
  · rw [if_pos h, if_pos (by omega)]
  · rw [if_neg h, if_neg (by omega)]
theorem rtT_nat (T : Tab) {n m : Nat} (hm : m ≤ n) (hn : n ≤ 16384) : rtT T (n : Int) (m : Int) = (rt T.B T.D T.N n m : Int) := by
  unfold rtT
  rw [if_pos (by omega), show (max (n : Int) (m : Int)).toNat = n from by omega, show (min (n : Int) (m : Int)).toNat = m from by omega]
theorem rtT_out (T : Tab) {n m : Int} (h : ¬ (0 ≤ n ∧ n ≤ 16384 ∧ 0 ≤ m ∧ m ≤ 16384)) : rtT T n m = 0 := by unfold rtT; rw [if_neg h]

theorem route_int (T : Tab) (n m : Int) (w : World) (h1 : 0 ≤ m) (h2 : m ≤ n) (h3 : n ≤ 16384) :
    Calls Try.prog 18 #[T.clamp.val, .int .i64 n, .int .i64 m] w fun e w' => e = .returned (.int .i64 (rtT T n m)) ∧ Below w.heap.size w w' := by
  obtain ⟨m, rfl⟩ := Int.eq_ofNat_of_zero_le h1
  obtain ⟨n, rfl⟩ := Int.eq_ofNat_of_zero_le (show 0 ≤ n by omega)
  rw [rtT_nat T (by omega) (by omega)]
  exact route_any T.clamp T.B T.D T.N n m T.hB T.hD T.hN (by omega) (by omega) w

end Go.Proofs.Ytpaeihaiaegoeab
