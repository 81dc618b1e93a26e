/- The table: its eleven entries; Clamp, of package table and of the document. -/
import Derived.Test.YtpifgkhgnilpdaaDoorM3
import Derived.Test.YtpifgkhgnilpdaaDoorM1
import Derived.StillTailTactics
import Derived.Deep.QuietTactic
import Derived.BigQuiet
import Derived.WalkSmall
import Derived.RegionTactic
namespace Go.Proofs.YtpifgkhgnilpdaaDoor
open Go.RowKit

/-- The entries of a table, in their order. -/
structure Tab where
  b : Int
  t : Int
  n : Int
  d : Int
  r : Int
  l : Int
  x : Int
  p : Int
  k : Int
  s : Int
  e : Int

/-- A table as a value. -/
def Tab.val (T : Tab) : Value := .agg #[.int .i64 T.b, .int .i64 T.t, .int .i64 T.n, .int .i64 T.d, .int .i64 T.r, .int .i64 T.l, .int .i64 T.x, .int .i64 T.p, .int .i64 T.k, .int .i64 T.s, .int .i64 T.e]

/-- A number brought into a range. -/
def cl (n lo hi : Int) : Int := min (max n lo) hi

/-- A table whose entries are brought into their ranges. -/
def Tab.clamp (T : Tab) : Tab :=
  ⟨cl T.b 4 64, cl T.t 12 8192, cl T.n 64 16384, cl T.d 4 1024, cl T.r 4 4096, cl T.l 2 1024, cl T.x 2 1024, cl T.p 4 256, cl T.k 4 1024, cl T.s 2 1024, cl T.e 2 256⟩

theorem cl_low {n lo hi : Int} (h : lo ≤ hi) : lo ≤ cl n lo hi := by unfold cl; omega
theorem cl_high {n lo hi : Int} : cl n lo hi ≤ hi := by unfold cl; omega
theorem cl_cl {n lo hi : Int} (h : lo ≤ hi) : cl (cl n lo hi) lo hi = cl n lo hi := by unfold cl; omega
theorem Tab.clamp_clamp (T : Tab) : T.clamp.clamp = T.clamp := by simp [Tab.clamp, cl_cl]

/-- A region that draws its order, whose first n operations leave the world alone, the rest waiting for them all. -/
theorem still_tail {P : Program} {id : Nat} {Q : Exit → Act → World → Prop} {a : Act} {w : World} {l : List Oper} (n : Nat) (hm : P.follows .mixedOrders = true) (hB : Region.lexTailB .any l.toArray n = true)
    (h : wpStill P l.toArray w.drew (fun a' => wpList P l.toArray Q (l.drop n) a' w.drew) (l.take n) a) : (Code.region id l.toArray true).wp P Q a w := wp_region_still_tail n hm hB h

end Go.Proofs.YtpifgkhgnilpdaaDoor

/- Which way a product goes: package table's Route, and the document's. -/
namespace Go.Proofs.YtpifgkhgnilpdaaDoor
open Go.RowKit

set_option maxHeartbeats 400000 in
theorem tlength_any (n : Int) (w : World) :
    Calls Tryd.prog 32 #[.int .i64 n] w fun e w' => e = .returned (.bool (decide (0 ≤ n) && decide (n ≤ 16384))) ∧ w' = w := by
  by_cases h1 : 0 ≤ n <;> by_cases h2 : n ≤ 16384
  all_goals
    go_enter Tryd.func32, Tryd.ntmps32
    go_wp2
    go_ret
    exact ⟨by simp [*], rfl⟩

theorem tlength_yes (n : Int) (w : World) (h1 : 0 ≤ n) (h2 : n ≤ 16384) : Calls Tryd.prog 32 #[.int .i64 n] w fun e w' => e = .returned (.bool true) ∧ w' = w :=
  (tlength_any n w).mono fun e w' ⟨a, b⟩ => ⟨by rw [a]; simp [h1, h2], b⟩
theorem tlength_no (n : Int) (w : World) (h : n < 0 ∨ 16384 < n) : Calls Tryd.prog 32 #[.int .i64 n] w fun e w' => e = .returned (.bool false) ∧ w' = w :=
  (tlength_any n w).mono fun e w' ⟨a, b⟩ => ⟨by rw [a]; rcases h with h | h <;> simp <;> omega, b⟩

/-- The three entries that choose a way, as naturals. -/
def Tab.B (T : Tab) : Nat := T.clamp.b.toNat
def Tab.D (T : Tab) : Nat := T.clamp.t.toNat
def Tab.N (T : Tab) : Nat := T.clamp.n.toNat
theorem Tab.hB (T : Tab) : T.clamp.b = (T.B : Int) := by have := cl_low (n := T.b) (lo := 4) (hi := 64) (by omega); unfold Tab.B; show cl _ _ _ = _; have e : T.clamp.b = cl T.b 4 64 := rfl; omega
theorem Tab.hD (T : Tab) : T.clamp.t = (T.D : Int) := by have := cl_low (n := T.t) (lo := 12) (hi := 8192) (by omega); unfold Tab.D; show cl _ _ _ = _; have e : T.clamp.t = cl T.t 12 8192 := rfl; omega
theorem Tab.hN (T : Tab) : T.clamp.n = (T.N : Int) := by have := cl_low (n := T.n) (lo := 64) (hi := 16384) (by omega); unfold Tab.N; show cl _ _ _ = _; have e : T.clamp.n = cl T.n 64 16384 := rfl; omega
theorem Tab.ent (T : Tab) : Ent T.B T.D T.N := by
  have a1 := T.hB; have a2 := T.hD; have a3 := T.hN
  have e1 : T.clamp.b = cl T.b 4 64 := rfl
  have e2 : T.clamp.t = cl T.t 12 8192 := rfl
  have e3 : T.clamp.n = cl T.n 64 16384 := rfl
  have b1 := cl_low (n := T.b) (lo := 4) (hi := 64) (by omega)
  have b2 := cl_high (n := T.b) (lo := 4) (hi := 64)
  have b3 := cl_low (n := T.t) (lo := 12) (hi := 8192) (by omega)
  have b4 := cl_high (n := T.t) (lo := 12) (hi := 8192)
  have b5 := cl_low (n := T.n) (lo := 64) (hi := 16384) (by omega)
  have b6 := cl_high (n := T.n) (lo := 64) (hi := 16384)
  exact ⟨by omega, by omega, by omega, by omega, by omega, by omega⟩
theorem Tab.B_clamp (T : Tab) : T.clamp.B = T.B := by unfold Tab.B; rw [T.clamp_clamp]
theorem Tab.D_clamp (T : Tab) : T.clamp.D = T.D := by unfold Tab.D; rw [T.clamp_clamp]
theorem Tab.N_clamp (T : Tab) : T.clamp.N = T.N := by unfold Tab.N; rw [T.clamp_clamp]

/-- Which way a product of n by m words goes, by any table, of any lengths. -/
def rtT (T : Tab) (n m : Int) : Int :=
  if 0 ≤ n ∧ n ≤ 16384 ∧ 0 ≤ m ∧ m ≤ 16384 then (rt T.B T.D T.N (max n m).toNat (min n m).toNat : Int) else 0
theorem rtT_comm (T : Tab) (n m : Int) : rtT T n m = rtT T m n := by
  unfold rtT
  rw [show max n m = max m n from by omega, show min n m = min m n from by omega]
  by_cases h : 0 ≤ n ∧ n ≤ 16384 ∧ 0 ≤ m ∧ m ≤ 16384
  · rw [if_pos h, if_pos (by omega)]
  · rw [if_neg h, if_neg (by omega)]
theorem rtT_nat (T : Tab) {n m : Nat} (hm : m ≤ n) (hn : n ≤ 16384) : rtT T (n : Int) (m : Int) = (rt T.B T.D T.N n m : Int) := by
  unfold rtT
  rw [if_pos (by omega), show (max (n : Int) (m : Int)).toNat = n from by omega, show (min (n : Int) (m : Int)).toNat = m from by omega]
theorem rtT_out (T : Tab) {n m : Int} (h : ¬ (0 ≤ n ∧ n ≤ 16384 ∧ 0 ≤ m ∧ m ≤ 16384)) : rtT T n m = 0 := by unfold rtT; rw [if_neg h]

end Go.Proofs.YtpifgkhgnilpdaaDoor
