/- Cost of the document. -/
import Derived.Test.YtofgbmfaehnmnaaGreatDoorB17
import Derived.Test.YtofgbmfaehnmnaaGreatDoorB22
import Derived.Test.YtofgbmfaehnmnaaGreatDoorB1
import Derived.Deep.RegionWith
import Derived.Deep.RegionHeld3
import Derived.Test.YtofgbmfaehnmnaaGreatDoorB8
namespace Go.Proofs.YtofgbmfaehnmnaaGreatDoor
open Go.RowKit

/-- At block g lies a table. -/
structure TabAt (w : World) (g : Nat) (T : Tab) : Prop where
  c0 : w.cell? ⟨g, 0, none⟩ = some (.int .i64 T.b)
  c1 : w.cell? ⟨g, 1, none⟩ = some (.int .i64 T.t)
  c2 : w.cell? ⟨g, 2, none⟩ = some (.int .i64 T.n)
  c3 : w.cell? ⟨g, 3, none⟩ = some (.int .i64 T.d)
  c4 : w.cell? ⟨g, 4, none⟩ = some (.int .i64 T.r)
  c5 : w.cell? ⟨g, 5, none⟩ = some (.int .i64 T.l)
  c6 : w.cell? ⟨g, 6, none⟩ = some (.int .i64 T.x)
  c7 : w.cell? ⟨g, 7, none⟩ = some (.int .i64 T.p)
  c8 : w.cell? ⟨g, 8, none⟩ = some (.int .i64 T.k)
  c9 : w.cell? ⟨g, 9, none⟩ = some (.int .i64 T.s)
  c10 : w.cell? ⟨g, 10, none⟩ = some (.int .i64 T.e)

theorem TabAt.next {w w' : World} {g : Nat} {T : Tab} (h : TabAt w g T) (b : Below w.heap.size w w') : TabAt w' g T := by
  have hg : g < w.heap.size := World.block_lt_of_cell? _ _ h.c0
  exact ⟨(b.cell (p := ⟨g, 0, none⟩) hg).trans h.c0, (b.cell (p := ⟨g, 1, none⟩) hg).trans h.c1, (b.cell (p := ⟨g, 2, none⟩) hg).trans h.c2, (b.cell (p := ⟨g, 3, none⟩) hg).trans h.c3, (b.cell (p := ⟨g, 4, none⟩) hg).trans h.c4, (b.cell (p := ⟨g, 5, none⟩) hg).trans h.c5, (b.cell (p := ⟨g, 6, none⟩) hg).trans h.c6, (b.cell (p := ⟨g, 7, none⟩) hg).trans h.c7, (b.cell (p := ⟨g, 8, none⟩) hg).trans h.c8, (b.cell (p := ⟨g, 9, none⟩) hg).trans h.c9, (b.cell (p := ⟨g, 10, none⟩) hg).trans h.c10⟩
theorem tabAt_new (w : World) (T : Tab) (t : Nat) : TabAt (w.alloc (.cells #[.int .i64 T.b, .int .i64 T.t, .int .i64 T.n, .int .i64 T.d, .int .i64 T.r, .int .i64 T.l, .int .i64 T.x, .int .i64 T.p, .int .i64 T.k, .int .i64 T.s, .int .i64 T.e] t)) w.heap.size T := by
  have hk := heap_alloc_new w (.cells #[.int .i64 T.b, .int .i64 T.t, .int .i64 T.n, .int .i64 T.d, .int .i64 T.r, .int .i64 T.l, .int .i64 T.x, .int .i64 T.p, .int .i64 T.k, .int .i64 T.s, .int .i64 T.e] t)
  exact ⟨cell_of_row _ w.heap.size 0 _ t (0, 0) hk, cell_of_row _ w.heap.size 1 _ t (0, 0) hk, cell_of_row _ w.heap.size 2 _ t (0, 0) hk, cell_of_row _ w.heap.size 3 _ t (0, 0) hk, cell_of_row _ w.heap.size 4 _ t (0, 0) hk, cell_of_row _ w.heap.size 5 _ t (0, 0) hk, cell_of_row _ w.heap.size 6 _ t (0, 0) hk, cell_of_row _ w.heap.size 7 _ t (0, 0) hk, cell_of_row _ w.heap.size 8 _ t (0, 0) hk, cell_of_row _ w.heap.size 9 _ t (0, 0) hk, cell_of_row _ w.heap.size 10 _ t (0, 0) hk⟩

theorem add_three {a b c d : Nat} (e : d = a + b + c) (h : d ≤ 2147483648) : wrap64 (wrap64 ((a : Int) + (b : Int)) + (c : Int)) = (d : Int) := by unfold wrap64; omega
theorem add_four {a b c d : Nat} (e : d = a + 3 * b + c) (h : d ≤ 2147483648) : wrap64 (wrap64 ((a : Int) + wrap64 (3 * (b : Int))) + (c : Int)) = (d : Int) := by unfold wrap64; omega
theorem cst_small (T : Tab) {n m : Nat} (hm : m ≤ n) (hn : n ≤ 16384) : cst T.B T.D T.N n m ≤ 2147483648 :=
  Nat.le_trans (cst_le T.ent (n + 1) n m (Nat.lt_succ_self n) hm) (Nat.mul_le_mul_left 8 (Nat.mul_le_mul hn (Nat.le_trans hm hn)))
theorem sqt_small (T : Tab) {n : Nat} (hn : n ≤ 16384) : sqt T.B T.D T.N n ≤ 2147483648 :=
  Nat.le_trans (sqt_eight T.ent n) (Nat.mul_le_mul_left 8 (Nat.mul_le_mul hn hn))

theorem fin_three (T : Tab) (n m : Nat) (hm : m ≤ n) (hn : n ≤ 16384) (r : rt T.B T.D T.N n m = 3) (h1 : T.B ≤ m) (h2 : n + 1 < 2 * m) :
    wrap64 (wrap64 (costT T (((n : Int) + 1) / 2) (((n : Int) + 1) / 2) + costT T ((n : Int) - ((n : Int) + 1) / 2) ((m : Int) - ((n : Int) + 1) / 2)) + costT T (((n : Int) + 1) / 2 + 1) (((n : Int) + 1) / 2 + 1)) = (cst T.B T.D T.N n m : Int) := by
  have e4 := T.ent.b1
  have g1 : (n + 1) / 2 ≤ 16384 := by omega
  have g2 : m - (n + 1) / 2 ≤ n - (n + 1) / 2 := by omega
  have g3 : n - (n + 1) / 2 ≤ 16384 := by omega
  have g4 : (n + 1) / 2 + 1 ≤ 16384 := by omega
  have k1 : ((n : Int) + 1) / 2 = (((n + 1) / 2 : Nat) : Int) := by omega
  have k2 : (n : Int) - (((n + 1) / 2 : Nat) : Int) = ((n - (n + 1) / 2 : Nat) : Int) := by omega
  have k3 : (m : Int) - (((n + 1) / 2 : Nat) : Int) = ((m - (n + 1) / 2 : Nat) : Int) := by omega
  have k4 : (((n + 1) / 2 : Nat) : Int) + 1 = (((n + 1) / 2 + 1 : Nat) : Int) := by omega
  rw [k1, k2, k3, k4, costT_nat T (Nat.le_refl _) g1, costT_nat T g2 g3, costT_nat T (Nat.le_refl _) g4]
  exact add_three (cst_three T.ent hm r h1 h2) (cst_small T hm hn)
theorem fin_four (T : Tab) (n m : Nat) (hm : m ≤ n) (hn : n ≤ 16384) (r : rt T.B T.D T.N n m = 4) (h1 : T.D ≤ m) (h2 : 2 * ((n + 2) / 3) < m) :
    wrap64 (wrap64 (costT T (((n : Int) + 2) / 3) (((n : Int) + 2) / 3) + wrap64 (3 * costT T (((n : Int) + 2) / 3 + 1) (((n : Int) + 2) / 3 + 1))) + costT T ((n : Int) - 2 * (((n : Int) + 2) / 3)) ((m : Int) - 2 * (((n : Int) + 2) / 3))) = (cst T.B T.D T.N n m : Int) := by
  have e4 := T.ent.t1
  have g1 : (n + 2) / 3 ≤ 16384 := by omega
  have g2 : m - 2 * ((n + 2) / 3) ≤ n - 2 * ((n + 2) / 3) := by omega
  have g3 : n - 2 * ((n + 2) / 3) ≤ 16384 := by omega
  have g4 : (n + 2) / 3 + 1 ≤ 16384 := by omega
  have k1 : ((n : Int) + 2) / 3 = (((n + 2) / 3 : Nat) : Int) := by omega
  have k2 : (n : Int) - 2 * (((n + 2) / 3 : Nat) : Int) = ((n - 2 * ((n + 2) / 3) : Nat) : Int) := by omega
  have k3 : (m : Int) - 2 * (((n + 2) / 3 : Nat) : Int) = ((m - 2 * ((n + 2) / 3) : Nat) : Int) := by omega
  have k4 : (((n + 2) / 3 : Nat) : Int) + 1 = (((n + 2) / 3 + 1 : Nat) : Int) := by omega
  rw [k1, k2, k3, k4, costT_nat T (Nat.le_refl _) g1, costT_nat T (Nat.le_refl _) g4, costT_nat T g2 g3]
  exact add_four (cst_four T.ent hm r h1 h2) (cst_small T hm hn)

end Go.Proofs.YtofgbmfaehnmnaaGreatDoor
