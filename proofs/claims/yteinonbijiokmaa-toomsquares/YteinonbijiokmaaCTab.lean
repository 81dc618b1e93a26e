/- The table: its eleven entries; Clamp, of package table and of the document. -/
import Derived.Test.YteinonbijiokmaaM3
import Derived.Test.YteinonbijiokmaaM1
import Derived.StillTailTactics
import Derived.Deep.QuietTactic
import Derived.BigQuiet
import Derived.WalkSmall
import Derived.RegionTactic
namespace Go.Proofs.Yteinonbijiokmaa
open Go.RowKit

/-- The entries of a table, in their order. -/
structure Tab where
  b : Int
  t : Int
  n : Int
  d : Int
  r : Int
  l : Int
  x : Int
  p : Int
  k : Int
  s : Int
  e : Int

/-- A table as a value. -/
def Tab.val (T : Tab) : Value := .agg #[.int .i64 T.b, .int .i64 T.t, .int .i64 T.n, .int .i64 T.d, .int .i64 T.r, .int .i64 T.l, .int .i64 T.x, .int .i64 T.p, .int .i64 T.k, .int .i64 T.s, .int .i64 T.e]

/-- A number brought into a range. -/
def cl (n lo hi : Int) : Int := min (max n lo) hi

/-- A table whose entries are brought into their ranges. -/
def Tab.clamp (T : Tab) : Tab :=
  ⟨cl T.b 4 64, cl T.t 12 8192, cl T.n 64 16384, cl T.d 4 1024, cl T.r 4 4096, cl T.l 2 1024, cl T.x 2 1024, cl T.p 4 256, cl T.k 4 1024, cl T.s 2 1024, cl T.e 2 256⟩

theorem cl_low {n lo hi : Int} (h : lo ≤ hi) : lo ≤ cl n lo hi := by unfold cl; omega
theorem cl_high {n lo hi : Int} : cl n lo hi ≤ hi := by unfold cl; omega
theorem cl_cl {n lo hi : Int} (h : lo ≤ hi) : cl (cl n lo hi) lo hi = cl n lo hi := by unfold cl; omega
theorem Tab.clamp_clamp (T : Tab) : T.clamp.clamp = T.clamp := by simp [Tab.clamp, cl_cl]

set_option maxHeartbeats 400000 in
theorem twithin_any (n lo hi : Int) (w : World) :
    Calls Try.prog 108 #[.int .i64 n, .int .i64 lo, .int .i64 hi] w fun e w' => e = .returned (.int .i64 (cl n lo hi)) ∧ w' = w := by
  go_enter Try.func108, Try.ntmps108
  go_wp2
  all_goals
    go_ret
    exact ⟨ret_int (by unfold cl; omega), rfl⟩

/-- A region that draws its order, whose first n operations leave the world alone, the rest waiting for them all. -/
theorem still_tail {P : Program} {id : Nat} {Q : Exit → Act → World → Prop} {a : Act} {w : World} {l : List Oper} (n : Nat) (hm : P.follows .mixedOrders = true) (hB : Region.lexTailB .any l.toArray n = true)
    (h : wpStill P l.toArray w.drew (fun a' => wpList P l.toArray Q (l.drop n) a' w.drew) (l.take n) a) : (Code.region id l.toArray true).wp P Q a w := wp_region_still_tail n hm hB h

set_option maxRecDepth 100000 in
set_option maxHeartbeats 6400000 in
theorem clamp_any (T : Tab) (w : World) :
    Calls Try.prog 105 #[T.val] w fun e w' => e = .returned T.clamp.val ∧ Below w.heap.size w w' := by
  unfold Tab.val
  go_enter Try.func105, Try.ntmps105
  go_wp2
  refine still_tail 33 (by kernel_rfl) (by kernel_rfl) ?_
  simp only [List.take_succ_cons, List.take_zero, List.drop_succ_cons, List.drop_zero]
  repeat (first | still_step | still_call (twithin_any _ _ _ _))
  refine wpStill_nil ?_
  go_wp2
  refine bodyPost_ret (v := .agg #[.int .i64 (cl T.b 4 64), .int .i64 (cl T.t 12 8192), .int .i64 (cl T.n 64 16384), .int .i64 (cl T.d 4 1024), .int .i64 (cl T.r 4 4096), .int .i64 (cl T.l 2 1024), .int .i64 (cl T.x 2 1024), .int .i64 (cl T.p 4 256), .int .i64 (cl T.k 4 1024), .int .i64 (cl T.s 2 1024), .int .i64 (cl T.e 2 256)]) (by simp [results, Try.results105, go_sem]) rfl ⟨rfl, ?_⟩
  exact (((Below.refl _ _).alloc (Nat.le_refl _) _).alloc (by simp) _).drew

end Go.Proofs.Yteinonbijiokmaa
