/- TableCosts: what the law's walk comes to. -/
import Derived.Test.YtpaeihaiaegoeaaTLaw
import Derived.Test.YtpaeihaiaegoeaaRCost2
import Derived.Test.YtpaeihaiaegoeaaRSq
namespace Go.Proofs.Ytpaeihaiaegoeaa
open Go.RowKit

set_option maxRecDepth 100000 in
set_option maxHeartbeats 6400000 in
theorem tableCosts_any (T : Tab) (n m ways : Int) (w : World) (hn1 : -9223372036854775808 ≤ n) (hn2 : n ≤ 9223372036854775807) (hm1 : -9223372036854775808 ≤ m) (hm2 : m ≤ 9223372036854775807) :
    Calls Try.prog 5 #[T.val, .int .i64 n, .int .i64 m, .int .i64 ways] w fun e w' => e = .returned (.bool true) ∧ Below w.heap.size w w' := by
  have L1 := hide (fun w => lawLength_any n w hn1 hn2)
  have L2 := hide (fun w => lawLength_any m w hm1 hm2)
  have a1 := lenT_low n
  have a2 := lenT_high n
  have b1 := lenT_low m
  have b2 := lenT_high m
  have CC := hide (fun n m w h1 h2 h3 h4 => tCost_any T n m w h1 h2 h3 h4)
  have CR := hide (fun n m w h1 h2 h3 h4 => rCost_any T n m w h1 h2 h3 h4)
  have CS := hide (fun n w h1 h2 => tSquare_any T n w h1 h2)
  have CQ := hide (fun n w h1 h2 => rSquare_any T n w h1 h2)
  have CT := hide (fun n m k w => tTransform_any n m k w)
  have CU := hide (fun n m k w => rTransform_any n m k w)
  generalize costT T = f at *
  generalize sqT T = f2 at *
  generalize lenT n = a at *
  generalize lenT m = b at *
  clear hn1 hn2 hm1 hm2
  obtain ⟨W, hW⟩ : ∃ W, w.alloc (.cells #[.int .i64 T.b, .int .i64 T.t, .int .i64 T.n, .int .i64 T.d, .int .i64 T.r, .int .i64 T.l, .int .i64 T.x, .int .i64 T.p, .int .i64 T.k, .int .i64 T.s, .int .i64 T.e] 23) = W := ⟨_, rfl⟩
  have bW : Hid (Below w.heap.size w W) := by rw [← hW]; exact (Below.refl _ _).alloc (Nat.le_refl _) _
  have TA := tabAt_new w T 23
  rw [hW] at TA
  obtain ⟨g0, hg0⟩ : ∃ g, w.heap.size = g := ⟨_, rfl⟩
  rw [hg0] at TA
  unfold Tab.val
  go_enter Try.func5, Try.ntmps5
  go_wp2_with fail
  refine (unhide L1 _).mono ?_
  rintro e w2 ⟨rfl, hw2⟩
  obtain rfl := hw2.symm
  go_wp2_with fail
  refine (unhide L2 _).mono ?_
  rintro e w2 ⟨rfl, hw2⟩
  obtain rfl := hw2.symm
  go_wp2_with fail
  clear hg0 hW L1 L2
  have o0 := Old.cell TA.c0
  have o1 := Old.cell TA.c1
  have o2 := Old.cell TA.c2
  have o3 := Old.cell TA.c3
  have o4 := Old.cell TA.c4
  have o5 := Old.cell TA.c5
  have o6 := Old.cell TA.c6
  have o7 := Old.cell TA.c7
  have o8 := Old.cell TA.c8
  have o9 := Old.cell TA.c9
  have o10 := Old.cell TA.c10
  clear TA
  have inst := old_some W
  refine region_old (by kernel_rfl) (by kernel_rfl) ?_
  repeat (go_big_quiet_step ((first | (go_at_call 20; exact Calls.old (unhide CC _ _ _ (by omega) (by omega) (by omega) (by omega))) | (go_at_call 21; exact Calls.old (unhide CR _ _ _ (by omega) (by omega) (by omega) (by omega))) | (go_at_call 22; exact Calls.old (unhide CS _ _ (by omega) (by omega))) | (go_at_call 23; exact Calls.old (unhide CQ _ _ (by omega) (by omega))) | (go_at_call 24; exact Calls.old_same (unhide CT _ _ _ _)) | (go_at_call 25; exact Calls.old_same (unhide CU _ _ _ _)) | (go_at_call 15; exact Calls.old (tabWakes_any _)))))
  refine wpQuiet_nil ?_
  intro w5 hw5
  obtain ⟨u, rfl⟩ := hw5
  clear o0 o1 o2 o3 o4 o5 o6 o7 o8 o9 o10
  go_wp2_with fail
  go_ret
  exact ⟨rfl, bstep (unhide bW) u.old⟩

end Go.Proofs.Ytpaeihaiaegoeaa
