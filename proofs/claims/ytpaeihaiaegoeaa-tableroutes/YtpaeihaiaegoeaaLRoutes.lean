/- TableRoutes: what the law's walk comes to. -/
import Derived.Test.YtpaeihaiaegoeaaTLaw
namespace Go.Proofs.Ytpaeihaiaegoeaa
open Go.RowKit

set_option maxRecDepth 100000 in
set_option maxHeartbeats 6400000 in
theorem tableRoutes_any (T : Tab) (n m : Int) (w : World) (hn1 : -9223372036854775808 ≤ n) (hn2 : n ≤ 9223372036854775807) (hm1 : -9223372036854775808 ≤ m) (hm2 : m ≤ 9223372036854775807) :
    Calls Try.prog 4 #[T.val, .int .i64 n, .int .i64 m] w fun e w' => e = .returned (.bool true) ∧ Below w.heap.size w w' := by
  have bel := hide (fun o => (Below.refl w.heap.size w).alloc (Nat.le_refl _) o)
  have TA := hide (tabAt_new w T 23)
  have CN := hide (fun w => new_any T w)
  have L1 := hide (fun w => lawLength_any n w hn1 hn2)
  have L2 := hide (fun w => lawLength_any m w hm1 hm2)
  have C1 := hide (fun n m w => tRoute_any T n m w)
  have C3 := hide (fun (w : World) g (h : Tune w g T) n m => tuneRoute_any h n m)
  have C5 := hide (fun n m w => rRoute_any T n m w)
  have RC := rtT_comm T (lenT m) (lenT n)
  generalize rtT T = f at *
  generalize lenT n = a at *
  generalize lenT m = b at *
  clear hn1 hn2 hm1 hm2
  unfold Tab.val
  go_enter Try.func4, Try.ntmps4
  go_wp2_with fail
  refine (unhide CN _).mono ?_
  rintro e w1 ⟨g, rfl, TU, hg, b1⟩
  have TB := hide ((unhide TA).next b1)
  have TU := hide TU
  have b0 := hide (bstep (unhide bel _) b1)
  clear b1 TA bel CN hg
  obtain ⟨g0, hg0⟩ : ∃ g, w.heap.size = g := ⟨_, rfl⟩
  have TB2 := unhide TB
  rw [hg0] at TB2
  have TC := hide TB2
  obtain ⟨c0, c1, c2, c3, c4, c5, c6, c7, c8, c9, c10⟩ := TB2
  go_wp2_with fail
  refine (unhide L1 _).mono ?_
  rintro e w2 ⟨rfl, rfl⟩
  go_wp2_with fail
  refine (unhide L2 _).mono ?_
  rintro e w2 ⟨rfl, rfl⟩
  go_wp2_with fail
  refine (unhide C5 a b _).mono ?_
  rintro e w2 ⟨rfl, b2⟩
  have TU := hide ((unhide TU).next b2)
  have b0 := hide (bstep (unhide b0) b2)
  obtain ⟨c0, c1, c2, c3, c4, c5, c6, c7, c8, c9, c10⟩ := (unhide TC).next b2
  clear b2
  go_wp2_with fail
  clear hg0
  have o0 := Old.cell c0
  have o1 := Old.cell c1
  have o2 := Old.cell c2
  have o3 := Old.cell c3
  have o4 := Old.cell c4
  have o5 := Old.cell c5
  have o6 := Old.cell c6
  have o7 := Old.cell c7
  have o8 := Old.cell c8
  have o9 := Old.cell c9
  have o10 := Old.cell c10
  clear c0 c1 c2 c3 c4 c5 c6 c7 c8 c9 c10
  have inst := old_some w2
  refine region_old (by kernel_rfl) (by kernel_rfl) ?_
  repeat (go_big_quiet_step ((first | (go_at_call 18; exact Calls.old (unhide C1 _ _ _)) | (go_at_call 19; exact Calls.old (unhide C3 _ _ ((unhide TU).next (Old.old _)) _ _)) | (go_at_call 17; exact Calls.old (unhide C5 _ _ _)) | (go_at_call 15; exact Calls.old (tabWakes_any _)))))
  refine wpQuiet_nil ?_
  intro w5 hw5
  obtain ⟨u, rfl⟩ := hw5
  clear o0 o1 o2 o3 o4 o5 o6 o7 o8 o9 o10
  go_wp2_with fail
  go_ret
  exact ⟨rfl, bstep (unhide b0) u.old⟩

end Go.Proofs.Ytpaeihaiaegoeaa
