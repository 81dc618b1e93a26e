/- TableMore: what the law's walk comes to. -/
import Derived.Test.YtpaeihaiaegoeabTLaw
namespace Go.Proofs.Ytpaeihaiaegoeab
open Go.RowKit

theorem tfT_more (a b : Int) (ha : 0 ≤ a) (ha2 : a ≤ 400) (hb : 0 ≤ b) (hb2 : b ≤ 400) : tfT a b 3 ≤ tfT (a + 1) (b + 1) 3 ∧ tfT a b 2 ≤ tfT a b 3 := by
  obtain ⟨a, rfl⟩ := Int.eq_ofNat_of_zero_le ha
  obtain ⟨b, rfl⟩ := Int.eq_ofNat_of_zero_le hb
  have e3 : tfT ((a : Int) + 1) ((b : Int) + 1) 3 = (tf (a + 1) (b + 1) 3 : Int) := tfT_nat (n := a + 1) (m := b + 1) (ways := 3) (by omega) (by omega) (by omega) (by omega) (by omega)
  rw [e3]
  by_cases h : 1 ≤ a ∧ 1 ≤ b
  · have e1 : tfT (a : Int) (b : Int) 3 = (tf a b 3 : Int) := tfT_nat (ways := 3) (by omega) (by omega) (by omega) (by omega) (by omega)
    have e2 : tfT (a : Int) (b : Int) 2 = (tf a b 2 : Int) := tfT_nat (ways := 2) (by omega) (by omega) (by omega) (by omega) (by omega)
    rw [e1, e2]
    exact ⟨Int.ofNat_le.2 (tf_mono a b), Int.ofNat_le.2 (tf_ways a b)⟩
  · rw [tfT_out (by omega), tfT_out (by omega)]
    exact ⟨by omega, by omega⟩

set_option maxRecDepth 100000 in
set_option maxHeartbeats 6400000 in
theorem more_in (T : Tab) (n m ways : Int) (w : World) (hn1 : -9223372036854775808 ≤ n) (hn2 : n ≤ 9223372036854775807) (hm1 : -9223372036854775808 ≤ m) (hm2 : m ≤ 9223372036854775807) (k1 : 0 ≤ ways) (k2 : ways ≤ 3) :
    Calls Try.prog 3 #[T.val, .int .i64 n, .int .i64 m, .int .i64 ways] w fun e w' => e = .returned (.bool true) ∧ Below w.heap.size w w' := by
  have L1 := hide (fun w => lawLength_any n w hn1 hn2)
  have L2 := hide (fun w => lawLength_any m w hm1 hm2)
  have a1 := lenT_low n
  have a2 := lenT_high n
  have b1 := lenT_low m
  have b2 := lenT_high m
  obtain ⟨q1, q2⟩ := tfT_more (lenT n) (lenT m) a1 a2 b1 b2
  have CL := hide (fun w => clamp_any T w)
  have CC := hide (fun n m w h1 h2 h3 h4 => tCost_any T n m w h1 h2 h3 h4)
  have CD := hide (fun n m w h1 h2 h3 h4 => tCost_any T.clamp n m w h1 h2 h3 h4)
  have CS := hide (fun n w h1 h2 => tSquare_any T n w h1 h2)
  have CE := hide (fun n w h1 h2 => tSquare_any T.clamp n w h1 h2)
  have CT := hide (fun n m k w => tTransform_any n m k w)
  have ED : costT T.clamp = costT T := by funext x y; exact costT_clamp T x y
  have EE : sqT T.clamp = sqT T := by funext x; exact sqT_clamp T x
  rw [ED] at CD
  rw [EE] at CE
  generalize costT T = f at *
  generalize sqT T = f2 at *
  generalize lenT n = a at *
  generalize lenT m = b at *
  generalize tfT = f3 at *
  clear hn1 hn2 hm1 hm2 ED EE
  obtain ⟨V, hV⟩ : ∃ V, T.clamp = V := ⟨_, rfl⟩
  rw [hV] at CL CD CE
  clear hV
  have bel := hide (fun o => (Below.refl w.heap.size w).alloc (Nat.le_refl _) o)
  have TA := hide (tabAt_new w T 23)
  unfold Tab.val at *
  go_enter Try.func3, Try.ntmps3
  go_wp2_with fail
  refine (unhide L1 _).mono ?_
  rintro e w0 ⟨rfl, rfl⟩
  go_wp2_with fail
  refine (unhide L2 _).mono ?_
  rintro e w0 ⟨rfl, rfl⟩
  go_wp2_with fail
  refine (unhide CL _).mono ?_
  rintro e w1 ⟨rfl, b3⟩
  obtain ⟨W3, hW3⟩ : ∃ W, w1.alloc (.cells #[.int .i64 V.b, .int .i64 V.t, .int .i64 V.n, .int .i64 V.d, .int .i64 V.r, .int .i64 V.l, .int .i64 V.x, .int .i64 V.p, .int .i64 V.k, .int .i64 V.s, .int .i64 V.e] 23) = W := ⟨_, rfl⟩
  obtain ⟨g3, hg3⟩ : ∃ g, w1.heap.size = g := ⟨_, rfl⟩
  have TV := tabAt_new w1 V 23
  rw [hW3, hg3] at TV
  have b4 : Below w1.heap.size w1 W3 := by rw [← hW3]; exact (Below.refl _ _).alloc (Nat.le_refl _) _
  have bb := hide (bstep (bstep (unhide bel _) b3) b4)
  have TA1 := ((unhide TA).next b3).next b4
  obtain ⟨g0, hg0⟩ : ∃ g, w.heap.size = g := ⟨_, rfl⟩
  have HG0 := hide hg0
  rw [hg0] at TA1
  have o0 := Old.cell TA1.c0
  have p0 := Old.cell TV.c0
  have o1 := Old.cell TA1.c1
  have p1 := Old.cell TV.c1
  have o2 := Old.cell TA1.c2
  have p2 := Old.cell TV.c2
  have o3 := Old.cell TA1.c3
  have p3 := Old.cell TV.c3
  have o4 := Old.cell TA1.c4
  have p4 := Old.cell TV.c4
  have o5 := Old.cell TA1.c5
  have p5 := Old.cell TV.c5
  have o6 := Old.cell TA1.c6
  have p6 := Old.cell TV.c6
  have o7 := Old.cell TA1.c7
  have p7 := Old.cell TV.c7
  have o8 := Old.cell TA1.c8
  have p8 := Old.cell TV.c8
  have o9 := Old.cell TA1.c9
  have p9 := Old.cell TV.c9
  have o10 := Old.cell TA1.c10
  have p10 := Old.cell TV.c10
  clear b3 b4 TA bel TA1 TV L1 L2 CL
  go_wp2_with fail
  clear hg0 hW3 hg3
  have inst := old_some W3
  refine region_old (by kernel_rfl) (by kernel_rfl) ?_
  repeat (go_big_quiet_step ((first | (go_at_call_of 7 (Value.int .i64 T.b); exact Calls.old (unhide CC _ _ _ (by omega) (by omega) (by omega) (by omega))) | (go_at_call_of 7 (Value.int .i64 V.b); exact Calls.old (unhide CD _ _ _ (by omega) (by omega) (by omega) (by omega))) | (go_at_call_of 8 (Value.int .i64 T.b); exact Calls.old (unhide CS _ _ (by omega) (by omega))) | (go_at_call_of 8 (Value.int .i64 V.b); exact Calls.old (unhide CE _ _ (by omega) (by omega))) | (go_at_call 6; exact Calls.old_same (unhide CT _ _ _ _)) | (go_at_call 9; exact Calls.old (tabWakes_any _)))))
  refine wpQuiet_nil ?_
  intro w5 hw5
  obtain ⟨u, rfl⟩ := hw5
  go_wp2_with fail
  go_ret
  have b9 := bstep (unhide bb) u.old
  exact ⟨rfl, by first | exact b9 | (rw [← unhide HG0]; exact b9)⟩

set_option maxRecDepth 100000 in
set_option maxHeartbeats 6400000 in
theorem more_low (T : Tab) (n m ways : Int) (w : World) (hn1 : -9223372036854775808 ≤ n) (hn2 : n ≤ 9223372036854775807) (hm1 : -9223372036854775808 ≤ m) (hm2 : m ≤ 9223372036854775807) (k1 : ways < 0) :
    Calls Try.prog 3 #[T.val, .int .i64 n, .int .i64 m, .int .i64 ways] w fun e w' => e = .returned (.bool true) ∧ Below w.heap.size w w' := by
  have kd : decide (0 ≤ ways) = false := by simp; omega
  have kz : tfT (lenT n) (lenT m) ways = 0 := tfT_out (by omega)
  have L1 := hide (fun w => lawLength_any n w hn1 hn2)
  have L2 := hide (fun w => lawLength_any m w hm1 hm2)
  have a1 := lenT_low n
  have a2 := lenT_high n
  have b1 := lenT_low m
  have b2 := lenT_high m
  obtain ⟨q1, q2⟩ := tfT_more (lenT n) (lenT m) a1 a2 b1 b2
  have CL := hide (fun w => clamp_any T w)
  have CC := hide (fun n m w h1 h2 h3 h4 => tCost_any T n m w h1 h2 h3 h4)
  have CD := hide (fun n m w h1 h2 h3 h4 => tCost_any T.clamp n m w h1 h2 h3 h4)
  have CS := hide (fun n w h1 h2 => tSquare_any T n w h1 h2)
  have CE := hide (fun n w h1 h2 => tSquare_any T.clamp n w h1 h2)
  have CT := hide (fun n m k w => tTransform_any n m k w)
  have ED : costT T.clamp = costT T := by funext x y; exact costT_clamp T x y
  have EE : sqT T.clamp = sqT T := by funext x; exact sqT_clamp T x
  rw [ED] at CD
  rw [EE] at CE
  generalize costT T = f at *
  generalize sqT T = f2 at *
  generalize lenT n = a at *
  generalize lenT m = b at *
  generalize tfT = f3 at *
  clear hn1 hn2 hm1 hm2 ED EE
  obtain ⟨V, hV⟩ : ∃ V, T.clamp = V := ⟨_, rfl⟩
  rw [hV] at CL CD CE
  clear hV
  have bel := hide (fun o => (Below.refl w.heap.size w).alloc (Nat.le_refl _) o)
  have TA := hide (tabAt_new w T 23)
  unfold Tab.val at *
  go_enter Try.func3, Try.ntmps3
  go_wp2_with fail
  refine (unhide L1 _).mono ?_
  rintro e w0 ⟨rfl, rfl⟩
  go_wp2_with fail
  refine (unhide L2 _).mono ?_
  rintro e w0 ⟨rfl, rfl⟩
  go_wp2_with fail
  refine (unhide CL _).mono ?_
  rintro e w1 ⟨rfl, b3⟩
  obtain ⟨W3, hW3⟩ : ∃ W, w1.alloc (.cells #[.int .i64 V.b, .int .i64 V.t, .int .i64 V.n, .int .i64 V.d, .int .i64 V.r, .int .i64 V.l, .int .i64 V.x, .int .i64 V.p, .int .i64 V.k, .int .i64 V.s, .int .i64 V.e] 23) = W := ⟨_, rfl⟩
  obtain ⟨g3, hg3⟩ : ∃ g, w1.heap.size = g := ⟨_, rfl⟩
  have TV := tabAt_new w1 V 23
  rw [hW3, hg3] at TV
  have b4 : Below w1.heap.size w1 W3 := by rw [← hW3]; exact (Below.refl _ _).alloc (Nat.le_refl _) _
  have bb := hide (bstep (bstep (unhide bel _) b3) b4)
  have TA1 := ((unhide TA).next b3).next b4
  obtain ⟨g0, hg0⟩ : ∃ g, w.heap.size = g := ⟨_, rfl⟩
  have HG0 := hide hg0
  rw [hg0] at TA1
  have o0 := Old.cell TA1.c0
  have p0 := Old.cell TV.c0
  have o1 := Old.cell TA1.c1
  have p1 := Old.cell TV.c1
  have o2 := Old.cell TA1.c2
  have p2 := Old.cell TV.c2
  have o3 := Old.cell TA1.c3
  have p3 := Old.cell TV.c3
  have o4 := Old.cell TA1.c4
  have p4 := Old.cell TV.c4
  have o5 := Old.cell TA1.c5
  have p5 := Old.cell TV.c5
  have o6 := Old.cell TA1.c6
  have p6 := Old.cell TV.c6
  have o7 := Old.cell TA1.c7
  have p7 := Old.cell TV.c7
  have o8 := Old.cell TA1.c8
  have p8 := Old.cell TV.c8
  have o9 := Old.cell TA1.c9
  have p9 := Old.cell TV.c9
  have o10 := Old.cell TA1.c10
  have p10 := Old.cell TV.c10
  clear b3 b4 TA bel TA1 TV L1 L2 CL
  go_wp2_with fail
  clear hg0 hW3 hg3
  have inst := old_some W3
  refine region_old (by kernel_rfl) (by kernel_rfl) ?_
  repeat (go_big_quiet_step ((first | (go_at_call_of 7 (Value.int .i64 T.b); exact Calls.old (unhide CC _ _ _ (by omega) (by omega) (by omega) (by omega))) | (go_at_call_of 7 (Value.int .i64 V.b); exact Calls.old (unhide CD _ _ _ (by omega) (by omega) (by omega) (by omega))) | (go_at_call_of 8 (Value.int .i64 T.b); exact Calls.old (unhide CS _ _ (by omega) (by omega))) | (go_at_call_of 8 (Value.int .i64 V.b); exact Calls.old (unhide CE _ _ (by omega) (by omega))) | (go_at_call 6; exact Calls.old_same (unhide CT _ _ _ _)) | (go_at_call 9; exact Calls.old (tabWakes_any _)))))
  refine wpQuiet_nil ?_
  intro w5 hw5
  obtain ⟨u, rfl⟩ := hw5
  go_wp2_with fail
  go_ret
  have b9 := bstep (unhide bb) u.old
  exact ⟨rfl, by first | exact b9 | (rw [← unhide HG0]; exact b9)⟩

set_option maxRecDepth 100000 in
set_option maxHeartbeats 6400000 in
theorem more_high (T : Tab) (n m ways : Int) (w : World) (hn1 : -9223372036854775808 ≤ n) (hn2 : n ≤ 9223372036854775807) (hm1 : -9223372036854775808 ≤ m) (hm2 : m ≤ 9223372036854775807) (k1 : 3 < ways) :
    Calls Try.prog 3 #[T.val, .int .i64 n, .int .i64 m, .int .i64 ways] w fun e w' => e = .returned (.bool true) ∧ Below w.heap.size w w' := by
  have kd : decide (ways ≤ 3) = false := by simp; omega
  have k0 : 0 ≤ ways := by omega
  have kz : tfT (lenT n) (lenT m) ways = 0 := tfT_out (by omega)
  have L1 := hide (fun w => lawLength_any n w hn1 hn2)
  have L2 := hide (fun w => lawLength_any m w hm1 hm2)
  have a1 := lenT_low n
  have a2 := lenT_high n
  have b1 := lenT_low m
  have b2 := lenT_high m
  obtain ⟨q1, q2⟩ := tfT_more (lenT n) (lenT m) a1 a2 b1 b2
  have CL := hide (fun w => clamp_any T w)
  have CC := hide (fun n m w h1 h2 h3 h4 => tCost_any T n m w h1 h2 h3 h4)
  have CD := hide (fun n m w h1 h2 h3 h4 => tCost_any T.clamp n m w h1 h2 h3 h4)
  have CS := hide (fun n w h1 h2 => tSquare_any T n w h1 h2)
  have CE := hide (fun n w h1 h2 => tSquare_any T.clamp n w h1 h2)
  have CT := hide (fun n m k w => tTransform_any n m k w)
  have ED : costT T.clamp = costT T := by funext x y; exact costT_clamp T x y
  have EE : sqT T.clamp = sqT T := by funext x; exact sqT_clamp T x
  rw [ED] at CD
  rw [EE] at CE
  generalize costT T = f at *
  generalize sqT T = f2 at *
  generalize lenT n = a at *
  generalize lenT m = b at *
  generalize tfT = f3 at *
  clear hn1 hn2 hm1 hm2 ED EE
  obtain ⟨V, hV⟩ : ∃ V, T.clamp = V := ⟨_, rfl⟩
  rw [hV] at CL CD CE
  clear hV
  have bel := hide (fun o => (Below.refl w.heap.size w).alloc (Nat.le_refl _) o)
  have TA := hide (tabAt_new w T 23)
  unfold Tab.val at *
  go_enter Try.func3, Try.ntmps3
  go_wp2_with fail
  refine (unhide L1 _).mono ?_
  rintro e w0 ⟨rfl, rfl⟩
  go_wp2_with fail
  refine (unhide L2 _).mono ?_
  rintro e w0 ⟨rfl, rfl⟩
  go_wp2_with fail
  refine (unhide CL _).mono ?_
  rintro e w1 ⟨rfl, b3⟩
  obtain ⟨W3, hW3⟩ : ∃ W, w1.alloc (.cells #[.int .i64 V.b, .int .i64 V.t, .int .i64 V.n, .int .i64 V.d, .int .i64 V.r, .int .i64 V.l, .int .i64 V.x, .int .i64 V.p, .int .i64 V.k, .int .i64 V.s, .int .i64 V.e] 23) = W := ⟨_, rfl⟩
  obtain ⟨g3, hg3⟩ : ∃ g, w1.heap.size = g := ⟨_, rfl⟩
  have TV := tabAt_new w1 V 23
  rw [hW3, hg3] at TV
  have b4 : Below w1.heap.size w1 W3 := by rw [← hW3]; exact (Below.refl _ _).alloc (Nat.le_refl _) _
  have bb := hide (bstep (bstep (unhide bel _) b3) b4)
  have TA1 := ((unhide TA).next b3).next b4
  obtain ⟨g0, hg0⟩ : ∃ g, w.heap.size = g := ⟨_, rfl⟩
  have HG0 := hide hg0
  rw [hg0] at TA1
  have o0 := Old.cell TA1.c0
  have p0 := Old.cell TV.c0
  have o1 := Old.cell TA1.c1
  have p1 := Old.cell TV.c1
  have o2 := Old.cell TA1.c2
  have p2 := Old.cell TV.c2
  have o3 := Old.cell TA1.c3
  have p3 := Old.cell TV.c3
  have o4 := Old.cell TA1.c4
  have p4 := Old.cell TV.c4
  have o5 := Old.cell TA1.c5
  have p5 := Old.cell TV.c5
  have o6 := Old.cell TA1.c6
  have p6 := Old.cell TV.c6
  have o7 := Old.cell TA1.c7
  have p7 := Old.cell TV.c7
  have o8 := Old.cell TA1.c8
  have p8 := Old.cell TV.c8
  have o9 := Old.cell TA1.c9
  have p9 := Old.cell TV.c9
  have o10 := Old.cell TA1.c10
  have p10 := Old.cell TV.c10
  clear b3 b4 TA bel TA1 TV L1 L2 CL
  go_wp2_with fail
  clear hg0 hW3 hg3
  have inst := old_some W3
  refine region_old (by kernel_rfl) (by kernel_rfl) ?_
  repeat (go_big_quiet_step ((first | (go_at_call_of 7 (Value.int .i64 T.b); exact Calls.old (unhide CC _ _ _ (by omega) (by omega) (by omega) (by omega))) | (go_at_call_of 7 (Value.int .i64 V.b); exact Calls.old (unhide CD _ _ _ (by omega) (by omega) (by omega) (by omega))) | (go_at_call_of 8 (Value.int .i64 T.b); exact Calls.old (unhide CS _ _ (by omega) (by omega))) | (go_at_call_of 8 (Value.int .i64 V.b); exact Calls.old (unhide CE _ _ (by omega) (by omega))) | (go_at_call 6; exact Calls.old_same (unhide CT _ _ _ _)) | (go_at_call 9; exact Calls.old (tabWakes_any _)))))
  refine wpQuiet_nil ?_
  intro w5 hw5
  obtain ⟨u, rfl⟩ := hw5
  go_wp2_with fail
  go_ret
  have b9 := bstep (unhide bb) u.old
  exact ⟨rfl, by first | exact b9 | (rw [← unhide HG0]; exact b9)⟩

theorem tableMore_any (T : Tab) (n m ways : Int) (w : World) (hn1 : -9223372036854775808 ≤ n) (hn2 : n ≤ 9223372036854775807) (hm1 : -9223372036854775808 ≤ m) (hm2 : m ≤ 9223372036854775807) :
    Calls Try.prog 3 #[T.val, .int .i64 n, .int .i64 m, .int .i64 ways] w fun e w' => e = .returned (.bool true) ∧ Below w.heap.size w w' := by
  by_cases k1 : ways < 0
  · exact more_low T n m ways w hn1 hn2 hm1 hm2 k1
  · by_cases k2 : 3 < ways
    · exact more_high T n m ways w hn1 hn2 hm1 hm2 k2
    · exact more_in T n m ways w hn1 hn2 hm1 hm2 (by omega) (by omega)

end Go.Proofs.Ytpaeihaiaegoeab
