/- TablePieces: what the law's walk comes to. -/
import Derived.Test.YtpaeihaiaegoeaaTLaw
namespace Go.Proofs.Ytpaeihaiaegoeaa
open Go.RowKit

set_option maxRecDepth 100000 in
set_option maxHeartbeats 6400000 in
theorem pieces_zero (T : Tab) (n m : Int) (a b x y X : Nat) (w : World) (_ha : a ≤ 400) (_hba : b ≤ a) (hxy : (a = x ∧ b = y) ∨ (b = x ∧ a = y ∧ b < a)) (_hX : X ≤ 2147483648)
    (L1 : Hid (∀ w, Calls Try.prog 16 #[.int .i64 n] w fun e w' => e = .returned (.int .i64 (x : Int)) ∧ w' = w)) (L2 : Hid (∀ w, Calls Try.prog 16 #[.int .i64 m] w fun e w' => e = .returned (.int .i64 (y : Int)) ∧ w' = w))
    (CT : Hid (∀ w, Calls Try.prog 20 #[T.val, .int .i64 (a : Int), .int .i64 (b : Int)] w fun e w' => e = .returned (.int .i64 (X : Int)) ∧ Below w.heap.size w w'))
    (CR : Hid (∀ w, Calls Try.prog 18 #[T.val, .int .i64 (a : Int), .int .i64 (b : Int)] w fun e w' => e = .returned (.int .i64 0) ∧ Below w.heap.size w w')) (h0 : b = 0) (h1 : X = 0) :
    Calls Try.prog 8 #[T.val, .int .i64 n, .int .i64 m] w fun e w' => e = .returned (.bool true) ∧ Below w.heap.size w w' := by
  subst h0 h1
  have bel := hide (fun o => (Below.refl w.heap.size w).alloc (Nat.le_refl _) o)
  have TA := hide (tabAt_new w T 23)
  unfold Tab.val
  rcases hxy with ⟨rfl, rfl⟩ | ⟨rfl, rfl, hlt⟩
  all_goals
    go_enter Try.func8, Try.ntmps8
    go_wp2_with fail
    refine (unhide L1 _).mono ?_
    rintro e w0 ⟨rfl, rfl⟩
    go_wp2_with fail
    refine (unhide L2 _).mono ?_
    rintro e w0 ⟨rfl, rfl⟩
    go_wp2_with fail
    refine (unhide CT _).mono ?_
    rintro e w1 ⟨rfl, b1⟩
    have TA1 := (unhide TA).next b1
    have b0 := hide (bstep (unhide bel _) b1)
    obtain ⟨g0, hg0⟩ : ∃ g, w.heap.size = g := ⟨_, rfl⟩
    have HG := hide hg0
    rw [hg0] at TA1
    have TB := hide TA1
    obtain ⟨c0, c1, c2, c3, c4, c5, c6, c7, c8, c9, c10⟩ := TA1
    clear b1 TA bel L1 L2 CT
    go_wp2_with fail
    refine (unhide CR _).mono ?_
    rintro e w2 ⟨rfl, b2⟩
    have bb := hide (bstep (unhide b0) b2)
    have TA := (unhide TB).next b2
    clear b2 c0 c1 c2 c3 c4 c5 c6 c7 c8 c9 c10 TB CR b0
    go_wp2_with (go_at_call 15; refine (tabWakes_any _).mono ?_; rintro e w3 ⟨rfl, b3⟩)
    go_ret
    have b9 := bstep (unhide bb) b3
    exact ⟨rfl, by first | exact b9 | (rw [← unhide HG]; exact b9)⟩

set_option maxRecDepth 100000 in
set_option maxHeartbeats 6400000 in
theorem pieces_one (T : Tab) (n m : Int) (a b x y X : Nat) (w : World) (_ha : a ≤ 400) (_hba : b ≤ a) (hxy : (a = x ∧ b = y) ∨ (b = x ∧ a = y ∧ b < a)) (_hX : X ≤ 2147483648)
    (L1 : Hid (∀ w, Calls Try.prog 16 #[.int .i64 n] w fun e w' => e = .returned (.int .i64 (x : Int)) ∧ w' = w)) (L2 : Hid (∀ w, Calls Try.prog 16 #[.int .i64 m] w fun e w' => e = .returned (.int .i64 (y : Int)) ∧ w' = w))
    (CT : Hid (∀ w, Calls Try.prog 20 #[T.val, .int .i64 (a : Int), .int .i64 (b : Int)] w fun e w' => e = .returned (.int .i64 (X : Int)) ∧ Below w.heap.size w w'))
    (CR : Hid (∀ w, Calls Try.prog 18 #[T.val, .int .i64 (a : Int), .int .i64 (b : Int)] w fun e w' => e = .returned (.int .i64 1) ∧ Below w.heap.size w w')) (h1 : a * b = X) :
    Calls Try.prog 8 #[T.val, .int .i64 n, .int .i64 m] w fun e w' => e = .returned (.bool true) ∧ Below w.heap.size w w' := by
  have e1 : (a : Int) * (b : Int) = (X : Int) := by rw [← h1]; simp
  clear h1
  have bel := hide (fun o => (Below.refl w.heap.size w).alloc (Nat.le_refl _) o)
  have TA := hide (tabAt_new w T 23)
  unfold Tab.val
  rcases hxy with ⟨rfl, rfl⟩ | ⟨rfl, rfl, hlt⟩
  all_goals
    go_enter Try.func8, Try.ntmps8
    go_wp2_with fail
    refine (unhide L1 _).mono ?_
    rintro e w0 ⟨rfl, rfl⟩
    go_wp2_with fail
    refine (unhide L2 _).mono ?_
    rintro e w0 ⟨rfl, rfl⟩
    go_wp2_with fail
    refine (unhide CT _).mono ?_
    rintro e w1 ⟨rfl, b1⟩
    have TA1 := (unhide TA).next b1
    have b0 := hide (bstep (unhide bel _) b1)
    obtain ⟨g0, hg0⟩ : ∃ g, w.heap.size = g := ⟨_, rfl⟩
    have HG := hide hg0
    rw [hg0] at TA1
    have TB := hide TA1
    obtain ⟨c0, c1, c2, c3, c4, c5, c6, c7, c8, c9, c10⟩ := TA1
    clear b1 TA bel L1 L2 CT
    go_wp2_with fail
    refine (unhide CR _).mono ?_
    rintro e w2 ⟨rfl, b2⟩
    have bb := hide (bstep (unhide b0) b2)
    have TA := (unhide TB).next b2
    clear b2 c0 c1 c2 c3 c4 c5 c6 c7 c8 c9 c10 TB CR b0
    go_wp2_with (go_at_call 15; refine (tabWakes_any _).mono ?_; rintro e w3 ⟨rfl, b3⟩)
    go_ret
    have b9 := bstep (unhide bb) b3
    exact ⟨rfl, by first | exact b9 | (rw [← unhide HG]; exact b9)⟩

set_option maxRecDepth 100000 in
set_option maxHeartbeats 6400000 in
theorem pieces_five (T : Tab) (n m : Int) (a b x y X : Nat) (w : World) (_ha : a ≤ 400) (_hba : b ≤ a) (hxy : (a = x ∧ b = y) ∨ (b = x ∧ a = y ∧ b < a)) (_hX : X ≤ 2147483648)
    (L1 : Hid (∀ w, Calls Try.prog 16 #[.int .i64 n] w fun e w' => e = .returned (.int .i64 (x : Int)) ∧ w' = w)) (L2 : Hid (∀ w, Calls Try.prog 16 #[.int .i64 m] w fun e w' => e = .returned (.int .i64 (y : Int)) ∧ w' = w))
    (CT : Hid (∀ w, Calls Try.prog 20 #[T.val, .int .i64 (a : Int), .int .i64 (b : Int)] w fun e w' => e = .returned (.int .i64 (X : Int)) ∧ Below w.heap.size w w'))
    (CR : Hid (∀ w, Calls Try.prog 18 #[T.val, .int .i64 (a : Int), .int .i64 (b : Int)] w fun e w' => e = .returned (.int .i64 5) ∧ Below w.heap.size w w')) (h1 : tf a b 3 = X) (h2 : 64 ≤ a + b) (h3 : 1 ≤ b) :
    Calls Try.prog 8 #[T.val, .int .i64 n, .int .i64 m] w fun e w' => e = .returned (.bool true) ∧ Below w.heap.size w w' := by
  have CF := hide (fun w => tTransform_yes a b 3 w (by omega) (by omega) h3 (by omega) (by omega))
  rw [h1] at CF
  clear h1
  have bel := hide (fun o => (Below.refl w.heap.size w).alloc (Nat.le_refl _) o)
  have TA := hide (tabAt_new w T 23)
  unfold Tab.val
  rcases hxy with ⟨rfl, rfl⟩ | ⟨rfl, rfl, hlt⟩
  all_goals
    go_enter Try.func8, Try.ntmps8
    go_wp2_with fail
    refine (unhide L1 _).mono ?_
    rintro e w0 ⟨rfl, rfl⟩
    go_wp2_with fail
    refine (unhide L2 _).mono ?_
    rintro e w0 ⟨rfl, rfl⟩
    go_wp2_with fail
    refine (unhide CT _).mono ?_
    rintro e w1 ⟨rfl, b1⟩
    have TA1 := (unhide TA).next b1
    have b0 := hide (bstep (unhide bel _) b1)
    obtain ⟨g0, hg0⟩ : ∃ g, w.heap.size = g := ⟨_, rfl⟩
    have HG := hide hg0
    rw [hg0] at TA1
    have TB := hide TA1
    obtain ⟨c0, c1, c2, c3, c4, c5, c6, c7, c8, c9, c10⟩ := TA1
    clear b1 TA bel L1 L2 CT
    go_wp2_with fail
    refine (unhide CR _).mono ?_
    rintro e w2 ⟨rfl, b2⟩
    have bb := hide (bstep (unhide b0) b2)
    have TA := (unhide TB).next b2
    clear b2 c0 c1 c2 c3 c4 c5 c6 c7 c8 c9 c10 TB CR b0
    go_wp2_with (first | (go_at_call 24; refine (unhide CF _).mono ?_; rintro e w' ⟨rfl, rfl⟩) | (go_at_call 15; refine (tabWakes_any _).mono ?_; rintro e w3 ⟨rfl, b3⟩))
    go_ret
    have b9 := bstep (unhide bb) b3
    exact ⟨rfl, by first | exact b9 | (rw [← unhide HG]; exact b9)⟩

set_option maxRecDepth 100000 in
set_option maxHeartbeats 6400000 in
theorem pieces_three (T : Tab) (n m : Int) (a b x y X : Nat) (w : World) (_ha : a ≤ 400) (_hba : b ≤ a) (hxy : (a = x ∧ b = y) ∨ (b = x ∧ a = y ∧ b < a)) (_hX : X ≤ 2147483648)
    (L1 : Hid (∀ w, Calls Try.prog 16 #[.int .i64 n] w fun e w' => e = .returned (.int .i64 (x : Int)) ∧ w' = w)) (L2 : Hid (∀ w, Calls Try.prog 16 #[.int .i64 m] w fun e w' => e = .returned (.int .i64 (y : Int)) ∧ w' = w))
    (CT : Hid (∀ w, Calls Try.prog 20 #[T.val, .int .i64 (a : Int), .int .i64 (b : Int)] w fun e w' => e = .returned (.int .i64 (X : Int)) ∧ Below w.heap.size w w'))
    (CR : Hid (∀ w, Calls Try.prog 18 #[T.val, .int .i64 (a : Int), .int .i64 (b : Int)] w fun e w' => e = .returned (.int .i64 3) ∧ Below w.heap.size w w')) (h1 : 4 ≤ b) (h2 : a + 1 < 2 * b) (x1 x2 x3 : Nat) (e1 : costT T (((a : Int) + 1) / 2) (((a : Int) + 1) / 2) = (x1 : Int)) (e2 : costT T ((a : Int) - ((a : Int) + 1) / 2) ((b : Int) - ((a : Int) + 1) / 2) = (x2 : Int)) (e3 : costT T (((a : Int) + 1) / 2 + 1) (((a : Int) + 1) / 2 + 1) = (x3 : Int)) (h3 : X = x1 + x2 + x3) :
    Calls Try.prog 8 #[T.val, .int .i64 n, .int .i64 m] w fun e w' => e = .returned (.bool true) ∧ Below w.heap.size w w' := by
  have e4 : (x1 : Int) + (x2 : Int) + (x3 : Int) = (X : Int) := by omega
  have s1 : x1 + x2 ≤ X := by omega
  have t1 : ((a : Int) + 1) / 2 < (b : Int) := by omega
  have CC := hide (fun n m w h1 h2 h3 h4 => tCost_any T n m w h1 h2 h3 h4)
  generalize costT T = f at *
  clear h3
  have bel := hide (fun o => (Below.refl w.heap.size w).alloc (Nat.le_refl _) o)
  have TA := hide (tabAt_new w T 23)
  unfold Tab.val
  rcases hxy with ⟨rfl, rfl⟩ | ⟨rfl, rfl, hlt⟩
  all_goals
    go_enter Try.func8, Try.ntmps8
    go_wp2_with fail
    refine (unhide L1 _).mono ?_
    rintro e w0 ⟨rfl, rfl⟩
    go_wp2_with fail
    refine (unhide L2 _).mono ?_
    rintro e w0 ⟨rfl, rfl⟩
    go_wp2_with fail
    refine (unhide CT _).mono ?_
    rintro e w1 ⟨rfl, b1⟩
    have TA1 := (unhide TA).next b1
    have b0 := hide (bstep (unhide bel _) b1)
    obtain ⟨g0, hg0⟩ : ∃ g, w.heap.size = g := ⟨_, rfl⟩
    have HG := hide hg0
    rw [hg0] at TA1
    have TB := hide TA1
    obtain ⟨c0, c1, c2, c3, c4, c5, c6, c7, c8, c9, c10⟩ := TA1
    clear b1 TA bel L1 L2 CT
    go_wp2_with fail
    refine (unhide CR _).mono ?_
    rintro e w2 ⟨rfl, b2⟩
    have bb := hide (bstep (unhide b0) b2)
    have TA := (unhide TB).next b2
    clear b2 c0 c1 c2 c3 c4 c5 c6 c7 c8 c9 c10 TB CR b0
    go_wp2_with fail
    clear hg0
    have o0 := Old.cell TA.c0
    have o1 := Old.cell TA.c1
    have o2 := Old.cell TA.c2
    have o3 := Old.cell TA.c3
    have o4 := Old.cell TA.c4
    have o5 := Old.cell TA.c5
    have o6 := Old.cell TA.c6
    have o7 := Old.cell TA.c7
    have o8 := Old.cell TA.c8
    have o9 := Old.cell TA.c9
    have o10 := Old.cell TA.c10
    clear TA
    have inst := old_some w2
    refine region_old (by kernel_rfl) (by kernel_rfl) ?_
    repeat (go_big_quiet_step ((first | (go_at_call 20; exact Calls.old (unhide CC _ _ _ (by omega) (by omega) (by omega) (by omega))) | (go_at_call 15; exact Calls.old (tabWakes_any _)))))
    refine wpQuiet_nil ?_
    intro w5 hw5
    obtain ⟨u, rfl⟩ := hw5
    clear o0 o1 o2 o3 o4 o5 o6 o7 o8 o9 o10
    go_wp2_with fail
    go_ret
    have b9 := bstep (unhide bb) u.old
    exact ⟨rfl, by first | exact b9 | (rw [← unhide HG]; exact b9)⟩

set_option maxRecDepth 100000 in
set_option maxHeartbeats 6400000 in
theorem pieces_four (T : Tab) (n m : Int) (a b x y X : Nat) (w : World) (_ha : a ≤ 400) (_hba : b ≤ a) (hxy : (a = x ∧ b = y) ∨ (b = x ∧ a = y ∧ b < a)) (_hX : X ≤ 2147483648)
    (L1 : Hid (∀ w, Calls Try.prog 16 #[.int .i64 n] w fun e w' => e = .returned (.int .i64 (x : Int)) ∧ w' = w)) (L2 : Hid (∀ w, Calls Try.prog 16 #[.int .i64 m] w fun e w' => e = .returned (.int .i64 (y : Int)) ∧ w' = w))
    (CT : Hid (∀ w, Calls Try.prog 20 #[T.val, .int .i64 (a : Int), .int .i64 (b : Int)] w fun e w' => e = .returned (.int .i64 (X : Int)) ∧ Below w.heap.size w w'))
    (CR : Hid (∀ w, Calls Try.prog 18 #[T.val, .int .i64 (a : Int), .int .i64 (b : Int)] w fun e w' => e = .returned (.int .i64 4) ∧ Below w.heap.size w w')) (h1 : 12 ≤ b) (h2 : 2 * ((a + 2) / 3) < b) (x1 x2 x3 : Nat) (e1 : costT T (((a : Int) + 2) / 3) (((a : Int) + 2) / 3) = (x1 : Int)) (e2 : costT T (((a : Int) + 2) / 3 + 1) (((a : Int) + 2) / 3 + 1) = (x2 : Int)) (e3 : costT T ((a : Int) - 2 * (((a : Int) + 2) / 3)) ((b : Int) - 2 * (((a : Int) + 2) / 3)) = (x3 : Int)) (h3 : X = x1 + 3 * x2 + x3) :
    Calls Try.prog 8 #[T.val, .int .i64 n, .int .i64 m] w fun e w' => e = .returned (.bool true) ∧ Below w.heap.size w w' := by
  have e4 : (x1 : Int) + 3 * (x2 : Int) + (x3 : Int) = (X : Int) := by omega
  have s1 : x1 + 3 * x2 ≤ X := by omega
  have t1 : 2 * (((a : Int) + 2) / 3) < (b : Int) := by omega
  have CC := hide (fun n m w h1 h2 h3 h4 => tCost_any T n m w h1 h2 h3 h4)
  generalize costT T = f at *
  clear h3
  have bel := hide (fun o => (Below.refl w.heap.size w).alloc (Nat.le_refl _) o)
  have TA := hide (tabAt_new w T 23)
  unfold Tab.val
  rcases hxy with ⟨rfl, rfl⟩ | ⟨rfl, rfl, hlt⟩
  all_goals
    go_enter Try.func8, Try.ntmps8
    go_wp2_with fail
    refine (unhide L1 _).mono ?_
    rintro e w0 ⟨rfl, rfl⟩
    go_wp2_with fail
    refine (unhide L2 _).mono ?_
    rintro e w0 ⟨rfl, rfl⟩
    go_wp2_with fail
    refine (unhide CT _).mono ?_
    rintro e w1 ⟨rfl, b1⟩
    have TA1 := (unhide TA).next b1
    have b0 := hide (bstep (unhide bel _) b1)
    obtain ⟨g0, hg0⟩ : ∃ g, w.heap.size = g := ⟨_, rfl⟩
    have HG := hide hg0
    rw [hg0] at TA1
    have TB := hide TA1
    obtain ⟨c0, c1, c2, c3, c4, c5, c6, c7, c8, c9, c10⟩ := TA1
    clear b1 TA bel L1 L2 CT
    go_wp2_with fail
    refine (unhide CR _).mono ?_
    rintro e w2 ⟨rfl, b2⟩
    have bb := hide (bstep (unhide b0) b2)
    have TA := (unhide TB).next b2
    clear b2 c0 c1 c2 c3 c4 c5 c6 c7 c8 c9 c10 TB CR b0
    go_wp2_with fail
    clear hg0
    have o0 := Old.cell TA.c0
    have o1 := Old.cell TA.c1
    have o2 := Old.cell TA.c2
    have o3 := Old.cell TA.c3
    have o4 := Old.cell TA.c4
    have o5 := Old.cell TA.c5
    have o6 := Old.cell TA.c6
    have o7 := Old.cell TA.c7
    have o8 := Old.cell TA.c8
    have o9 := Old.cell TA.c9
    have o10 := Old.cell TA.c10
    clear TA
    have inst := old_some w2
    refine region_old (by kernel_rfl) (by kernel_rfl) ?_
    repeat (go_big_quiet_step ((first | (go_at_call 20; exact Calls.old (unhide CC _ _ _ (by omega) (by omega) (by omega) (by omega))) | (go_at_call 15; exact Calls.old (tabWakes_any _)))))
    refine wpQuiet_nil ?_
    intro w5 hw5
    obtain ⟨u, rfl⟩ := hw5
    clear o0 o1 o2 o3 o4 o5 o6 o7 o8 o9 o10
    go_wp2_with fail
    go_ret
    have b9 := bstep (unhide bb) u.old
    exact ⟨rfl, by first | exact b9 | (rw [← unhide HG]; exact b9)⟩

end Go.Proofs.Ytpaeihaiaegoeaa
