/- Cost of the document: the other ways, and all together. -/
import Derived.Test.YtiekgpphggejcaaGreatDoorB22
namespace Go.Proofs.YtiekgpphggejcaaGreatDoor
open Go.RowKit

set_option maxRecDepth 100000 in
set_option maxHeartbeats 3200000 in
theorem rCost_two (T : Tab) (n m : Nat) (w : World) (hm : m ≤ n) (hn : n ≤ 16384) (r : rt T.B T.D T.N n m = 2) (h1 : T.B ≤ m) (h2 : 2 * m ≤ n + 1)
    (ih : ∀ (a b : Int) (w : World), a < (n : Int) → 0 ≤ b → b ≤ a → Calls Tryz.prog 18 #[T.val, .int .i64 a, .int .i64 b] w fun e w' => e = .returned (.int .i64 (costT T a b)) ∧ Below w.heap.size w w') :
    Calls Tryz.prog 18 #[T.val, .int .i64 (n : Int), .int .i64 (m : Int)] w fun e w' => e = .returned (.int .i64 (cst T.B T.D T.N n m : Int)) ∧ Below w.heap.size w w' := by
  have IH := hide ih
  have CR : Hid (∀ w, Calls Tryz.prog 43 #[T.val, .int .i64 (n : Int), .int .i64 (m : Int)] w fun e w' => e = .returned (.int .i64 2) ∧ Below w.heap.size w w') := fun w => by
    have := rRoute_any T n m w
    rwa [rtT_nat T hm hn, r] at this
  have TA := hide (tabAt_new w T 23)
  have bel := hide (fun o => (Below.refl w.heap.size w).alloc (Nat.le_refl _) o)
  have HML := hide (show m ≤ n from hm)
  have h4 := T.ent.b1
  obtain ⟨dq, hdq⟩ : ∃ d, n / m = d := ⟨_, rfl⟩
  obtain ⟨dr, hdr⟩ : ∃ d, n % m = d := ⟨_, rfl⟩
  obtain ⟨xm, hxm⟩ : ∃ d, cst T.B T.D T.N m m = d := ⟨_, rfl⟩
  obtain ⟨xr, hxr⟩ : ∃ d, cst T.B T.D T.N m dr = d := ⟨_, rfl⟩
  obtain ⟨z, hz⟩ : ∃ d, dq * xm = d := ⟨_, rfl⟩
  have hdrm : dr < m := by rw [← hdr]; exact Nat.mod_lt n (by omega)
  have e1 : (n : Int) / (m : Int) = (dq : Int) := by rw [← hdq]; simp
  have e2 : (n : Int) % (m : Int) = (dr : Int) := by rw [← hdr]; simp
  have e3 : costT T (m : Int) (m : Int) = (xm : Int) := by rw [costT_nat T (Nat.le_refl _) (by omega), hxm]
  have e4 : costT T (m : Int) (dr : Int) = (xr : Int) := by rw [costT_nat T (by omega) (by omega), hxr]
  have e5 : (dq : Int) * (xm : Int) = (z : Int) := by rw [← hz]; simp
  have X : cst T.B T.D T.N n m = z + xr := by rw [cst_two T.ent hm r h1 h2, hdq, hdr, hxm, hxr, hz]
  have XB := cst_small T hm hn
  rw [X] at XB ⊢
  have X0 : Hid (dr = 0 → xr = 0) := fun h => by rw [← hxr, h]; exact cst_nought
  have dqb : dq ≤ 16384 := by rw [← hdq]; exact Nat.le_trans (Nat.div_le_self n m) hn
  have m0 : (m : Int) ≠ 0 := by omega
  have e6 : IntKind.i64.wrap (z : Int) = (z : Int) := by rw [IntKind.wrap_i64]; omega
  have e7 : IntKind.i64.wrap ((z : Int) + (xr : Int)) = (z : Int) + (xr : Int) := by rw [IntKind.wrap_i64]; omega
  have e8 : IntKind.i64.wrap (dq : Int) = (dq : Int) := by rw [IntKind.wrap_i64]; omega
  clear hdq hdr hxm hxr hz X
  clear ih
  unfold Tab.val
  go_enter Tryz.func18, Tryz.ntmps18
  go_wp2_with fail
  refine (unhide CR _).mono ?_
  rintro e w1 ⟨rfl, b1⟩
  have b0 := hide (bstep (unhide bel _) b1)
  have TA1 := hide ((unhide TA).next b1)
  clear b1 TA bel CR
  obtain ⟨g, hg⟩ : ∃ g, w.heap.size = g := ⟨_, rfl⟩
  have TA2 := unhide TA1
  rw [hg] at TA2
  have TA3 := hide TA2
  obtain ⟨c0, c1, c2, c3, c4, c5, c6, c7, c8, c9, c10⟩ := TA2
  go_wp2_with fail
  clear hg
  have o0 := Old.cell c0
  have o1 := Old.cell c1
  have o2 := Old.cell c2
  have o3 := Old.cell c3
  have o4 := Old.cell c4
  have o5 := Old.cell c5
  have o6 := Old.cell c6
  have o7 := Old.cell c7
  have o8 := Old.cell c8
  have o9 := Old.cell c9
  have o10 := Old.cell c10
  clear c0 c1 c2 c3 c4 c5 c6 c7 c8 c9 c10
  have inst := old_some w1
  refine region_old (by kernel_rfl) (by kernel_rfl) ?_
  repeat (go_big_quiet_step ((go_at_call 18; exact Calls.old (unhide IH _ _ _ (by omega) (by omega) (by omega)))))
  refine wpQuiet_nil ?_
  intro w5 hw5
  obtain ⟨u, rfl⟩ := hw5
  clear o0 o1 o2 o3 o4 o5 o6 o7 o8 o9 o10
  have TA4 := TA3.out.next u.old
  by_cases hd0 : (0 : Int) < (dr : Int)
  · obtain ⟨c0, c1, c2, c3, c4, c5, c6, c7, c8, c9, c10⟩ := TA4
    go_wp2_with fail
    have o0 := Old.cell c0
    have o1 := Old.cell c1
    have o2 := Old.cell c2
    have o3 := Old.cell c3
    have o4 := Old.cell c4
    have o5 := Old.cell c5
    have o6 := Old.cell c6
    have o7 := Old.cell c7
    have o8 := Old.cell c8
    have o9 := Old.cell c9
    have o10 := Old.cell c10
    clear c0 c1 c2 c3 c4 c5 c6 c7 c8 c9 c10
    have inst := old_some u.val
    refine region_old (by kernel_rfl) (by kernel_rfl) ?_
    repeat (go_big_quiet_step ((go_at_call 18; exact Calls.old (unhide IH _ _ _ (by omega) (by omega) (by omega)))))
    refine wpQuiet_nil ?_
    intro w5 hw5
    obtain ⟨u2, rfl⟩ := hw5
    clear o0 o1 o2 o3 o4 o5 o6 o7 o8 o9 o10

    go_wp2_with fail
    go_ret
    exact ⟨ret_int (by omega), bstep (bstep (unhide b0) u.old) u2.old⟩
  · have hd1 : dr = 0 := by omega
    have x1 := X0.out hd1
    go_wp2_with fail
    go_ret
    exact ⟨ret_int (by omega), bstep (unhide b0) u.old⟩

set_option maxRecDepth 100000 in
set_option maxHeartbeats 3200000 in
theorem rCost_twoS (T : Tab) (n m : Nat) (w : World) (hm : m < n) (hn : n ≤ 16384) (r : rt T.B T.D T.N n m = 2) (h1 : T.B ≤ m) (h2 : 2 * m ≤ n + 1)
    (ih : ∀ (a b : Int) (w : World), a < (n : Int) → 0 ≤ b → b ≤ a → Calls Tryz.prog 18 #[T.val, .int .i64 a, .int .i64 b] w fun e w' => e = .returned (.int .i64 (costT T a b)) ∧ Below w.heap.size w w') :
    Calls Tryz.prog 18 #[T.val, .int .i64 (m : Int), .int .i64 (n : Int)] w fun e w' => e = .returned (.int .i64 (cst T.B T.D T.N n m : Int)) ∧ Below w.heap.size w w' := by
  have IH := hide ih
  have CR : Hid (∀ w, Calls Tryz.prog 43 #[T.val, .int .i64 (n : Int), .int .i64 (m : Int)] w fun e w' => e = .returned (.int .i64 2) ∧ Below w.heap.size w w') := fun w => by
    have := rRoute_any T n m w
    rwa [rtT_nat T (Nat.le_of_lt hm) hn, r] at this
  have TA := hide (tabAt_new w T 23)
  have bel := hide (fun o => (Below.refl w.heap.size w).alloc (Nat.le_refl _) o)
  have HML := hide (show m ≤ n from (Nat.le_of_lt hm))
  have h4 := T.ent.b1
  obtain ⟨dq, hdq⟩ : ∃ d, n / m = d := ⟨_, rfl⟩
  obtain ⟨dr, hdr⟩ : ∃ d, n % m = d := ⟨_, rfl⟩
  obtain ⟨xm, hxm⟩ : ∃ d, cst T.B T.D T.N m m = d := ⟨_, rfl⟩
  obtain ⟨xr, hxr⟩ : ∃ d, cst T.B T.D T.N m dr = d := ⟨_, rfl⟩
  obtain ⟨z, hz⟩ : ∃ d, dq * xm = d := ⟨_, rfl⟩
  have hdrm : dr < m := by rw [← hdr]; exact Nat.mod_lt n (by omega)
  have e1 : (n : Int) / (m : Int) = (dq : Int) := by rw [← hdq]; simp
  have e2 : (n : Int) % (m : Int) = (dr : Int) := by rw [← hdr]; simp
  have e3 : costT T (m : Int) (m : Int) = (xm : Int) := by rw [costT_nat T (Nat.le_refl _) (by omega), hxm]
  have e4 : costT T (m : Int) (dr : Int) = (xr : Int) := by rw [costT_nat T (by omega) (by omega), hxr]
  have e5 : (dq : Int) * (xm : Int) = (z : Int) := by rw [← hz]; simp
  have X : cst T.B T.D T.N n m = z + xr := by rw [cst_two T.ent (Nat.le_of_lt hm) r h1 h2, hdq, hdr, hxm, hxr, hz]
  have XB := cst_small T (Nat.le_of_lt hm) hn
  rw [X] at XB ⊢
  have X0 : Hid (dr = 0 → xr = 0) := fun h => by rw [← hxr, h]; exact cst_nought
  have dqb : dq ≤ 16384 := by rw [← hdq]; exact Nat.le_trans (Nat.div_le_self n m) hn
  have m0 : (m : Int) ≠ 0 := by omega
  have e6 : IntKind.i64.wrap (z : Int) = (z : Int) := by rw [IntKind.wrap_i64]; omega
  have e7 : IntKind.i64.wrap ((z : Int) + (xr : Int)) = (z : Int) + (xr : Int) := by rw [IntKind.wrap_i64]; omega
  have e8 : IntKind.i64.wrap (dq : Int) = (dq : Int) := by rw [IntKind.wrap_i64]; omega
  clear hdq hdr hxm hxr hz X
  clear ih
  unfold Tab.val
  go_enter Tryz.func18, Tryz.ntmps18
  go_wp2_with fail
  refine (unhide CR _).mono ?_
  rintro e w1 ⟨rfl, b1⟩
  have b0 := hide (bstep (unhide bel _) b1)
  have TA1 := hide ((unhide TA).next b1)
  clear b1 TA bel CR
  obtain ⟨g, hg⟩ : ∃ g, w.heap.size = g := ⟨_, rfl⟩
  have TA2 := unhide TA1
  rw [hg] at TA2
  have TA3 := hide TA2
  obtain ⟨c0, c1, c2, c3, c4, c5, c6, c7, c8, c9, c10⟩ := TA2
  go_wp2_with fail
  clear hg
  have o0 := Old.cell c0
  have o1 := Old.cell c1
  have o2 := Old.cell c2
  have o3 := Old.cell c3
  have o4 := Old.cell c4
  have o5 := Old.cell c5
  have o6 := Old.cell c6
  have o7 := Old.cell c7
  have o8 := Old.cell c8
  have o9 := Old.cell c9
  have o10 := Old.cell c10
  clear c0 c1 c2 c3 c4 c5 c6 c7 c8 c9 c10
  have inst := old_some w1
  refine region_old (by kernel_rfl) (by kernel_rfl) ?_
  repeat (go_big_quiet_step ((go_at_call 18; exact Calls.old (unhide IH _ _ _ (by omega) (by omega) (by omega)))))
  refine wpQuiet_nil ?_
  intro w5 hw5
  obtain ⟨u, rfl⟩ := hw5
  clear o0 o1 o2 o3 o4 o5 o6 o7 o8 o9 o10
  have TA4 := TA3.out.next u.old
  by_cases hd0 : (0 : Int) < (dr : Int)
  · obtain ⟨c0, c1, c2, c3, c4, c5, c6, c7, c8, c9, c10⟩ := TA4
    go_wp2_with fail
    have o0 := Old.cell c0
    have o1 := Old.cell c1
    have o2 := Old.cell c2
    have o3 := Old.cell c3
    have o4 := Old.cell c4
    have o5 := Old.cell c5
    have o6 := Old.cell c6
    have o7 := Old.cell c7
    have o8 := Old.cell c8
    have o9 := Old.cell c9
    have o10 := Old.cell c10
    clear c0 c1 c2 c3 c4 c5 c6 c7 c8 c9 c10
    have inst := old_some u.val
    refine region_old (by kernel_rfl) (by kernel_rfl) ?_
    repeat (go_big_quiet_step ((go_at_call 18; exact Calls.old (unhide IH _ _ _ (by omega) (by omega) (by omega)))))
    refine wpQuiet_nil ?_
    intro w5 hw5
    obtain ⟨u2, rfl⟩ := hw5
    clear o0 o1 o2 o3 o4 o5 o6 o7 o8 o9 o10

    go_wp2_with fail
    go_ret
    exact ⟨ret_int (by omega), bstep (bstep (unhide b0) u.old) u2.old⟩
  · have hd1 : dr = 0 := by omega
    have x1 := X0.out hd1
    go_wp2_with fail
    go_ret
    exact ⟨ret_int (by omega), bstep (unhide b0) u.old⟩

set_option maxRecDepth 100000 in
set_option maxHeartbeats 3200000 in
theorem rCost_zero (T : Tab) (n m : Nat) (w : World) (hm : m ≤ n) (hn : n ≤ 16384) (r : rt T.B T.D T.N n m = 0) :
    Calls Tryz.prog 18 #[T.val, .int .i64 (n : Int), .int .i64 (m : Int)] w fun e w' => e = .returned (.int .i64 (cst T.B T.D T.N n m : Int)) ∧ Below w.heap.size w w' := by
  have CR : Hid (∀ w, Calls Tryz.prog 43 #[T.val, .int .i64 (n : Int), .int .i64 (m : Int)] w fun e w' => e = .returned (.int .i64 0) ∧ Below w.heap.size w w') := fun w => by
    have := rRoute_any T n m w
    rwa [rtT_nat T hm hn, r] at this
  have bel := hide (fun o => (Below.refl w.heap.size w).alloc (Nat.le_refl _) o)
  have HML := hide (show m ≤ n from hm)
  rw [cst_zero r]
  unfold Tab.val
  go_enter Tryz.func18, Tryz.ntmps18
  go_wp2_with fail
  refine (unhide CR _).mono ?_
  rintro e w1 ⟨rfl, b1⟩
  have b0 := hide (bstep (unhide bel _) b1)
  clear b1 bel CR
  go_wp2_with fail
  go_ret
  exact ⟨rfl, unhide b0⟩

set_option maxRecDepth 100000 in
set_option maxHeartbeats 3200000 in
theorem rCost_one (T : Tab) (n m : Nat) (w : World) (hm : m ≤ n) (hn : n ≤ 16384) (r : rt T.B T.D T.N n m = 1) :
    Calls Tryz.prog 18 #[T.val, .int .i64 (n : Int), .int .i64 (m : Int)] w fun e w' => e = .returned (.int .i64 (cst T.B T.D T.N n m : Int)) ∧ Below w.heap.size w w' := by
  have CR : Hid (∀ w, Calls Tryz.prog 43 #[T.val, .int .i64 (n : Int), .int .i64 (m : Int)] w fun e w' => e = .returned (.int .i64 1) ∧ Below w.heap.size w w') := fun w => by
    have := rRoute_any T n m w
    rwa [rtT_nat T hm hn, r] at this
  have bel := hide (fun o => (Below.refl w.heap.size w).alloc (Nat.le_refl _) o)
  have HML := hide (show m ≤ n from hm)
  rw [cst_one r]
  obtain ⟨p, hp⟩ : ∃ p : Nat, n * m = p := ⟨_, rfl⟩
  have pb : p ≤ 268435456 := by rw [← hp]; exact Nat.mul_le_mul hn (Nat.le_trans hm hn)
  have ep : (n : Int) * (m : Int) = (p : Int) := by rw [← hp]; simp
  rw [hp]
  clear hp
  unfold Tab.val
  go_enter Tryz.func18, Tryz.ntmps18
  go_wp2_with fail
  refine (unhide CR _).mono ?_
  rintro e w1 ⟨rfl, b1⟩
  have b0 := hide (bstep (unhide bel _) b1)
  clear b1 bel CR
  go_wp2_with fail
  go_ret
  exact ⟨rfl, unhide b0⟩

set_option maxRecDepth 100000 in
set_option maxHeartbeats 3200000 in
theorem rCost_five (T : Tab) (n m : Nat) (w : World) (hm : m ≤ n) (hn : n ≤ 16384) (r : rt T.B T.D T.N n m = 5) (h1 : 1 ≤ m) :
    Calls Tryz.prog 18 #[T.val, .int .i64 (n : Int), .int .i64 (m : Int)] w fun e w' => e = .returned (.int .i64 (cst T.B T.D T.N n m : Int)) ∧ Below w.heap.size w w' := by
  have CR : Hid (∀ w, Calls Tryz.prog 43 #[T.val, .int .i64 (n : Int), .int .i64 (m : Int)] w fun e w' => e = .returned (.int .i64 5) ∧ Below w.heap.size w w') := fun w => by
    have := rRoute_any T n m w
    rwa [rtT_nat T hm hn, r] at this
  have bel := hide (fun o => (Below.refl w.heap.size w).alloc (Nat.le_refl _) o)
  have HML := hide (show m ≤ n from hm)
  rw [cst_five r]
  have CT := hide (fun w => rTransform_yes n m 3 w (by omega) hn h1 (by omega) (by omega))
  generalize tf n m 3 = x at *
  unfold Tab.val
  go_enter Tryz.func18, Tryz.ntmps18
  go_wp2_with fail
  refine (unhide CR _).mono ?_
  rintro e w1 ⟨rfl, b1⟩
  have b0 := hide (bstep (unhide bel _) b1)
  clear b1 bel CR
  go_wp2_with fail
  refine (unhide CT _).mono ?_
  rintro e w2 ⟨rfl, rfl⟩
  go_wp2_with fail
  go_ret
  exact ⟨rfl, unhide b0⟩

set_option maxRecDepth 100000 in
set_option maxHeartbeats 3200000 in
theorem rCost_zeroS (T : Tab) (n m : Nat) (w : World) (hm : m < n) (hn : n ≤ 16384) (r : rt T.B T.D T.N n m = 0) :
    Calls Tryz.prog 18 #[T.val, .int .i64 (m : Int), .int .i64 (n : Int)] w fun e w' => e = .returned (.int .i64 (cst T.B T.D T.N n m : Int)) ∧ Below w.heap.size w w' := by
  have CR : Hid (∀ w, Calls Tryz.prog 43 #[T.val, .int .i64 (n : Int), .int .i64 (m : Int)] w fun e w' => e = .returned (.int .i64 0) ∧ Below w.heap.size w w') := fun w => by
    have := rRoute_any T n m w
    rwa [rtT_nat T (Nat.le_of_lt hm) hn, r] at this
  have bel := hide (fun o => (Below.refl w.heap.size w).alloc (Nat.le_refl _) o)
  have HML := hide (show m ≤ n from (Nat.le_of_lt hm))
  rw [cst_zero r]
  unfold Tab.val
  go_enter Tryz.func18, Tryz.ntmps18
  go_wp2_with fail
  refine (unhide CR _).mono ?_
  rintro e w1 ⟨rfl, b1⟩
  have b0 := hide (bstep (unhide bel _) b1)
  clear b1 bel CR
  go_wp2_with fail
  go_ret
  exact ⟨rfl, unhide b0⟩

set_option maxRecDepth 100000 in
set_option maxHeartbeats 3200000 in
theorem rCost_oneS (T : Tab) (n m : Nat) (w : World) (hm : m < n) (hn : n ≤ 16384) (r : rt T.B T.D T.N n m = 1) :
    Calls Tryz.prog 18 #[T.val, .int .i64 (m : Int), .int .i64 (n : Int)] w fun e w' => e = .returned (.int .i64 (cst T.B T.D T.N n m : Int)) ∧ Below w.heap.size w w' := by
  have CR : Hid (∀ w, Calls Tryz.prog 43 #[T.val, .int .i64 (n : Int), .int .i64 (m : Int)] w fun e w' => e = .returned (.int .i64 1) ∧ Below w.heap.size w w') := fun w => by
    have := rRoute_any T n m w
    rwa [rtT_nat T (Nat.le_of_lt hm) hn, r] at this
  have bel := hide (fun o => (Below.refl w.heap.size w).alloc (Nat.le_refl _) o)
  have HML := hide (show m ≤ n from (Nat.le_of_lt hm))
  rw [cst_one r]
  obtain ⟨p, hp⟩ : ∃ p : Nat, n * m = p := ⟨_, rfl⟩
  have pb : p ≤ 268435456 := by rw [← hp]; exact Nat.mul_le_mul hn (Nat.le_trans (Nat.le_of_lt hm) hn)
  have ep : (n : Int) * (m : Int) = (p : Int) := by rw [← hp]; simp
  rw [hp]
  clear hp
  unfold Tab.val
  go_enter Tryz.func18, Tryz.ntmps18
  go_wp2_with fail
  refine (unhide CR _).mono ?_
  rintro e w1 ⟨rfl, b1⟩
  have b0 := hide (bstep (unhide bel _) b1)
  clear b1 bel CR
  go_wp2_with fail
  go_ret
  exact ⟨rfl, unhide b0⟩

set_option maxRecDepth 100000 in
set_option maxHeartbeats 3200000 in
theorem rCost_fiveS (T : Tab) (n m : Nat) (w : World) (hm : m < n) (hn : n ≤ 16384) (r : rt T.B T.D T.N n m = 5) (h1 : 1 ≤ m) :
    Calls Tryz.prog 18 #[T.val, .int .i64 (m : Int), .int .i64 (n : Int)] w fun e w' => e = .returned (.int .i64 (cst T.B T.D T.N n m : Int)) ∧ Below w.heap.size w w' := by
  have CR : Hid (∀ w, Calls Tryz.prog 43 #[T.val, .int .i64 (n : Int), .int .i64 (m : Int)] w fun e w' => e = .returned (.int .i64 5) ∧ Below w.heap.size w w') := fun w => by
    have := rRoute_any T n m w
    rwa [rtT_nat T (Nat.le_of_lt hm) hn, r] at this
  have bel := hide (fun o => (Below.refl w.heap.size w).alloc (Nat.le_refl _) o)
  have HML := hide (show m ≤ n from (Nat.le_of_lt hm))
  rw [cst_five r]
  have CT := hide (fun w => rTransform_yes n m 3 w (by omega) hn h1 (by omega) (by omega))
  generalize tf n m 3 = x at *
  unfold Tab.val
  go_enter Tryz.func18, Tryz.ntmps18
  go_wp2_with fail
  refine (unhide CR _).mono ?_
  rintro e w1 ⟨rfl, b1⟩
  have b0 := hide (bstep (unhide bel _) b1)
  clear b1 bel CR
  go_wp2_with fail
  refine (unhide CT _).mono ?_
  rintro e w2 ⟨rfl, rfl⟩
  go_wp2_with fail
  go_ret
  exact ⟨rfl, unhide b0⟩

theorem rCost_le (T : Tab) : ∀ (f n m : Nat) (w : World), n < f → m ≤ n → n ≤ 16384 →
    Calls Tryz.prog 18 #[T.val, .int .i64 (n : Int), .int .i64 (m : Int)] w fun e w' => e = .returned (.int .i64 (cst T.B T.D T.N n m : Int)) ∧ Below w.heap.size w w'
  | 0, _, _, _, h, _, _ => by omega
  | f + 1, n, m, w, hf, hm, hn => by
    have ih : ∀ (a b : Int) (w : World), a < (n : Int) → 0 ≤ b → b ≤ a → Calls Tryz.prog 18 #[T.val, .int .i64 a, .int .i64 b] w fun e w' => e = .returned (.int .i64 (costT T a b)) ∧ Below w.heap.size w w' := fun a b w h1 h2 h3 => by
      obtain ⟨b, rfl⟩ := Int.eq_ofNat_of_zero_le h2
      obtain ⟨a, rfl⟩ := Int.eq_ofNat_of_zero_le (show 0 ≤ a by omega)
      rw [costT_nat T (by omega) (by omega)]
      exact rCost_le T f a b w (by omega) (by omega) (by omega)
    have e := T.ent.b1
    rcases rt_ways n m hm T.ent with ⟨r, _⟩ | ⟨r, _, _⟩ | ⟨r, h1, h2⟩ | ⟨r, h1, h2⟩ | ⟨r, h0, h1, h2⟩ | ⟨r, h0, h1, h2, h3⟩
    · exact rCost_zero T n m w hm hn r
    · exact rCost_one T n m w hm hn r
    · exact rCost_two T n m w hm hn r h1 h2 ih
    · exact rCost_three T n m w hm hn r h1 h2 ih
    · exact rCost_four T n m w hm hn r h0 h2 ih
    · exact rCost_five T n m w hm hn r (by omega)
theorem rCost_any (T : Tab) (n m : Int) (w : World) (a1 : 0 ≤ n) (a2 : n ≤ 16384) (a3 : 0 ≤ m) (a4 : m ≤ 16384) :
    Calls Tryz.prog 18 #[T.val, .int .i64 n, .int .i64 m] w fun e w' => e = .returned (.int .i64 (costT T n m)) ∧ Below w.heap.size w w' := by
  obtain ⟨n, rfl⟩ := Int.eq_ofNat_of_zero_le a1
  obtain ⟨m, rfl⟩ := Int.eq_ofNat_of_zero_le a3
  by_cases hm : m ≤ n
  · rw [costT_nat T hm (by omega)]
    exact rCost_le T (n + 1) n m w (by omega) hm (by omega)
  · rw [costT_comm, costT_nat T (show n ≤ m by omega) (by omega)]
    have hm : n < m := by omega
    have hn : m ≤ 16384 := by omega
    have ih : ∀ (a b : Int) (w : World), a < (m : Int) → 0 ≤ b → b ≤ a → Calls Tryz.prog 18 #[T.val, .int .i64 a, .int .i64 b] w fun e w' => e = .returned (.int .i64 (costT T a b)) ∧ Below w.heap.size w w' := fun a b w h1 h2 h3 => by
      obtain ⟨b, rfl⟩ := Int.eq_ofNat_of_zero_le h2
      obtain ⟨a, rfl⟩ := Int.eq_ofNat_of_zero_le (show 0 ≤ a by omega)
      rw [costT_nat T (by omega) (by omega)]
      exact rCost_le T (a + 1) a b w (by omega) (by omega) (by omega)
    have e := T.ent.b1
    rcases rt_ways m n (by omega) T.ent with ⟨r, _⟩ | ⟨r, _, _⟩ | ⟨r, h1, h2⟩ | ⟨r, h1, h2⟩ | ⟨r, h0, h1, h2⟩ | ⟨r, h0, h1, h2, h3⟩
    · exact rCost_zeroS T m n w hm hn r
    · exact rCost_oneS T m n w hm hn r
    · exact rCost_twoS T m n w hm hn r h1 h2 ih
    · exact rCost_threeS T m n w hm hn r h1 h2 ih
    · exact rCost_fourS T m n w hm hn r h0 h2 ih
    · exact rCost_fiveS T m n w hm hn r (by omega)

end Go.Proofs.YtiekgpphggejcaaGreatDoor
