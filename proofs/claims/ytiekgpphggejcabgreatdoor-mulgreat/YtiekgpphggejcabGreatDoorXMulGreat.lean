/- Cost of the document: the other ways, and all together. -/
import Derived.Test.YtiekgpphggejcabGreatDoorB22
import Derived.Test.YtiekgpphggejcabGreatDoorB45
import Derived.Test.YtiekgpphggejcabGreatDoorB10
import Derived.Test.YtiekgpphggejcabGreatDoorB32
namespace Go.Proofs.YtiekgpphggejcabGreatDoor
open Go.RowKit

set_option maxRecDepth 100000 in
set_option maxHeartbeats 3200000 in
theorem rCost_two (T : Tab) (n m : Nat) (w : World) (hm : m ≤ n) (hn : n ≤ 16384) (r : rt T.B T.D T.N n m = 2) (h1 : T.B ≤ m) (h2 : 2 * m ≤ n + 1)
    (ih : ∀ (a b : Int) (w : World), a < (n : Int) → 0 ≤ b → b ≤ a → Calls Tryz.prog 31 #[T.val, .int .i64 a, .int .i64 b] w fun e w' => e = .returned (.int .i64 (costT T a b)) ∧ Below w.heap.size w w') :
    Calls Tryz.prog 31 #[T.val, .int .i64 (n : Int), .int .i64 (m : Int)] w fun e w' => e = .returned (.int .i64 (cst T.B T.D T.N n m : Int)) ∧ Below w.heap.size w w' := by
  have IH := hide ih
  have CR : Hid (∀ w, Calls Tryz.prog 49 #[T.val, .int .i64 (n : Int), .int .i64 (m : Int)] w fun e w' => e = .returned (.int .i64 2) ∧ Below w.heap.size w w') := fun w => by
    have := rRoute_any T n m w
    rwa [rtT_nat T hm hn, r] at this
  have TA := hide (tabAt_new w T 23)
  have bel := hide (fun o => (Below.refl w.heap.size w).alloc (Nat.le_refl _) o)
  have HML := hide (show m ≤ n from hm)
  have h4 := T.ent.b1
  obtain ⟨dq, hdq⟩ : ∃ d, n / m = d := ⟨_, rfl⟩
  obtain ⟨dr, hdr⟩ : ∃ d, n % m = d := ⟨_, rfl⟩
  obtain ⟨xm, hxm⟩ : ∃ d, cst T.B T.D T.N m m = d := ⟨_, rfl⟩
  obtain ⟨xr, hxr⟩ : ∃ d, cst T.B T.D T.N m dr = d := ⟨_, rfl⟩
  obtain ⟨z, hz⟩ : ∃ d, dq * xm = d := ⟨_, rfl⟩
  have hdrm : dr < m := by rw [← hdr]; exact Nat.mod_lt n (by omega)
  have e1 : (n : Int) / (m : Int) = (dq : Int) := by rw [← hdq]; simp
  have e2 : (n : Int) % (m : Int) = (dr : Int) := by rw [← hdr]; simp
  have e3 : costT T (m : Int) (m : Int) = (xm : Int) := by rw [costT_nat T (Nat.le_refl _) (by omega), hxm]
  have e4 : costT T (m : Int) (dr : Int) = (xr : Int) := by rw [costT_nat T (by omega) (by omega), hxr]
  have e5 : (dq : Int) * (xm : Int) = (z : Int) := by rw [← hz]; simp
  have X : cst T.B T.D T.N n m = z + xr := by rw [cst_two T.ent hm r h1 h2, hdq, hdr, hxm, hxr, hz]
  have XB := cst_small T hm hn
  rw [X] at XB ⊢
  have X0 : Hid (dr = 0 → xr = 0) := fun h => by rw [← hxr, h]; exact cst_nought
  have dqb : dq ≤ 16384 := by rw [← hdq]; exact Nat.le_trans (Nat.div_le_self n m) hn
  have m0 : (m : Int) ≠ 0 := by omega
  have e6 : IntKind.i64.wrap (z : Int) = (z : Int) := by rw [IntKind.wrap_i64]; omega
  have e7 : IntKind.i64.wrap ((z : Int) + (xr : Int)) = (z : Int) + (xr : Int) := by rw [IntKind.wrap_i64]; omega
  have e8 : IntKind.i64.wrap (dq : Int) = (dq : Int) := by rw [IntKind.wrap_i64]; omega
  clear hdq hdr hxm hxr hz X
  clear ih
  unfold Tab.val
  go_enter Tryz.func31, Tryz.ntmps31
  go_wp2_with fail
  refine (unhide CR _).mono ?_
  rintro e w1 ⟨rfl, b1⟩
  have b0 := hide (bstep (unhide bel _) b1)
  have TA1 := hide ((unhide TA).next b1)
  clear b1 TA bel CR
  obtain ⟨g, hg⟩ : ∃ g, w.heap.size = g := ⟨_, rfl⟩
  have TA2 := unhide TA1
  rw [hg] at TA2
  have TA3 := hide TA2
  obtain ⟨c0, c1, c2, c3, c4, c5, c6, c7, c8, c9, c10⟩ := TA2
  go_wp2_with fail
  clear hg
  have o0 := Old.cell c0
  have o1 := Old.cell c1
  have o2 := Old.cell c2
  have o3 := Old.cell c3
  have o4 := Old.cell c4
  have o5 := Old.cell c5
  have o6 := Old.cell c6
  have o7 := Old.cell c7
  have o8 := Old.cell c8
  have o9 := Old.cell c9
  have o10 := Old.cell c10
  clear c0 c1 c2 c3 c4 c5 c6 c7 c8 c9 c10
  have inst := old_some w1
  refine region_old (by kernel_rfl) (by kernel_rfl) ?_
  repeat (go_big_quiet_step ((go_at_call 31; exact Calls.old (unhide IH _ _ _ (by omega) (by omega) (by omega)))))
  refine wpQuiet_nil ?_
  intro w5 hw5
  obtain ⟨u, rfl⟩ := hw5
  clear o0 o1 o2 o3 o4 o5 o6 o7 o8 o9 o10
  have TA4 := TA3.out.next u.old
  by_cases hd0 : (0 : Int) < (dr : Int)
  · obtain ⟨c0, c1, c2, c3, c4, c5, c6, c7, c8, c9, c10⟩ := TA4
    go_wp2_with fail
    have o0 := Old.cell c0
    have o1 := Old.cell c1
    have o2 := Old.cell c2
    have o3 := Old.cell c3
    have o4 := Old.cell c4
    have o5 := Old.cell c5
    have o6 := Old.cell c6
    have o7 := Old.cell c7
    have o8 := Old.cell c8
    have o9 := Old.cell c9
    have o10 := Old.cell c10
    clear c0 c1 c2 c3 c4 c5 c6 c7 c8 c9 c10
    have inst := old_some u.val
    refine region_old (by kernel_rfl) (by kernel_rfl) ?_
    repeat (go_big_quiet_step ((go_at_call 31; exact Calls.old (unhide IH _ _ _ (by omega) (by omega) (by omega)))))
    refine wpQuiet_nil ?_
    intro w5 hw5
    obtain ⟨u2, rfl⟩ := hw5
    clear o0 o1 o2 o3 o4 o5 o6 o7 o8 o9 o10

    go_wp2_with fail
    go_ret
    exact ⟨ret_int (by omega), bstep (bstep (unhide b0) u.old) u2.old⟩
  · have hd1 : dr = 0 := by omega
    have x1 := X0.out hd1
    go_wp2_with fail
    go_ret
    exact ⟨ret_int (by omega), bstep (unhide b0) u.old⟩

set_option maxRecDepth 100000 in
set_option maxHeartbeats 3200000 in
theorem rCost_twoS (T : Tab) (n m : Nat) (w : World) (hm : m < n) (hn : n ≤ 16384) (r : rt T.B T.D T.N n m = 2) (h1 : T.B ≤ m) (h2 : 2 * m ≤ n + 1)
    (ih : ∀ (a b : Int) (w : World), a < (n : Int) → 0 ≤ b → b ≤ a → Calls Tryz.prog 31 #[T.val, .int .i64 a, .int .i64 b] w fun e w' => e = .returned (.int .i64 (costT T a b)) ∧ Below w.heap.size w w') :
    Calls Tryz.prog 31 #[T.val, .int .i64 (m : Int), .int .i64 (n : Int)] w fun e w' => e = .returned (.int .i64 (cst T.B T.D T.N n m : Int)) ∧ Below w.heap.size w w' := by
  have IH := hide ih
  have CR : Hid (∀ w, Calls Tryz.prog 49 #[T.val, .int .i64 (n : Int), .int .i64 (m : Int)] w fun e w' => e = .returned (.int .i64 2) ∧ Below w.heap.size w w') := fun w => by
    have := rRoute_any T n m w
    rwa [rtT_nat T (Nat.le_of_lt hm) hn, r] at this
  have TA := hide (tabAt_new w T 23)
  have bel := hide (fun o => (Below.refl w.heap.size w).alloc (Nat.le_refl _) o)
  have HML := hide (show m ≤ n from (Nat.le_of_lt hm))
  have h4 := T.ent.b1
  obtain ⟨dq, hdq⟩ : ∃ d, n / m = d := ⟨_, rfl⟩
  obtain ⟨dr, hdr⟩ : ∃ d, n % m = d := ⟨_, rfl⟩
  obtain ⟨xm, hxm⟩ : ∃ d, cst T.B T.D T.N m m = d := ⟨_, rfl⟩
  obtain ⟨xr, hxr⟩ : ∃ d, cst T.B T.D T.N m dr = d := ⟨_, rfl⟩
  obtain ⟨z, hz⟩ : ∃ d, dq * xm = d := ⟨_, rfl⟩
  have hdrm : dr < m := by rw [← hdr]; exact Nat.mod_lt n (by omega)
  have e1 : (n : Int) / (m : Int) = (dq : Int) := by rw [← hdq]; simp
  have e2 : (n : Int) % (m : Int) = (dr : Int) := by rw [← hdr]; simp
  have e3 : costT T (m : Int) (m : Int) = (xm : Int) := by rw [costT_nat T (Nat.le_refl _) (by omega), hxm]
  have e4 : costT T (m : Int) (dr : Int) = (xr : Int) := by rw [costT_nat T (by omega) (by omega), hxr]
  have e5 : (dq : Int) * (xm : Int) = (z : Int) := by rw [← hz]; simp
  have X : cst T.B T.D T.N n m = z + xr := by rw [cst_two T.ent (Nat.le_of_lt hm) r h1 h2, hdq, hdr, hxm, hxr, hz]
  have XB := cst_small T (Nat.le_of_lt hm) hn
  rw [X] at XB ⊢
  have X0 : Hid (dr = 0 → xr = 0) := fun h => by rw [← hxr, h]; exact cst_nought
  have dqb : dq ≤ 16384 := by rw [← hdq]; exact Nat.le_trans (Nat.div_le_self n m) hn
  have m0 : (m : Int) ≠ 0 := by omega
  have e6 : IntKind.i64.wrap (z : Int) = (z : Int) := by rw [IntKind.wrap_i64]; omega
  have e7 : IntKind.i64.wrap ((z : Int) + (xr : Int)) = (z : Int) + (xr : Int) := by rw [IntKind.wrap_i64]; omega
  have e8 : IntKind.i64.wrap (dq : Int) = (dq : Int) := by rw [IntKind.wrap_i64]; omega
  clear hdq hdr hxm hxr hz X
  clear ih
  unfold Tab.val
  go_enter Tryz.func31, Tryz.ntmps31
  go_wp2_with fail
  refine (unhide CR _).mono ?_
  rintro e w1 ⟨rfl, b1⟩
  have b0 := hide (bstep (unhide bel _) b1)
  have TA1 := hide ((unhide TA).next b1)
  clear b1 TA bel CR
  obtain ⟨g, hg⟩ : ∃ g, w.heap.size = g := ⟨_, rfl⟩
  have TA2 := unhide TA1
  rw [hg] at TA2
  have TA3 := hide TA2
  obtain ⟨c0, c1, c2, c3, c4, c5, c6, c7, c8, c9, c10⟩ := TA2
  go_wp2_with fail
  clear hg
  have o0 := Old.cell c0
  have o1 := Old.cell c1
  have o2 := Old.cell c2
  have o3 := Old.cell c3
  have o4 := Old.cell c4
  have o5 := Old.cell c5
  have o6 := Old.cell c6
  have o7 := Old.cell c7
  have o8 := Old.cell c8
  have o9 := Old.cell c9
  have o10 := Old.cell c10
  clear c0 c1 c2 c3 c4 c5 c6 c7 c8 c9 c10
  have inst := old_some w1
  refine region_old (by kernel_rfl) (by kernel_rfl) ?_
  repeat (go_big_quiet_step ((go_at_call 31; exact Calls.old (unhide IH _ _ _ (by omega) (by omega) (by omega)))))
  refine wpQuiet_nil ?_
  intro w5 hw5
  obtain ⟨u, rfl⟩ := hw5
  clear o0 o1 o2 o3 o4 o5 o6 o7 o8 o9 o10
  have TA4 := TA3.out.next u.old
  by_cases hd0 : (0 : Int) < (dr : Int)
  · obtain ⟨c0, c1, c2, c3, c4, c5, c6, c7, c8, c9, c10⟩ := TA4
    go_wp2_with fail
    have o0 := Old.cell c0
    have o1 := Old.cell c1
    have o2 := Old.cell c2
    have o3 := Old.cell c3
    have o4 := Old.cell c4
    have o5 := Old.cell c5
    have o6 := Old.cell c6
    have o7 := Old.cell c7
    have o8 := Old.cell c8
    have o9 := Old.cell c9
    have o10 := Old.cell c10
    clear c0 c1 c2 c3 c4 c5 c6 c7 c8 c9 c10
    have inst := old_some u.val
    refine region_old (by kernel_rfl) (by kernel_rfl) ?_
    repeat (go_big_quiet_step ((go_at_call 31; exact Calls.old (unhide IH _ _ _ (by omega) (by omega) (by omega)))))
    refine wpQuiet_nil ?_
    intro w5 hw5
    obtain ⟨u2, rfl⟩ := hw5
    clear o0 o1 o2 o3 o4 o5 o6 o7 o8 o9 o10

    go_wp2_with fail
    go_ret
    exact ⟨ret_int (by omega), bstep (bstep (unhide b0) u.old) u2.old⟩
  · have hd1 : dr = 0 := by omega
    have x1 := X0.out hd1
    go_wp2_with fail
    go_ret
    exact ⟨ret_int (by omega), bstep (unhide b0) u.old⟩

set_option maxRecDepth 100000 in
set_option maxHeartbeats 3200000 in
theorem rCost_zero (T : Tab) (n m : Nat) (w : World) (hm : m ≤ n) (hn : n ≤ 16384) (r : rt T.B T.D T.N n m = 0) :
    Calls Tryz.prog 31 #[T.val, .int .i64 (n : Int), .int .i64 (m : Int)] w fun e w' => e = .returned (.int .i64 (cst T.B T.D T.N n m : Int)) ∧ Below w.heap.size w w' := by
  have CR : Hid (∀ w, Calls Tryz.prog 49 #[T.val, .int .i64 (n : Int), .int .i64 (m : Int)] w fun e w' => e = .returned (.int .i64 0) ∧ Below w.heap.size w w') := fun w => by
    have := rRoute_any T n m w
    rwa [rtT_nat T hm hn, r] at this
  have bel := hide (fun o => (Below.refl w.heap.size w).alloc (Nat.le_refl _) o)
  have HML := hide (show m ≤ n from hm)
  rw [cst_zero r]
  unfold Tab.val
  go_enter Tryz.func31, Tryz.ntmps31
  go_wp2_with fail
  refine (unhide CR _).mono ?_
  rintro e w1 ⟨rfl, b1⟩
  have b0 := hide (bstep (unhide bel _) b1)
  clear b1 bel CR
  go_wp2_with fail
  go_ret
  exact ⟨rfl, unhide b0⟩

set_option maxRecDepth 100000 in
set_option maxHeartbeats 3200000 in
theorem rCost_one (T : Tab) (n m : Nat) (w : World) (hm : m ≤ n) (hn : n ≤ 16384) (r : rt T.B T.D T.N n m = 1) :
    Calls Tryz.prog 31 #[T.val, .int .i64 (n : Int), .int .i64 (m : Int)] w fun e w' => e = .returned (.int .i64 (cst T.B T.D T.N n m : Int)) ∧ Below w.heap.size w w' := by
  have CR : Hid (∀ w, Calls Tryz.prog 49 #[T.val, .int .i64 (n : Int), .int .i64 (m : Int)] w fun e w' => e = .returned (.int .i64 1) ∧ Below w.heap.size w w') := fun w => by
    have := rRoute_any T n m w
    rwa [rtT_nat T hm hn, r] at this
  have bel := hide (fun o => (Below.refl w.heap.size w).alloc (Nat.le_refl _) o)
  have HML := hide (show m ≤ n from hm)
  rw [cst_one r]
  obtain ⟨p, hp⟩ : ∃ p : Nat, n * m = p := ⟨_, rfl⟩
  have pb : p ≤ 268435456 := by rw [← hp]; exact Nat.mul_le_mul hn (Nat.le_trans hm hn)
  have ep : (n : Int) * (m : Int) = (p : Int) := by rw [← hp]; simp
  rw [hp]
  clear hp
  unfold Tab.val
  go_enter Tryz.func31, Tryz.ntmps31
  go_wp2_with fail
  refine (unhide CR _).mono ?_
  rintro e w1 ⟨rfl, b1⟩
  have b0 := hide (bstep (unhide bel _) b1)
  clear b1 bel CR
  go_wp2_with fail
  go_ret
  exact ⟨rfl, unhide b0⟩

set_option maxRecDepth 100000 in
set_option maxHeartbeats 3200000 in
theorem rCost_five (T : Tab) (n m : Nat) (w : World) (hm : m ≤ n) (hn : n ≤ 16384) (r : rt T.B T.D T.N n m = 5) (h1 : 1 ≤ m) :
    Calls Tryz.prog 31 #[T.val, .int .i64 (n : Int), .int .i64 (m : Int)] w fun e w' => e = .returned (.int .i64 (cst T.B T.D T.N n m : Int)) ∧ Below w.heap.size w w' := by
  have CR : Hid (∀ w, Calls Tryz.prog 49 #[T.val, .int .i64 (n : Int), .int .i64 (m : Int)] w fun e w' => e = .returned (.int .i64 5) ∧ Below w.heap.size w w') := fun w => by
    have := rRoute_any T n m w
    rwa [rtT_nat T hm hn, r] at this
  have bel := hide (fun o => (Below.refl w.heap.size w).alloc (Nat.le_refl _) o)
  have HML := hide (show m ≤ n from hm)
  rw [cst_five r]
  have CT := hide (fun w => rTransform_yes n m 3 w (by omega) hn h1 (by omega) (by omega))
  generalize tf n m 3 = x at *
  unfold Tab.val
  go_enter Tryz.func31, Tryz.ntmps31
  go_wp2_with fail
  refine (unhide CR _).mono ?_
  rintro e w1 ⟨rfl, b1⟩
  have b0 := hide (bstep (unhide bel _) b1)
  clear b1 bel CR
  go_wp2_with fail
  refine (unhide CT _).mono ?_
  rintro e w2 ⟨rfl, rfl⟩
  go_wp2_with fail
  go_ret
  exact ⟨rfl, unhide b0⟩

set_option maxRecDepth 100000 in
set_option maxHeartbeats 3200000 in
theorem rCost_zeroS (T : Tab) (n m : Nat) (w : World) (hm : m < n) (hn : n ≤ 16384) (r : rt T.B T.D T.N n m = 0) :
    Calls Tryz.prog 31 #[T.val, .int .i64 (m : Int), .int .i64 (n : Int)] w fun e w' => e = .returned (.int .i64 (cst T.B T.D T.N n m : Int)) ∧ Below w.heap.size w w' := by
  have CR : Hid (∀ w, Calls Tryz.prog 49 #[T.val, .int .i64 (n : Int), .int .i64 (m : Int)] w fun e w' => e = .returned (.int .i64 0) ∧ Below w.heap.size w w') := fun w => by
    have := rRoute_any T n m w
    rwa [rtT_nat T (Nat.le_of_lt hm) hn, r] at this
  have bel := hide (fun o => (Below.refl w.heap.size w).alloc (Nat.le_refl _) o)
  have HML := hide (show m ≤ n from (Nat.le_of_lt hm))
  rw [cst_zero r]
  unfold Tab.val
  go_enter Tryz.func31, Tryz.ntmps31
  go_wp2_with fail
  refine (unhide CR _).mono ?_
  rintro e w1 ⟨rfl, b1⟩
  have b0 := hide (bstep (unhide bel _) b1)
  clear b1 bel CR
  go_wp2_with fail
  go_ret
  exact ⟨rfl, unhide b0⟩

set_option maxRecDepth 100000 in
set_option maxHeartbeats 3200000 in
theorem rCost_oneS (T : Tab) (n m : Nat) (w : World) (hm : m < n) (hn : n ≤ 16384) (r : rt T.B T.D T.N n m = 1) :
    Calls Tryz.prog 31 #[T.val, .int .i64 (m : Int), .int .i64 (n : Int)] w fun e w' => e = .returned (.int .i64 (cst T.B T.D T.N n m : Int)) ∧ Below w.heap.size w w' := by
  have CR : Hid (∀ w, Calls Tryz.prog 49 #[T.val, .int .i64 (n : Int), .int .i64 (m : Int)] w fun e w' => e = .returned (.int .i64 1) ∧ Below w.heap.size w w') := fun w => by
    have := rRoute_any T n m w
    rwa [rtT_nat T (Nat.le_of_lt hm) hn, r] at this
  have bel := hide (fun o => (Below.refl w.heap.size w).alloc (Nat.le_refl _) o)
  have HML := hide (show m ≤ n from (Nat.le_of_lt hm))
  rw [cst_one r]
  obtain ⟨p, hp⟩ : ∃ p : Nat, n * m = p := ⟨_, rfl⟩
  have pb : p ≤ 268435456 := by rw [← hp]; exact Nat.mul_le_mul hn (Nat.le_trans (Nat.le_of_lt hm) hn)
  have ep : (n : Int) * (m : Int) = (p : Int) := by rw [← hp]; simp
  rw [hp]
  clear hp
  unfold Tab.val
  go_enter Tryz.func31, Tryz.ntmps31
  go_wp2_with fail
  refine (unhide CR _).mono ?_
  rintro e w1 ⟨rfl, b1⟩
  have b0 := hide (bstep (unhide bel _) b1)
  clear b1 bel CR
  go_wp2_with fail
  go_ret
  exact ⟨rfl, unhide b0⟩

set_option maxRecDepth 100000 in
set_option maxHeartbeats 3200000 in
theorem rCost_fiveS (T : Tab) (n m : Nat) (w : World) (hm : m < n) (hn : n ≤ 16384) (r : rt T.B T.D T.N n m = 5) (h1 : 1 ≤ m) :
    Calls Tryz.prog 31 #[T.val, .int .i64 (m : Int), .int .i64 (n : Int)] w fun e w' => e = .returned (.int .i64 (cst T.B T.D T.N n m : Int)) ∧ Below w.heap.size w w' := by
  have CR : Hid (∀ w, Calls Tryz.prog 49 #[T.val, .int .i64 (n : Int), .int .i64 (m : Int)] w fun e w' => e = .returned (.int .i64 5) ∧ Below w.heap.size w w') := fun w => by
    have := rRoute_any T n m w
    rwa [rtT_nat T (Nat.le_of_lt hm) hn, r] at this
  have bel := hide (fun o => (Below.refl w.heap.size w).alloc (Nat.le_refl _) o)
  have HML := hide (show m ≤ n from (Nat.le_of_lt hm))
  rw [cst_five r]
  have CT := hide (fun w => rTransform_yes n m 3 w (by omega) hn h1 (by omega) (by omega))
  generalize tf n m 3 = x at *
  unfold Tab.val
  go_enter Tryz.func31, Tryz.ntmps31
  go_wp2_with fail
  refine (unhide CR _).mono ?_
  rintro e w1 ⟨rfl, b1⟩
  have b0 := hide (bstep (unhide bel _) b1)
  clear b1 bel CR
  go_wp2_with fail
  refine (unhide CT _).mono ?_
  rintro e w2 ⟨rfl, rfl⟩
  go_wp2_with fail
  go_ret
  exact ⟨rfl, unhide b0⟩

theorem rCost_le (T : Tab) : ∀ (f n m : Nat) (w : World), n < f → m ≤ n → n ≤ 16384 →
    Calls Tryz.prog 31 #[T.val, .int .i64 (n : Int), .int .i64 (m : Int)] w fun e w' => e = .returned (.int .i64 (cst T.B T.D T.N n m : Int)) ∧ Below w.heap.size w w'
  | 0, _, _, _, h, _, _ => by omega
  | f + 1, n, m, w, hf, hm, hn => by
    have ih : ∀ (a b : Int) (w : World), a < (n : Int) → 0 ≤ b → b ≤ a → Calls Tryz.prog 31 #[T.val, .int .i64 a, .int .i64 b] w fun e w' => e = .returned (.int .i64 (costT T a b)) ∧ Below w.heap.size w w' := fun a b w h1 h2 h3 => by
      obtain ⟨b, rfl⟩ := Int.eq_ofNat_of_zero_le h2
      obtain ⟨a, rfl⟩ := Int.eq_ofNat_of_zero_le (show 0 ≤ a by omega)
      rw [costT_nat T (by omega) (by omega)]
      exact rCost_le T f a b w (by omega) (by omega) (by omega)
    have e := T.ent.b1
    rcases rt_ways n m hm T.ent with ⟨r, _⟩ | ⟨r, _, _⟩ | ⟨r, h1, h2⟩ | ⟨r, h1, h2⟩ | ⟨r, h0, h1, h2⟩ | ⟨r, h0, h1, h2, h3⟩
    · exact rCost_zero T n m w hm hn r
    · exact rCost_one T n m w hm hn r
    · exact rCost_two T n m w hm hn r h1 h2 ih
    · exact rCost_three T n m w hm hn r h1 h2 ih
    · exact rCost_four T n m w hm hn r h0 h2 ih
    · exact rCost_five T n m w hm hn r (by omega)
theorem rCost_any (T : Tab) (n m : Int) (w : World) (a1 : 0 ≤ n) (a2 : n ≤ 16384) (a3 : 0 ≤ m) (a4 : m ≤ 16384) :
    Calls Tryz.prog 31 #[T.val, .int .i64 n, .int .i64 m] w fun e w' => e = .returned (.int .i64 (costT T n m)) ∧ Below w.heap.size w w' := by
  obtain ⟨n, rfl⟩ := Int.eq_ofNat_of_zero_le a1
  obtain ⟨m, rfl⟩ := Int.eq_ofNat_of_zero_le a3
  by_cases hm : m ≤ n
  · rw [costT_nat T hm (by omega)]
    exact rCost_le T (n + 1) n m w (by omega) hm (by omega)
  · rw [costT_comm, costT_nat T (show n ≤ m by omega) (by omega)]
    have hm : n < m := by omega
    have hn : m ≤ 16384 := by omega
    have ih : ∀ (a b : Int) (w : World), a < (m : Int) → 0 ≤ b → b ≤ a → Calls Tryz.prog 31 #[T.val, .int .i64 a, .int .i64 b] w fun e w' => e = .returned (.int .i64 (costT T a b)) ∧ Below w.heap.size w w' := fun a b w h1 h2 h3 => by
      obtain ⟨b, rfl⟩ := Int.eq_ofNat_of_zero_le h2
      obtain ⟨a, rfl⟩ := Int.eq_ofNat_of_zero_le (show 0 ≤ a by omega)
      rw [costT_nat T (by omega) (by omega)]
      exact rCost_le T (a + 1) a b w (by omega) (by omega) (by omega)
    have e := T.ent.b1
    rcases rt_ways m n (by omega) T.ent with ⟨r, _⟩ | ⟨r, _, _⟩ | ⟨r, h1, h2⟩ | ⟨r, h1, h2⟩ | ⟨r, h0, h1, h2⟩ | ⟨r, h0, h1, h2, h3⟩
    · exact rCost_zeroS T m n w hm hn r
    · exact rCost_oneS T m n w hm hn r
    · exact rCost_twoS T m n w hm hn r h1 h2 ih
    · exact rCost_threeS T m n w hm hn r h1 h2 ih
    · exact rCost_fourS T m n w hm hn r h0 h2 ih
    · exact rCost_fiveS T m n w hm hn r (by omega)

end Go.Proofs.YtiekgpphggejcabGreatDoor

/- MulMuls: what the law's walk comes to, once the code is what the document asks. Written by gen_mul.py. -/
namespace Go.Proofs.YtiekgpphggejcabGreatDoor
open Go.RowKit

set_option maxRecDepth 100000 in
set_option maxHeartbeats 12800000 in
theorem mulMuls_any (SN : SpecMNew) (SM : SpecMMul) (SP : SpecMProd) (T : Tab) (ga : Option Addr) (ba oa ca la : Nat) (xs : List Nat) (gb : Option Addr) (bb ob cb lb : Nat) (ys : List Nat) (w : World) (hxs : xs.length = la) (HrA : Rep w ga ba oa ca xs) (kxs : ∀ j, xs.getD j 0 < 18446744073709551616) (hys : ys.length = lb) (HrB : Rep w gb bb ob cb ys) (kys : ∀ j, ys.getD j 0 < 18446744073709551616) (hT : TB w) :
    Calls Tryz.prog 17 #[T.val, .slice ga la ca, .slice gb lb cb] w fun e w' => e = .returned (.bool true) ∧ Below w.heap.size w w' := by
  obtain ⟨n, hca⟩ : ∃ k, k = min la 100 := ⟨_, rfl⟩
  have Ca : Hid (∀ w, Calls Tryz.prog 5 #[.slice ga la ca, .int .i64 100] w fun e w' => e = .returned (.slice ga n ca) ∧ w' = w) := fun w => cut_any w ga la ca 100 n (by have := HrA.room; omega) (by omega) hca
  obtain ⟨hla, rA⟩ := cut_rep HrA 100 n (by rw [hxs]; exact hca)
  have dx : WDig (xs.take n) := take_words kxs n
  have hma : n ≤ 100 := by omega
  clear hca HrA kxs hxs
  generalize xs.take n = us at *
  obtain ⟨m, hcb⟩ : ∃ k, k = min lb 100 := ⟨_, rfl⟩
  have Cb : Hid (∀ w, Calls Tryz.prog 5 #[.slice gb lb cb, .int .i64 100] w fun e w' => e = .returned (.slice gb m cb) ∧ w' = w) := fun w => cut_any w gb lb cb 100 m (by have := HrB.room; omega) (by omega) hcb
  obtain ⟨hlb, rB⟩ := cut_rep HrB 100 m (by rw [hys]; exact hcb)
  have dy : WDig (ys.take m) := take_words kys m
  have hmb : m ≤ 100 := by omega
  clear hcb HrB kys hys
  generalize ys.take m = vs at *
  obtain ⟨A, hva⟩ : ∃ k, k = wval us := ⟨_, rfl⟩
  have LA : Hid (A < 18446744073709551616 ^ 100) := by show _ < _; rw [hva]; exact pow_up (wval_lt_pow dx) (by omega)
  have BA : Hid (A < 4294967296 ^ 200) := by have := unhide LA; rw [wpow] at this; exact this
  have CFa := hide (fun W (r : Rep W ga ba oa ca us) => from_mul W ga ba oa ca n A us hla (by omega) r dx hva)
  have CWa := hide (fun W (r : Rep W ga ba oa ca us) => lwords_any W ga ba oa ca n A us hla (by omega) r dx hva)
  have wlA : wl A ≤ 100 := by rw [hva]; exact Nat.le_trans (wl_le_len dx) (by omega)
  have HLa := hide hla
  have HEa := hide hva
  clear hva hla
  obtain ⟨D, hvb⟩ : ∃ k, k = wval vs := ⟨_, rfl⟩
  have LD : Hid (D < 18446744073709551616 ^ 100) := by show _ < _; rw [hvb]; exact pow_up (wval_lt_pow dy) (by omega)
  have BD : Hid (D < 4294967296 ^ 200) := by have := unhide LD; rw [wpow] at this; exact this
  have CFb := hide (fun W (r : Rep W gb bb ob cb vs) => from_mul W gb bb ob cb m D vs hlb (by omega) r dy hvb)
  have CWb := hide (fun W (r : Rep W gb bb ob cb vs) => lwords_any W gb bb ob cb m D vs hlb (by omega) r dy hvb)
  have wlD : wl D ≤ 100 := by rw [hvb]; exact Nat.le_trans (wl_le_len dy) (by omega)
  have HLb := hide hlb
  have HEb := hide hvb
  clear hvb hlb
  have bl := Below.refl w.heap.size w
  obtain ⟨F, hF⟩ : ∃ F, F = 6148914691236517205 := ⟨_, rfl⟩
  have HF := hide hF
  clear hF
  have HPR : Hid (A * D < 18446744073709551616 ^ (100 + 100)) := by have := Nat.mul_lt_mul'' (unhide LA) (unhide LD); rwa [← Nat.pow_add] at this
  obtain ⟨K, hK⟩ : ∃ K, K = costT T (wl A : Int) (wl D : Int) := ⟨_, rfl⟩
  have CC := hide (fun W => rCost_any T (wl A : Int) (wl D : Int) W (by omega) (by omega) (by omega) (by omega))
  rw [← hK] at CC
  have HK := hide hK
  clear hK
  obtain ⟨N, hN⟩ : ∃ N, N = max (wl A) (wl D) := ⟨_, rfl⟩
  have eN : max (wl A : Int) (wl D : Int) = (N : Int) := by omega
  have CD := hide (fun W => lawDeep_any W N (by omega))
  have HN := hide hN
  obtain ⟨Q, hQ⟩ : ∃ Q, Q = dpt N := ⟨_, rfl⟩
  rw [← hQ] at CD
  have HQ := hide hQ
  clear hN hQ
  have b0 : Below w.heap.size w (w.alloc (.cells #[.int .i64 T.b, .int .i64 T.t, .int .i64 T.n, .int .i64 T.d, .int .i64 T.r, .int .i64 T.l, .int .i64 T.x, .int .i64 T.p, .int .i64 T.k, .int .i64 T.s, .int .i64 T.e] 23)) := (Below.refl _ _).alloc (Nat.le_refl _) _
  have tA := tabAt_new w T 23
  obtain ⟨W1, hW1⟩ : ∃ W, w.alloc (.cells #[.int .i64 T.b, .int .i64 T.t, .int .i64 T.n, .int .i64 T.d, .int .i64 T.r, .int .i64 T.l, .int .i64 T.x, .int .i64 T.p, .int .i64 T.k, .int .i64 T.s, .int .i64 T.e] 23) = W := ⟨_, rfl⟩
  rw [hW1] at b0 tA
  obtain ⟨P0, hP0⟩ : ∃ P, w.heap.size = P := ⟨_, rfl⟩
  rw [hP0] at tA
  have lP : P0 < W1.heap.size := tA.lt
  have HT := hide hT
  clear hT
  have rA := rA.next b0
  have rB := rB.next b0
  have bl := bstep bl b0
  clear b0
  have CN := hide (fun W => SN T W)
  have HM := hide SM
  have CK := hide (fun W h => mulWakes_any SN SP W h)
  clear SN SM SP
  unfold Tab.val at CN CC ⊢
  go_enter Tryz.func17, Tryz.ntmps17
  go_wp2_with fail
  refine (unhide Ca _).mono ?_
  rintro e wca ⟨rfl, rfl⟩
  clear Ca
  go_wp2_with fail
  refine (unhide Cb _).mono ?_
  rintro e wcb ⟨rfl, rfl⟩
  clear Cb
  have tX0 := tA
  obtain ⟨p0, p1, p2, p3, p4, p5, p6, p7, p8, p9, p10⟩ := tX0
  go_wp2_with fail
  refine (unhide CN _).mono ?_
  rintro e w1 ⟨gm, gt, gk, ge, g, rfl, E, hn, b⟩
  clear p0 p1 p2 p3 p4 p5 p6 p7 p8 p9 p10
  have hg : w.heap.size ≤ g := by omega
  have nP : P0 ≠ g := by omega
  clear hn
  have lg := E.met.lt
  have tA := tA.next b
  have rA := rA.next b
  have rB := rB.next b
  have bl := bstep bl b
  clear b
  obtain ⟨S1, hS1⟩ : ∃ S1, S1 = w1.heap.size := ⟨_, rfl⟩
  rw [← hS1] at lg
  go_wp2_with fail
  refine (lend_any _ ga ba oa ca n us (unhide HLa) (by omega) rA F (unhide HF)).mono ?_
  rintro e w2 ⟨rfl, ol, b⟩
  obtain ⟨rX, tX⟩ := lent_rep ol (unhide HLa)
  clear ol
  have tA := tA.next b
  have rA := rA.next b
  have rB := rB.next b
  have E := E.next b
  have bl := bstep bl b
  clear b
  go_wp2_with fail
  refine (lend_any _ gb bb ob cb m vs (unhide HLb) (by omega) rB F (unhide HF)).mono ?_
  rintro e w3 ⟨rfl, ol, b⟩
  obtain ⟨rY, tY⟩ := lent_rep ol (unhide HLb)
  clear ol
  have tA := tA.next b
  have rA := rA.next b
  have rB := rB.next b
  have E := E.next b
  have rX := rX.next b
  have tX := tX.next b
  have bl := bstep bl b
  clear b
  have ix := inM_rep rX dx (unhide HLa) (unhide HEa) (by omega)
  have iy := inM_rep rY dy (unhide HLb) (unhide HEb) (by omega)
  have CM := hide (unhide HM _ gm gt gk ge g 0 0 0 T _ _ A D E ((unhide HT).next bl) (by decide) (by decide) (by decide) (by decide) ix iy)
  clear ix iy rX rY
  rw [← unhide HK, ← unhide HN, ← unhide HQ, Int.zero_add, Int.zero_add] at CM
  obtain ⟨g1, hg1⟩ : ∃ g1, g1 = w1.heap.size := ⟨_, rfl⟩
  obtain ⟨g2, hg2⟩ : ∃ g2, g2 = w2.heap.size := ⟨_, rfl⟩
  rw [← hg1] at tX CM ⊢
  rw [← hg2] at tY CM ⊢
  obtain ⟨S4, hS4⟩ : ∃ S4, S4 = w3.heap.size := ⟨_, rfl⟩
  have hl1 : g1 < S4 := by rw [hS4]; exact tX.lt (by simp)
  have hl2 : g2 < S4 := by rw [hS4]; exact tY.lt (by simp)
  have hSw : w.heap.size ≤ S4 := by rw [hS4]; exact bl.size
  have hAb : Hid (0 < us.length → ba < S4) := fun h => by rw [hS4]; exact rA.lt h
  have hBb : Hid (0 < vs.length → bb < S4) := fun h => by rw [hS4]; exact rB.lt h
  clear hg1 hg2
  go_wp2_with fail
  refine (unhide CM).mono ?_
  rintro e w4 ⟨r, m', rfl, ns, E2, q1, q2, o⟩
  clear CM
  have ns : NewB S4 w4.heap.size w4 r (A * D) := by rw [hS4]; exact ns.born
  obtain ⟨S5, hS5⟩ : ∃ S5, S5 = w4.heap.size := ⟨_, rfl⟩
  rw [← hS5] at ns
  have h45 : S4 ≤ S5 := by rw [hS4, hS5]; exact o.size
  clear hS4 hS5
  have tA := tA.out o (fun (e : P0 = g) => by omega)
  have rA := E.rep o rA
  have rB := E.rep o rB
  have tX := E.rep o tX
  have tY := E.rep o tY
  have bl := bl.trans (o.below (B := w.heap.size) bl.size (fun k hk => by rw [hk]; exact hg))
  have E := E2
  clear o E2
  go_wp2_with fail
  refine (unhide CWa _ rA).mono ?_
  rintro e wa ⟨rfl, rfl⟩
  go_wp2_with fail
  refine (unhide CWb _ rB).mono ?_
  rintro e wb ⟨rfl, rfl⟩
  clear CWa CWb
  have hKK : ((K : Int) != (K : Int)) = false := by simp
  have hq : decide ((Q : Int) < m') = false := decide_eq_false (by omega)
  clear q1 q2
  obtain ⟨WF, hWF⟩ : ∃ WF, WF = wb := ⟨_, rfl⟩
  subst hWF
  have HC : Hid (∀ w', Below WF.heap.size WF w' → w'.cell? ⟨gm, 0, none⟩ = some (.pointer (some ⟨gt, 0, none⟩)) ∧ w'.cell? ⟨gt, 0, none⟩ = some (.pointer (some ⟨gk, 0, none⟩)) ∧ w'.cell? ⟨gk, 0, none⟩ = some (.pointer (some ⟨ge, 0, none⟩)) ∧ w'.cell? ⟨ge, 0, none⟩ = some (.pointer (some ⟨g, 0, none⟩)) ∧ w'.cell? ⟨P0, 0, none⟩ = some (.int .i64 T.b) ∧ w'.cell? ⟨P0, 1, none⟩ = some (.int .i64 T.t) ∧ w'.cell? ⟨P0, 2, none⟩ = some (.int .i64 T.n) ∧ w'.cell? ⟨P0, 3, none⟩ = some (.int .i64 T.d) ∧ w'.cell? ⟨P0, 4, none⟩ = some (.int .i64 T.r) ∧ w'.cell? ⟨P0, 5, none⟩ = some (.int .i64 T.l) ∧ w'.cell? ⟨P0, 6, none⟩ = some (.int .i64 T.x) ∧ w'.cell? ⟨P0, 7, none⟩ = some (.int .i64 T.p) ∧ w'.cell? ⟨P0, 8, none⟩ = some (.int .i64 T.k) ∧ w'.cell? ⟨P0, 9, none⟩ = some (.int .i64 T.s) ∧ w'.cell? ⟨P0, 10, none⟩ = some (.int .i64 T.e)) := fun w' q => by
    obtain ⟨z0, z1, z2, z3⟩ := (E.next q).way
    obtain ⟨p0, p1, p2, p3, p4, p5, p6, p7, p8, p9, p10⟩ := tA.next q
    exact ⟨z0, z1, z2, z3, p0, p1, p2, p3, p4, p5, p6, p7, p8, p9, p10⟩
  have QE : Hid (∀ W, Below WF.heap.size WF W → Met W g 0 K 0 m') := fun W q => (E.next q).met
  have QA : Hid (∀ W, Below WF.heap.size WF W → Rep W ga ba oa ca us) := fun W q => rA.next q
  have QB : Hid (∀ W, Below WF.heap.size WF W → Rep W gb bb ob cb vs) := fun W q => rB.next q
  have QN : Hid (∀ W, Below WF.heap.size WF W → NewB S4 S5 W r (A * D)) := fun W q => ns.next q
  have HRA := hide rA
  have HRB := hide rB
  have HTX := hide tX
  have HTY := hide tY
  have HNS := hide ns
  have HBL := hide bl
  obtain ⟨z0, z1, z2, z3, p0, p1, p2, p3, p4, p5, p6, p7, p8, p9, p10⟩ := unhide HC _ (Below.refl _ _)
  have b0 : Below WF.heap.size WF WF.drew := (Below.refl _ _).drew
  clear E tA rA rB tX tY ns bl
  obtain ⟨sa, sn, sc, rfl⟩ := (unhide HNS).toW.shape
  go_wp2
  simp only [List.append_eq, List.cons_append, List.nil_append]
  go_region_held3 (fun w' => w'.cell? ⟨gm, 0, none⟩ = some (.pointer (some ⟨gt, 0, none⟩)) ∧ w'.cell? ⟨gt, 0, none⟩ = some (.pointer (some ⟨gk, 0, none⟩)) ∧ w'.cell? ⟨gk, 0, none⟩ = some (.pointer (some ⟨ge, 0, none⟩)) ∧ w'.cell? ⟨ge, 0, none⟩ = some (.pointer (some ⟨g, 0, none⟩)) ∧ w'.cell? ⟨P0, 0, none⟩ = some (.int .i64 T.b) ∧ w'.cell? ⟨P0, 1, none⟩ = some (.int .i64 T.t) ∧ w'.cell? ⟨P0, 2, none⟩ = some (.int .i64 T.n) ∧ w'.cell? ⟨P0, 3, none⟩ = some (.int .i64 T.d) ∧ w'.cell? ⟨P0, 4, none⟩ = some (.int .i64 T.r) ∧ w'.cell? ⟨P0, 5, none⟩ = some (.int .i64 T.l) ∧ w'.cell? ⟨P0, 6, none⟩ = some (.int .i64 T.x) ∧ w'.cell? ⟨P0, 7, none⟩ = some (.int .i64 T.p) ∧ w'.cell? ⟨P0, 8, none⟩ = some (.int .i64 T.k) ∧ w'.cell? ⟨P0, 9, none⟩ = some (.int .i64 T.s) ∧ w'.cell? ⟨P0, 10, none⟩ = some (.int .i64 T.e)) (first | (with_reducible exact unhide HC _ b0) | go_keep) (first
    | (with_reducible refine (unhide CFa _ (unhide QA _ b0)).mono ?_; rintro e wf1 ⟨v1, rfl, n1, b⟩; have b0 := b0.trans (b.mono b0.size); clear b)
    | (with_reducible refine (unhide CFb _ (unhide QB _ b0)).mono ?_; rintro e wf2 ⟨v2, rfl, n2, b⟩; have b0 := b0.trans (b.mono b0.size); have n1 := n1.next b; clear b)
    | (go_at_call 29; refine (mul_any _ v1 v2 A D 200 (Nat.le_of_ble_eq_true rfl) (unhide BA) (unhide BD) n1 n2).mono ?_; rintro e wf3 ⟨v3, rfl, n3, b⟩; have b0 := b0.trans (b.mono b0.size); clear b n1 n2)
    | (go_at_call 14; refine (same_new _ _ _ S4 _ 200 (Nat.le_of_ble_eq_true rfl) (unhide HPR) n3 (unhide QN _ b0).toW).mono ?_; rintro e wf4 ⟨rfl, b⟩; have b0 := b0.trans (b.mono b0.size); clear b n3)
    | (go_at_call 30; refine (muls_any (unhide QE _ b0)).mono ?_; rintro e wf5 ⟨rfl, rfl⟩)
    | (go_at_call 31; refine (unhide CC _).mono ?_; rintro e wf6 ⟨rfl, b⟩; have b0 := b0.trans (b.mono b0.size); clear b)
    | (go_at_call 32; refine (deep_any (unhide QE _ b0)).mono ?_; rintro e wf7 ⟨rfl, rfl⟩)
    | (go_at_call 33; refine (unhide CD _).mono ?_; rintro e wf8 ⟨rfl, rfl⟩)
    | (go_at_call 34; refine (now_any (unhide QE _ b0)).mono ?_; rintro e wf9 ⟨rfl, rfl⟩)
    | fail)
  all_goals
    focus
      have rA := (unhide HRA).next b0
      have rB := (unhide HRB).next b0
      have tX := (unhide HTX).next b0
      have tY := (unhide HTY).next b0
      have ns := (unhide HNS).next b0
      have bl := bstep (unhide HBL) b0
      clear z0 z1 z2 z3 p0 p1 p2 p3 p4 p5 p6 p7 p8 p9 p10 b0 HRA HRB HTX HTY HNS HBL HC QE QA QB QN CC CD CFa CFb
      go_wp2_with fail
      refine (spoil_any _ _ _ _ _ ns).mono ?_
      rintro e w5 ⟨rfl, sp⟩
      have rA := rA.spoilt sp (fun h => Or.inl (unhide hAb h))
      have rB := rB.spoilt sp (fun h => Or.inl (unhide hBb h))
      have tX := tX.spoilt sp (fun h => Or.inl hl1)
      have tY := tY.spoilt sp (fun h => Or.inl hl2)
      have bl := below_spoilt bl sp hSw bl.size
      clear ns sp
      go_wp2_with fail
      refine (intact_any _ ga g1 ba oa ca n us (unhide HLa) (by omega) rA F (unhide HF) tX).mono ?_
      rintro e w6 ⟨rfl, b⟩
      have rA := rA.next b
      have rB := rB.next b
      have tX := tX.next b
      have tY := tY.next b
      have bl := bstep bl b
      clear b
      go_wp2_with fail
      refine (intact_any _ gb g2 bb ob cb m vs (unhide HLb) (by omega) rB F (unhide HF) tY).mono ?_
      rintro e w7 ⟨rfl, b⟩
      have rA := rA.next b
      have rB := rB.next b
      have tX := tX.next b
      have tY := tY.next b
      have bl := bstep bl b
      clear b
      go_wp2_with fail
      refine (unhide CK _ ((unhide HT).next bl)).mono ?_
      rintro e w8 ⟨rfl, b⟩
      have bl := bstep bl b
      clear b
      go_wp2
      go_ret
      exact ⟨rfl, bl⟩

end Go.Proofs.YtiekgpphggejcabGreatDoor

/- Square of the document. -/
namespace Go.Proofs.YtiekgpphggejcabGreatDoor
open Go.RowKit

theorem sfin_three (T : Tab) (n : Nat) (hn : n ≤ 16384) (r : rt T.B T.D T.N n n = 3) (h1 : T.B ≤ n) :
    wrap64 (wrap64 (sqT T (((n : Int) + 1) / 2) + sqT T ((n : Int) - ((n : Int) + 1) / 2)) + sqT T (((n : Int) + 1) / 2 + 1)) = (sqt T.B T.D T.N n : Int) := by
  have e4 := T.ent.b1
  have g1 : (n + 1) / 2 ≤ 16384 := by omega
  have g3 : n - (n + 1) / 2 ≤ 16384 := by omega
  have g4 : (n + 1) / 2 + 1 ≤ 16384 := by omega
  have k1 : ((n : Int) + 1) / 2 = (((n + 1) / 2 : Nat) : Int) := by omega
  have k2 : (n : Int) - (((n + 1) / 2 : Nat) : Int) = ((n - (n + 1) / 2 : Nat) : Int) := by omega
  have k4 : (((n + 1) / 2 : Nat) : Int) + 1 = (((n + 1) / 2 + 1 : Nat) : Int) := by omega
  rw [k1, k2, k4, sqT_nat T g1, sqT_nat T g3, sqT_nat T g4]
  exact add_three (sqt_three T.ent r h1) (sqt_small T hn)
theorem sfin_four (T : Tab) (n : Nat) (hn : n ≤ 16384) (r : rt T.B T.D T.N n n = 4) (h1 : T.D ≤ n) :
    wrap64 (wrap64 (sqT T (((n : Int) + 2) / 3) + wrap64 (3 * sqT T (((n : Int) + 2) / 3 + 1))) + sqT T ((n : Int) - 2 * (((n : Int) + 2) / 3))) = (sqt T.B T.D T.N n : Int) := by
  have e4 := T.ent.t1
  have g1 : (n + 2) / 3 ≤ 16384 := by omega
  have g3 : n - 2 * ((n + 2) / 3) ≤ 16384 := by omega
  have g4 : (n + 2) / 3 + 1 ≤ 16384 := by omega
  have k1 : ((n : Int) + 2) / 3 = (((n + 2) / 3 : Nat) : Int) := by omega
  have k2 : (n : Int) - 2 * (((n + 2) / 3 : Nat) : Int) = ((n - 2 * ((n + 2) / 3) : Nat) : Int) := by omega
  have k4 : (((n + 2) / 3 : Nat) : Int) + 1 = (((n + 2) / 3 + 1 : Nat) : Int) := by omega
  rw [k1, k2, k4, sqT_nat T g1, sqT_nat T g4, sqT_nat T g3]
  exact add_four (sqt_four T.ent r h1) (sqt_small T hn)

set_option maxRecDepth 100000 in
set_option maxHeartbeats 3200000 in
theorem rSq_three (T : Tab) (n : Nat) (w : World) (hn : n ≤ 16384) (r : rt T.B T.D T.N n n = 3) (h1 : T.B ≤ n)
    (ih : ∀ (a : Int) (w : World), a < (n : Int) → 0 ≤ a → Calls Tryz.prog 37 #[T.val, .int .i64 a] w fun e w' => e = .returned (.int .i64 (sqT T a)) ∧ Below w.heap.size w w') :
    Calls Tryz.prog 37 #[T.val, .int .i64 (n : Int)] w fun e w' => e = .returned (.int .i64 (sqt T.B T.D T.N n : Int)) ∧ Below w.heap.size w w' := by
  have IH := hide ih
  have CR : Hid (∀ w, Calls Tryz.prog 49 #[T.val, .int .i64 (n : Int), .int .i64 (n : Int)] w fun e w' => e = .returned (.int .i64 3) ∧ Below w.heap.size w w') := fun w => by
    have := rRoute_any T n n w
    rwa [rtT_nat T (Nat.le_refl _) hn, r] at this
  have TA := hide (tabAt_new w T 23)
  have bel := hide (fun o => (Below.refl w.heap.size w).alloc (Nat.le_refl _) o)
  have FIN := hide (sfin_three T n hn r h1)
  have h4 := T.ent.b1
  clear ih
  unfold Tab.val
  go_enter Tryz.func37, Tryz.ntmps37
  go_wp2_with fail
  refine (unhide CR _).mono ?_
  rintro e w1 ⟨rfl, b1⟩
  have b0 := hide (bstep (unhide bel _) b1)
  have TA1 := hide ((unhide TA).next b1)
  clear b1 bel CR
  obtain ⟨g, hg⟩ : ∃ g, w.heap.size = g := ⟨_, rfl⟩
  have TA2 := unhide TA1
  rw [hg] at TA2
  have TA3 := hide TA2
  obtain ⟨c0, c1, c2, c3, c4, c5, c6, c7, c8, c9, c10⟩ := TA2
  go_wp2_with fail
  clear hg
  have o0 := Old.cell c0
  have o1 := Old.cell c1
  have o2 := Old.cell c2
  have o3 := Old.cell c3
  have o4 := Old.cell c4
  have o5 := Old.cell c5
  have o6 := Old.cell c6
  have o7 := Old.cell c7
  have o8 := Old.cell c8
  have o9 := Old.cell c9
  have o10 := Old.cell c10
  clear c0 c1 c2 c3 c4 c5 c6 c7 c8 c9 c10
  have inst := old_some w1
  refine region_old (by kernel_rfl) (by kernel_rfl) ?_
  repeat (go_big_quiet_step ((go_at_call 37; exact Calls.old (unhide IH _ _ (by omega) (by omega)))))
  refine wpQuiet_nil ?_
  intro w5 hw5
  obtain ⟨u, rfl⟩ := hw5
  clear o0 o1 o2 o3 o4 o5 o6 o7 o8 o9 o10
  go_wp2_with fail
  go_ret
  exact ⟨ret_int (unhide FIN), bstep (unhide b0) u.old⟩

set_option maxRecDepth 100000 in
set_option maxHeartbeats 3200000 in
theorem rSq_four (T : Tab) (n : Nat) (w : World) (hn : n ≤ 16384) (r : rt T.B T.D T.N n n = 4) (h1 : T.D ≤ n)
    (ih : ∀ (a : Int) (w : World), a < (n : Int) → 0 ≤ a → Calls Tryz.prog 37 #[T.val, .int .i64 a] w fun e w' => e = .returned (.int .i64 (sqT T a)) ∧ Below w.heap.size w w') :
    Calls Tryz.prog 37 #[T.val, .int .i64 (n : Int)] w fun e w' => e = .returned (.int .i64 (sqt T.B T.D T.N n : Int)) ∧ Below w.heap.size w w' := by
  have IH := hide ih
  have CR : Hid (∀ w, Calls Tryz.prog 49 #[T.val, .int .i64 (n : Int), .int .i64 (n : Int)] w fun e w' => e = .returned (.int .i64 4) ∧ Below w.heap.size w w') := fun w => by
    have := rRoute_any T n n w
    rwa [rtT_nat T (Nat.le_refl _) hn, r] at this
  have TA := hide (tabAt_new w T 23)
  have bel := hide (fun o => (Below.refl w.heap.size w).alloc (Nat.le_refl _) o)
  have FIN := hide (sfin_four T n hn r h1)
  have h4 := T.ent.t1
  clear ih
  unfold Tab.val
  go_enter Tryz.func37, Tryz.ntmps37
  go_wp2_with fail
  refine (unhide CR _).mono ?_
  rintro e w1 ⟨rfl, b1⟩
  have b0 := hide (bstep (unhide bel _) b1)
  have TA1 := hide ((unhide TA).next b1)
  clear b1 bel CR
  obtain ⟨g, hg⟩ : ∃ g, w.heap.size = g := ⟨_, rfl⟩
  have TA2 := unhide TA1
  rw [hg] at TA2
  have TA3 := hide TA2
  obtain ⟨c0, c1, c2, c3, c4, c5, c6, c7, c8, c9, c10⟩ := TA2
  go_wp2_with fail
  clear hg
  have o0 := Old.cell c0
  have o1 := Old.cell c1
  have o2 := Old.cell c2
  have o3 := Old.cell c3
  have o4 := Old.cell c4
  have o5 := Old.cell c5
  have o6 := Old.cell c6
  have o7 := Old.cell c7
  have o8 := Old.cell c8
  have o9 := Old.cell c9
  have o10 := Old.cell c10
  clear c0 c1 c2 c3 c4 c5 c6 c7 c8 c9 c10
  have inst := old_some w1
  refine region_old (by kernel_rfl) (by kernel_rfl) ?_
  repeat (go_big_quiet_step ((go_at_call 37; exact Calls.old (unhide IH _ _ (by omega) (by omega)))))
  refine wpQuiet_nil ?_
  intro w5 hw5
  obtain ⟨u, rfl⟩ := hw5
  clear o0 o1 o2 o3 o4 o5 o6 o7 o8 o9 o10
  go_wp2_with fail
  go_ret
  exact ⟨ret_int (unhide FIN), bstep (unhide b0) u.old⟩

set_option maxRecDepth 100000 in
set_option maxHeartbeats 3200000 in
theorem rSq_zero (T : Tab) (n : Nat) (w : World) (hn : n ≤ 16384) (r : rt T.B T.D T.N n n = 0) :
    Calls Tryz.prog 37 #[T.val, .int .i64 (n : Int)] w fun e w' => e = .returned (.int .i64 (sqt T.B T.D T.N n : Int)) ∧ Below w.heap.size w w' := by
  have CR : Hid (∀ w, Calls Tryz.prog 49 #[T.val, .int .i64 (n : Int), .int .i64 (n : Int)] w fun e w' => e = .returned (.int .i64 0) ∧ Below w.heap.size w w') := fun w => by
    have := rRoute_any T n n w
    rwa [rtT_nat T (Nat.le_refl _) hn, r] at this
  have bel := hide (fun o => (Below.refl w.heap.size w).alloc (Nat.le_refl _) o)
  rw [sqt_zero (Or.inl r)]
  unfold Tab.val
  go_enter Tryz.func37, Tryz.ntmps37
  go_wp2_with fail
  refine (unhide CR _).mono ?_
  rintro e w1 ⟨rfl, b1⟩
  have b0 := hide (bstep (unhide bel _) b1)
  clear b1 bel CR
  go_wp2_with fail
  go_ret
  exact ⟨rfl, unhide b0⟩

set_option maxRecDepth 100000 in
set_option maxHeartbeats 3200000 in
theorem rSq_one (T : Tab) (n : Nat) (w : World) (hn : n ≤ 16384) (r : rt T.B T.D T.N n n = 1) :
    Calls Tryz.prog 37 #[T.val, .int .i64 (n : Int)] w fun e w' => e = .returned (.int .i64 (sqt T.B T.D T.N n : Int)) ∧ Below w.heap.size w w' := by
  have CR : Hid (∀ w, Calls Tryz.prog 49 #[T.val, .int .i64 (n : Int), .int .i64 (n : Int)] w fun e w' => e = .returned (.int .i64 1) ∧ Below w.heap.size w w') := fun w => by
    have := rRoute_any T n n w
    rwa [rtT_nat T (Nat.le_refl _) hn, r] at this
  have bel := hide (fun o => (Below.refl w.heap.size w).alloc (Nat.le_refl _) o)
  rw [sqt_one r]
  obtain ⟨p, hp⟩ : ∃ p : Nat, n * (n + 1) = p := ⟨_, rfl⟩
  have pb : p ≤ 268500000 := by rw [← hp]; exact Nat.le_trans (Nat.mul_le_mul hn (show n + 1 ≤ 16385 by omega)) (by omega)
  have ep : (n : Int) * ((n : Int) + 1) = (p : Int) := by rw [← hp]; simp
  rw [hp]
  clear hp
  unfold Tab.val
  go_enter Tryz.func37, Tryz.ntmps37
  go_wp2_with fail
  refine (unhide CR _).mono ?_
  rintro e w1 ⟨rfl, b1⟩
  have b0 := hide (bstep (unhide bel _) b1)
  clear b1 bel CR
  go_wp2_with fail
  go_ret
  exact ⟨ret_int (by omega), unhide b0⟩

set_option maxRecDepth 100000 in
set_option maxHeartbeats 3200000 in
theorem rSq_five (T : Tab) (n : Nat) (w : World) (hn : n ≤ 16384) (r : rt T.B T.D T.N n n = 5) (h1 : 1 ≤ n) :
    Calls Tryz.prog 37 #[T.val, .int .i64 (n : Int)] w fun e w' => e = .returned (.int .i64 (sqt T.B T.D T.N n : Int)) ∧ Below w.heap.size w w' := by
  have CR : Hid (∀ w, Calls Tryz.prog 49 #[T.val, .int .i64 (n : Int), .int .i64 (n : Int)] w fun e w' => e = .returned (.int .i64 5) ∧ Below w.heap.size w w') := fun w => by
    have := rRoute_any T n n w
    rwa [rtT_nat T (Nat.le_refl _) hn, r] at this
  have bel := hide (fun o => (Below.refl w.heap.size w).alloc (Nat.le_refl _) o)
  rw [sqt_five r]
  have CT := hide (fun w => rTransform_yes n n 2 w h1 hn h1 hn (by omega))
  generalize tf n n 2 = x at *
  unfold Tab.val
  go_enter Tryz.func37, Tryz.ntmps37
  go_wp2_with fail
  refine (unhide CR _).mono ?_
  rintro e w1 ⟨rfl, b1⟩
  have b0 := hide (bstep (unhide bel _) b1)
  clear b1 bel CR
  go_wp2_with fail
  refine (unhide CT _).mono ?_
  rintro e w2 ⟨rfl, rfl⟩
  go_wp2_with fail
  go_ret
  exact ⟨rfl, unhide b0⟩

theorem rSq_le (T : Tab) : ∀ (f n : Nat) (w : World), n < f → n ≤ 16384 →
    Calls Tryz.prog 37 #[T.val, .int .i64 (n : Int)] w fun e w' => e = .returned (.int .i64 (sqt T.B T.D T.N n : Int)) ∧ Below w.heap.size w w'
  | 0, _, _, h, _ => by omega
  | f + 1, n, w, hf, hn => by
    have ih : ∀ (a : Int) (w : World), a < (n : Int) → 0 ≤ a → Calls Tryz.prog 37 #[T.val, .int .i64 a] w fun e w' => e = .returned (.int .i64 (sqT T a)) ∧ Below w.heap.size w w' := fun a w h1 h2 => by
      obtain ⟨a, rfl⟩ := Int.eq_ofNat_of_zero_le h2
      rw [sqT_nat T (by omega)]
      exact rSq_le T f a w (by omega) (by omega)
    have e := T.ent.b1
    rcases rt_ways n n (Nat.le_refl _) T.ent with ⟨r, _⟩ | ⟨r, _, _⟩ | ⟨r, h1, h2⟩ | ⟨r, h1, h2⟩ | ⟨r, h0, h1, h2⟩ | ⟨r, h0, h1, h2, h3⟩
    · exact rSq_zero T n w hn r
    · exact rSq_one T n w hn r
    · omega
    · exact rSq_three T n w hn r h1 ih
    · exact rSq_four T n w hn r h0 ih
    · exact rSq_five T n w hn r (by omega)
theorem rSquare_any (T : Tab) (n : Int) (w : World) (a1 : 0 ≤ n) (a2 : n ≤ 16384) :
    Calls Tryz.prog 37 #[T.val, .int .i64 n] w fun e w' => e = .returned (.int .i64 (sqT T n)) ∧ Below w.heap.size w w' := by
  obtain ⟨n, rfl⟩ := Int.eq_ofNat_of_zero_le a1
  rw [sqT_nat T (by omega)]
  exact rSq_le T (n + 1) n w (by omega) (by omega)

end Go.Proofs.YtiekgpphggejcabGreatDoor

/- MulSquares: what the law's walk comes to, once the code is what the document asks. Written by gen_mul.py. -/
namespace Go.Proofs.YtiekgpphggejcabGreatDoor
open Go.RowKit

set_option maxRecDepth 100000 in
set_option maxHeartbeats 12800000 in
theorem mulSquares_any (SN : SpecMNew) (SQ : SpecMSqr) (SP : SpecMProd) (T : Tab) (ga : Option Addr) (ba oa ca la : Nat) (xs : List Nat) (w : World) (hxs : xs.length = la) (HrA : Rep w ga ba oa ca xs) (kxs : ∀ j, xs.getD j 0 < 18446744073709551616) (hT : TB w) :
    Calls Tryz.prog 18 #[T.val, .slice ga la ca] w fun e w' => e = .returned (.bool true) ∧ Below w.heap.size w w' := by
  obtain ⟨n, hca⟩ : ∃ k, k = min la 100 := ⟨_, rfl⟩
  have Ca : Hid (∀ w, Calls Tryz.prog 5 #[.slice ga la ca, .int .i64 100] w fun e w' => e = .returned (.slice ga n ca) ∧ w' = w) := fun w => cut_any w ga la ca 100 n (by have := HrA.room; omega) (by omega) hca
  obtain ⟨hla, rA⟩ := cut_rep HrA 100 n (by rw [hxs]; exact hca)
  have dx : WDig (xs.take n) := take_words kxs n
  have hma : n ≤ 100 := by omega
  clear hca HrA kxs hxs
  generalize xs.take n = us at *
  obtain ⟨A, hva⟩ : ∃ k, k = wval us := ⟨_, rfl⟩
  have LA : Hid (A < 18446744073709551616 ^ 100) := by show _ < _; rw [hva]; exact pow_up (wval_lt_pow dx) (by omega)
  have BA : Hid (A < 4294967296 ^ 200) := by have := unhide LA; rw [wpow] at this; exact this
  have CFa := hide (fun W (r : Rep W ga ba oa ca us) => from_mul W ga ba oa ca n A us hla (by omega) r dx hva)
  have CWa := hide (fun W (r : Rep W ga ba oa ca us) => lwords_any W ga ba oa ca n A us hla (by omega) r dx hva)
  have wlA : wl A ≤ 100 := by rw [hva]; exact Nat.le_trans (wl_le_len dx) (by omega)
  have HLa := hide hla
  have HEa := hide hva
  clear hva hla
  have bl := Below.refl w.heap.size w
  obtain ⟨F, hF⟩ : ∃ F, F = 6148914691236517205 := ⟨_, rfl⟩
  have HF := hide hF
  clear hF
  have HPR : Hid (A * A < 18446744073709551616 ^ (100 + 100)) := by have := Nat.mul_lt_mul'' (unhide LA) (unhide LA); rwa [← Nat.pow_add] at this
  obtain ⟨K, hK⟩ : ∃ K, K = sqT T (wl A : Int) := ⟨_, rfl⟩
  have CC := hide (fun W => rSquare_any T (wl A : Int) W (by omega) (by omega))
  rw [← hK] at CC
  have HK := hide hK
  clear hK
  have CD := hide (fun W => lawDeep_any W (wl A) (by omega))
  obtain ⟨Q, hQ⟩ : ∃ Q, Q = dpt (wl A) := ⟨_, rfl⟩
  rw [← hQ] at CD
  have HQ := hide hQ
  clear hQ
  have b0 : Below w.heap.size w (w.alloc (.cells #[.int .i64 T.b, .int .i64 T.t, .int .i64 T.n, .int .i64 T.d, .int .i64 T.r, .int .i64 T.l, .int .i64 T.x, .int .i64 T.p, .int .i64 T.k, .int .i64 T.s, .int .i64 T.e] 23)) := (Below.refl _ _).alloc (Nat.le_refl _) _
  have tA := tabAt_new w T 23
  obtain ⟨W1, hW1⟩ : ∃ W, w.alloc (.cells #[.int .i64 T.b, .int .i64 T.t, .int .i64 T.n, .int .i64 T.d, .int .i64 T.r, .int .i64 T.l, .int .i64 T.x, .int .i64 T.p, .int .i64 T.k, .int .i64 T.s, .int .i64 T.e] 23) = W := ⟨_, rfl⟩
  rw [hW1] at b0 tA
  obtain ⟨P0, hP0⟩ : ∃ P, w.heap.size = P := ⟨_, rfl⟩
  rw [hP0] at tA
  have lP : P0 < W1.heap.size := tA.lt
  have HT := hide hT
  clear hT
  have rA := rA.next b0
  have bl := bstep bl b0
  clear b0
  have CN := hide (fun W => SN T W)
  have HM := hide SQ
  have CK := hide (fun W h => mulWakes_any SN SP W h)
  clear SN SQ SP
  unfold Tab.val at CN CC ⊢
  go_enter Tryz.func18, Tryz.ntmps18
  go_wp2_with fail
  refine (unhide Ca _).mono ?_
  rintro e wca ⟨rfl, rfl⟩
  clear Ca
  have tX0 := tA
  obtain ⟨p0, p1, p2, p3, p4, p5, p6, p7, p8, p9, p10⟩ := tX0
  go_wp2_with fail
  refine (unhide CN _).mono ?_
  rintro e w1 ⟨gm, gt, gk, ge, g, rfl, E, hn, b⟩
  clear p0 p1 p2 p3 p4 p5 p6 p7 p8 p9 p10
  have hg : w.heap.size ≤ g := by omega
  have nP : P0 ≠ g := by omega
  clear hn
  have tA := tA.next b
  have rA := rA.next b
  have bl := bstep bl b
  clear b
  go_wp2_with fail
  refine (lend_any _ ga ba oa ca n us (unhide HLa) (by omega) rA F (unhide HF)).mono ?_
  rintro e w2 ⟨rfl, ol, b⟩
  obtain ⟨rX, tX⟩ := lent_rep ol (unhide HLa)
  clear ol
  have tA := tA.next b
  have rA := rA.next b
  have E := E.next b
  have bl := bstep bl b
  clear b
  have ix := inM_rep rX dx (unhide HLa) (unhide HEa) (by omega)
  have CM := hide (unhide HM _ gm gt gk ge g 0 0 0 T _ A E ((unhide HT).next bl) (by decide) (by decide) (by decide) (by decide) ix)
  clear ix rX
  rw [← unhide HK, ← unhide HQ, Int.zero_add, Int.zero_add] at CM
  obtain ⟨g1, hg1⟩ : ∃ g1, g1 = w1.heap.size := ⟨_, rfl⟩
  rw [← hg1] at tX CM ⊢
  obtain ⟨S4, hS4⟩ : ∃ S4, S4 = w2.heap.size := ⟨_, rfl⟩
  have hl1 : g1 < S4 := by rw [hS4]; exact tX.lt (by simp)
  have hSw : w.heap.size ≤ S4 := by rw [hS4]; exact bl.size
  have hAb : Hid (0 < us.length → ba < S4) := fun h => by rw [hS4]; exact rA.lt h
  clear hg1
  go_wp2_with fail
  refine (unhide CM).mono ?_
  rintro e w3 ⟨r, m', rfl, ns, E2, q1, q2, o⟩
  clear CM
  have ns : NewB S4 w3.heap.size w3 r (A * A) := by rw [hS4]; exact ns.born
  obtain ⟨S5, hS5⟩ : ∃ S5, S5 = w3.heap.size := ⟨_, rfl⟩
  rw [← hS5] at ns
  have h45 : S4 ≤ S5 := by rw [hS4, hS5]; exact o.size
  clear hS4 hS5
  have tA := tA.out o (fun (e : P0 = g) => by omega)
  have rA := E.rep o rA
  have tX := E.rep o tX
  have bl := bl.trans (o.below (B := w.heap.size) bl.size (fun k hk => by rw [hk]; exact hg))
  have E := E2
  clear o E2
  have hKK : ((K : Int) != (K : Int)) = false := by simp
  have hq : decide ((Q : Int) < m') = false := decide_eq_false (by omega)
  clear q1 q2
  have HC : Hid (∀ w', Below w3.heap.size w3 w' → w'.cell? ⟨gm, 0, none⟩ = some (.pointer (some ⟨gt, 0, none⟩)) ∧ w'.cell? ⟨gt, 0, none⟩ = some (.pointer (some ⟨gk, 0, none⟩)) ∧ w'.cell? ⟨gk, 0, none⟩ = some (.pointer (some ⟨ge, 0, none⟩)) ∧ w'.cell? ⟨ge, 0, none⟩ = some (.pointer (some ⟨g, 0, none⟩)) ∧ w'.cell? ⟨P0, 0, none⟩ = some (.int .i64 T.b) ∧ w'.cell? ⟨P0, 1, none⟩ = some (.int .i64 T.t) ∧ w'.cell? ⟨P0, 2, none⟩ = some (.int .i64 T.n) ∧ w'.cell? ⟨P0, 3, none⟩ = some (.int .i64 T.d) ∧ w'.cell? ⟨P0, 4, none⟩ = some (.int .i64 T.r) ∧ w'.cell? ⟨P0, 5, none⟩ = some (.int .i64 T.l) ∧ w'.cell? ⟨P0, 6, none⟩ = some (.int .i64 T.x) ∧ w'.cell? ⟨P0, 7, none⟩ = some (.int .i64 T.p) ∧ w'.cell? ⟨P0, 8, none⟩ = some (.int .i64 T.k) ∧ w'.cell? ⟨P0, 9, none⟩ = some (.int .i64 T.s) ∧ w'.cell? ⟨P0, 10, none⟩ = some (.int .i64 T.e)) := fun w' q => by
    obtain ⟨z0, z1, z2, z3⟩ := (E.next q).way
    obtain ⟨p0, p1, p2, p3, p4, p5, p6, p7, p8, p9, p10⟩ := tA.next q
    exact ⟨z0, z1, z2, z3, p0, p1, p2, p3, p4, p5, p6, p7, p8, p9, p10⟩
  have QE : Hid (∀ W, Below w3.heap.size w3 W → Met W g 0 K 0 m') := fun W q => (E.next q).met
  have QA : Hid (∀ W, Below w3.heap.size w3 W → Rep W ga ba oa ca us) := fun W q => rA.next q
  have QN : Hid (∀ W, Below w3.heap.size w3 W → NewB S4 S5 W r (A * A)) := fun W q => ns.next q
  have HRA := hide rA
  have HTX := hide tX
  have HNS := hide ns
  have HBL := hide bl
  obtain ⟨z0, z1, z2, z3, p0, p1, p2, p3, p4, p5, p6, p7, p8, p9, p10⟩ := unhide HC _ (Below.refl _ _)
  have b0 : Below w3.heap.size w3 w3.drew := (Below.refl _ _).drew
  clear E tA rA tX ns bl
  obtain ⟨sa, sn, sc, rfl⟩ := (unhide HNS).toW.shape
  go_wp2
  (try simp only [List.append_eq, List.cons_append, List.nil_append])
  go_region_held3 (fun w' => w'.cell? ⟨gm, 0, none⟩ = some (.pointer (some ⟨gt, 0, none⟩)) ∧ w'.cell? ⟨gt, 0, none⟩ = some (.pointer (some ⟨gk, 0, none⟩)) ∧ w'.cell? ⟨gk, 0, none⟩ = some (.pointer (some ⟨ge, 0, none⟩)) ∧ w'.cell? ⟨ge, 0, none⟩ = some (.pointer (some ⟨g, 0, none⟩)) ∧ w'.cell? ⟨P0, 0, none⟩ = some (.int .i64 T.b) ∧ w'.cell? ⟨P0, 1, none⟩ = some (.int .i64 T.t) ∧ w'.cell? ⟨P0, 2, none⟩ = some (.int .i64 T.n) ∧ w'.cell? ⟨P0, 3, none⟩ = some (.int .i64 T.d) ∧ w'.cell? ⟨P0, 4, none⟩ = some (.int .i64 T.r) ∧ w'.cell? ⟨P0, 5, none⟩ = some (.int .i64 T.l) ∧ w'.cell? ⟨P0, 6, none⟩ = some (.int .i64 T.x) ∧ w'.cell? ⟨P0, 7, none⟩ = some (.int .i64 T.p) ∧ w'.cell? ⟨P0, 8, none⟩ = some (.int .i64 T.k) ∧ w'.cell? ⟨P0, 9, none⟩ = some (.int .i64 T.s) ∧ w'.cell? ⟨P0, 10, none⟩ = some (.int .i64 T.e)) (first | (with_reducible exact unhide HC _ b0) | go_keep) (first
    | (go_at_call 12; refine (unhide CFa _ (unhide QA _ b0)).mono ?_; rintro e wf2 ⟨v2, rfl, n2, b⟩; have b0 := b0.trans (b.mono b0.size); have n1 := n1.next b; clear b)
    | (go_at_call 12; refine (unhide CFa _ (unhide QA _ b0)).mono ?_; rintro e wf1 ⟨v1, rfl, n1, b⟩; have b0 := b0.trans (b.mono b0.size); clear b)
    | (go_at_call 29; refine (mul_any _ v1 v2 A A 200 (Nat.le_of_ble_eq_true rfl) (unhide BA) (unhide BA) n1 n2).mono ?_; rintro e wf3 ⟨v3, rfl, n3, b⟩; have b0 := b0.trans (b.mono b0.size); clear b n1 n2)
    | (go_at_call 14; refine (same_new _ _ _ S4 _ 200 (Nat.le_of_ble_eq_true rfl) (unhide HPR) n3 (unhide QN _ b0).toW).mono ?_; rintro e wf4 ⟨rfl, b⟩; have b0 := b0.trans (b.mono b0.size); clear b n3)
    | (go_at_call 30; refine (muls_any (unhide QE _ b0)).mono ?_; rintro e wf5 ⟨rfl, rfl⟩)
    | (go_at_call 28; refine (unhide CWa _ (unhide QA _ b0)).mono ?_; rintro e wf6 ⟨rfl, rfl⟩)
    | (go_at_call 37; refine (unhide CC _).mono ?_; rintro e wf6 ⟨rfl, b⟩; have b0 := b0.trans (b.mono b0.size); clear b)
    | (go_at_call 32; refine (deep_any (unhide QE _ b0)).mono ?_; rintro e wf7 ⟨rfl, rfl⟩)
    | (go_at_call 33; refine (unhide CD _).mono ?_; rintro e wf8 ⟨rfl, rfl⟩)
    | fail)
  all_goals
    focus
      have rA := (unhide HRA).next b0
      have tX := (unhide HTX).next b0
      have ns := (unhide HNS).next b0
      have bl := bstep (unhide HBL) b0
      clear z0 z1 z2 z3 p0 p1 p2 p3 p4 p5 p6 p7 p8 p9 p10 b0 HRA HTX HNS HBL HC QE QA QN CC CD CFa CWa
      go_wp2_with fail
      refine (spoil_any _ _ _ _ _ ns).mono ?_
      rintro e w4 ⟨rfl, sp⟩
      have rA := rA.spoilt sp (fun h => Or.inl (unhide hAb h))
      have tX := tX.spoilt sp (fun h => Or.inl hl1)
      have bl := below_spoilt bl sp hSw bl.size
      clear ns sp
      go_wp2_with fail
      refine (intact_any _ ga g1 ba oa ca n us (unhide HLa) (by omega) rA F (unhide HF) tX).mono ?_
      rintro e w5 ⟨rfl, b⟩
      have bl := bstep bl b
      clear b
      go_wp2_with fail
      refine (unhide CK _ ((unhide HT).next bl)).mono ?_
      rintro e w6 ⟨rfl, b⟩
      have bl := bstep bl b
      clear b
      go_wp2
      go_ret
      exact ⟨rfl, bl⟩

end Go.Proofs.YtiekgpphggejcabGreatDoor
