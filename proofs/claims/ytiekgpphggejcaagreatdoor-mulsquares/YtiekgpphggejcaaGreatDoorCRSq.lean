/- Square of the document. -/
import Derived.Test.YtiekgpphggejcaaGreatDoorB22
namespace Go.Proofs.YtiekgpphggejcaaGreatDoor
open Go.RowKit

theorem sfin_three (T : Tab) (n : Nat) (hn : n ≤ 16384) (r : rt T.B T.D T.N n n = 3) (h1 : T.B ≤ n) :
    wrap64 (wrap64 (sqT T (((n : Int) + 1) / 2) + sqT T ((n : Int) - ((n : Int) + 1) / 2)) + sqT T (((n : Int) + 1) / 2 + 1)) = (sqt T.B T.D T.N n : Int) := by
  have e4 := T.ent.b1
  have g1 : (n + 1) / 2 ≤ 16384 := by omega
  have g3 : n - (n + 1) / 2 ≤ 16384 := by omega
  have g4 : (n + 1) / 2 + 1 ≤ 16384 := by omega
  have k1 : ((n : Int) + 1) / 2 = (((n + 1) / 2 : Nat) : Int) := by omega
  have k2 : (n : Int) - (((n + 1) / 2 : Nat) : Int) = ((n - (n + 1) / 2 : Nat) : Int) := by omega
  have k4 : (((n + 1) / 2 : Nat) : Int) + 1 = (((n + 1) / 2 + 1 : Nat) : Int) := by omega
  rw [k1, k2, k4, sqT_nat T g1, sqT_nat T g3, sqT_nat T g4]
  exact add_three (sqt_three T.ent r h1) (sqt_small T hn)
theorem sfin_four (T : Tab) (n : Nat) (hn : n ≤ 16384) (r : rt T.B T.D T.N n n = 4) (h1 : T.D ≤ n) :
    wrap64 (wrap64 (sqT T (((n : Int) + 2) / 3) + wrap64 (3 * sqT T (((n : Int) + 2) / 3 + 1))) + sqT T ((n : Int) - 2 * (((n : Int) + 2) / 3))) = (sqt T.B T.D T.N n : Int) := by
  have e4 := T.ent.t1
  have g1 : (n + 2) / 3 ≤ 16384 := by omega
  have g3 : n - 2 * ((n + 2) / 3) ≤ 16384 := by omega
  have g4 : (n + 2) / 3 + 1 ≤ 16384 := by omega
  have k1 : ((n : Int) + 2) / 3 = (((n + 2) / 3 : Nat) : Int) := by omega
  have k2 : (n : Int) - 2 * (((n + 2) / 3 : Nat) : Int) = ((n - 2 * ((n + 2) / 3) : Nat) : Int) := by omega
  have k4 : (((n + 2) / 3 : Nat) : Int) + 1 = (((n + 2) / 3 + 1 : Nat) : Int) := by omega
  rw [k1, k2, k4, sqT_nat T g1, sqT_nat T g4, sqT_nat T g3]
  exact add_four (sqt_four T.ent r h1) (sqt_small T hn)

set_option maxRecDepth 100000 in
set_option maxHeartbeats 3200000 in
theorem rSq_three (T : Tab) (n : Nat) (w : World) (hn : n ≤ 16384) (r : rt T.B T.D T.N n n = 3) (h1 : T.B ≤ n)
    (ih : ∀ (a : Int) (w : World), a < (n : Int) → 0 ≤ a → Calls Tryz.prog 26 #[T.val, .int .i64 a] w fun e w' => e = .returned (.int .i64 (sqT T a)) ∧ Below w.heap.size w w') :
    Calls Tryz.prog 26 #[T.val, .int .i64 (n : Int)] w fun e w' => e = .returned (.int .i64 (sqt T.B T.D T.N n : Int)) ∧ Below w.heap.size w w' := by
  have IH := hide ih
  have CR : Hid (∀ w, Calls Tryz.prog 43 #[T.val, .int .i64 (n : Int), .int .i64 (n : Int)] w fun e w' => e = .returned (.int .i64 3) ∧ Below w.heap.size w w') := fun w => by
    have := rRoute_any T n n w
    rwa [rtT_nat T (Nat.le_refl _) hn, r] at this
  have TA := hide (tabAt_new w T 23)
  have bel := hide (fun o => (Below.refl w.heap.size w).alloc (Nat.le_refl _) o)
  have FIN := hide (sfin_three T n hn r h1)
  have h4 := T.ent.b1
  clear ih
  unfold Tab.val
  go_enter Tryz.func26, Tryz.ntmps26
  go_wp2_with fail
  refine (unhide CR _).mono ?_
  rintro e w1 ⟨rfl, b1⟩
  have b0 := hide (bstep (unhide bel _) b1)
  have TA1 := hide ((unhide TA).next b1)
  clear b1 bel CR
  obtain ⟨g, hg⟩ : ∃ g, w.heap.size = g := ⟨_, rfl⟩
  have TA2 := unhide TA1
  rw [hg] at TA2
  have TA3 := hide TA2
  obtain ⟨c0, c1, c2, c3, c4, c5, c6, c7, c8, c9, c10⟩ := TA2
  go_wp2_with fail
  clear hg
  have o0 := Old.cell c0
  have o1 := Old.cell c1
  have o2 := Old.cell c2
  have o3 := Old.cell c3
  have o4 := Old.cell c4
  have o5 := Old.cell c5
  have o6 := Old.cell c6
  have o7 := Old.cell c7
  have o8 := Old.cell c8
  have o9 := Old.cell c9
  have o10 := Old.cell c10
  clear c0 c1 c2 c3 c4 c5 c6 c7 c8 c9 c10
  have inst := old_some w1
  refine region_old (by kernel_rfl) (by kernel_rfl) ?_
  repeat (go_big_quiet_step ((go_at_call 26; exact Calls.old (unhide IH _ _ (by omega) (by omega)))))
  refine wpQuiet_nil ?_
  intro w5 hw5
  obtain ⟨u, rfl⟩ := hw5
  clear o0 o1 o2 o3 o4 o5 o6 o7 o8 o9 o10
  go_wp2_with fail
  go_ret
  exact ⟨ret_int (unhide FIN), bstep (unhide b0) u.old⟩

set_option maxRecDepth 100000 in
set_option maxHeartbeats 3200000 in
theorem rSq_four (T : Tab) (n : Nat) (w : World) (hn : n ≤ 16384) (r : rt T.B T.D T.N n n = 4) (h1 : T.D ≤ n)
    (ih : ∀ (a : Int) (w : World), a < (n : Int) → 0 ≤ a → Calls Tryz.prog 26 #[T.val, .int .i64 a] w fun e w' => e = .returned (.int .i64 (sqT T a)) ∧ Below w.heap.size w w') :
    Calls Tryz.prog 26 #[T.val, .int .i64 (n : Int)] w fun e w' => e = .returned (.int .i64 (sqt T.B T.D T.N n : Int)) ∧ Below w.heap.size w w' := by
  have IH := hide ih
  have CR : Hid (∀ w, Calls Tryz.prog 43 #[T.val, .int .i64 (n : Int), .int .i64 (n : Int)] w fun e w' => e = .returned (.int .i64 4) ∧ Below w.heap.size w w') := fun w => by
    have := rRoute_any T n n w
    rwa [rtT_nat T (Nat.le_refl _) hn, r] at this
  have TA := hide (tabAt_new w T 23)
  have bel := hide (fun o => (Below.refl w.heap.size w).alloc (Nat.le_refl _) o)
  have FIN := hide (sfin_four T n hn r h1)
  have h4 := T.ent.t1
  clear ih
  unfold Tab.val
  go_enter Tryz.func26, Tryz.ntmps26
  go_wp2_with fail
  refine (unhide CR _).mono ?_
  rintro e w1 ⟨rfl, b1⟩
  have b0 := hide (bstep (unhide bel _) b1)
  have TA1 := hide ((unhide TA).next b1)
  clear b1 bel CR
  obtain ⟨g, hg⟩ : ∃ g, w.heap.size = g := ⟨_, rfl⟩
  have TA2 := unhide TA1
  rw [hg] at TA2
  have TA3 := hide TA2
  obtain ⟨c0, c1, c2, c3, c4, c5, c6, c7, c8, c9, c10⟩ := TA2
  go_wp2_with fail
  clear hg
  have o0 := Old.cell c0
  have o1 := Old.cell c1
  have o2 := Old.cell c2
  have o3 := Old.cell c3
  have o4 := Old.cell c4
  have o5 := Old.cell c5
  have o6 := Old.cell c6
  have o7 := Old.cell c7
  have o8 := Old.cell c8
  have o9 := Old.cell c9
  have o10 := Old.cell c10
  clear c0 c1 c2 c3 c4 c5 c6 c7 c8 c9 c10
  have inst := old_some w1
  refine region_old (by kernel_rfl) (by kernel_rfl) ?_
  repeat (go_big_quiet_step ((go_at_call 26; exact Calls.old (unhide IH _ _ (by omega) (by omega)))))
  refine wpQuiet_nil ?_
  intro w5 hw5
  obtain ⟨u, rfl⟩ := hw5
  clear o0 o1 o2 o3 o4 o5 o6 o7 o8 o9 o10
  go_wp2_with fail
  go_ret
  exact ⟨ret_int (unhide FIN), bstep (unhide b0) u.old⟩

set_option maxRecDepth 100000 in
set_option maxHeartbeats 3200000 in
theorem rSq_zero (T : Tab) (n : Nat) (w : World) (hn : n ≤ 16384) (r : rt T.B T.D T.N n n = 0) :
    Calls Tryz.prog 26 #[T.val, .int .i64 (n : Int)] w fun e w' => e = .returned (.int .i64 (sqt T.B T.D T.N n : Int)) ∧ Below w.heap.size w w' := by
  have CR : Hid (∀ w, Calls Tryz.prog 43 #[T.val, .int .i64 (n : Int), .int .i64 (n : Int)] w fun e w' => e = .returned (.int .i64 0) ∧ Below w.heap.size w w') := fun w => by
    have := rRoute_any T n n w
    rwa [rtT_nat T (Nat.le_refl _) hn, r] at this
  have bel := hide (fun o => (Below.refl w.heap.size w).alloc (Nat.le_refl _) o)
  rw [sqt_zero (Or.inl r)]
  unfold Tab.val
  go_enter Tryz.func26, Tryz.ntmps26
  go_wp2_with fail
  refine (unhide CR _).mono ?_
  rintro e w1 ⟨rfl, b1⟩
  have b0 := hide (bstep (unhide bel _) b1)
  clear b1 bel CR
  go_wp2_with fail
  go_ret
  exact ⟨rfl, unhide b0⟩

set_option maxRecDepth 100000 in
set_option maxHeartbeats 3200000 in
theorem rSq_one (T : Tab) (n : Nat) (w : World) (hn : n ≤ 16384) (r : rt T.B T.D T.N n n = 1) :
    Calls Tryz.prog 26 #[T.val, .int .i64 (n : Int)] w fun e w' => e = .returned (.int .i64 (sqt T.B T.D T.N n : Int)) ∧ Below w.heap.size w w' := by
  have CR : Hid (∀ w, Calls Tryz.prog 43 #[T.val, .int .i64 (n : Int), .int .i64 (n : Int)] w fun e w' => e = .returned (.int .i64 1) ∧ Below w.heap.size w w') := fun w => by
    have := rRoute_any T n n w
    rwa [rtT_nat T (Nat.le_refl _) hn, r] at this
  have bel := hide (fun o => (Below.refl w.heap.size w).alloc (Nat.le_refl _) o)
  rw [sqt_one r]
  obtain ⟨p, hp⟩ : ∃ p : Nat, n * (n + 1) = p := ⟨_, rfl⟩
  have pb : p ≤ 268500000 := by rw [← hp]; exact Nat.le_trans (Nat.mul_le_mul hn (show n + 1 ≤ 16385 by omega)) (by omega)
  have ep : (n : Int) * ((n : Int) + 1) = (p : Int) := by rw [← hp]; simp
  rw [hp]
  clear hp
  unfold Tab.val
  go_enter Tryz.func26, Tryz.ntmps26
  go_wp2_with fail
  refine (unhide CR _).mono ?_
  rintro e w1 ⟨rfl, b1⟩
  have b0 := hide (bstep (unhide bel _) b1)
  clear b1 bel CR
  go_wp2_with fail
  go_ret
  exact ⟨ret_int (by omega), unhide b0⟩

set_option maxRecDepth 100000 in
set_option maxHeartbeats 3200000 in
theorem rSq_five (T : Tab) (n : Nat) (w : World) (hn : n ≤ 16384) (r : rt T.B T.D T.N n n = 5) (h1 : 1 ≤ n) :
    Calls Tryz.prog 26 #[T.val, .int .i64 (n : Int)] w fun e w' => e = .returned (.int .i64 (sqt T.B T.D T.N n : Int)) ∧ Below w.heap.size w w' := by
  have CR : Hid (∀ w, Calls Tryz.prog 43 #[T.val, .int .i64 (n : Int), .int .i64 (n : Int)] w fun e w' => e = .returned (.int .i64 5) ∧ Below w.heap.size w w') := fun w => by
    have := rRoute_any T n n w
    rwa [rtT_nat T (Nat.le_refl _) hn, r] at this
  have bel := hide (fun o => (Below.refl w.heap.size w).alloc (Nat.le_refl _) o)
  rw [sqt_five r]
  have CT := hide (fun w => rTransform_yes n n 2 w h1 hn h1 hn (by omega))
  generalize tf n n 2 = x at *
  unfold Tab.val
  go_enter Tryz.func26, Tryz.ntmps26
  go_wp2_with fail
  refine (unhide CR _).mono ?_
  rintro e w1 ⟨rfl, b1⟩
  have b0 := hide (bstep (unhide bel _) b1)
  clear b1 bel CR
  go_wp2_with fail
  refine (unhide CT _).mono ?_
  rintro e w2 ⟨rfl, rfl⟩
  go_wp2_with fail
  go_ret
  exact ⟨rfl, unhide b0⟩

theorem rSq_le (T : Tab) : ∀ (f n : Nat) (w : World), n < f → n ≤ 16384 →
    Calls Tryz.prog 26 #[T.val, .int .i64 (n : Int)] w fun e w' => e = .returned (.int .i64 (sqt T.B T.D T.N n : Int)) ∧ Below w.heap.size w w'
  | 0, _, _, h, _ => by omega
  | f + 1, n, w, hf, hn => by
    have ih : ∀ (a : Int) (w : World), a < (n : Int) → 0 ≤ a → Calls Tryz.prog 26 #[T.val, .int .i64 a] w fun e w' => e = .returned (.int .i64 (sqT T a)) ∧ Below w.heap.size w w' := fun a w h1 h2 => by
      obtain ⟨a, rfl⟩ := Int.eq_ofNat_of_zero_le h2
      rw [sqT_nat T (by omega)]
      exact rSq_le T f a w (by omega) (by omega)
    have e := T.ent.b1
    rcases rt_ways n n (Nat.le_refl _) T.ent with ⟨r, _⟩ | ⟨r, _, _⟩ | ⟨r, h1, h2⟩ | ⟨r, h1, h2⟩ | ⟨r, h0, h1, h2⟩ | ⟨r, h0, h1, h2, h3⟩
    · exact rSq_zero T n w hn r
    · exact rSq_one T n w hn r
    · omega
    · exact rSq_three T n w hn r h1 ih
    · exact rSq_four T n w hn r h0 ih
    · exact rSq_five T n w hn r (by omega)
theorem rSquare_any (T : Tab) (n : Int) (w : World) (a1 : 0 ≤ n) (a2 : n ≤ 16384) :
    Calls Tryz.prog 26 #[T.val, .int .i64 n] w fun e w' => e = .returned (.int .i64 (sqT T n)) ∧ Below w.heap.size w w' := by
  obtain ⟨n, rfl⟩ := Int.eq_ofNat_of_zero_le a1
  rw [sqT_nat T (by omega)]
  exact rSq_le T (n + 1) n w (by omega) (by omega)

end Go.Proofs.YtiekgpphggejcaaGreatDoor
