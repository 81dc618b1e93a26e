/- TableSquare: what the law's walk comes to. -/
import Derived.Test.YtpaeihaiaegoeaaTLaw
namespace Go.Proofs.Ytpaeihaiaegoeaa
open Go.RowKit

set_option maxRecDepth 100000 in
set_option maxHeartbeats 6400000 in
theorem tableSquare_core (T : Tab) (n m : Int) (a b x y p q : Nat) (za zb zx : Bool) (w : World) (ha : a ≤ 400) (hb : b ≤ 400) (hp : p ≤ 1280000) (hq : q ≤ 1280000) (ep : 8 * (a : Int) * (b : Int) = (p : Int)) (eq : 8 * (a : Int) * (a : Int) = (q : Int))
    (L1 : Hid (∀ w, Calls Try.prog 16 #[.int .i64 n] w fun e w' => e = .returned (.int .i64 (a : Int)) ∧ w' = w)) (L2 : Hid (∀ w, Calls Try.prog 16 #[.int .i64 m] w fun e w' => e = .returned (.int .i64 (b : Int)) ∧ w' = w))
    (ex : costT T (a : Int) (b : Int) = (x : Int)) (ex2 : costT T (b : Int) (a : Int) = (x : Int)) (ey : sqT T (a : Int) = (y : Int)) (hx : (x : Int) ≤ (p : Int)) (hy : (y : Int) ≤ (q : Int)) (e1 : ((a : Int) == 0) = za) (e2 : ((b : Int) == 0) = zb) (e3 : ((x : Int) == 0) = zx)
    (ez : (za = true ∧ zx = true) ∨ (za = false ∧ zb = zx)) :
    Calls Try.prog 6 #[T.val, .int .i64 n, .int .i64 m] w fun e w' => e = .returned (.bool true) ∧ Below w.heap.size w w' := by
  have CC := hide (fun n m w h1 h2 h3 h4 => tCost_any T n m w h1 h2 h3 h4)
  have CS := hide (fun n w h1 h2 => tSquare_any T n w h1 h2)
  generalize costT T = f at *
  generalize sqT T = f2 at *
  obtain ⟨W, hW⟩ : ∃ W, w.alloc (.cells #[.int .i64 T.b, .int .i64 T.t, .int .i64 T.n, .int .i64 T.d, .int .i64 T.r, .int .i64 T.l, .int .i64 T.x, .int .i64 T.p, .int .i64 T.k, .int .i64 T.s, .int .i64 T.e] 23) = W := ⟨_, rfl⟩
  have bW : Hid (Below w.heap.size w W) := by rw [← hW]; exact (Below.refl _ _).alloc (Nat.le_refl _) _
  have TA := tabAt_new w T 23
  rw [hW] at TA
  obtain ⟨g0, hg0⟩ : ∃ g, w.heap.size = g := ⟨_, rfl⟩
  rw [hg0] at TA
  have wp : IntKind.i64.wrap (p : Int) = (p : Int) := by rw [IntKind.wrap_i64]; omega
  have wq : IntKind.i64.wrap (q : Int) = (q : Int) := by rw [IntKind.wrap_i64]; omega
  unfold Tab.val
  rcases ez with ⟨rfl, rfl⟩ | ⟨rfl, rfl⟩
  · go_enter Try.func6, Try.ntmps6
    go_wp2_with fail
    refine (unhide L1 _).mono ?_
    rintro e w2 ⟨rfl, hw2⟩
    obtain rfl := hw2.symm
    go_wp2_with fail
    refine (unhide L2 _).mono ?_
    rintro e w2 ⟨rfl, hw2⟩
    obtain rfl := hw2.symm
    go_wp2_with fail
    clear hg0 hW L1 L2
    have o0 := Old.cell TA.c0
    have o1 := Old.cell TA.c1
    have o2 := Old.cell TA.c2
    have o3 := Old.cell TA.c3
    have o4 := Old.cell TA.c4
    have o5 := Old.cell TA.c5
    have o6 := Old.cell TA.c6
    have o7 := Old.cell TA.c7
    have o8 := Old.cell TA.c8
    have o9 := Old.cell TA.c9
    have o10 := Old.cell TA.c10
    clear TA
    have inst := old_some W
    refine region_old (by kernel_rfl) (by kernel_rfl) ?_
    repeat (go_big_quiet_step ((first | (go_at_call 20; exact Calls.old (unhide CC _ _ _ (by omega) (by omega) (by omega) (by omega))) | (go_at_call 22; exact Calls.old (unhide CS _ _ (by omega) (by omega))) | (go_at_call 15; exact Calls.old (tabWakes_any _)))))
    refine wpQuiet_nil ?_
    intro w5 hw5
    obtain ⟨u, rfl⟩ := hw5
    clear o0 o1 o2 o3 o4 o5 o6 o7 o8 o9 o10
    go_wp2_with fail
    go_ret
    exact ⟨rfl, bstep (unhide bW) u.old⟩
  · cases zb
    all_goals
      go_enter Try.func6, Try.ntmps6
      go_wp2_with fail
      refine (unhide L1 _).mono ?_
      rintro e w2 ⟨rfl, hw2⟩
      obtain rfl := hw2.symm
      go_wp2_with fail
      refine (unhide L2 _).mono ?_
      rintro e w2 ⟨rfl, hw2⟩
      obtain rfl := hw2.symm
      go_wp2_with fail
      clear hg0 hW L1 L2
      have o0 := Old.cell TA.c0
      have o1 := Old.cell TA.c1
      have o2 := Old.cell TA.c2
      have o3 := Old.cell TA.c3
      have o4 := Old.cell TA.c4
      have o5 := Old.cell TA.c5
      have o6 := Old.cell TA.c6
      have o7 := Old.cell TA.c7
      have o8 := Old.cell TA.c8
      have o9 := Old.cell TA.c9
      have o10 := Old.cell TA.c10
      clear TA
      have inst := old_some W
      refine region_old (by kernel_rfl) (by kernel_rfl) ?_
      repeat (go_big_quiet_step ((first | (go_at_call 20; exact Calls.old (unhide CC _ _ _ (by omega) (by omega) (by omega) (by omega))) | (go_at_call 22; exact Calls.old (unhide CS _ _ (by omega) (by omega))) | (go_at_call 15; exact Calls.old (tabWakes_any _)))))
      refine wpQuiet_nil ?_
      intro w5 hw5
      obtain ⟨u, rfl⟩ := hw5
      clear o0 o1 o2 o3 o4 o5 o6 o7 o8 o9 o10
      go_wp2_with fail
      go_ret
      exact ⟨rfl, bstep (unhide bW) u.old⟩

theorem tableSquare_any (T : Tab) (n m : Int) (w : World) (hn1 : -9223372036854775808 ≤ n) (hn2 : n ≤ 9223372036854775807) (hm1 : -9223372036854775808 ≤ m) (hm2 : m ≤ 9223372036854775807) :
    Calls Try.prog 6 #[T.val, .int .i64 n, .int .i64 m] w fun e w' => e = .returned (.bool true) ∧ Below w.heap.size w w' := by
  have L1 := hide (fun w => lawLength_any n w hn1 hn2)
  have L2 := hide (fun w => lawLength_any m w hm1 hm2)
  have a2 := lenT_high n
  have b2 := lenT_high m
  obtain ⟨a, ha⟩ := Int.eq_ofNat_of_zero_le (lenT_low n)
  obtain ⟨b, hb⟩ := Int.eq_ofNat_of_zero_le (lenT_low m)
  rw [ha] at L1 a2
  rw [hb] at L2 b2
  clear ha hb hn1 hn2 hm1 hm2
  have ha : a ≤ 400 := by omega
  have hb : b ≤ 400 := by omega
  obtain ⟨x, hx⟩ : ∃ x, cst T.B T.D T.N (max a b) (min a b) = x := ⟨_, rfl⟩
  have ex : costT T (a : Int) (b : Int) = (x : Int) := by
    unfold costT
    rw [if_pos (by omega), show (max (a : Int) (b : Int)).toNat = max a b from by omega, show (min (a : Int) (b : Int)).toNat = min a b from by omega, hx]
  have hx1 := cst_le T.ent (max a b + 1) (max a b) (min a b) (by omega) (by omega)
  have hmm : max a b * min a b = a * b := by
    by_cases h : a ≤ b
    · rw [show max a b = b from by omega, show min a b = a from by omega, Nat.mul_comm]
    · rw [show max a b = a from by omega, show min a b = b from by omega]
  rw [hx, hmm] at hx1
  have hx0 : (x = 0) ↔ (a = 0 ∨ b = 0) := by
    constructor
    · intro h
      by_cases h0 : min a b = 0
      · omega
      · have := cst_pos T.ent (max a b + 1) (max a b) (min a b) (by omega) (by omega) (by omega)
        omega
    · intro h
      rw [show min a b = 0 from by omega, cst_nought] at hx
      exact hx.symm
  have hp : a * b ≤ 400 * 400 := Nat.mul_le_mul ha hb
  have hq : a * a ≤ 400 * 400 := Nat.mul_le_mul ha ha
  have hy := sqt_eight T.ent a
  refine tableSquare_core T n m a b x (sqt T.B T.D T.N a) (8 * (a * b)) (8 * (a * a)) ((a : Int) == 0) ((b : Int) == 0) ((x : Int) == 0) w ha hb (by omega) (by omega) (by rw [Int.mul_assoc]; simp) (by rw [Int.mul_assoc]; simp) L1 L2 ex (by rw [costT_comm]; exact ex) (sqT_nat T (by omega)) (by omega) (by omega) rfl rfl rfl ?_
  by_cases h0 : a = 0
  · left
    have hx' := hx0.2 (Or.inl h0)
    subst h0 hx'
    simp
  · right
    by_cases h1 : b = 0
    · have hx' := hx0.2 (Or.inr h1)
      subst h1 hx'
      refine ⟨?_, rfl⟩
      simp; omega
    · have h2 : ¬ x = 0 := fun h => by have := hx0.1 h; omega
      have e1 : ((a : Int) == 0) = false := by simp; omega
      have e2 : ((b : Int) == 0) = false := by simp; omega
      have e3 : ((x : Int) == 0) = false := by simp; omega
      exact ⟨e1, by rw [e2, e3]⟩

end Go.Proofs.Ytpaeihaiaegoeaa
