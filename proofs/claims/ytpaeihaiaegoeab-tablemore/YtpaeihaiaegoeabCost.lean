/- Cost and Square of package table. -/
import Derived.Test.YtpaeihaiaegoeabCostH
namespace Go.Proofs.Ytpaeihaiaegoeab
open Go.RowKit Go.Maps

/-- What a bill reckons. -/
theorem cost_any {g mb : Nat} {T : Tab} {q : Bool} : ∀ (f n m c : Nat) (w : World), n < f → m ≤ n → n ≤ 16384 → (q = true → n = m) → c + st n ≤ 1099511627776 → Bill w g mb T q c →
    Calls Try.prog 14 #[.pointer (some ⟨g, 0, none⟩), .int .i64 (n : Int), .int .i64 (m : Int)] w fun e w' => e = .returned (.int .i64 (vq q T.B T.D T.N n m : Int)) ∧ Bill w' g mb T q (c + st n) ∧ w.grownBy w' (some mb)
  | 0, _, _, _, _, h, _, _, _, _, _ => by omega
  | f + 1, n, m, c, w, hf, hm, hn, hq, hc, hB => by
    have ih := fun (n' m' c' : Nat) (w : World) (a1 : n' < n) (a2 : m' ≤ n') (a3 : q = true → n' = m') (a4 : c' + st n' ≤ 1099511627776) (a5 : Bill w g mb T q c') => cost_any (g := g) (mb := mb) (T := T) (q := q) f n' m' c' w (by omega) a2 (by omega) a3 a4 a5
    have e := T.ent
    have eb := e.b1
    have low := fun (r : rt T.B T.D T.N n m = 0 ∨ rt T.B T.D T.N n m = 1 ∨ rt T.B T.D T.N n m = 5) (r5 : rt T.B T.D T.N n m = 5 → 0 < m) =>
      (cost_low n m hm hn hB hq r r5).mono fun e w' (⟨a, b⟩ : _ ∧ _) => (⟨a, (hB.next b).mono (by omega), grown_of_below b⟩ : e = Ending.returned (.int .i64 (vq q T.B T.D T.N n m : Int)) ∧ Bill w' g mb T q (c + st n) ∧ w.grownBy w' (some mb))
    rcases rt_ways n m hm e with ⟨r, _⟩ | ⟨r, _, _⟩ | ⟨r, h1, h2⟩ | ⟨r, h1, h2⟩ | ⟨r, h0, h1, h2⟩ | ⟨r, h0, h1, h2, h3⟩
    · exact low (Or.inl r) (by omega)
    · exact low (Or.inr (Or.inl r)) (by omega)
    · have hq2 : q = false := by
        cases q
        · rfl
        · have := hq rfl; omega
      subst hq2
      exact cost_high n m 2 hm hn hB hq (by omega) (by omega) r (way_two e hm r h1 h2) hc (fun w => parts_two n m w (by omega) hn) ih
    · exact cost_high n m 3 hm hn hB hq (by omega) (by omega) r (way_three e hm r h1 h2 hq) hc (fun w => parts_three n m w hm hn h2) ih
    · exact cost_high n m 4 hm hn hB hq (by omega) (by omega) r (way_four e hm r h0 h2 hq) hc (fun w => parts_four n m w hm hn h2) ih
    · exact low (Or.inr (Or.inr r)) (by omega)

/-- A bill that was just laid. -/
theorem bill_new (w : World) (T : Tab) (q : Bool) :
    Bill ((w.alloc (.map #[] 0)).alloc (.cells #[.int .i64 T.clamp.b, .int .i64 T.clamp.t, .int .i64 T.clamp.n, .int .i64 T.clamp.d, .int .i64 T.clamp.r, .int .i64 T.clamp.l, .int .i64 T.clamp.x, .int .i64 T.clamp.p, .int .i64 T.clamp.k, .int .i64 T.clamp.s, .int .i64 T.clamp.e, .bool q, .map (some w.heap.size)] 37)) (w.heap.size + 1) w.heap.size T q 0 := by
  refine ⟨?_, by omega, .map [], (World.ownsMap_made _ _ _ _).alloc _, known_new T q⟩
  have := heap_alloc_new (w.alloc (.map #[] 0)) (.cells #[.int .i64 T.clamp.b, .int .i64 T.clamp.t, .int .i64 T.clamp.n, .int .i64 T.clamp.d, .int .i64 T.clamp.r, .int .i64 T.clamp.l, .int .i64 T.clamp.x, .int .i64 T.clamp.p, .int .i64 T.clamp.k, .int .i64 T.clamp.s, .int .i64 T.clamp.e, .bool q, .map (some w.heap.size)] 37)
  rwa [show (w.alloc (.map #[] 0)).heap.size = w.heap.size + 1 from by simp] at this

/-- What a product, a square of any lengths costs, by any table. -/
def costT (T : Tab) (n m : Int) : Int :=
  if 0 ≤ n ∧ n ≤ 16384 ∧ 0 ≤ m ∧ m ≤ 16384 then (cst T.B T.D T.N (max n m).toNat (min n m).toNat : Int) else 0
def sqT (T : Tab) (n : Int) : Int := if 0 ≤ n ∧ n ≤ 16384 then (sqt T.B T.D T.N n.toNat : Int) else 0
theorem costT_comm (T : Tab) (n m : Int) : costT T n m = costT T m n := by
  unfold costT
  rw [show max n m = max m n from by omega, show min n m = min m n from by omega]
  by_cases h : 0 ≤ n ∧ n ≤ 16384 ∧ 0 ≤ m ∧ m ≤ 16384
  · rw [if_pos h, if_pos (by omega)]
  · rw [if_neg h, if_neg (by omega)]
theorem costT_mm (T : Tab) (n m : Int) : costT T (max n m) (min n m) = costT T n m := by
  by_cases h : m ≤ n
  · rw [show max n m = n from by omega, show min n m = m from by omega]
  · rw [show max n m = m from by omega, show min n m = n from by omega, costT_comm]
theorem costT_nat (T : Tab) {n m : Nat} (hm : m ≤ n) (hn : n ≤ 16384) : costT T (n : Int) (m : Int) = (cst T.B T.D T.N n m : Int) := by
  unfold costT
  rw [if_pos (by omega), show (max (n : Int) (m : Int)).toNat = n from by omega, show (min (n : Int) (m : Int)).toNat = m from by omega]
theorem sqT_nat (T : Tab) {n : Nat} (hn : n ≤ 16384) : sqT T (n : Int) = (sqt T.B T.D T.N n : Int) := by
  unfold sqT
  rw [if_pos (by omega)]; simp

/-- A call behind a draw of worlds: what was laid ahead of it stays. -/
theorem below_bill {w W w' : World} {mb : Nat} (h : Below w.heap.size w W) (k : W.grownBy w' (some mb)) (hm : w.heap.size ≤ mb) : Below w.heap.size w w' := below_grown h k hm h.size

set_option maxRecDepth 100000 in
set_option maxHeartbeats 3200000 in
theorem tCost_any (T : Tab) (n m : Int) (w : World) (a1 : 0 ≤ n) (a2 : n ≤ 16384) (a3 : 0 ≤ m) (a4 : m ≤ 16384) :
    Calls Try.prog 7 #[T.val, .int .i64 n, .int .i64 m] w fun e w' => e = .returned (.int .i64 (costT T n m)) ∧ Below w.heap.size w w' := by
  have bel := hide (fun o => (Below.refl w.heap.size w).alloc (Nat.le_refl _) o)
  have CC := hide (fun w => clamp_any T w)
  have RC := hide (costT_mm T n m)
  have BN := hide (fun w => bill_new w T false)
  have CK : Hid (∀ (n m : Int) (g mb : Nat) (w : World), 0 ≤ m → m ≤ n → n ≤ 16384 → Bill w g mb T false 0 → Calls Try.prog 14 #[.pointer (some ⟨g, 0, none⟩), .int .i64 n, .int .i64 m] w fun e w' => e = .returned (.int .i64 (costT T n m)) ∧ w.grownBy w' (some mb)) := fun n m g mb w h1 h2 h3 hB => by
    obtain ⟨m, rfl⟩ := Int.eq_ofNat_of_zero_le h1
    obtain ⟨n, rfl⟩ := Int.eq_ofNat_of_zero_le (show 0 ≤ n by omega)
    rw [costT_nat T (by omega) (by omega)]
    have hs := st_le n
    have hs2 : n * n ≤ 16384 * 16384 := Nat.mul_le_mul (by omega) (by omega)
    exact (cost_any (n + 1) n m 0 w (by omega) (by omega) (by omega) (by intro h; cases h) (by omega) hB).mono fun e w' ⟨a, _, c⟩ => ⟨a, c⟩
  unfold Tab.val at CC ⊢
  generalize T.clamp.b = t0 at CC BN
  generalize T.clamp.t = t1 at CC BN
  generalize T.clamp.n = t2 at CC BN
  generalize T.clamp.d = t3 at CC BN
  generalize T.clamp.r = t4 at CC BN
  generalize T.clamp.l = t5 at CC BN
  generalize T.clamp.x = t6 at CC BN
  generalize T.clamp.p = t7 at CC BN
  generalize T.clamp.k = t8 at CC BN
  generalize T.clamp.s = t9 at CC BN
  generalize T.clamp.e = t10 at CC BN
  have hmm := @run_makeMap Try.prog
  all_goals
    go_enter Try.func7, Try.ntmps7
    go_wp2_with (first | (go_at_call 12; refine (tlength_yes _ _ (by omega) (by omega)).mono ?_; rintro e w' ⟨rfl, rfl⟩) | (go_at_call 5; refine (unhide CC _).mono ?_; rintro e w1 ⟨rfl, b1⟩) | (go_at_call 14; refine (unhide CK _ _ _ _ _ (by omega) (by omega) (by omega) (unhide BN _)).mono ?_; rintro e w2 ⟨rfl, b2⟩))
  all_goals
    go_ret
    refine ⟨ret_int (unhide RC), ?_⟩
    have b0 := bstep (unhide bel _) b1
    have hs := b0.size
    exact below_grown ((b0.alloc b0.size _).alloc (by simp; omega) _) b2 b0.size (by simp; omega)

set_option maxRecDepth 100000 in
set_option maxHeartbeats 3200000 in
theorem tSquare_any (T : Tab) (n : Int) (w : World) (a1 : 0 ≤ n) (a2 : n ≤ 16384) :
    Calls Try.prog 8 #[T.val, .int .i64 n] w fun e w' => e = .returned (.int .i64 (sqT T n)) ∧ Below w.heap.size w w' := by
  have bel := hide (fun o => (Below.refl w.heap.size w).alloc (Nat.le_refl _) o)
  have CC := hide (fun w => clamp_any T w)
  have BN := hide (fun w => bill_new w T true)
  have CK : Hid (∀ (n : Int) (g mb : Nat) (w : World), 0 ≤ n → n ≤ 16384 → Bill w g mb T true 0 → Calls Try.prog 14 #[.pointer (some ⟨g, 0, none⟩), .int .i64 n, .int .i64 n] w fun e w' => e = .returned (.int .i64 (sqT T n)) ∧ w.grownBy w' (some mb)) := fun n g mb w h1 h3 hB => by
    obtain ⟨n, rfl⟩ := Int.eq_ofNat_of_zero_le h1
    rw [sqT_nat T (by omega)]
    have hs := st_le n
    have hs2 : n * n ≤ 16384 * 16384 := Nat.mul_le_mul (by omega) (by omega)
    exact (cost_any (n + 1) n n 0 w (by omega) (by omega) (by omega) (fun _ => rfl) (by omega) hB).mono fun e w' ⟨a, _, c⟩ => ⟨a, c⟩
  unfold Tab.val at CC ⊢
  generalize T.clamp.b = t0 at CC BN
  generalize T.clamp.t = t1 at CC BN
  generalize T.clamp.n = t2 at CC BN
  generalize T.clamp.d = t3 at CC BN
  generalize T.clamp.r = t4 at CC BN
  generalize T.clamp.l = t5 at CC BN
  generalize T.clamp.x = t6 at CC BN
  generalize T.clamp.p = t7 at CC BN
  generalize T.clamp.k = t8 at CC BN
  generalize T.clamp.s = t9 at CC BN
  generalize T.clamp.e = t10 at CC BN
  have hmm := @run_makeMap Try.prog
  all_goals
    go_enter Try.func8, Try.ntmps8
    go_wp2_with (first | (go_at_call 12; refine (tlength_yes _ _ (by omega) (by omega)).mono ?_; rintro e w' ⟨rfl, rfl⟩) | (go_at_call 5; refine (unhide CC _).mono ?_; rintro e w1 ⟨rfl, b1⟩) | (go_at_call 14; refine (unhide CK _ _ _ _ (by omega) (by omega) (unhide BN _)).mono ?_; rintro e w2 ⟨rfl, b2⟩))
  all_goals
    go_ret
    refine ⟨rfl, ?_⟩
    have b0 := bstep (unhide bel _) b1
    have hs := b0.size
    exact below_grown ((b0.alloc b0.size _).alloc (by simp; omega) _) b2 b0.size (by simp; omega)

end Go.Proofs.Ytpaeihaiaegoeab
