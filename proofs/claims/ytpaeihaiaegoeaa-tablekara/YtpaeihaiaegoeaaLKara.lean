/- TableKara: what the law's walk comes to. -/
import Derived.Test.YtpaeihaiaegoeaaTLaw
namespace Go.Proofs.Ytpaeihaiaegoeaa
open Go.RowKit

/-- The loop's numbers: k halved j times, the bound trebled as often. -/
structure Tre (a B j k p : Nat) : Prop where
  half : k = a / 2 ^ j
  tre : p = B * B * 3 ^ j
  le : j ≤ 9
theorem Tre.step {a B j k p : Nat} (h : Tre a B j k p) (ha : a ≤ 400) (hk : 0 < k) : Tre a B (j + 1) (k / 2) (3 * p) := by
  refine ⟨by rw [h.half, Nat.pow_succ, Nat.div_div_eq_div_mul], by rw [h.tre, Nat.pow_succ]; simp [Nat.mul_comm, Nat.mul_left_comm], ?_⟩
  by_cases e : j = 9
  · subst e
    have := h.half
    have : a / 2 ^ 9 = 0 := Nat.div_eq_of_lt (by omega)
    omega
  · have := h.le; omega
theorem Tre.room {a B j k p : Nat} (h : Tre a B j k p) (hB : B ≤ 64) : p ≤ 100000000 := by
  rw [h.tre]
  have h1 : B * B ≤ 64 * 64 := Nat.mul_le_mul hB hB
  have h2 : 3 ^ j ≤ 3 ^ 9 := Nat.pow_le_pow_right (by omega) h.le
  exact Nat.le_trans (Nat.mul_le_mul h1 h2) (by decide)
theorem Tre.lt {a B j k p : Nat} (h : Tre a B j k p) (hk : k = 0) : a < 2 ^ j := by
  have := h.half
  rw [hk] at this
  exact (Nat.div_eq_zero_iff_lt (Nat.pow_pos (by omega))).1 this.symm

theorem Tre.low {a B j k p : Nat} (h : Tre a B j k p) : k ≤ a := by rw [h.half]; exact Nat.div_le_self _ _

set_option maxRecDepth 100000 in
set_option maxHeartbeats 6400000 in
theorem tableKara_any (T : Tab) (n : Int) (w : World) (hn1 : -9223372036854775808 ≤ n) (hn2 : n ≤ 9223372036854775807) :
    Calls Try.prog 7 #[T.val, .int .i64 n] w fun e w' => e = .returned (.bool true) ∧ Below w.heap.size w w' := by
  have L1 := hide (fun w => lawLength_any n w hn1 hn2)
  have a2 := lenT_high n
  obtain ⟨a, ha⟩ := Int.eq_ofNat_of_zero_le (lenT_low n)
  rw [ha] at L1 a2
  clear ha hn1 hn2
  have ha : a ≤ 400 := by omega
  obtain ⟨U, hU⟩ : ∃ U : Tab, U = ⟨T.b, (a : Int) + 1, T.n, T.d, T.r, T.l, T.x, T.p, T.k, T.s, T.e⟩ := ⟨_, rfl⟩
  have CC := hide (fun w => clamp_any U w)
  have CT := hide (fun w => tCost_any U (a : Int) (a : Int) w (by omega) (by omega) (by omega) (by omega))
  rw [costT_nat U (Nat.le_refl _) (by omega)] at CT
  have HD : a < U.D := by
    have h1 := U.hD
    have h2 : U.clamp.t = cl ((a : Int) + 1) 12 8192 := by rw [hU]; rfl
    unfold cl at h2
    omega
  have HB := U.ent.b2
  have HK : Hid (∀ j k p, Tre a U.B j k p → k = 0 → cst U.B U.D U.N a a ≤ p) := fun j k p h hk => by
    rw [h.tre]; exact cst_kara U.ent a j HD (h.lt hk)
  have hV : U.val = .agg #[.int .i64 T.b, .int .i64 ((a : Int) + 1), .int .i64 T.n, .int .i64 T.d, .int .i64 T.r, .int .i64 T.l, .int .i64 T.x, .int .i64 T.p, .int .i64 T.k, .int .i64 T.s, .int .i64 T.e] := by rw [hU]; rfl
  have TA : Hid (TabAt (w.alloc (.cells #[.int .i64 T.b, .int .i64 ((a : Int) + 1), .int .i64 T.n, .int .i64 T.d, .int .i64 T.r, .int .i64 T.l, .int .i64 T.x, .int .i64 T.p, .int .i64 T.k, .int .i64 T.s, .int .i64 T.e] 23)) w.heap.size ⟨T.b, (a : Int) + 1, T.n, T.d, T.r, T.l, T.x, T.p, T.k, T.s, T.e⟩) := tabAt_new w ⟨T.b, (a : Int) + 1, T.n, T.d, T.r, T.l, T.x, T.p, T.k, T.s, T.e⟩ _
  obtain ⟨v3, v4, v5, v6, v7, v8, v9, v10, hC⟩ := clamp_shape U
  rw [hV, hC] at CC
  rw [hV] at CT
  have T0 : Hid (Tre a U.B 0 a (U.B * U.B)) := ⟨by simp, by simp, by omega⟩
  clear hU hV hC
  generalize cst U.B U.D U.N a a = x at *
  generalize U.B = B at *
  generalize U.D = D at *
  generalize U.N = N at *
  obtain ⟨p0, hp0⟩ : ∃ p, B * B = p := ⟨_, rfl⟩
  have ep : (B : Int) * (B : Int) = (p0 : Int) := by rw [← hp0]; simp
  have hpb : p0 ≤ 4096 := by rw [← hp0]; exact Nat.mul_le_mul HB HB
  rw [hp0] at T0
  clear hp0
  have bel := hide (fun o => (Below.refl w.heap.size w).alloc (Nat.le_refl _) o)
  unfold Tab.val
  go_enter Try.func7, Try.ntmps7
  go_wp2_with fail
  refine (unhide L1 _).mono ?_
  rintro e w2 ⟨rfl, hw2⟩
  obtain rfl := hw2.symm
  go_wp2_with fail
  refine (unhide CC _).mono ?_
  rintro e w1 ⟨rfl, b1⟩
  obtain ⟨W3, hW3⟩ : ∃ W, w1.alloc (.cells #[.int .i64 (B : Int), .int .i64 (D : Int), .int .i64 (N : Int), .int .i64 v3, .int .i64 v4, .int .i64 v5, .int .i64 v6, .int .i64 v7, .int .i64 v8, .int .i64 v9, .int .i64 v10] 23) = W := ⟨_, rfl⟩
  obtain ⟨g3, hg3⟩ : ∃ g, w1.heap.size = g := ⟨_, rfl⟩
  have hk3 : W3.heap[g3]? = some (.cells #[.int .i64 (B : Int), .int .i64 (D : Int), .int .i64 (N : Int), .int .i64 v3, .int .i64 v4, .int .i64 v5, .int .i64 v6, .int .i64 v7, .int .i64 v8, .int .i64 v9, .int .i64 v10] 23 (0, 0)) := by rw [← hW3, ← hg3]; exact heap_alloc_new w1 _
  have d0 : W3.cell? ⟨g3, 0, none⟩ = some (.int .i64 (B : Int)) := cell_of_row _ g3 0 _ _ _ hk3
  have d1 : W3.cell? ⟨g3, 1, none⟩ = some (.int .i64 (D : Int)) := cell_of_row _ g3 1 _ _ _ hk3
  have b3 : Below w1.heap.size w1 W3 := by rw [← hW3]; exact (Below.refl _ _).alloc (Nat.le_refl _) _
  have b0 := hide (bstep (bstep (unhide bel _) b1) b3)
  have TA1 := ((unhide TA).next b1).next b3
  obtain ⟨g0, hg0⟩ : ∃ g, w.heap.size = g := ⟨_, rfl⟩
  have HG0 := hide hg0
  rw [hg0] at TA1
  obtain ⟨c0, c1, c2, c3, c4, c5, c6, c7, c8, c9, c10⟩ := TA1
  dsimp only at c0 c1 c2 c3 c4 c5 c6 c7 c8 c9 c10
  clear hk3 b3 b1 TA bel CC L1
  go_wp2_with fail
  clear hW3 hg3 hg0 d0 d1
  go_loop [6, 7] (fun s k => ∃ j kk p : Nat, Tre a B j kk p ∧ s = .int .i64 (p : Int) ∧ k = .int .i64 (kk : Int)) (fun _ k => (intOf k).toNat)
  case atStart => exact ⟨0, a, p0, unhide T0, rfl, rfl⟩
  case round =>
    obtain ⟨j, kk, p, hT, rfl, rfl⟩ := hrel
    have hpp := hT.room HB
    have hkk := hT.low
    have HT := hide hT
    clear hT
    by_cases hk : (0 : Int) < (kk : Int)
    · go_wp2_with fail
      go_round
      case rel => exact ⟨j + 1, kk / 2, 3 * p, (unhide HT).step ha (by omega), by go_num, by go_num⟩
      case measure => simp [intOf]; omega
    · have hx := unhide HK j kk p (unhide HT) (by omega)
      have hx2 : (x : Int) ≤ (p : Int) := by omega
      go_wp2_with fail
      refine (unhide CT _).mono ?_
      rintro e w4 ⟨rfl, b4⟩
      go_wp2_with fail
      refine (tabWakes_any _).mono ?_
      rintro e w5 ⟨rfl, b5⟩
      go_wp2_with fail
      go_ret
      have bb := bstep (bstep (unhide b0) b4) b5
      exact ⟨rfl, by first | exact bb | (rw [← unhide HG0]; exact bb)⟩

end Go.Proofs.Ytpaeihaiaegoeaa
