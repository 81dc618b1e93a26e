/- Div3: three words over two whose inverse is at hand. -/
import Derived.Test.YtahmnjpnokhbpabThSteps
import Derived.Test.YtahmnjpnokhbpabTwoW
namespace Go.Proofs.Ytahmnjpnokhbpab
open Go.RowKit

/-- The inverse of two words. -/
def inv2 (D : Nat) : Nat := (340282366920938463463374607431768211456 * 18446744073709551616 - 1) / D - 18446744073709551616

theorem inv2_facts (D : Nat) (h1 : 170141183460469231731687303715884105728 ≤ D) (h2 : D < 340282366920938463463374607431768211456) :
    inv2 D < 18446744073709551616 ∧ (340282366920938463463374607431768211456 * 18446744073709551616 - 1) / D = inv2 D + 18446744073709551616 ∧ ∃ k, (inv2 D + 18446744073709551616) * D + k = 340282366920938463463374607431768211456 * 18446744073709551616 ∧ k ≤ D ∧ 1 ≤ k := by
  have hlo : 18446744073709551616 ≤ (340282366920938463463374607431768211456 * 18446744073709551616 - 1) / D := by
    rw [Nat.le_div_iff_mul_le (by omega)]; omega
  have hhi : (340282366920938463463374607431768211456 * 18446744073709551616 - 1) / D < 18446744073709551616 * 2 := by
    rw [Nat.div_lt_iff_lt_mul (by omega)]; omega
  have e1 : (340282366920938463463374607431768211456 * 18446744073709551616 - 1) / D * D ≤ 340282366920938463463374607431768211456 * 18446744073709551616 - 1 := Nat.div_mul_le_self _ _
  have e2 := Nat.lt_div_mul_add (a := 340282366920938463463374607431768211456 * 18446744073709551616 - 1) (b := D) (by omega)
  have ev : inv2 D = (340282366920938463463374607431768211456 * 18446744073709551616 - 1) / D - 18446744073709551616 := rfl
  generalize (340282366920938463463374607431768211456 * 18446744073709551616 - 1) / D = V at *
  have e3 : inv2 D + 18446744073709551616 = V := by omega
  refine ⟨by omega, by omega, 340282366920938463463374607431768211456 * 18446744073709551616 - V * D, ?_, ?_, ?_⟩
  · rw [e3]; omega
  · omega
  · omega

theorem ret_four {a b c d e f : Int} {p q : Bool} (h : a = b) (h' : c = d) (h3 : e = f) (h'' : p = q) : Ending.returned (.tuple #[.int .u64 a, .int .u64 c, .int .u64 e, .bool p]) = .returned (.tuple #[.int .u64 b, .int .u64 d, .int .u64 f, .bool q]) := by rw [h, h', h3, h'']

set_option maxHeartbeats 800000 in
theorem word_div3_no (a2 a1 a0 d1 d0 v : Nat) (w : World) (h : d1 < 9223372036854775808 ∨ (9223372036854775808 ≤ d1 ∧ (d1 < a2 ∨ (a2 = d1 ∧ d0 ≤ a1)))) :
    Calls Try.prog 22 #[.int .u64 (a2 : Int), .int .u64 (a1 : Int), .int .u64 (a0 : Int), .int .u64 (d1 : Int), .int .u64 (d0 : Int), .int .u64 (v : Int)] w fun e w' => e = .returned (.tuple #[.int .u64 0, .int .u64 0, .int .u64 0, .bool false]) ∧ w' = w := by
  rcases h with h | ⟨h, h2⟩
  · have h' : (d1 : Int) < 9223372036854775808 := by omega
    go_enter Try.func22, Try.ntmps22
    go_wp2
    refine bodyPost_ret (v := .tuple #[.int .u64 0, .int .u64 0, .int .u64 0, .bool false]) (by simp [results, Try.results22, go_sem]) rfl ⟨rfl, rfl⟩
  · have h' : decide ((d1 : Int) < 9223372036854775808) = false := by simp; omega
    have C := hide (fun w => below_no a2 a1 d1 d0 w h2)
    clear h h2
    go_enter Try.func22, Try.ntmps22
    go_wp2_with fail
    refine (unhide C _).mono ?_
    rintro e w1 ⟨rfl, rfl⟩
    go_wp2
    refine bodyPost_ret (v := .tuple #[.int .u64 0, .int .u64 0, .int .u64 0, .bool false]) (by simp [results, Try.results22, go_sem]) rfl ⟨rfl, rfl⟩

theorem mul_words'' {x y : Nat} (hx : x < 18446744073709551616) (hy : y < 18446744073709551616) : x * y < 340282366920938463463374607431768211456 := by
  have : x * y ≤ 18446744073709551615 * 18446744073709551615 := Nat.mul_le_mul (by omega) (by omega)
  omega
theorem wrap_sub {a p x : Nat} (hx : x = (a + 340282366920938463463374607431768211456 - p) % 18446744073709551616) (hp : p < 340282366920938463463374607431768211456) (ha : a < 18446744073709551616) : IntKind.u64.wrap ((a : Int) - IntKind.u64.wrap (p : Int)) = (x : Int) := by
  rw [IntKind.wrap_u64, IntKind.wrap_u64]; omega
theorem three_top {v a2 a1 d1 d0 D k : Nat} (hk : (v + 18446744073709551616) * D + k = 340282366920938463463374607431768211456 * 18446744073709551616) (hD : D = d1 * 18446744073709551616 + d0) (hlt : a2 < d1 ∨ (a2 = d1 ∧ a1 < d0)) (ha1 : a1 < 18446744073709551616) (hd0 : d0 < 18446744073709551616) :
    (v + 18446744073709551616) * a2 + a1 < 340282366920938463463374607431768211456 := by
  have h1 : a2 * 18446744073709551616 + a1 + 1 ≤ D := by omega
  have h2 := Nat.mul_le_mul_left (v + 18446744073709551616) h1
  rw [Nat.mul_add, Nat.mul_add, ← Nat.mul_assoc, Nat.mul_one] at h2
  have h3 : 18446744073709551616 * a1 ≤ (v + 18446744073709551616) * a1 := Nat.mul_le_mul_right a1 (Nat.le_add_left 18446744073709551616 v)
  generalize (v + 18446744073709551616) * a2 = A at *
  generalize (v + 18446744073709551616) * a1 = B at *
  generalize (v + 18446744073709551616) * D = C at *
  omega

theorem results_tmp4 {fn : Func} {t u v x : Tmp} (h : fn.results = #[.tmp t, .tmp u, .tmp v, .tmp x]) (tmps : Array Value) (P : Program) (w : World) :
    (results fn tmps).run P w = .ok (.tuple #[tmps.getD t undef, tmps.getD u undef, tmps.getD v undef, tmps.getD x undef]) w := by
  simp [results, h]

theorem pair_of (X : Nat) : X / 18446744073709551616 * 18446744073709551616 + X % 18446744073709551616 = X := by omega
theorem pair_lt {X : Nat} (h : X < 340282366920938463463374607431768211456) : X / 18446744073709551616 < 18446744073709551616 := by omega
theorem pair_below {X d1 d0 D : Nat} (hD : D = d1 * 18446744073709551616 + d0) (hd0 : d0 < 18446744073709551616) (h : X < D) : X / 18446744073709551616 < d1 ∨ (X / 18446744073709551616 = d1 ∧ X % 18446744073709551616 < d0) := by omega
theorem pair_above {X d1 d0 D : Nat} (hD : D = d1 * 18446744073709551616 + d0) (h : D ≤ X) : d1 < X / 18446744073709551616 ∨ (X / 18446744073709551616 = d1 ∧ d0 ≤ X % 18446744073709551616) := by omega

set_option maxRecDepth 100000 in
set_option maxHeartbeats 3200000 in
theorem word_div3 (a2 a1 a0 d1 d0 v D N Q R : Nat) (w : World) (h63 : 9223372036854775808 ≤ d1) (hd1 : d1 < 18446744073709551616) (hd0 : d0 < 18446744073709551616) (hD : D = d1 * 18446744073709551616 + d0) (hlt : a2 < d1 ∨ (a2 = d1 ∧ a1 < d0)) (ha1 : a1 < 18446744073709551616) (ha0 : a0 < 18446744073709551616) (hv : v = inv2 D)
    (hN : N = a2 * 340282366920938463463374607431768211456 + a1 * 18446744073709551616 + a0) (hQ : Q = N / D) (hR : R = N % D) :
    Calls Try.prog 22 #[.int .u64 (a2 : Int), .int .u64 (a1 : Int), .int .u64 (a0 : Int), .int .u64 (d1 : Int), .int .u64 (d0 : Int), .int .u64 (v : Int)] w fun e w' => e = .returned (.tuple #[.int .u64 (Q : Int), .int .u64 ((R / 18446744073709551616 : Nat) : Int), .int .u64 ((R % 18446744073709551616 : Nat) : Int), .bool true]) ∧ w' = w := by
  have hDlo : 170141183460469231731687303715884105728 ≤ D := by omega
  have hDhi : D < 340282366920938463463374607431768211456 := by omega
  obtain ⟨hv64, _, k, hk, hkD, hk1⟩ := inv2_facts D hDlo hDhi
  rw [← hv] at hv64 hk
  have CB := hide (fun w => below_yes a2 a1 d1 d0 w hlt)
  have ha2 : a2 < 18446744073709551616 := by omega
  -- the guess
  have cM := fun w => mul64_any v a2 w hv64 ha2
  have hP := Nat.div_add_mod (v * a2) 18446744073709551616
  have hl2 : v * a2 % 18446744073709551616 < 18446744073709551616 := Nat.mod_lt _ (by omega)
  have hVU : (v + 18446744073709551616) * a2 = v * a2 + 18446744073709551616 * a2 := Nat.add_mul _ _ _
  have hTop : (v + 18446744073709551616) * a2 + a1 < 340282366920938463463374607431768211456 := three_top hk hD hlt ha1 hd0
  generalize v * a2 / 18446744073709551616 = t at *
  generalize v * a2 % 18446744073709551616 = l at *
  generalize v * a2 = P at *
  have CM := hide cM
  clear cM
  have a1r := fun w => add64_run0 l a1 w
  obtain ⟨L, hL⟩ : ∃ L, L = (l + a1 + 0) % 18446744073709551616 := ⟨_, rfl⟩
  obtain ⟨c, hc⟩ : ∃ c, c = (l + a1 + 0) / 18446744073709551616 := ⟨_, rfl⟩
  rw [← hL, ← hc] at a1r
  have a1r' : ∀ w, (callFunc 32 #[.int .u64 (l : Int), .int .u64 (a1 : Int), .int .u64 0]).run Try.prog w = _ := a1r
  clear a1r
  have hLb : L < 18446744073709551616 := by rw [hL]; exact Nat.mod_lt _ (by omega)
  have a2r := fun w => add64_run t a2 c (by omega) w
  obtain ⟨T, hT⟩ : ∃ T, T = (t + a2 + c) % 18446744073709551616 := ⟨_, rfl⟩
  obtain ⟨c2, hc2⟩ : ∃ c2, c2 = (t + a2 + c) / 18446744073709551616 := ⟨_, rfl⟩
  rw [← hT, ← hc2] at a2r
  have hTb : T < 18446744073709551616 := by rw [hT]; exact Nat.mod_lt _ (by omega)
  have hTL : T * 18446744073709551616 + L = (v + 18446744073709551616) * a2 + a1 := by omega
  clear hT hc2 hL hc hP hVU hTop hl2
  -- the guess's remainder
  have cT := fun w => mul64_any T d0 w hTb hd0
  obtain ⟨p1, hp1⟩ : ∃ p1, p1 = T * d1 := ⟨_, rfl⟩
  obtain ⟨p0, hp0⟩ : ∃ p0, p0 = T * d0 := ⟨_, rfl⟩
  have hp1b : p1 < 340282366920938463463374607431768211456 := by rw [hp1]; exact mul_words'' hTb hd1
  have hp0b : p0 < 340282366920938463463374607431768211456 := by rw [hp0]; exact mul_words'' hTb hd0
  rw [← hp0] at cT
  have CT := hide cT
  obtain ⟨x1, hx1⟩ : ∃ x1, x1 = (a1 + 340282366920938463463374607431768211456 - p1) % 18446744073709551616 := ⟨_, rfl⟩
  obtain ⟨y, hy⟩ : ∃ y, y = (x1 * 18446744073709551616 + a0 + 340282366920938463463374607431768211456 - p0) % 340282366920938463463374607431768211456 := ⟨_, rfl⟩
  obtain ⟨cc, hcc⟩ : ∃ cc, cc = (y + 340282366920938463463374607431768211456 - D) % 340282366920938463463374607431768211456 := ⟨_, rfl⟩
  have hx1b : x1 < 18446744073709551616 := by rw [hx1]; exact Nat.mod_lt _ (by omega)
  have hyb : y < 340282366920938463463374607431768211456 := by rw [hy]; exact Nat.mod_lt _ (by omega)
  have hccb : cc < 340282366920938463463374607431768211456 := by rw [hcc]; exact Nat.mod_lt _ (by omega)
  have ep1 : (T : Int) * (d1 : Int) = (p1 : Int) := by rw [hp1, Int.natCast_mul]
  have ex1 : IntKind.u64.wrap ((a1 : Int) - IntKind.u64.wrap (p1 : Int)) = (x1 : Int) := wrap_sub hx1 hp1b ha1
  have CY := hide (fun w => minus_any x1 a0 (p0 / 18446744073709551616) (p0 % 18446744073709551616) (y / 18446744073709551616) (y % 18446744073709551616) w hx1b ha0 (pair_lt hp0b) (Nat.mod_lt _ (by omega)) (pair_lt hyb) (Nat.mod_lt _ (by omega)) (by rw [pair_of, pair_of]; exact hy))
  have CC := hide (fun w => minus_any (y / 18446744073709551616) (y % 18446744073709551616) d1 d0 (cc / 18446744073709551616) (cc % 18446744073709551616) w (pair_lt hyb) (Nat.mod_lt _ (by omega)) hd1 hd0 (pair_lt hccb) (Nat.mod_lt _ (by omega)) (by rw [pair_of, pair_of, ← hD]; exact hcc))
  obtain ⟨qc, hqc, eqc, hcase⟩ := three_steps a2 a1 a0 d1 d0 D (340282366920938463463374607431768211456 - D) k (v + 18446744073709551616) T L h63 hd1 hd0 hD (by omega) ha1 ha0 hlt (by omega) hk hkD hTL hLb hTb p1 p0 x1 y cc N hp1 hp0 hp0b hp1b hx1 hy hcc hN
  clear hx1 hy hcc hp1 hp0 cT hTL hk hk1 hkD hN hlt hv
  have h4 : decide ((d1 : Int) < 9223372036854775808) = false := by simp; omega
  have c1lt := pair_lt hccb
  have c0lt : cc % 18446744073709551616 < 18446744073709551616 := Nat.mod_lt _ (by omega)
  have DD := hide hD
  clear h63
  rcases hcase with ⟨k1, k2, R1, k3, k4, k5⟩ | ⟨k1, k2, k3, k4, k5⟩ | ⟨k1, Q1, R1, k3, k4, k5, k6⟩ | ⟨k1, k2, k3⟩
  · obtain ⟨f1, f2⟩ := quot_of k5 k4
    rw [← hQ] at f1
    rw [← hR] at f2
    subst f1 f2
    have hRb : R1 < 340282366920938463463374607431768211456 := by omega
    have CP := hide (fun w => plus_any (cc / 18446744073709551616) (cc % 18446744073709551616) d1 d0 (R1 / 18446744073709551616) (R1 % 18446744073709551616) w c1lt c0lt hd1 hd0 (pair_lt hRb) (Nat.mod_lt _ (by omega)) (by rw [pair_of, pair_of, ← unhide DD]; exact k3))
    have CL := hide (fun w => below_yes (R1 / 18446744073709551616) (R1 % 18446744073709551616) d1 d0 w (pair_below (unhide DD) hd0 k4))
    have k1' : decide ((L : Int) ≤ ((cc / 18446744073709551616 : Nat) : Int)) = true := by simp; omega
    have k1'' : decide (L ≤ cc / 18446744073709551616) = true := by simp; omega
    clear hQ hR k5 k3 k4 hD hRb
    generalize R1 / 18446744073709551616 = r1 at *
    generalize R1 % 18446744073709551616 = r0 at *
    generalize cc / 18446744073709551616 = c1 at *
    generalize cc % 18446744073709551616 = c0 at *
    generalize y / 18446744073709551616 = y1 at *
    generalize y % 18446744073709551616 = y0 at *
    generalize p0 / 18446744073709551616 = t1 at *
    generalize p0 % 18446744073709551616 = t0 at *
    have k1s : (L : Int) ≤ (c1 : Int) := by omega
    go_enter Try.func22, Try.ntmps22
    go_wp2_with fail
    refine (unhide CB _).mono ?_
    rintro e w1 ⟨rfl, rfl⟩
    go_wp2_with fail
    refine (unhide CM _).mono ?_
    rintro e w2 ⟨rfl, rfl⟩
    go_wp2_with fail
    refine (unhide CT _).mono ?_
    rintro e w3 ⟨rfl, rfl⟩
    go_wp2_with fail
    refine (unhide CY _).mono ?_
    rintro e w4 ⟨rfl, rfl⟩
    go_wp2_with fail
    refine (unhide CC _).mono ?_
    rintro e w5 ⟨rfl, rfl⟩
    go_wp2_with fail
    refine (unhide CP _).mono ?_
    rintro e w6 ⟨rfl, rfl⟩
    go_wp2_with fail
    refine (unhide CL _).mono ?_
    rintro e w7 ⟨rfl, rfl⟩
    go_wp2
    refine bodyPost_ret (results_tmp4 rfl _ _ _) rfl ?_
    exact ⟨ret_four rfl rfl rfl rfl, rfl⟩
  · obtain ⟨f1, f2⟩ := quot_of k5 k4
    rw [← hQ] at f1
    rw [← hR] at f2
    subst f1 f2
    obtain ⟨P2, hP2⟩ : ∃ P2, P2 = cc + D := ⟨_, rfl⟩
    have hPb : P2 < 340282366920938463463374607431768211456 := by omega
    have CP := hide (fun w => plus_any (cc / 18446744073709551616) (cc % 18446744073709551616) d1 d0 (P2 / 18446744073709551616) (P2 % 18446744073709551616) w c1lt c0lt hd1 hd0 (pair_lt hPb) (Nat.mod_lt _ (by omega)) (by rw [pair_of, pair_of, ← unhide DD, Nat.mod_eq_of_lt k3]; exact hP2))
    have CL := hide (fun w => below_no (P2 / 18446744073709551616) (P2 % 18446744073709551616) d1 d0 w (pair_above (unhide DD) (by omega)))
    have CX := hide (fun w => minus_any (P2 / 18446744073709551616) (P2 % 18446744073709551616) d1 d0 (cc / 18446744073709551616) (cc % 18446744073709551616) w (pair_lt hPb) (Nat.mod_lt _ (by omega)) hd1 hd0 c1lt c0lt (by rw [pair_of, pair_of, ← unhide DD]; omega))
    have k1s : (L : Int) ≤ ((cc / 18446744073709551616 : Nat) : Int) := by omega
    clear hQ hR k5 k3 k4 hD hPb hP2
    generalize P2 / 18446744073709551616 = r1 at *
    generalize P2 % 18446744073709551616 = r0 at *
    generalize cc / 18446744073709551616 = c1 at *
    generalize cc % 18446744073709551616 = c0 at *
    generalize y / 18446744073709551616 = y1 at *
    generalize y % 18446744073709551616 = y0 at *
    generalize p0 / 18446744073709551616 = t1 at *
    generalize p0 % 18446744073709551616 = t0 at *
    go_enter Try.func22, Try.ntmps22
    go_wp2_with fail
    refine (unhide CB _).mono ?_
    rintro e w1 ⟨rfl, rfl⟩
    go_wp2_with fail
    refine (unhide CM _).mono ?_
    rintro e w2 ⟨rfl, rfl⟩
    go_wp2_with fail
    refine (unhide CT _).mono ?_
    rintro e w3 ⟨rfl, rfl⟩
    go_wp2_with fail
    refine (unhide CY _).mono ?_
    rintro e w4 ⟨rfl, rfl⟩
    go_wp2_with fail
    refine (unhide CC _).mono ?_
    rintro e w5 ⟨rfl, rfl⟩
    go_wp2_with fail
    refine (unhide CP _).mono ?_
    rintro e w6 ⟨rfl, rfl⟩
    go_wp2_with fail
    refine (unhide CL _).mono ?_
    rintro e w7 ⟨rfl, rfl⟩
    go_wp2_with fail
    refine (unhide CX _).mono ?_
    rintro e w8 ⟨rfl, rfl⟩
    go_wp2
    refine bodyPost_ret (results_tmp4 rfl _ _ _) rfl ?_
    exact ⟨ret_four rfl rfl rfl rfl, rfl⟩
  · obtain ⟨f1, f2⟩ := quot_of k6 k5
    rw [← hQ] at f1
    rw [← hR] at f2
    subst f1 f2
    have hRb : R1 < 340282366920938463463374607431768211456 := by omega
    have CL := hide (fun w => below_no (cc / 18446744073709551616) (cc % 18446744073709551616) d1 d0 w (pair_above (unhide DD) (by omega)))
    have CX := hide (fun w => minus_any (cc / 18446744073709551616) (cc % 18446744073709551616) d1 d0 (R1 / 18446744073709551616) (R1 % 18446744073709551616) w c1lt c0lt hd1 hd0 (pair_lt hRb) (Nat.mod_lt _ (by omega)) (by rw [pair_of, pair_of, ← unhide DD]; omega))
    have k1d : decide (L ≤ cc / 18446744073709551616) = false := by simp; omega
    have k1e : decide ((L : Int) ≤ ((cc / 18446744073709551616 : Nat) : Int)) = false := by simp; omega
    clear hQ hR k6 k4 k5 hD hRb k1
    generalize R1 / 18446744073709551616 = r1 at *
    generalize R1 % 18446744073709551616 = r0 at *
    generalize cc / 18446744073709551616 = c1 at *
    generalize cc % 18446744073709551616 = c0 at *
    generalize y / 18446744073709551616 = y1 at *
    generalize y % 18446744073709551616 = y0 at *
    generalize p0 / 18446744073709551616 = t1 at *
    generalize p0 % 18446744073709551616 = t0 at *
    go_enter Try.func22, Try.ntmps22
    go_wp2_with fail
    refine (unhide CB _).mono ?_
    rintro e w1 ⟨rfl, rfl⟩
    go_wp2_with fail
    refine (unhide CM _).mono ?_
    rintro e w2 ⟨rfl, rfl⟩
    go_wp2_with fail
    refine (unhide CT _).mono ?_
    rintro e w3 ⟨rfl, rfl⟩
    go_wp2_with fail
    refine (unhide CY _).mono ?_
    rintro e w4 ⟨rfl, rfl⟩
    go_wp2_with fail
    refine (unhide CC _).mono ?_
    rintro e w5 ⟨rfl, rfl⟩
    go_wp2_with fail
    refine (unhide CL _).mono ?_
    rintro e w7 ⟨rfl, rfl⟩
    go_wp2_with fail
    refine (unhide CX _).mono ?_
    rintro e w8 ⟨rfl, rfl⟩
    go_wp2
    refine bodyPost_ret (results_tmp4 rfl _ _ _) rfl ?_
    exact ⟨ret_four rfl rfl rfl rfl, rfl⟩
  · obtain ⟨f1, f2⟩ := quot_of k3 k2
    rw [← hQ] at f1
    rw [← hR] at f2
    subst f1 f2
    have CL := hide (fun w => below_yes (cc / 18446744073709551616) (cc % 18446744073709551616) d1 d0 w (pair_below (unhide DD) hd0 k2))
    have k1d : decide (L ≤ cc / 18446744073709551616) = false := by simp; omega
    have k1e : decide ((L : Int) ≤ ((cc / 18446744073709551616 : Nat) : Int)) = false := by simp; omega
    clear hQ hR k3 k2 hD k1
    generalize cc / 18446744073709551616 = c1 at *
    generalize cc % 18446744073709551616 = c0 at *
    generalize y / 18446744073709551616 = y1 at *
    generalize y % 18446744073709551616 = y0 at *
    generalize p0 / 18446744073709551616 = t1 at *
    generalize p0 % 18446744073709551616 = t0 at *
    go_enter Try.func22, Try.ntmps22
    go_wp2_with fail
    refine (unhide CB _).mono ?_
    rintro e w1 ⟨rfl, rfl⟩
    go_wp2_with fail
    refine (unhide CM _).mono ?_
    rintro e w2 ⟨rfl, rfl⟩
    go_wp2_with fail
    refine (unhide CT _).mono ?_
    rintro e w3 ⟨rfl, rfl⟩
    go_wp2_with fail
    refine (unhide CY _).mono ?_
    rintro e w4 ⟨rfl, rfl⟩
    go_wp2_with fail
    refine (unhide CC _).mono ?_
    rintro e w5 ⟨rfl, rfl⟩
    go_wp2_with fail
    refine (unhide CL _).mono ?_
    rintro e w7 ⟨rfl, rfl⟩
    go_wp2
    refine bodyPost_ret (results_tmp4 rfl _ _ _) rfl ?_
    exact ⟨ret_four rfl rfl rfl rfl, rfl⟩

end Go.Proofs.Ytahmnjpnokhbpab

