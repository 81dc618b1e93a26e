/- DivBy: two words over one whose inverse is at hand; WordInverses: what the law's walk comes to. -/
import Derived.Test.YtahmnjpnokhbpabByPlain
import Derived.Test.YtahmnjpnokhbpabLawDivs
namespace Go.Proofs.Ytahmnjpnokhbpab
open Go.RowKit

theorem mul_words' {x y : Nat} (hx : x < 18446744073709551616) (hy : y < 18446744073709551616) : x * y < 18446744073709551616 * 18446744073709551616 := by
  have : x * y ≤ 18446744073709551615 * 18446744073709551615 := Nat.mul_le_mul (by omega) (by omega)
  omega

set_option maxHeartbeats 800000 in
theorem word_divby_no (hi lo d v : Nat) (w : World) (h : d < 9223372036854775808 ∨ (9223372036854775808 ≤ d ∧ d ≤ hi)) :
    Calls Try.prog 19 #[.int .u64 (hi : Int), .int .u64 (lo : Int), .int .u64 (d : Int), .int .u64 (v : Int)] w fun e w' => e = .returned (.tuple #[.int .u64 0, .int .u64 0, .bool false]) ∧ w' = w := by
  rcases h with h | ⟨h, h2⟩
  · have h' : (d : Int) < 9223372036854775808 := by omega
    go_enter Try.func19, Try.ntmps19
    go_wp2
    go_ret3
    exact ⟨ret_three rfl rfl rfl, rfl⟩
  · have h' : ¬ (d : Int) < 9223372036854775808 := by omega
    have h'' : (d : Int) ≤ (hi : Int) := by omega
    go_enter Try.func19, Try.ntmps19
    go_wp2
    go_ret3
    exact ⟨ret_three rfl rfl rfl, rfl⟩

set_option maxRecDepth 100000 in
set_option maxHeartbeats 1600000 in
theorem word_divby (hi lo d v Q R : Nat) (w : World) (h1 : 9223372036854775808 ≤ d) (h2 : d < 18446744073709551616) (h3 : hi < d) (hl : lo < 18446744073709551616) (hv : v = inv1 d) (hQ : Q = (18446744073709551616 * hi + lo) / d) (hR : R = (18446744073709551616 * hi + lo) % d) :
    Calls Try.prog 19 #[.int .u64 (hi : Int), .int .u64 (lo : Int), .int .u64 (d : Int), .int .u64 (v : Int)] w fun e w' => e = .returned (.tuple #[.int .u64 (Q : Int), .int .u64 (R : Int), .bool true]) ∧ w' = w := by
  have hv64 : v < 18446744073709551616 := by rw [hv]; exact inv1_lt d h1 h2
  have cM := fun w => mul64_any v hi w hv64 (by omega)
  have hP := Nat.div_add_mod (v * hi) 18446744073709551616
  have hPb := mul_words' hv64 (show hi < 18446744073709551616 by omega)
  have hl2 : v * hi % 18446744073709551616 < 18446744073709551616 := Nat.mod_lt _ (by omega)
  have hVU : (v + 18446744073709551616) * hi = v * hi + 18446744073709551616 * hi := Nat.add_mul _ _ _
  have hTop : (v + 18446744073709551616) * hi + lo < 340282366920938463463374607431768211456 := by
    have e := inv1_eq d h1 h2
    have e2 : (18446744073709551616 + inv1 d) * d ≤ 18446744073709551616 * 18446744073709551615 + 18446744073709551615 := by rw [← e]; exact Nat.div_mul_le_self _ _
    have e3 : (v + 18446744073709551616) * (hi + 1) ≤ (18446744073709551616 + inv1 d) * d := by rw [← hv, Nat.add_comm v]; exact Nat.mul_le_mul_left _ h3
    rw [Nat.mul_add] at e3
    omega
  generalize v * hi / 18446744073709551616 = t at *
  generalize v * hi % 18446744073709551616 = l at *
  generalize v * hi = P at *
  have a1 := fun w => add64_run0 l lo w
  obtain ⟨L, hL⟩ : ∃ L, L = (l + lo + 0) % 18446744073709551616 := ⟨_, rfl⟩
  obtain ⟨c, hc⟩ : ∃ c, c = (l + lo + 0) / 18446744073709551616 := ⟨_, rfl⟩
  rw [← hL, ← hc] at a1
  have a2 := fun w => add64_run t hi c (by omega) w
  obtain ⟨T, hT⟩ : ∃ T, T = (t + hi + c) % 18446744073709551616 := ⟨_, rfl⟩
  obtain ⟨c2, hc2⟩ : ∃ c2, c2 = (t + hi + c) / 18446744073709551616 := ⟨_, rfl⟩
  rw [← hT, ← hc2] at a2
  obtain ⟨qc, rc, hqc, hrc, e1, e2, hcase⟩ := by_steps hi lo d v T L h1 h2 h3 hl hv (by omega) (by omega) (by omega)
  have a1' : ∀ w, (callFunc 32 #[.int .u64 (l : Int), .int .u64 (lo : Int), .int .u64 0]).run Try.prog w = _ := a1
  have ep : (qc : Int) * (d : Int) = ((qc * d : Nat) : Int) := (Int.natCast_mul _ _).symm
  have CM := hide cM
  have h4 : ¬ (d : Int) < 9223372036854775808 := by omega
  have h5 : ¬ (d : Int) ≤ (hi : Int) := by omega
  have hL64 : L < 18446744073709551616 := by omega
  have hT64 : T < 18446744073709551616 := by omega
  clear cM a1 hP hPb hVU hTop hL hc hT hc2 hv hl2
  rcases hcase with ⟨k1, k2, R1, k3, k4, k5⟩ | ⟨k1, k2, k3, k4, k5⟩ | ⟨k1, k2, Q1, R1, k3, k4, k5, k6⟩ | ⟨k1, k2, k3⟩
  · obtain ⟨f1, f2⟩ := quot_of k5 k4
    rw [← hQ] at f1
    rw [← hR] at f2
    subst f1 f2
    clear hQ hR k5
    generalize qc * d = p at *
    have k1' : (L : Int) < (rc : Int) := by omega
    have k4' : ¬ (d : Int) ≤ (R1 : Int) := by omega
    go_enter Try.func19, Try.ntmps19
    go_wp2_with fail
    refine (unhide CM _).mono ?_
    rintro e w1 ⟨rfl, rfl⟩
    go_wp2
    go_ret3
    exact ⟨ret_three rfl rfl rfl, rfl⟩
  · obtain ⟨f1, f2⟩ := quot_of k5 k4
    rw [← hQ] at f1
    rw [← hR] at f2
    subst f1 f2
    clear hQ hR k5
    generalize qc * d = p at *
    have k1' : (L : Int) < (rc : Int) := by omega
    go_enter Try.func19, Try.ntmps19
    go_wp2_with fail
    refine (unhide CM _).mono ?_
    rintro e w1 ⟨rfl, rfl⟩
    go_wp2
    go_ret3
    exact ⟨ret_three rfl (by omega) rfl, rfl⟩
  · obtain ⟨f1, f2⟩ := quot_of k6 k5
    rw [← hQ] at f1
    rw [← hR] at f2
    subst f1 f2
    clear hQ hR k6
    generalize qc * d = p at *
    have k1' : ¬ (L : Int) < (rc : Int) := by omega
    have k2' : (d : Int) ≤ (rc : Int) := by omega
    have K4 := hide k4
    clear k4
    go_enter Try.func19, Try.ntmps19
    go_wp2_with fail
    refine (unhide CM _).mono ?_
    rintro e w1 ⟨rfl, rfl⟩
    go_wp2
    go_ret3
    exact ⟨ret_three rfl (by have := unhide K4; omega) rfl, rfl⟩
  · obtain ⟨f1, f2⟩ := quot_of k3 k2
    rw [← hQ] at f1
    rw [← hR] at f2
    subst f1 f2
    clear hQ hR k3
    generalize qc * d = p at *
    have k1' : ¬ (L : Int) < (rc : Int) := by omega
    have k2' : ¬ (d : Int) ≤ (rc : Int) := by omega
    go_enter Try.func19, Try.ntmps19
    go_wp2_with fail
    refine (unhide CM _).mono ?_
    rintro e w1 ⟨rfl, rfl⟩
    go_wp2
    go_ret3
    exact ⟨ret_three rfl rfl rfl, rfl⟩

end Go.Proofs.Ytahmnjpnokhbpab
