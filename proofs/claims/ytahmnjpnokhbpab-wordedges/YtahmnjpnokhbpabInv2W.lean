/- Inverse2 and its two lowerings, walked over this program. -/
import Derived.Test.YtahmnjpnokhbpabInv2
namespace Go.Proofs.Ytahmnjpnokhbpab
open Go.RowKit

set_option maxRecDepth 100000 in
set_option maxHeartbeats 1600000 in
theorem lower_word (v d1 d0 : Nat) (h63 : 9223372036854775808 ≤ d1) (hd1 : d1 < 18446744073709551616) (hd0 : d0 < 18446744073709551616) (hv : v = inv1 d1) :
    ∃ v1 g rest : Nat, v1 ≤ v ∧ 1 ≤ g ∧ g ≤ d1 ∧ rest + g = 18446744073709551616 ∧ (18446744073709551616 + v1) * d1 + d0 + g = 340282366920938463463374607431768211456 ∧
      ∀ w, Calls Try.prog 36 #[.int .u64 (v : Int), .int .u64 (d1 : Int), .int .u64 (d0 : Int)] w fun e w' => e = .returned (.tuple #[.int .u64 (v1 : Int), .int .u64 (rest : Int)]) ∧ w' = w := by
  obtain ⟨k, s, hk, hk64, hs, hcase⟩ := low_word v d1 d0 h63 hd1 hd0 hv
  have hv64 : v < 18446744073709551616 := by rw [hv]; exact inv1_lt d1 h63 hd1
  have hs64 : s < 18446744073709551616 := by rw [hs]; exact Nat.mod_lt _ (by omega)
  have ar : ∀ w, (callFunc 32 #[.int .u64 (k : Int), .int .u64 (d0 : Int), .int .u64 0]).run Try.prog w = .ok (.value (.tuple #[.int .u64 (((k + d0) % 18446744073709551616 : Nat) : Int), .int .u64 (((k + d0) / 18446744073709551616 : Nat) : Int)])) w := fun w => add64_run0 k d0 w
  rw [← hs] at ar
  clear hv hs h63
  rcases hcase with ⟨hc, g, g1, g2, g3, g4⟩ | ⟨hc, hlt, hv1, g, g1, g2, g3, g4⟩ | ⟨hc, hge, hv2, g, g1, g2, g3, g4⟩
  · rw [hc] at ar
    refine ⟨v, g, s, Nat.le_refl _, g1, g2, g3, g4, fun w => ?_⟩
    have ar' : ∀ w, (callFunc 32 #[.int .u64 (k : Int), .int .u64 (d0 : Int), .int .u64 0]).run Try.prog w = .ok (.value (.tuple #[.int .u64 (s : Int), .int .u64 0])) w := ar
    clear ar hc g4 g3
    go_enter Try.func36, Try.ntmps36
    go_wp2
    go_ret2
    exact ⟨ret_two rfl rfl, rfl⟩
  · rw [hc] at ar
    refine ⟨v - 1, g, 18446744073709551616 - g, by omega, g1, g2, by omega, g4, fun w => ?_⟩
    have ar' : ∀ w, (callFunc 32 #[.int .u64 (k : Int), .int .u64 (d0 : Int), .int .u64 0]).run Try.prog w = .ok (.value (.tuple #[.int .u64 (s : Int), .int .u64 1])) w := ar
    have er : IntKind.u64.wrap ((s : Int) - (d1 : Int)) = ((18446744073709551616 - g : Nat) : Int) := by rw [IntKind.wrap_u64]; omega
    have ev : (v : Int) - 1 = ((v - 1 : Nat) : Int) := by omega
    have t1 : decide ((d1 : Int) ≤ (s : Int)) = false := by simp; omega
    have t2 : decide (d1 ≤ s) = false := by simp; omega
    have hvb : v - 1 < 18446744073709551616 := by omega
    clear ar hc g4 g3 hlt
    generalize 18446744073709551616 - g = rest at *
    generalize v - 1 = v1 at *
    go_enter Try.func36, Try.ntmps36
    go_wp2
    go_ret2
    exact ⟨ret_two rfl rfl, rfl⟩
  · rw [hc] at ar
    refine ⟨v - 2, g, 18446744073709551616 - g, by omega, g1, g2, by omega, g4, fun w => ?_⟩
    have ar' : ∀ w, (callFunc 32 #[.int .u64 (k : Int), .int .u64 (d0 : Int), .int .u64 0]).run Try.prog w = .ok (.value (.tuple #[.int .u64 (s : Int), .int .u64 1])) w := ar
    have es : (s : Int) - (d1 : Int) = ((s - d1 : Nat) : Int) := by omega
    have er : IntKind.u64.wrap (((s - d1 : Nat) : Int) - (d1 : Int)) = ((18446744073709551616 - g : Nat) : Int) := by rw [IntKind.wrap_u64]; omega
    have ev : (v : Int) - 1 = ((v - 1 : Nat) : Int) := by omega
    have ev2 : ((v - 1 : Nat) : Int) - 1 = ((v - 2 : Nat) : Int) := by omega
    have t1 : decide ((d1 : Int) ≤ (s : Int)) = true := by simp; omega
    have t2 : decide (d1 ≤ s) = true := by simp; omega
    have t3 : (d1 : Int) ≤ (s : Int) := by omega
    have hvb : v - 1 < 18446744073709551616 := by omega
    have hvc : v - 2 < 18446744073709551616 := by omega
    have hsb : s - d1 < 18446744073709551616 := by omega
    have hvd : 1 ≤ v - 1 := by omega
    clear ar hc g4 g3 hge
    generalize 18446744073709551616 - g = rest at *
    generalize v - 1 = v1 at *
    generalize v - 2 = v2 at *
    generalize s - d1 = sd at *
    go_enter Try.func36, Try.ntmps36
    go_wp2
    go_ret2
    exact ⟨ret_two rfl rfl, rfl⟩

set_option maxRecDepth 100000 in
set_option maxHeartbeats 1600000 in
theorem lower_product (v d1 d0 D g rest I : Nat) (h63 : 9223372036854775808 ≤ d1) (hd1 : d1 < 18446744073709551616) (hd0 : d0 < 18446744073709551616) (hD : D = d1 * 18446744073709551616 + d0) (hv : v < 18446744073709551616) (hg1 : 1 ≤ g) (hg : g ≤ d1) (hr : rest + g = 18446744073709551616) (he : (18446744073709551616 + v) * d1 + d0 + g = 340282366920938463463374607431768211456) (hI : I = inv2 D) (w : World) :
    Calls Try.prog 37 #[.int .u64 (v : Int), .int .u64 (rest : Int), .int .u64 (d1 : Int), .int .u64 (d0 : Int)] w fun e w' => e = .returned (.int .u64 (I : Int)) ∧ w' = w := by
  obtain ⟨t, ht⟩ : ∃ t, t = v * d0 := ⟨_, rfl⟩
  have htb : t < 340282366920938463463374607431768211456 := by rw [ht]; exact mul_words'' hv hd0
  have hcase := low_product v d1 d0 D g t h63 hd1 hd0 hD hg1 hg he ht htb
  rw [← hI] at hcase
  have cM := fun w => mul64_any v d0 w hv hd0
  rw [← ht] at cM
  have CM := hide cM
  have ht1 := pair_lt htb
  have ht0 : t % 18446744073709551616 < 18446744073709551616 := Nat.mod_lt _ (by omega)
  have hpt : t / 18446744073709551616 * 18446744073709551616 + t % 18446744073709551616 = t := pair_of t
  have ar : ∀ w, (callFunc 32 #[.int .u64 (rest : Int), .int .u64 ((t / 18446744073709551616 : Nat) : Int), .int .u64 0]).run Try.prog w = .ok (.value (.tuple #[.int .u64 (((rest + t / 18446744073709551616) % 18446744073709551616 : Nat) : Int), .int .u64 (((rest + t / 18446744073709551616) / 18446744073709551616 : Nat) : Int)])) w := fun w => add64_run0 rest _ w
  clear cM ht he hI h63
  generalize t / 18446744073709551616 = t1 at *
  generalize t % 18446744073709551616 = t0 at *
  rcases hcase with ⟨hlt, hI⟩ | ⟨hge, hv1, hB, hI⟩ | ⟨hge, hv2, hB, hI⟩
  · have hc : (rest + t1) / 18446744073709551616 = 0 := by omega
    rw [hc] at ar
    generalize (rest + t1) % 18446744073709551616 = r2 at *
    have ar' : ∀ w, (callFunc 32 #[.int .u64 (rest : Int), .int .u64 (t1 : Int), .int .u64 0]).run Try.prog w = .ok (.value (.tuple #[.int .u64 (r2 : Int), .int .u64 0])) w := ar
    subst hI
    clear ar hc hD hpt hlt
    go_enter Try.func37, Try.ntmps37
    go_wp2_with fail
    refine (unhide CM _).mono ?_
    rintro e w1 ⟨rfl, rfl⟩
    go_wp2
    go_ret
    exact ⟨ret_int rfl, rfl⟩
  · have hc : (rest + t1) / 18446744073709551616 = 1 := by omega
    rw [hc] at ar
    obtain ⟨p, hp⟩ : ∃ p, p = (rest + t1) % 18446744073709551616 := ⟨_, rfl⟩
    rw [← hp] at ar
    have ar' : ∀ w, (callFunc 32 #[.int .u64 (rest : Int), .int .u64 (t1 : Int), .int .u64 0]).run Try.prog w = .ok (.value (.tuple #[.int .u64 (p : Int), .int .u64 1])) w := ar
    have hpe : p + g = t1 := by omega
    have CL := hide (fun w => below_yes p t0 d1 d0 w (by omega))
    have ev : (v : Int) - 1 = (I : Int) := by omega
    have hIb : I < 18446744073709551616 := by omega
    clear ar hc hD hpt hge hp hpe hB hI
    go_enter Try.func37, Try.ntmps37
    go_wp2_with fail
    refine (unhide CM _).mono ?_
    rintro e w1 ⟨rfl, rfl⟩
    go_wp2_with fail
    refine (unhide CL _).mono ?_
    rintro e w2 ⟨rfl, rfl⟩
    go_wp2
    go_ret
    exact ⟨ret_int rfl, rfl⟩
  · have hc : (rest + t1) / 18446744073709551616 = 1 := by omega
    rw [hc] at ar
    obtain ⟨p, hp⟩ : ∃ p, p = (rest + t1) % 18446744073709551616 := ⟨_, rfl⟩
    rw [← hp] at ar
    have ar' : ∀ w, (callFunc 32 #[.int .u64 (rest : Int), .int .u64 (t1 : Int), .int .u64 0]).run Try.prog w = .ok (.value (.tuple #[.int .u64 (p : Int), .int .u64 1])) w := ar
    have hpe : p + g = t1 := by omega
    have CL := hide (fun w => below_no p t0 d1 d0 w (by omega))
    obtain ⟨v1, hv1⟩ : ∃ v1, v1 = v - 1 := ⟨_, rfl⟩
    have ev : (v : Int) - 1 = (v1 : Int) := by omega
    have ev2 : (v1 : Int) - 1 = (I : Int) := by omega
    have hIb : I < 18446744073709551616 := by omega
    have hvb : v1 < 18446744073709551616 := by omega
    have hvd : 1 ≤ v1 := by omega
    clear ar hc hD hpt hge hp hpe hB hI hv1
    go_enter Try.func37, Try.ntmps37
    go_wp2_with fail
    refine (unhide CM _).mono ?_
    rintro e w1 ⟨rfl, rfl⟩
    go_wp2_with fail
    refine (unhide CL _).mono ?_
    rintro e w2 ⟨rfl, rfl⟩
    go_wp2
    go_ret
    exact ⟨ret_int rfl, rfl⟩

set_option maxHeartbeats 800000 in
theorem word_Inverse2_no (d1 d0 : Nat) (w : World) (h1 : d1 < 9223372036854775808) :
    Calls Try.prog 21 #[.int .u64 (d1 : Int), .int .u64 (d0 : Int)] w fun e w' => e = .returned (.tuple #[.int .u64 0, .bool false]) ∧ w' = w := by
  have h3 : (d1 : Int) < 9223372036854775808 := by omega
  go_enter Try.func21, Try.ntmps21
  go_wp2
  go_ret2
  exact ⟨ret_ib rfl rfl, rfl⟩

set_option maxRecDepth 100000 in
set_option maxHeartbeats 800000 in
theorem word_Inverse2 (d1 d0 D I : Nat) (w : World) (h63 : 9223372036854775808 ≤ d1) (hd1 : d1 < 18446744073709551616) (hd0 : d0 < 18446744073709551616) (hD : D = d1 * 18446744073709551616 + d0) (hI : I = inv2 D) :
    Calls Try.prog 21 #[.int .u64 (d1 : Int), .int .u64 (d0 : Int)] w fun e w' => e = .returned (.tuple #[.int .u64 (I : Int), .bool true]) ∧ Below w.heap.size w w' := by
  have h3 : decide ((d1 : Int) < 9223372036854775808) = false := by simp; omega
  have C0 := hide (fun w => word_inverse d1 w h63 hd1)
  have hv64 := inv1_lt d1 h63 hd1
  obtain ⟨v1, g, rest, k0, k1, k2, k3, k4, C1⟩ := lower_word (inv1 d1) d1 d0 h63 hd1 hd0 rfl
  generalize inv1 d1 = v at *
  have C1' := hide C1
  have C2 := hide (fun w => lower_product v1 d1 d0 D g rest I h63 hd1 hd0 hD (by omega) k1 k2 k3 k4 hI w)
  clear C1 k4 hD hI h63
  go_enter Try.func21, Try.ntmps21
  go_wp2_with fail
  refine (unhide C0 _).mono ?_
  rintro e w1 ⟨rfl, b1⟩
  go_wp2_with fail
  refine (unhide C1' _).mono ?_
  rintro e w2 ⟨rfl, rfl⟩
  go_wp2_with fail
  refine (unhide C2 _).mono ?_
  rintro e w3 ⟨rfl, rfl⟩
  go_wp2
  go_ret2
  exact ⟨ret_ib rfl rfl, b1⟩

end Go.Proofs.Ytahmnjpnokhbpab
