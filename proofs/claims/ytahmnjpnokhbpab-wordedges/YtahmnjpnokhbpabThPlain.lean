/- Plain mathematics of three words over two, with the divisor's inverse at hand. -/
import Derived.Test.YtahmnjpnokhbpabByPlain
namespace Go.Proofs.Ytahmnjpnokhbpab

/-- The key: what the parts of the dividend come to stays below the fourth power of the base. k is what the inverse leaves, m what the divisor lacks. -/
theorem three_key (u2 u1 u0 d1 d0 D m k : Nat) (hd1 : d1 < 18446744073709551616) (hd0 : d0 < 18446744073709551616) (hD : D = d1 * 18446744073709551616 + d0) (hm : m + D = 340282366920938463463374607431768211456) (hu1 : u1 < 18446744073709551616) (hu0 : u0 < 18446744073709551616)
    (hlt : u2 < d1 ∨ (u2 = d1 ∧ u1 < d0)) (hk : k ≤ D) (hk2 : k ≤ 18446744073709551616 * m) :
    18446744073709551616 * (u2 * k) + 18446744073709551616 * (u1 * m) + 340282366920938463463374607431768211456 * u0 + m * D < 340282366920938463463374607431768211456 * 340282366920938463463374607431768211456 := by
  have emD : m * D + D * D = 340282366920938463463374607431768211456 * D := by rw [← Nat.add_mul, hm]
  rcases hlt with h | ⟨h2, h⟩
  · have b1 : (u2 + 1) * k ≤ d1 * D := Nat.mul_le_mul h hk
    have b2 : d1 * 18446744073709551616 * D ≤ D * D := Nat.mul_le_mul_right _ (by omega)
    have b3 : u1 * m ≤ 18446744073709551615 * m := Nat.mul_le_mul_right _ (by omega)
    have b1' : u2 * k + u2 * 0 + k = (u2 + 1) * k := by rw [Nat.add_mul]; omega
    have b4 : u2 * k ≤ (d1 - 1) * D := Nat.mul_le_mul (by omega) hk
    have b4' : (d1 - 1) * D + D = d1 * D := by
      obtain ⟨f, rfl⟩ : ∃ f, d1 = f + 1 := ⟨d1 - 1, by omega⟩
      simp only [Nat.add_sub_cancel]; rw [Nat.add_mul]; omega
    have b2' : d1 * 18446744073709551616 * D = 18446744073709551616 * (d1 * D) := by rw [Nat.mul_comm d1, Nat.mul_assoc]
    rw [b2'] at b2
    clear b1 b1' b2' hD hd0 hd1 hk hk2
    generalize d1 * D = dD at *
    generalize u2 * k = uk at *
    generalize u1 * m = um at *
    generalize m * D = mD at *
    generalize D * D = DD at *
    generalize (d1 - 1) * D = ee at *
    omega
  · rw [h2]
    have e1 : 18446744073709551616 * (d1 * D) + d0 * D = D * D := by
      rw [← Nat.mul_assoc, Nat.mul_comm 18446744073709551616 d1, ← Nat.add_mul, ← hD]
    have e2 : d0 * m + d0 * D = d0 * 340282366920938463463374607431768211456 := by rw [← Nat.mul_add, hm]
    have b1 : d1 * k ≤ d1 * D := Nat.mul_le_mul_left _ hk
    have b2 : u1 * m ≤ (d0 - 1) * m := Nat.mul_le_mul_right _ (by omega)
    have b2' : (d0 - 1) * m + m = d0 * m := by
      obtain ⟨f, rfl⟩ : ∃ f, d0 = f + 1 := ⟨d0 - 1, by omega⟩
      simp only [Nat.add_sub_cancel]; rw [Nat.add_mul]; omega
    by_cases hmb : 18446744073709551616 ≤ m
    · obtain ⟨j, hj⟩ : ∃ j, j + d0 = 18446744073709551616 := ⟨18446744073709551616 - d0, by omega⟩
      have e3 : j * m + d0 * m = 18446744073709551616 * m := by rw [← Nat.add_mul, hj]
      have b3 : j * 18446744073709551616 ≤ j * m := Nat.mul_le_mul_left _ hmb
      clear hD hk hk2
      generalize d1 * D = dD at *
      generalize d1 * k = dk at *
      generalize u1 * m = um at *
      generalize m * D = mD at *
      generalize D * D = DD at *
      generalize d0 * m = dm at *
      generalize d0 * D = d0D at *
      generalize (d0 - 1) * m = ee at *
      generalize j * m = jm at *
      omega
    · obtain ⟨t, ht⟩ : ∃ t, m + t = 18446744073709551615 := ⟨18446744073709551615 - m, by omega⟩
      have e3 : m * m + m * t = 18446744073709551615 * m := by rw [← Nat.mul_add, ht, Nat.mul_comm]
      have e4 : m * t + t * t = 18446744073709551615 * t := by rw [← Nat.add_mul, ht]
      have e5 : 18446744073709551616 * (d1 * m) + d0 * m = m * D := by
        rw [← Nat.mul_assoc, Nat.mul_comm 18446744073709551616 d1, ← Nat.add_mul, ← hD, Nat.mul_comm]
      have e6 : m * m + m * D = m * 340282366920938463463374607431768211456 := by rw [← Nat.mul_add, hm]
      have b3 : d1 * k ≤ 18446744073709551616 * (d1 * m) := by
        have := Nat.mul_le_mul_left d1 hk2
        rw [Nat.mul_left_comm] at this; exact this
      clear hD hk hk2 e1 e2 b1 emD
      generalize d1 * k = dk at *
      generalize u1 * m = um at *
      generalize m * D = mD at *
      generalize d0 * m = dm at *
      generalize d1 * m = d1m at *
      generalize (d0 - 1) * m = ee at *
      generalize m * m = mm at *
      generalize m * t = mt at *
      generalize t * t = tt at *
      omega

/-- A guess of the quotient of three words by two: how far its remainder lies from the true one. -/
theorem three_core (u2 u1 u0 d1 d0 D m k V T L : Nat) (hd1 : d1 < 18446744073709551616) (hd0 : d0 < 18446744073709551616) (hD : D = d1 * 18446744073709551616 + d0) (hm : m + D = 340282366920938463463374607431768211456) (hu1 : u1 < 18446744073709551616) (hu0 : u0 < 18446744073709551616)
    (hlt : u2 < d1 ∨ (u2 = d1 ∧ u1 < d0)) (hV : 18446744073709551616 ≤ V) (hk : V * D + k = 340282366920938463463374607431768211456 * 18446744073709551616) (hkD : k ≤ D) (hTL : T * 18446744073709551616 + L = V * u2 + u1) (hL : L < 18446744073709551616) :
    ∃ rt : Int, rt = (u2 : Int) * 340282366920938463463374607431768211456 + (u1 : Int) * 18446744073709551616 + (u0 : Int) - ((T * D : Nat) : Int) - (D : Int) ∧ -(D : Int) ≤ rt ∧ (L : Int) * 18446744073709551616 - 340282366920938463463374607431768211456 ≤ rt ∧ (rt < (m : Int) ∨ rt < (L : Int) * 18446744073709551616) := by
  have hk2 : k ≤ 18446744073709551616 * m := by
    have : 18446744073709551616 * D ≤ V * D := Nat.mul_le_mul_right _ hV
    omega
  have key := three_key u2 u1 u0 d1 d0 D m k hd1 hd0 hD hm hu1 hu0 hlt hkD hk2
  have e1 : V * u2 * D + u2 * k = u2 * (340282366920938463463374607431768211456 * 18446744073709551616) := by rw [← hk, Nat.mul_add, Nat.mul_comm V u2, Nat.mul_assoc]
  have e2 : T * D * 18446744073709551616 + L * D = V * u2 * D + u1 * D := by rw [← Nat.add_mul, ← hTL, Nat.add_mul, Nat.mul_right_comm]
  have e3 : u1 * m + u1 * D = u1 * 340282366920938463463374607431768211456 := by rw [← Nat.mul_add, hm]
  have e4 : L * m + L * D = L * 340282366920938463463374607431768211456 := by rw [← Nat.mul_add, hm]
  have b3 : L * m ≤ 18446744073709551616 * m := Nat.mul_le_mul_right _ (by omega)
  obtain ⟨rt, hrt⟩ : ∃ rt : Int, rt = (u2 : Int) * 340282366920938463463374607431768211456 + (u1 : Int) * 18446744073709551616 + (u0 : Int) - ((T * D : Nat) : Int) - (D : Int) := ⟨_, rfl⟩
  refine ⟨rt, hrt, ?_, ?_, ?_⟩
  · clear key
    generalize V * u2 * D = P at *
    generalize u2 * k = uk at *
    generalize T * D = TD at *
    generalize L * D = LD at *
    generalize u1 * D = uD at *
    generalize u1 * m = um at *
    generalize L * m = Lm at *
    omega
  · clear key
    generalize V * u2 * D = P at *
    generalize u2 * k = uk at *
    generalize T * D = TD at *
    generalize L * D = LD at *
    generalize u1 * D = uD at *
    generalize u1 * m = um at *
    generalize L * m = Lm at *
    omega
  · refine Classical.byContradiction fun hno => ?_
    have h1 : (m : Int) ≤ rt := by omega
    have h2 : (L : Int) * 18446744073709551616 ≤ rt := by omega
    obtain ⟨n, rfl⟩ := Int.eq_ofNat_of_zero_le (show 0 ≤ rt by omega)
    have c1 : m * m ≤ n * m := Nat.mul_le_mul_right _ (by omega)
    have c2 : L * 18446744073709551616 * D ≤ n * D := Nat.mul_le_mul_right _ (by omega)
    have c2' : L * 18446744073709551616 * D = 18446744073709551616 * (L * D) := by rw [Nat.mul_comm L, Nat.mul_assoc]
    have c3 : n * m + n * D = n * 340282366920938463463374607431768211456 := by rw [← Nat.mul_add, hm]
    have c4 : m * m + m * D = m * 340282366920938463463374607431768211456 := by rw [← Nat.mul_add, hm]
    rw [c2'] at c2
    clear hno c2' hk hTL
    generalize V * u2 * D = P at *
    generalize u2 * k = uk at *
    generalize T * D = TD at *
    generalize L * D = LD at *
    generalize u1 * D = uD at *
    generalize u1 * m = um at *
    generalize L * m = Lm at *
    generalize m * m = mm at *
    generalize m * D = mD at *
    generalize n * m = nm at *
    generalize n * D = nD at *
    omega

end Go.Proofs.Ytahmnjpnokhbpab
