/- Plain mathematics of a division by a word whose inverse is at hand. -/
import Derived.Test.YtahmnjpnokhbpabWord
namespace Go.Proofs.Ytahmnjpnokhbpab

/-- A guess of the quotient by the inverse: how far its remainder lies from the true one. -/
theorem by_core (u1 u0 d c V T L k : Nat) (hc : c + d = 18446744073709551616) (hc0 : 0 < c) (hu1 : u1 < d) (hu0 : u0 < 18446744073709551616) (hk : V * d + k = 340282366920938463463374607431768211456) (hk0 : k ≤ d)
    (hTL : T * 18446744073709551616 + L = V * u1 + u0) (hL : L < 18446744073709551616) :
    ∃ rt : Int, rt = (u1 : Int) * 18446744073709551616 + (u0 : Int) - ((T * d : Nat) : Int) - (d : Int) ∧ -(d : Int) ≤ rt ∧ (L : Int) - 18446744073709551616 + 1 ≤ rt ∧ (rt < 18446744073709551616 - (d : Int) ∨ rt < (L : Int)) := by
  have e1 : V * u1 * d + u1 * k = u1 * 340282366920938463463374607431768211456 := by rw [← hk, Nat.mul_add, Nat.mul_comm V u1, Nat.mul_assoc]
  have e2 : T * d * 18446744073709551616 + L * d = V * u1 * d + u0 * d := by rw [← Nat.add_mul, ← hTL, Nat.add_mul, Nat.mul_right_comm]
  have e3 : u0 * c + u0 * d = u0 * 18446744073709551616 := by rw [← Nat.mul_add, hc]
  have e4 : L * c + L * d = L * 18446744073709551616 := by rw [← Nat.mul_add, hc]
  have e5 : c * c + c * d = c * 18446744073709551616 := by rw [← Nat.mul_add, hc]
  have e6 : c * d + d * d = d * 18446744073709551616 := by rw [← Nat.add_mul, hc, Nat.mul_comm]
  have b1 : u1 * k ≤ (d - 1) * d := Nat.mul_le_mul (by omega) hk0
  have b1' : (d - 1) * d + d = d * d := by
    obtain ⟨f, rfl⟩ : ∃ f, d = f + 1 := ⟨d - 1, by omega⟩
    simp only [Nat.add_sub_cancel]; rw [Nat.mul_add (f + 1), Nat.mul_one, Nat.mul_comm (f + 1) f]
  have b2 : u0 * c ≤ 18446744073709551615 * c := Nat.mul_le_mul_right _ (by omega)
  have b3 : L * c ≤ 18446744073709551615 * c := Nat.mul_le_mul_right _ (by omega)
  have b4 : c ≤ L → c * c ≤ L * c := fun h => Nat.mul_le_mul_right _ h
  have b5 : L ≤ c → L * d ≤ c * d := fun h => Nat.mul_le_mul_right _ h
  generalize V * u1 * d = P at *
  generalize u1 * k = uk at *
  generalize T * d = Td at *
  generalize L * d = Ld at *
  generalize u0 * d = ud at *
  generalize d * d = dd at *
  generalize u0 * c = uc at *
  generalize L * c = Lc at *
  generalize c * c = cc at *
  generalize c * d = cd at *
  generalize (d - 1) * d = ee at *
  clear hk hTL
  refine ⟨_, rfl, by omega, by omega, ?_⟩
  by_cases h : c ≤ L
  · have := b4 h
    clear b4 b5
    right; omega
  · have := b5 (by omega)
    clear b4 b5
    left; omega

theorem by_bounds (u1 u0 d v T L : Nat) (h1 : 9223372036854775808 ≤ d) (h2 : d < 18446744073709551616) (hu1 : u1 < d) (hu0 : u0 < 18446744073709551616) (hv : v = inv1 d)
    (hTL : T * 18446744073709551616 + L = (v + 18446744073709551616) * u1 + u0) (hL : L < 18446744073709551616) :
    ∃ rt : Int, rt = (u1 : Int) * 18446744073709551616 + (u0 : Int) - ((T * d : Nat) : Int) - (d : Int) ∧ -(d : Int) ≤ rt ∧ (L : Int) - 18446744073709551616 + 1 ≤ rt ∧ (rt < 18446744073709551616 - (d : Int) ∨ rt < (L : Int)) := by
  have hk1 : v * d ≤ 18446744073709551616 * (18446744073709551615 - d) + 18446744073709551615 := by rw [hv]; exact Nat.div_mul_le_self _ _
  have hk2 : 18446744073709551616 * (18446744073709551615 - d) + 18446744073709551615 < v * d + d := by
    have := Nat.lt_div_mul_add (a := 18446744073709551616 * (18446744073709551615 - d) + 18446744073709551615) (b := d) (by omega)
    rw [hv]; exact this
  obtain ⟨k, hk, hk0⟩ : ∃ k, (v + 18446744073709551616) * d + k = 340282366920938463463374607431768211456 ∧ k ≤ d := ⟨340282366920938463463374607431768211456 - (v + 18446744073709551616) * d, by rw [Nat.add_mul]; omega, by rw [Nat.add_mul]; omega⟩
  exact by_core u1 u0 d (18446744073709551616 - d) (v + 18446744073709551616) T L k (by omega) (by omega) hu1 hu0 hk hk0 hTL hL

theorem mul_top {T d a : Nat} (h : T + a = 18446744073709551616) : T * d + a * d = 18446744073709551616 * d := by rw [← Nat.add_mul, h]

/-- The guess qc and its remainder rc, as the code reckons them, and what its two steps make of them. -/
theorem by_steps (hi lo d v T L : Nat) (h1 : 9223372036854775808 ≤ d) (h2 : d < 18446744073709551616) (hu1 : hi < d) (hu0 : lo < 18446744073709551616) (hv : v = inv1 d)
    (hTL : T * 18446744073709551616 + L = (v + 18446744073709551616) * hi + lo) (hL : L < 18446744073709551616) (hT : T < 18446744073709551616) :
    ∃ qc rc : Nat, qc < 18446744073709551616 ∧ rc < 18446744073709551616 ∧ IntKind.u64.wrap ((T : Int) + 1) = (qc : Int) ∧ IntKind.u64.wrap ((lo : Int) - IntKind.u64.wrap ((qc * d : Nat) : Int)) = (rc : Int) ∧
      ((L < rc ∧ IntKind.u64.wrap ((qc : Int) - 1) = (T : Int) ∧ ∃ R : Nat, IntKind.u64.wrap ((rc : Int) + (d : Int)) = (R : Int) ∧ R < d ∧ T * d + R = 18446744073709551616 * hi + lo) ∨
       (L < rc ∧ IntKind.u64.wrap ((qc : Int) - 1) = (T : Int) ∧ rc + d < 18446744073709551616 ∧ rc < d ∧ qc * d + rc = 18446744073709551616 * hi + lo) ∨
       (¬ L < rc ∧ d ≤ rc ∧ ∃ Q R : Nat, IntKind.u64.wrap ((qc : Int) + 1) = (Q : Int) ∧ rc = R + d ∧ R < d ∧ Q * d + R = 18446744073709551616 * hi + lo) ∨
       (¬ L < rc ∧ rc < d ∧ qc * d + rc = 18446744073709551616 * hi + lo)) := by
  obtain ⟨rt, hrt, b1, b2, b3⟩ := by_bounds hi lo d v T L h1 h2 hu1 hu0 hv hTL hL
  clear hTL hv
  by_cases hneg : rt < 0
  · by_cases htop : T + 1 = 18446744073709551616
    · have hm := mul_top (d := d) htop
      rw [Nat.one_mul] at hm
      refine ⟨0, (rt + 18446744073709551616).toNat, by omega, by omega, by rw [IntKind.wrap_u64]; omega, ?_, Or.inl ⟨by omega, by rw [IntKind.wrap_u64]; omega, (rt + d).toNat, ?_, by omega, ?_⟩⟩
      · rw [Nat.zero_mul, IntKind.wrap_u64, IntKind.wrap_u64]
        generalize T * d = Td at *
        omega
      · rw [IntKind.wrap_u64]; omega
      · generalize T * d = Td at *
        omega
    · have hm : (T + 1) * d = T * d + d := by rw [Nat.add_mul, Nat.one_mul]
      refine ⟨T + 1, (rt + 18446744073709551616).toNat, by omega, by omega, by rw [IntKind.wrap_u64]; omega, ?_, Or.inl ⟨by omega, by rw [IntKind.wrap_u64]; omega, (rt + d).toNat, ?_, by omega, ?_⟩⟩
      · rw [hm, IntKind.wrap_u64, IntKind.wrap_u64]
        generalize T * d = Td at *
        omega
      · rw [IntKind.wrap_u64]; omega
      · generalize T * d = Td at *
        omega
  · have htop : T + 1 ≠ 18446744073709551616 := fun h => by
      have hm := mul_top (d := d) h
      rw [Nat.one_mul] at hm
      generalize T * d = Td at *
      omega
    have htop2 : d ≤ rt.toNat → T + 2 ≠ 18446744073709551616 := fun hr h => by
      have hm := mul_top (d := d) h
      generalize T * d = Td at *
      omega
    have hm : (T + 1) * d = T * d + d := by rw [Nat.add_mul, Nat.one_mul]
    have hm2 : (T + 2) * d = T * d + 2 * d := by rw [Nat.add_mul]
    have hrtb : rt < 18446744073709551616 := by omega
    refine ⟨T + 1, rt.toNat, by omega, by omega, by rw [IntKind.wrap_u64]; omega, ?_, Or.inr ?_⟩
    · rw [hm, IntKind.wrap_u64, IntKind.wrap_u64]
      generalize T * d = Td at *
      omega
    · rw [hm]
      by_cases hl : L < rt.toNat
      · refine Or.inl ⟨hl, by rw [IntKind.wrap_u64]; omega, by omega, by omega, ?_⟩
        generalize T * d = Td at *
        omega
      · by_cases hd : d ≤ rt.toNat
        · have ht2 := htop2 hd
          refine Or.inr (Or.inl ⟨hl, hd, T + 2, rt.toNat - d, by rw [IntKind.wrap_u64]; omega, by omega, by omega, ?_⟩)
          rw [hm2]
          generalize T * d = Td at *
          omega
        · refine Or.inr (Or.inr ⟨hl, by omega, ?_⟩)
          generalize T * d = Td at *
          omega

theorem quot_of {Q R d N : Nat} (h : Q * d + R = N) (hr : R < d) : Q = N / d ∧ R = N % d := by
  subst h
  rw [Nat.mul_comm, Nat.mul_add_div (by omega), Nat.div_eq_of_lt hr, Nat.mul_add_mod, Nat.mod_eq_of_lt hr]
  exact ⟨rfl, rfl⟩

end Go.Proofs.Ytahmnjpnokhbpab
