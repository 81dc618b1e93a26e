/- Inverse2: the inverse of two words. -/
import Derived.Test.YtahmnjpnokhbpabDiv3
namespace Go.Proofs.Ytahmnjpnokhbpab
open Go.RowKit

/-- The inverse of the upper word, lowered as far as the lower word asks for it. -/
theorem low_word (v d1 d0 : Nat) (h63 : 9223372036854775808 ≤ d1) (hd1 : d1 < 18446744073709551616) (hd0 : d0 < 18446744073709551616) (hv : v = inv1 d1) :
    ∃ k s : Nat, IntKind.u64.wrap ((d1 : Int) * (v : Int)) = (k : Int) ∧ k < 18446744073709551616 ∧ s = (k + d0) % 18446744073709551616 ∧
      (((k + d0) / 18446744073709551616 = 0 ∧ ∃ g, 1 ≤ g ∧ g ≤ d1 ∧ s + g = 18446744073709551616 ∧ (18446744073709551616 + v) * d1 + d0 + g = 340282366920938463463374607431768211456) ∨
       ((k + d0) / 18446744073709551616 = 1 ∧ s < d1 ∧ 1 ≤ v ∧ ∃ g, 1 ≤ g ∧ g ≤ d1 ∧ g + s = d1 ∧ (18446744073709551616 + (v - 1)) * d1 + d0 + g = 340282366920938463463374607431768211456) ∨
       ((k + d0) / 18446744073709551616 = 1 ∧ d1 ≤ s ∧ 2 ≤ v ∧ ∃ g, 1 ≤ g ∧ g ≤ d1 ∧ g + s = 2 * d1 ∧ (18446744073709551616 + (v - 2)) * d1 + d0 + g = 340282366920938463463374607431768211456)) := by
  have hk1 : v * d1 ≤ 18446744073709551616 * (18446744073709551615 - d1) + 18446744073709551615 := by rw [hv]; exact Nat.div_mul_le_self _ _
  have hk2 : 18446744073709551616 * (18446744073709551615 - d1) + 18446744073709551615 < v * d1 + d1 := by
    have := Nat.lt_div_mul_add (a := 18446744073709551616 * (18446744073709551615 - d1) + 18446744073709551615) (b := d1) (by omega)
    rw [hv]; exact this
  have hv64 : v < 18446744073709551616 := by rw [hv]; exact inv1_lt d1 h63 hd1
  clear hv
  have e0 : (d1 : Int) * (v : Int) = ((v * d1 : Nat) : Int) := by rw [Int.natCast_mul, Int.mul_comm]
  have m0 : (18446744073709551616 + v) * d1 = 18446744073709551616 * d1 + v * d1 := Nat.add_mul _ _ _
  have m1 : 1 ≤ v → (18446744073709551616 + (v - 1)) * d1 + d1 = 18446744073709551616 * d1 + v * d1 := fun h => by
    obtain ⟨f, rfl⟩ : ∃ f, v = f + 1 := ⟨v - 1, by omega⟩
    simp only [Nat.add_sub_cancel]; rw [Nat.add_mul, Nat.add_mul]; omega
  have m2 : 2 ≤ v → (18446744073709551616 + (v - 2)) * d1 + 2 * d1 = 18446744073709551616 * d1 + v * d1 := fun h => by
    obtain ⟨f, rfl⟩ : ∃ f, v = f + 2 := ⟨v - 2, by omega⟩
    simp only [Nat.add_sub_cancel]; rw [Nat.add_mul, Nat.add_mul]; omega
  have z0 : v = 0 → v * d1 = 0 := fun h => by rw [h, Nat.zero_mul]
  have z1 : v = 1 → v * d1 = d1 := fun h => by rw [h, Nat.one_mul]
  rw [e0]
  generalize v * d1 = vd at *
  -- what the inverse of the upper word leaves
  obtain ⟨k, hk, hk0, hkd⟩ : ∃ k, vd + k + 18446744073709551616 * d1 = 340282366920938463463374607431768211456 ∧ 1 ≤ k ∧ k ≤ d1 := ⟨340282366920938463463374607431768211456 - 18446744073709551616 * d1 - vd, by omega, by omega, by omega⟩
  refine ⟨18446744073709551616 - k, (18446744073709551616 - k + d0) % 18446744073709551616, by rw [IntKind.wrap_u64]; omega, by omega, rfl, ?_⟩
  by_cases hA : d0 < k
  · exact Or.inl ⟨by omega, k - d0, by omega, by omega, by omega, by rw [m0]; omega⟩
  · have hs : (18446744073709551616 - k + d0) % 18446744073709551616 = d0 - k := by omega
    have hc : (18446744073709551616 - k + d0) / 18446744073709551616 = 1 := by omega
    rw [hs, hc]
    have hv1 : 1 ≤ v := by
      refine Nat.one_le_iff_ne_zero.2 fun h => ?_
      have := z0 h
      omega
    by_cases hB : d0 - k < d1
    · have := m1 hv1
      exact Or.inr (Or.inl ⟨rfl, hB, hv1, d1 - (d0 - k), by omega, by omega, by omega, by omega⟩)
    · have hv2 : 2 ≤ v := by
        by_cases h : v = 1
        · have := z1 h
          omega
        · omega
      have := m2 hv2
      exact Or.inr (Or.inr ⟨rfl, by omega, hv2, 2 * d1 - (d0 - k), by omega, by omega, by omega, by omega⟩)

/-- What the second lowering comes to. -/
theorem low_product (v d1 d0 D g t : Nat) (h63 : 9223372036854775808 ≤ d1) (hd1 : d1 < 18446744073709551616) (hd0 : d0 < 18446744073709551616) (hD : D = d1 * 18446744073709551616 + d0) (hg1 : 1 ≤ g) (hg : g ≤ d1) (he : (18446744073709551616 + v) * d1 + d0 + g = 340282366920938463463374607431768211456) (ht : t = v * d0) (htb : t < 340282366920938463463374607431768211456) :
    (t / 18446744073709551616 < g ∧ v = inv2 D) ∨ (g ≤ t / 18446744073709551616 ∧ 1 ≤ v ∧ (t - 18446744073709551616 * g) < D ∧ v - 1 = inv2 D) ∨ (g ≤ t / 18446744073709551616 ∧ 2 ≤ v ∧ D ≤ (t - 18446744073709551616 * g) ∧ v - 2 = inv2 D) := by
  have hDlo : 170141183460469231731687303715884105728 ≤ D := by omega
  have hDhi : D < 340282366920938463463374607431768211456 := by omega
  have hVD : (18446744073709551616 + v) * D + 18446744073709551616 * g = 340282366920938463463374607431768211456 * 18446744073709551616 + t := by
    rw [hD, Nat.mul_add, ← Nat.mul_assoc, ht]
    have e1 : (18446744073709551616 + v) * d0 = 18446744073709551616 * d0 + v * d0 := Nat.add_mul _ _ _
    rw [e1]
    generalize (18446744073709551616 + v) * d1 = A at *
    generalize v * d0 = B at *
    omega
  have key : ∀ V, V * D ≤ 340282366920938463463374607431768211456 * 18446744073709551616 - 1 → 340282366920938463463374607431768211456 * 18446744073709551616 - 1 < V * D + D → (340282366920938463463374607431768211456 * 18446744073709551616 - 1) / D = V := fun V h1 h2 => by
    refine Nat.div_eq_of_lt_le h1 ?_
    rw [Nat.add_mul, Nat.one_mul]; exact h2
  have hinv : inv2 D = (340282366920938463463374607431768211456 * 18446744073709551616 - 1) / D - 18446744073709551616 := rfl
  have z0 : v = 0 → t = 0 := fun h => by rw [ht, h, Nat.zero_mul]
  have z1 : v = 1 → t = d0 := fun h => by rw [ht, h, Nat.one_mul]
  have m1 : 1 ≤ v → (18446744073709551616 + (v - 1)) * D + D = (18446744073709551616 + v) * D := fun h => by
    obtain ⟨f, rfl⟩ : ∃ f, v = f + 1 := ⟨v - 1, by omega⟩
    simp only [Nat.add_sub_cancel]; rw [← Nat.add_assoc, Nat.add_mul (18446744073709551616 + f), Nat.one_mul]
  have m2 : 2 ≤ v → (18446744073709551616 + (v - 2)) * D + 2 * D = (18446744073709551616 + v) * D := fun h => by
    obtain ⟨f, rfl⟩ : ∃ f, v = f + 2 := ⟨v - 2, by omega⟩
    simp only [Nat.add_sub_cancel]; rw [← Nat.add_assoc, Nat.add_mul (18446744073709551616 + f)]
  clear he ht
  by_cases hA : t / 18446744073709551616 < g
  · left
    have := key (18446744073709551616 + v) (by omega) (by omega)
    exact ⟨hA, by omega⟩
  · right
    have hv2 : 2 ≤ v := by
      by_cases h0 : v = 0
      · have := z0 h0; omega
      · by_cases h1 : v = 1
        · have := z1 h1; omega
        · omega
    by_cases hB : t - 18446744073709551616 * g < D
    · left
      have hm := m1 (by omega)
      have := key (18446744073709551616 + (v - 1)) (by omega) (by omega)
      exact ⟨by omega, by omega, hB, by omega⟩
    · right
      have hm := m2 hv2
      have := key (18446744073709551616 + (v - 2)) (by omega) (by omega)
      exact ⟨by omega, hv2, by omega, by omega⟩

end Go.Proofs.Ytahmnjpnokhbpab
