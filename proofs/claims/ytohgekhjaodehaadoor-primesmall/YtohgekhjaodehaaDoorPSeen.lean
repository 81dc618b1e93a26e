/- No number below 200000 that has a divisor answers as a prime does: the reckoning. Nothing of any program here. -/
import Derived.Test.YtohgekhjaodehaaDoorPSmall
namespace Go.Proofs.YtohgekhjaodehaaDoor

theorem all_seen : (greatPrimes.all fun q => seenBy q (200000 / q) ((200000 / q + 256 - q) / 256)) = true := by decide +kernel

theorem least_divisor : ∀ k, k < 12 → ∀ d, d < 7 → 2 ≤ d → d * d ≤ bs k → ¬ bs k % d = 0 := by decide

/-- A number that has a divisor is seen to be no prime. -/
theorem isP_divided {n d : Nat} (hn : n < 200000) (h2 : 2 ≤ d) (hd : d * d ≤ n) (h0 : n % d = 0) : isP n = false := by
  have hd7 : d < 448 := by
    apply Nat.lt_of_not_le
    intro h
    have := Nat.mul_le_mul h h
    omega
  have hn2 : 2 ≤ n := by have := Nat.mul_le_mul h2 h2; omega
  rcases least_of (P := fun j => n % bs j = 0) 12 with hb | ⟨k, hk, h1, h3⟩
  · have hno := no_base hn2 hb
    have hdn : d ∣ n := Nat.dvd_of_mod_eq_zero h0
    rcases some_factor d hd7 h2 with ⟨j, hj, hjd⟩ | ⟨q, hq, hqd⟩
    · exact absurd (Nat.mod_eq_zero_of_dvd (Nat.dvd_trans (Nat.dvd_of_mod_eq_zero hjd) hdn)) (hb j hj)
    · have hqd' := Nat.dvd_of_mod_eq_zero hqd
      have hqle := Nat.le_of_dvd (by omega) hqd'
      obtain ⟨m, hm⟩ := Nat.dvd_trans hqd' hdn
      have hqq : q * q ≤ n := Nat.le_trans (Nat.mul_le_mul hqle hqle) hd
      have hq2 : 41 ≤ q := by
        have : ∀ q, q ∈ greatPrimes → 41 ≤ q := by decide
        exact this q hq
      have hqm : q ≤ m := by
        apply Nat.le_of_not_lt
        intro h
        have := Nat.mul_lt_mul_of_pos_left h (show 0 < q by omega)
        omega
      have hmt : m ≤ 200000 / q := by
        rw [Nat.le_div_iff_mul_le (by omega), Nat.mul_comm]
        omega
      have hs := seenBy_at _ (List.all_eq_true.1 all_seen q hq) (200000 / q - m) (by omega) (by omega)
      rw [show 200000 / q - (200000 / q - m) = m by omega] at hs
      unfold seen at hs
      rw [← hm] at hs
      have fin : ∀ k b, k < 12 → bs k = b → (!fm n b) = true → isP n = false := fun k b hk e h => by
        refine isP_fail hb hk ?_
        rw [e]
        have := bs_range k hk
        exact fm_no (by omega) (by omega) (by omega) (by simpa using h)
      rcases Bool.or_eq_true_iff.1 hs with h | h
      · obtain ⟨j, hj, hjm⟩ := anyBase_of h
        exact absurd (Nat.mod_eq_zero_of_dvd (by rw [hm]; exact Nat.dvd_trans (Nat.dvd_of_mod_eq_zero hjm) (Nat.dvd_mul_left m q))) (hb j hj)
      · rcases Bool.or_eq_true_iff.1 h with h | h
        · exact fin 0 2 (by decide) rfl h
        · rcases Bool.or_eq_true_iff.1 h with h | h
          · exact fin 1 3 (by decide) rfl h
          · exact fin 2 5 (by decide) rfl h
  · rw [isP_hit hn2 hk h3 h1]
    refine decide_eq_false fun e => ?_
    have hb := bs_range k hk
    have hd7 : d < 7 := by
      apply Nat.lt_of_not_le
      intro h
      have := Nat.mul_le_mul h h
      omega
    rw [e] at hd h0
    exact least_divisor k hk d hd7 h2 hd h0

/-- What the loop over all divisors comes to: below d there is none. -/
def tried (n d : Nat) : Prop := 2 ≤ n ∧ ∀ e, 2 ≤ e → e < d → ¬ n % e = 0
theorem tried_end {n d : Nat} (hn : n < 200000) (hl : ∀ e, 2 ≤ e → e < d → e * e ≤ n) (hx : n < d * d) : (tried n d → isP n = true) ∧ (¬ tried n d → isP n = false) := by
  refine ⟨fun h => isP_prime ⟨h.1, fun e he hee => h.2 e he ?_⟩ (by omega), fun h => ?_⟩
  · apply Nat.lt_of_not_le
    intro hle
    have := Nat.mul_le_mul hle hle
    omega
  · by_cases h2 : n < 2
    · exact isP_low h2
    · rcases least_of (P := fun e => 2 ≤ e ∧ n % e = 0) d with h3 | ⟨e, h3, ⟨h4, h5⟩, _⟩
      · exact absurd ⟨by omega, fun e he hlt h0 => h3 e hlt ⟨he, h0⟩⟩ h
      · exact isP_divided hn h4 (hl e h4 h3) h5

end Go.Proofs.YtohgekhjaodehaaDoor
