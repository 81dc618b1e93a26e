/- Three primes; sums of naturals. Nothing of any program here. -/
import Derived.Test.YtpifgkhgnilpdaaWPlain
namespace Go.Proofs.Ytpifgkhgnilpdaa

def tp0 : Nat := 180143985094819841
def tp1 : Nat := 1945555039024054273
def tp2 : Nat := 4179340454199820289
theorem dvd_diff {p x y : Nat} (h : x % p = y % p) : p ∣ x - y := by
  have := Nat.sub_mod_eq_zero_of_mod_eq h
  exact Nat.dvd_of_mod_eq_zero this
theorem three_le {x y : Nat} (h0 : x % tp0 = y % tp0) (h1 : x % tp1 = y % tp1) (h2 : x % tp2 = y % tp2) (hx : x < tp0 * tp1 * tp2) (hle : y ≤ x) : x = y := by
  have d0 := dvd_diff h0
  have d1 := dvd_diff h1
  have d2 := dvd_diff h2
  have c01 : Nat.Coprime tp0 tp1 := by unfold Nat.Coprime; decide +kernel
  have c2 : Nat.Coprime (tp0 * tp1) tp2 := by unfold Nat.Coprime; decide +kernel
  have d := c2.mul_dvd_of_dvd_of_dvd (c01.mul_dvd_of_dvd_of_dvd d0 d1) d2
  have := Nat.eq_zero_of_dvd_of_lt d (by omega)
  omega
/-- Below the product of the three primes the three remainders say which number it is. -/
theorem three_one {x y : Nat} (h0 : x % tp0 = y % tp0) (h1 : x % tp1 = y % tp1) (h2 : x % tp2 = y % tp2) (hx : x < tp0 * tp1 * tp2) (hy : y < tp0 * tp1 * tp2) : x = y := by
  rcases Nat.le_total y x with h | h
  · exact three_le h0 h1 h2 hx h
  · exact (three_le h0.symm h1.symm h2.symm hy h).symm

/-- The sum of the first n of a row of naturals. -/
def sN : Nat → (Nat → Nat) → Nat
  | 0, _ => 0
  | n + 1, f => sN n f + f n
theorem sN_congr {n : Nat} {f g : Nat → Nat} (h : ∀ j, j < n → f j = g j) : sN n f = sN n g := by
  induction n with
  | zero => rfl
  | succ n ih => show sN n f + f n = sN n g + g n; rw [ih fun j hj => h j (by omega), h n (by omega)]
theorem sN_le {n c : Nat} {f : Nat → Nat} (h : ∀ j, j < n → f j ≤ c) : sN n f ≤ n * c := by
  induction n with
  | zero => exact Nat.zero_le _
  | succ n ih =>
    have h1 := ih fun j hj => h j (by omega)
    have h2 := h n (by omega)
    show sN n f + f n ≤ (n + 1) * c
    rw [Nat.add_mul, Nat.one_mul]
    omega
theorem sN_zero {n : Nat} {f : Nat → Nat} (h : ∀ j, j < n → f j = 0) : sN n f = 0 := by
  induction n with
  | zero => rfl
  | succ n ih => show sN n f + f n = 0; rw [ih fun j hj => h j (by omega), h n (by omega)]
/-- One alone of them is not 0. -/
theorem sN_lone {n i c : Nat} {f : Nat → Nat} (hz : ∀ j, j < n → j ≠ i → f j = 0) (hc : i < n → f i ≤ c) : sN n f ≤ c := by
  induction n with
  | zero => exact Nat.zero_le _
  | succ n ih =>
    show sN n f + f n ≤ c
    by_cases hi : n = i
    · subst hi
      rw [sN_zero fun j hj => hz j (by omega) (by omega), Nat.zero_add]
      exact hc (by omega)
    · rw [hz n (by omega) hi, Nat.add_zero]
      exact ih (fun j hj => hz j (by omega)) fun h => hc (by omega)

end Go.Proofs.Ytpifgkhgnilpdaa
