/- How many words a natural has, and how deep its products may go: plain mathematics. -/
import Derived.Test.YtiekgpphggejcaaGreatDoorB5
import Derived.Lib.BitFns
namespace Go.Proofs.YtiekgpphggejcaaGreatDoor

/-- How many words a natural has. -/
def wlF : Nat → Nat → Nat
  | 0, _ => 0
  | f + 1, n => if n = 0 then 0 else wlF f (n / 18446744073709551616) + 1
theorem wlF_zero (f : Nat) : wlF f 0 = 0 := by cases f <;> simp [wlF]
theorem wlF_one : ∀ (f g n : Nat), n ≤ f → n ≤ g → wlF f n = wlF g n
  | 0, g, n, h1, _ => by
    obtain rfl : n = 0 := by omega
    rw [wlF_zero, wlF_zero]
  | f + 1, g, n, h1, h2 => by
    by_cases h0 : n = 0
    · rw [h0, wlF_zero, wlF_zero]
    · obtain ⟨k, rfl⟩ : ∃ k, g = k + 1 := ⟨g - 1, by omega⟩
      simp only [wlF, if_neg h0]
      rw [wlF_one f k _ (by omega) (by omega)]
def wl (n : Nat) : Nat := wlF n n
theorem wl_zero : wl 0 = 0 := wlF_zero 0
theorem wl_pos {n : Nat} (h : n ≠ 0) : wl n = wl (n / 18446744073709551616) + 1 := by
  obtain ⟨k, rfl⟩ : ∃ k, n = k + 1 := ⟨n - 1, by omega⟩
  unfold wl
  rw [wlF, if_neg h, wlF_one k _ _ (by omega) (Nat.le_refl _)]
theorem wl_lt : ∀ (l n : Nat), n < 18446744073709551616 ^ l → wl n ≤ l
  | 0, n, h => by
    have : n = 0 := by rw [Nat.pow_zero] at h; omega
    rw [this, wl_zero]; omega
  | l + 1, n, h => by
    by_cases h0 : n = 0
    · rw [h0, wl_zero]; omega
    · rw [wl_pos h0]
      have := wl_lt l (n / 18446744073709551616) (by rw [Nat.pow_succ] at h; exact Nat.div_lt_of_lt_mul (by rw [Nat.mul_comm]; exact h))
      omega
theorem wl_ge : ∀ (l n : Nat), 18446744073709551616 ^ l ≤ n → l < wl n
  | 0, n, h => by
    rw [Nat.pow_zero] at h
    rw [wl_pos (by omega)]; omega
  | l + 1, n, h => by
    have hp : 0 < 18446744073709551616 ^ (l + 1) := Nat.pow_pos (by omega)
    rw [wl_pos (by omega)]
    have := wl_ge l (n / 18446744073709551616) (by rw [Nat.pow_succ] at h; exact (Nat.le_div_iff_mul_le (by omega)).2 h)
    omega
theorem wl_can {xs : List Nat} (h : WCan xs) : wl (wval xs) = xs.length := by
  have h1 := wl_lt _ _ (wval_lt_pow h.1)
  by_cases h0 : xs.length = 0
  · omega
  · have := wl_ge _ _ (wval_ge h (by omega))
    omega
theorem nlen_wl {xs : List Nat} (h : WDig xs) : nlen xs xs.length = wl (wval xs) := by
  rw [← nrm_length, ← wl_can (nrm_wcan h), nrm_wval]
theorem wl_le_len {xs : List Nat} (h : WDig xs) : wl (wval xs) ≤ xs.length := wl_lt _ _ (wval_lt_pow h)
theorem wl_eq_zero {n : Nat} : wl n = 0 ↔ n = 0 := by
  constructor
  · intro h
    refine Classical.byContradiction fun h0 => ?_
    rw [wl_pos h0] at h
    omega
  · intro h; rw [h, wl_zero]

/-- How many levels products of n words may enter. -/
def dpt (n : Nat) : Nat := 2 * Lib.bitLen n + 4
theorem bitLen_zero : Lib.bitLen 0 = 0 := by decide
theorem bitLen_small {n : Nat} (h : n < 65536) : Lib.bitLen n ≤ 16 := Lib.bitLen_le n 16 (by decide) (by omega)

end Go.Proofs.YtiekgpphggejcaaGreatDoor
