/- Bits and bit: binary digits of a natural. -/
import Derived.Test.YtofgbmfaehnmnaaGreatDoorB3
import Derived.Test.YtofgbmfaehnmnaaGreatDoorB10
namespace Go.Proofs.YtofgbmfaehnmnaaGreatDoor
open Go.RowKit

theorem pow32 (k : Nat) : 4294967296 ^ k = 2 ^ (32 * k) := by rw [Nat.pow_mul]

/-- The digit at place j, told by the number. -/
theorem dig_at : ∀ (xs : List Nat) (j : Nat), Dig xs → xs.getD j 0 = val xs / 4294967296 ^ j % 4294967296
  | [], j, _ => by simp [val]
  | x :: xs, 0, h => by
    have := h 0
    simp only [List.getD_cons_zero] at this ⊢
    simp only [val, Nat.pow_zero, Nat.div_one]
    omega
  | x :: xs, j + 1, h => by
    have h0 := h 0
    simp only [List.getD_cons_zero] at h0
    have ih := dig_at xs j (fun k => by simpa using h (k + 1))
    rw [List.getD_cons_succ, ih]
    simp only [val, Nat.pow_succ]
    rw [Nat.mul_comm (4294967296 ^ j), ← Nat.div_div_eq_div_mul, show (x + 4294967296 * val xs) / 4294967296 = val xs from by omega]

/-- A binary digit of a digit is one of the number. -/
theorem bit_at {xs : List Nat} (h : Dig xs) (i : Nat) : xs.getD (i / 32) 0 / 2 ^ (i % 32) % 2 = val xs / 2 ^ i % 2 := by
  rw [dig_at xs (i / 32) h, pow32]
  have e : 2 ^ i = 2 ^ (32 * (i / 32)) * 2 ^ (i % 32) := by rw [← Nat.pow_add, Nat.div_add_mod]
  rw [e, ← Nat.div_div_eq_div_mul]
  generalize val xs / 2 ^ (32 * (i / 32)) = y
  have ht : i % 32 < 32 := Nat.mod_lt _ (by omega)
  generalize i % 32 = t at *
  have e2 : (4294967296 : Nat) = 2 ^ t * (2 * 2 ^ (31 - t)) := by rw [← Nat.pow_succ', ← Nat.pow_add, show t + (31 - t).succ = 32 from by omega]
  rw [e2, Nat.mod_mul_right_div_self, Nat.mod_mul_right_mod]

theorem bits_top {xs : List Nat} (hd : Dig xs) (hl : 0 < xs.length) {t : Nat} (h : xs.getD (xs.length - 1) 0 < 2 ^ t) : val xs < 2 ^ (32 * (xs.length - 1) + t) := by
  have h1 := val_take_succ xs (xs.length - 1)
  rw [show xs.length - 1 + 1 = xs.length from by omega, List.take_length] at h1
  have h2 := val_lt hd (xs.length - 1)
  rw [h1, Nat.pow_add, ← pow32]
  have h3 : 4294967296 ^ (xs.length - 1) * (xs.getD (xs.length - 1) 0 + 1) ≤ 4294967296 ^ (xs.length - 1) * 2 ^ t := Nat.mul_le_mul_left _ h
  rw [Nat.mul_add] at h3
  omega

theorem half_step {x q t : Nat} (h : x / 2 ^ t = q) : x / 2 ^ (t + 1) = q / 2 := by
  rw [Nat.pow_succ, ← Nat.div_div_eq_div_mul, h]
theorem half_end {x t : Nat} (h : x / 2 ^ t = 0) : x < 2 ^ t := by
  rcases Nat.div_eq_zero_iff.1 h with h | h
  · have : 0 < 2 ^ t := Nat.pow_pos (by omega)
    omega
  · exact h
theorem half_room {x q t : Nat} (h : x / 2 ^ t = q) (hq : 0 < q) (hx : x < 4294967296) : t < 32 := by
  refine Nat.lt_of_not_le fun ht => ?_
  have h1 : 2 ^ 32 ≤ 2 ^ t := Nat.pow_le_pow_right (by omega) ht
  have : x / 2 ^ t = 0 := Nat.div_eq_of_lt (by omega)
  omega

end Go.Proofs.YtofgbmfaehnmnaaGreatDoor
