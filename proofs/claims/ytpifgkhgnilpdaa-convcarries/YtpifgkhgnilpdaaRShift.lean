/- Shl, Shr and Low of the reference, in general. -/
import Derived.Test.YtpifgkhgnilpdaaShl
import Derived.Test.YtpifgkhgnilpdaaLow
import Derived.Test.YtpifgkhgnilpdaaToSame
namespace Go.Proofs.Ytpifgkhgnilpdaa
open Go.RowKit

theorem shl_any (w : World) (u : Value) (m n L : Nat) (hL : L ≤ 1073741824) (hm : m < 4294967296 ^ L) (hn : n ≤ 17179869184) (hu : IsN w u m) :
    Calls Try.prog 15 #[u, .int .i64 (n : Int)] w fun e w' => ∃ r, e = .returned r ∧ IsN w' r (m * 2 ^ n) ∧ Below w.heap.size w w' := by
  obtain ⟨ga, b, o, cap, xs, rfl, hr, hc, rfl⟩ := hu
  have hl := len_le hc hm
  by_cases h0 : xs.length = 0
  · obtain rfl : xs = [] := List.length_eq_zero_iff.1 h0
    refine (shl_zero w ga cap (n : Int)).mono ?_
    rintro e w' ⟨rfl, rfl⟩
    exact ⟨_, rfl, by rw [show val [] = 0 from rfl, Nat.zero_mul]; exact isN_none _, Below.refl _ _⟩
  · exact shl_rep w ga b o cap _ n _ _ xs rfl (by omega) (by omega) rfl rfl hn hr hc.1

/-- k digits are moved down: what is above stays to be moved. -/
def ShrAt (xs os : List Nat) (s t k : Nat) : Prop := os.length = k ∧ Dig os ∧ val os + 4294967296 ^ k * (val (xs.drop (s + k)) / 2 ^ t) = val (xs.drop s) / 2 ^ t

theorem val_drop_succ (xs : List Nat) (i : Nat) : val (xs.drop i) = xs.getD i 0 + 4294967296 * val (xs.drop (i + 1)) := by
  by_cases h : i < xs.length
  · rw [List.drop_eq_getElem_cons h, getD_lt h]; rfl
  · rw [List.drop_eq_nil_of_le (by omega), List.drop_eq_nil_of_le (by omega), getD_ge (by omega)]; rfl

theorem pow_split32 (t : Nat) (ht : t < 32) : 2 ^ (32 - t) * 2 ^ t = 4294967296 := by
  rw [← Nat.pow_add, show 32 - t + t = 32 from by omega]

/-- One digit moved down. -/
theorem shr_digit {x y D t : Nat} (hx : x < 4294967296) (hy : y = D % 4294967296) (ht : t < 32) :
    (y * 2 ^ (32 - t)) % 4294967296 = (D % 2 ^ t) * 2 ^ (32 - t) ∧ x / 2 ^ t + (D % 2 ^ t) * 2 ^ (32 - t) < 4294967296 ∧ (x + 4294967296 * D) / 2 ^ t = (x / 2 ^ t + (D % 2 ^ t) * 2 ^ (32 - t)) + 4294967296 * (D / 2 ^ t) := by
  have hp := pow_split32 t ht
  have hpos : 0 < 2 ^ t := Nat.pow_pos (by omega)
  have hpos2 : 0 < 2 ^ (32 - t) := Nat.pow_pos (by omega)
  have hd := Nat.div_add_mod D (2 ^ t)
  have hm := Nat.mod_lt D hpos
  generalize hq : 2 ^ (32 - t) = q at *
  generalize hP : 2 ^ t = p at *
  have e1 : D * q % 4294967296 = D % p * q := by
    rw [← hp, Nat.mul_comm q p, Nat.mul_mod_mul_right]
  refine ⟨?_, ?_, ?_⟩
  · rw [hy, Nat.mod_mul_mod]; exact e1
  · have h1 : x / p < q := by rw [Nat.div_lt_iff_lt_mul hpos, hp]; exact hx
    have h2 : (D % p + 1) * q ≤ p * q := Nat.mul_le_mul_right _ hm
    rw [Nat.add_mul, Nat.one_mul, Nat.mul_comm p q, hp] at h2
    omega
  · have e2 : x + 4294967296 * D = x + p * (q * D) := by rw [← hp, Nat.mul_comm q p, Nat.mul_assoc]
    rw [e2, Nat.add_mul_div_left _ _ hpos]
    have e3 : q * D = D % p * q + 4294967296 * (D / p) := by
      rw [← hp]
      have : q * D = q * (p * (D / p) + D % p) := by rw [hd]
      rw [this, Nat.mul_add, Nat.mul_comm q (D % p), ← Nat.mul_assoc]
      omega
    omega

theorem shr_start (xs : List Nat) (s t : Nat) : ShrAt xs [] s t 0 := ⟨rfl, dig_nil, by simp [val]⟩
theorem drop_mod (xs : List Nat) (h : Dig xs) (i : Nat) : val (xs.drop i) % 4294967296 = xs.getD i 0 := by
  rw [val_drop_succ]; have := h i; omega
theorem shr_step {xs os : List Nat} {s t k x d : Nat} (h : ShrAt xs os s t k) (dx : Dig xs) (ht : t < 32) (hx : x = xs.getD (s + k) 0) (hd : d = x / 2 ^ t + (val (xs.drop (s + k + 1)) % 2 ^ t) * 2 ^ (32 - t)) : ShrAt xs (os ++ [d]) s t (k + 1) := by
  obtain ⟨h1, h2, h3⟩ := h
  have hx32 : x < 4294967296 := by rw [hx]; exact dx _
  obtain ⟨_, e2, e3⟩ := shr_digit (y := val (xs.drop (s + k + 1)) % 4294967296) hx32 rfl ht
  refine ⟨by simp [h1], dig_snoc h2 (by rw [hd]; exact e2), ?_⟩
  rw [val_snoc, h1, ← h3, val_drop_succ xs (s + k), ← hx, e3, ← hd, Nat.pow_succ, Nat.mul_add, Nat.mul_assoc, Nat.add_assoc, ← Nat.add_assoc s k 1]
theorem shr_end {xs os : List Nat} {s t k : Nat} (h : ShrAt xs os s t k) (hk : xs.length ≤ s + k) (dx : Dig xs) : val os = val xs / 2 ^ (32 * s + t) := by
  obtain ⟨_, _, h3⟩ := h
  rw [List.drop_eq_nil_of_le hk, show val [] = 0 from rfl, Nat.zero_div, Nat.mul_zero, Nat.add_zero] at h3
  rw [h3, Nat.pow_add, ← Nat.div_div_eq_div_mul, Nat.pow_mul]
  congr 1
  have hv := val_drop xs s
  have hl := val_lt dx s
  rw [hv, show (2 : Nat) ^ 32 = 4294967296 from rfl, Nat.add_mul_div_left _ _ (Nat.pow_pos (by omega)), Nat.div_eq_of_lt hl, Nat.zero_add]

end Go.Proofs.Ytpifgkhgnilpdaa
