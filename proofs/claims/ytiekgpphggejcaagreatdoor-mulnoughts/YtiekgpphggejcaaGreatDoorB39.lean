/- Package mul in plain numbers: levels, costs of pieces, a row in pieces of k words. -/
import Derived.Test.YtiekgpphggejcaaGreatDoorB25
import Derived.Test.YtiekgpphggejcaaGreatDoorB13
import Derived.Test.YtiekgpphggejcaaGreatDoorB31
namespace Go.Proofs.YtiekgpphggejcaaGreatDoor

/-- How many levels products of n words enter at most. -/
def lev (n : Nat) : Nat := Lib.bitLen (n - 3)
theorem bitLen_mono : ∀ (b a : Nat), a ≤ b → b < 18446744073709551616 → Lib.bitLen a ≤ Lib.bitLen b := by
  intro b
  induction b using Nat.strongRecOn with
  | _ b ih =>
    intro a h hb
    by_cases h0 : a = 0
    · rw [h0, bitLen_zero]; exact Nat.zero_le _
    · rw [Lib.bitLen_half a h0 (by omega), Lib.bitLen_half b (by omega) (by omega)]
      have := ih (b / 2) (by omega) (a / 2) (Nat.div_le_div_right h) (by omega)
      omega
theorem lev_mono {a b : Nat} (h : a ≤ b) (hb : b ≤ 100000) : lev a ≤ lev b := bitLen_mono _ _ (by omega) (by omega)
theorem lev_down {n p : Nat} (hn : 4 ≤ n) (hp : p ≤ (n - 3) / 2 + 3) (hb : n ≤ 100000) : lev p + 1 ≤ lev n := by
  unfold lev
  rw [Lib.bitLen_half (n - 3) (by omega) (by omega)]
  have := bitLen_mono ((n - 3) / 2) (p - 3) (by omega) (by omega)
  omega
theorem lev_le {n : Nat} (h : n ≤ 16384) : lev n ≤ 16 := Nat.le_trans (bitLen_mono 16384 (n - 3) (by omega) (by omega)) (bitLen_small (by omega))
theorem lev_dpt {n : Nat} (h : n ≤ 16384) : lev n ≤ dpt n := by
  have := bitLen_mono n (n - 3) (by omega) (by omega)
  unfold lev dpt
  omega

/-- The j-th piece of k words. -/
def chunk (xs : List Nat) (k j : Nat) : List Nat := (xs.drop (k * j)).take k
theorem chunk_length (xs : List Nat) (k j : Nat) : (chunk xs k j).length = min k (xs.length - k * j) := by simp [chunk]
theorem chunk_dig {xs : List Nat} (h : WDig xs) (k j : Nat) : WDig (chunk xs k j) := wDig_take (wDig_drop h _) _
theorem chunk_step (xs : List Nat) (k j : Nat) (h : k * j ≤ xs.length) : wval (xs.take (k * (j + 1))) = wval (xs.take (k * j)) + 18446744073709551616 ^ (k * j) * wval (chunk xs k j) := by
  have e : xs.take (k * (j + 1)) = xs.take (k * j) ++ chunk xs k j := by
    rw [Nat.mul_succ, List.take_add]; rfl
  rw [e, wval_append, List.length_take, Nat.min_eq_left h]
theorem jsum_chunks {xs : List Nat} {k q C : Nat} {ns : List Nat} (hn : ∀ j, j < q → ns.getD j 0 = wval (chunk xs k j) * C) (hk : ∀ j, j < q → k * j ≤ xs.length) : ∀ i, i ≤ q → jsum k ns i = wval (xs.take (k * i)) * C
  | 0 => fun _ => by simp [jsum, wval]
  | i + 1 => fun hi => by
    rw [jsum, jsum_chunks hn hk i (by omega), hn i (by omega), chunk_step xs k i (hk i (by omega)), Nat.add_mul, Nat.mul_assoc]
/-- What the first i pieces of k words cost, each with k words. -/
def bsum (B D N n k : Nat) : Nat → Nat
  | 0 => 0
  | i + 1 => bsum B D N n k i + cst B D N k (min k (n - k * i))
theorem bsum_full (B D N n k : Nat) : ∀ i, k * i ≤ n → bsum B D N n k i = i * cst B D N k k
  | 0 => fun _ => by simp [bsum]
  | i + 1 => fun h => by
    rw [Nat.mul_succ] at h
    rw [bsum, bsum_full B D N n k i (by omega), Nat.min_eq_left (by omega), Nat.succ_mul]
theorem bsum_all (B D N n k q : Nat) (hk : 0 < k) (h1 : n ≤ k * q) (h2 : k * q < n + k) : bsum B D N n k q = n / k * cst B D N k k + cst B D N k (n % k) := by
  have hd := Nat.div_add_mod n k
  have hm := Nat.mod_lt n hk
  by_cases h0 : n % k = 0
  · have hq : q = n / k := by
      refine Nat.eq_of_mul_eq_mul_left hk ?_
      have a1 : k * (n / k) = n := by omega
      rw [a1]
      have : n ∣ n := Nat.dvd_refl n
      have c := Nat.mul_lt_mul_left (a := k) (b := q) (c := n / k + 1) hk
      rw [Nat.mul_succ, a1] at c
      have := c.1 h2
      have d := Nat.mul_le_mul_left k (show q ≤ n / k by omega)
      omega
    subst hq
    rw [bsum_full B D N n k _ (by omega), h0, cst_nought, Nat.add_zero]
  · obtain ⟨p, hp⟩ : ∃ p, q = p + 1 := ⟨q - 1, by
      have : q ≠ 0 := by
        rintro rfl
        rw [Nat.mul_zero] at h1
        have : n = 0 := by omega
        subst this
        simp at h0
      omega⟩
    subst hp
    rw [Nat.mul_succ] at h1 h2
    have hq : p = n / k := by
      have c1 := Nat.mul_lt_mul_left (a := k) (b := p) (c := n / k + 1) hk
      have c2 := Nat.mul_lt_mul_left (a := k) (b := n / k) (c := p + 1) hk
      rw [Nat.mul_succ] at c1 c2
      have := c1.1 (by omega)
      have := c2.1 (by omega)
      omega
    subst hq
    rw [bsum, bsum_full B D N n k _ (by omega), show n - k * (n / k) = n % k by omega, Nat.min_eq_right (by omega)]
theorem bsum_le (B D N n k : Nat) : ∀ {i j : Nat}, i ≤ j → bsum B D N n k i ≤ bsum B D N n k j := by
  intro i j h
  induction h with
  | refl => exact Nat.le_refl _
  | step h ih => rw [bsum]; omega

/-- What a product of n by m words costs that goes route r first (n not below m). -/
def bcst (B D N r n m : Nat) : Nat :=
  if r = 1 then n * m
  else if r = 2 then n / m * cst B D N m m + cst B D N m (n % m)
  else if r = 3 then cst B D N ((n + 1) / 2) ((n + 1) / 2) + cst B D N (n - (n + 1) / 2) (m - (n + 1) / 2) + cst B D N ((n + 1) / 2 + 1) ((n + 1) / 2 + 1)
  else if r = 4 then cst B D N ((n + 2) / 3) ((n + 2) / 3) + 3 * cst B D N ((n + 2) / 3 + 1) ((n + 2) / 3 + 1) + cst B D N (n - 2 * ((n + 2) / 3)) (m - 2 * ((n + 2) / 3))
  else if r = 5 then tf n m 3 else 0
theorem bcst_cst {B D N n m : Nat} (e : Ent B D N) (hm : m ≤ n) : bcst B D N (rt B D N n m) n m = cst B D N n m := by
  have e1 := e.b1
  unfold bcst
  rcases rt_ways n m hm e with ⟨r, _⟩ | ⟨r, _, _⟩ | ⟨r, h1, h2⟩ | ⟨r, h1, h2⟩ | ⟨r, h1, _, h2⟩ | ⟨r, _, _, _, _⟩
  · rw [cst_zero r, r]; simp
  · rw [cst_one r, r]; simp
  · rw [cst_two e hm r h1 h2, r]; simp
  · rw [cst_three e hm r h1 h2, r]; simp
  · rw [cst_four e hm r h1 h2, r]; simp
  · rw [cst_five r, r]; simp

end Go.Proofs.YtiekgpphggejcaaGreatDoor
