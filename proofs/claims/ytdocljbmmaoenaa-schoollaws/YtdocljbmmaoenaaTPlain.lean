/- Tables in plain numbers: which way a product goes, what it costs; n is the greater length. -/
namespace Go.Proofs.Ytdocljbmmaoenaa

/-- Which way a product of n by m words goes (n the greater one), by entries that lie within their ranges. -/
def rt (B T N n m : Nat) : Nat :=
  if m = 0 then 0 else if m < B then 1 else if 2 * m ≤ n + 1 then 2 else if m < T then 3 else if N ≤ n + m then 5 else if 2 * ((n + 2) / 3) < m then 4 else 3

/-- The least L with s at most 2 to the L. -/
def lg (s : Nat) : Nat := if s ≤ 1 then 0 else (s - 1).log2 + 1

theorem lg_le (s : Nat) : s ≤ 2 ^ lg s := by
  unfold lg
  split
  · simp; omega
  · have := @Nat.lt_log2_self (s - 1)
    omega
theorem lg_least (s : Nat) (h : 2 ≤ s) : 1 ≤ lg s ∧ 2 ^ (lg s - 1) < s := by
  unfold lg
  rw [if_neg (by omega)]
  have := Nat.log2_self_le (n := s - 1) (by omega)
  exact ⟨by omega, by rw [Nat.add_sub_cancel]; omega⟩
theorem lg_unique {s L : Nat} (h1 : s ≤ 2 ^ L) (h2 : L = 0 ∨ 2 ^ (L - 1) < s) : L = lg s := by
  have a := lg_le s
  by_cases hs : s ≤ 1
  · have e : lg s = 0 := by unfold lg; rw [if_pos hs]
    rcases h2 with h2 | h2
    · omega
    · have := Nat.pow_pos (n := L - 1) (show 0 < 2 by omega); omega
  · obtain ⟨b, c⟩ := lg_least s (by omega)
    rcases h2 with h2 | h2
    · subst h2; simp at h1; omega
    · have l1 : L - 1 < lg s := (Nat.pow_lt_pow_iff_right (a := 2) (by omega)).1 (by omega)
      have l2 : lg s - 1 < L := (Nat.pow_lt_pow_iff_right (a := 2) (by omega)).1 (by omega)
      by_cases hL : L = 0
      · subst hL; simp at h1; omega
      · omega
theorem lg_mono {s t : Nat} (h : s ≤ t) : lg s ≤ lg t := by
  by_cases hs : s ≤ 1
  · have e : lg s = 0 := by unfold lg; rw [if_pos hs]
    omega
  · have l2 : lg s - 1 < lg t := (Nat.pow_lt_pow_iff_right (a := 2) (by omega)).1 (by have := (lg_least s (by omega)).2; have := lg_le t; omega)
    omega

/-- What a transform of length 2 to the L costs. -/
def tfL (L ways : Nat) : Nat := 3 * (ways * (2 ^ L / 2) * L + 2 * 2 ^ L) + 6 * 2 ^ L
/-- What a product of n by m words by transforms costs. -/
def tf (n m ways : Nat) : Nat := tfL (lg (n + m)) ways

theorem tfL_mono {L M a b : Nat} (h : L ≤ M) (hw : a ≤ b) : tfL L a ≤ tfL M b := by
  have hp : 2 ^ L ≤ 2 ^ M := Nat.pow_le_pow_right (by omega) h
  have h1 : a * (2 ^ L / 2) * L ≤ b * (2 ^ M / 2) * M := Nat.mul_le_mul (Nat.mul_le_mul hw (Nat.div_le_div_right hp)) h
  unfold tfL
  omega
theorem tf_mono (n m : Nat) : tf n m 3 ≤ tf (n + 1) (m + 1) 3 := tfL_mono (lg_mono (by omega)) (Nat.le_refl _)
theorem tf_ways (n m : Nat) : tf n m 2 ≤ tf n m 3 := tfL_mono (Nat.le_refl _) (by omega)
theorem tf_comm (n m w : Nat) : tf n m w = tf m n w := by unfold tf; rw [Nat.add_comm]

/-- What a product of n by m words costs (n the greater one); the first number: more than n. -/
def costF (B T N : Nat) : Nat → Nat → Nat → Nat
  | 0, _, _ => 0
  | f + 1, n, m =>
    if rt B T N n m = 1 then n * m
    else if rt B T N n m = 2 then n / m * costF B T N f m m + costF B T N f m (n % m)
    else if rt B T N n m = 3 then costF B T N f ((n + 1) / 2) ((n + 1) / 2) + costF B T N f (n - (n + 1) / 2) (m - (n + 1) / 2) + costF B T N f ((n + 1) / 2 + 1) ((n + 1) / 2 + 1)
    else if rt B T N n m = 4 then costF B T N f ((n + 2) / 3) ((n + 2) / 3) + 3 * costF B T N f ((n + 2) / 3 + 1) ((n + 2) / 3 + 1) + costF B T N f (n - 2 * ((n + 2) / 3)) (m - 2 * ((n + 2) / 3))
    else if rt B T N n m = 5 then tf n m 3
    else 0

/-- What a square of n words costs; the first number: more than n. -/
def sqF (B T N : Nat) : Nat → Nat → Nat
  | 0, _ => 0
  | f + 1, n =>
    if rt B T N n n = 1 then n * (n + 1) / 2
    else if rt B T N n n = 3 then sqF B T N f ((n + 1) / 2) + sqF B T N f (n - (n + 1) / 2) + sqF B T N f ((n + 1) / 2 + 1)
    else if rt B T N n n = 4 then sqF B T N f ((n + 2) / 3) + 3 * sqF B T N f ((n + 2) / 3 + 1) + sqF B T N f (n - 2 * ((n + 2) / 3))
    else if rt B T N n n = 5 then tf n n 2
    else 0

/-- Entries within their ranges. -/
structure Ent (B T N : Nat) : Prop where
  b1 : 4 ≤ B
  b2 : B ≤ 64
  t1 : 12 ≤ T
  t2 : T ≤ 8192
  n1 : 64 ≤ N
  n2 : N ≤ 16384

/-- Which way, and what is known there. -/
theorem rt_ways {B T N : Nat} (n m : Nat) (hm : m ≤ n) (_e : Ent B T N) :
    (rt B T N n m = 0 ∧ m = 0) ∨ (rt B T N n m = 1 ∧ 0 < m ∧ m < B) ∨ (rt B T N n m = 2 ∧ B ≤ m ∧ 2 * m ≤ n + 1) ∨ (rt B T N n m = 3 ∧ B ≤ m ∧ n + 1 < 2 * m) ∨
    (rt B T N n m = 4 ∧ T ≤ m ∧ B ≤ m ∧ 2 * ((n + 2) / 3) < m) ∨ (rt B T N n m = 5 ∧ T ≤ m ∧ B ≤ m ∧ n + 1 < 2 * m ∧ N ≤ n + m) := by
  unfold rt
  repeat' split
  all_goals omega

theorem costF_fuel {B T N : Nat} (e : Ent B T N) : ∀ f g n m, m ≤ n → n < f → n < g → costF B T N f n m = costF B T N g n m
  | 0, _, _, _, _, h, _ => by omega
  | _ + 1, 0, _, _, _, _, h => by omega
  | f + 1, g + 1, n, m, hm, h1, h2 => by
    have ih := fun n m (a : m ≤ n) (b : n < f) (c : n < g) => costF_fuel e f g n m a b c
    have e1 := e.b1
    unfold costF
    rcases rt_ways n m hm e with ⟨r, _⟩ | ⟨r, _, _⟩ | ⟨r, _, _⟩ | ⟨r, _, _⟩ | ⟨r, _, _, _⟩ | ⟨r, _, _, _, _⟩ <;> rw [r] <;> simp only [Nat.reduceEqDiff, if_true, if_false]
    · rw [ih m m (by omega) (by omega) (by omega), ih m (n % m) (by have := Nat.mod_lt n (show 0 < m by omega); omega) (by omega) (by omega)]
    · rw [ih ((n + 1) / 2) ((n + 1) / 2) (by omega) (by omega) (by omega), ih (n - (n + 1) / 2) (m - (n + 1) / 2) (by omega) (by omega) (by omega), ih ((n + 1) / 2 + 1) ((n + 1) / 2 + 1) (by omega) (by omega) (by omega)]
    · have := e.t1
      rw [ih ((n + 2) / 3) ((n + 2) / 3) (by omega) (by omega) (by omega), ih (n - 2 * ((n + 2) / 3)) (m - 2 * ((n + 2) / 3)) (by omega) (by omega) (by omega), ih ((n + 2) / 3 + 1) ((n + 2) / 3 + 1) (by omega) (by omega) (by omega)]

end Go.Proofs.Ytdocljbmmaoenaa
