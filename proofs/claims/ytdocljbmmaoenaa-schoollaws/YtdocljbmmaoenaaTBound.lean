/- What a product costs at most, in plain numbers. -/
import Derived.Test.YtdocljbmmaoenaaTPlain
namespace Go.Proofs.Ytdocljbmmaoenaa

/-- What a product of n by m words costs (n the greater one). -/
def cst (B T N n m : Nat) : Nat := costF B T N (n + 1) n m
/-- What a square of n words costs. -/
def sqt (B T N n : Nat) : Nat := sqF B T N (n + 1) n

theorem costF_eq {B T N f n m : Nat} (e : Ent B T N) (hm : m ≤ n) (hf : n < f) : costF B T N f n m = cst B T N n m := costF_fuel e f (n + 1) n m hm hf (by omega)

theorem cst_zero {B T N n m : Nat} (h : rt B T N n m = 0) : cst B T N n m = 0 := by unfold cst costF; simp [h]
theorem cst_one {B T N n m : Nat} (h : rt B T N n m = 1) : cst B T N n m = n * m := by unfold cst costF; simp [h]
theorem cst_two {B T N n m : Nat} (e : Ent B T N) (_hm : m ≤ n) (h : rt B T N n m = 2) (h1 : B ≤ m) (h2 : 2 * m ≤ n + 1) : cst B T N n m = n / m * cst B T N m m + cst B T N m (n % m) := by
  have e1 := e.b1
  rw [cst]; unfold costF; simp only [h, Nat.reduceEqDiff, if_true, if_false]
  rw [costF_eq e (by omega) (by omega), costF_eq e (by have := Nat.mod_lt n (show 0 < m by omega); omega) (by omega)]
theorem cst_three {B T N n m : Nat} (e : Ent B T N) (_hm : m ≤ n) (h : rt B T N n m = 3) (h1 : B ≤ m) (h2 : n + 1 < 2 * m) :
    cst B T N n m = cst B T N ((n + 1) / 2) ((n + 1) / 2) + cst B T N (n - (n + 1) / 2) (m - (n + 1) / 2) + cst B T N ((n + 1) / 2 + 1) ((n + 1) / 2 + 1) := by
  have e1 := e.b1
  rw [cst]; unfold costF; simp only [h, Nat.reduceEqDiff, if_true, if_false]
  rw [costF_eq e (by omega) (by omega), costF_eq e (by omega) (by omega), costF_eq e (by omega) (by omega)]
theorem cst_four {B T N n m : Nat} (e : Ent B T N) (_hm : m ≤ n) (h : rt B T N n m = 4) (h1 : T ≤ m) (h2 : 2 * ((n + 2) / 3) < m) :
    cst B T N n m = cst B T N ((n + 2) / 3) ((n + 2) / 3) + 3 * cst B T N ((n + 2) / 3 + 1) ((n + 2) / 3 + 1) + cst B T N (n - 2 * ((n + 2) / 3)) (m - 2 * ((n + 2) / 3)) := by
  have e1 := e.t1
  rw [cst]; unfold costF; simp only [h, Nat.reduceEqDiff, if_true, if_false]
  rw [costF_eq e (by omega) (by omega), costF_eq e (by omega) (by omega), costF_eq e (by omega) (by omega)]
theorem cst_five {B T N n m : Nat} (h : rt B T N n m = 5) : cst B T N n m = tf n m 3 := by unfold cst costF; simp [h]

theorem sqF_fuel {B T N : Nat} (e : Ent B T N) : ∀ f g n, n < f → n < g → sqF B T N f n = sqF B T N g n
  | 0, _, _, h, _ => by omega
  | _ + 1, 0, _, _, h => by omega
  | f + 1, g + 1, n, h1, h2 => by
    have ih := fun n (b : n < f) (c : n < g) => sqF_fuel e f g n b c
    have e1 := e.b1
    have e2 := e.t1
    unfold sqF
    rcases rt_ways n n (Nat.le_refl _) e with ⟨r, _⟩ | ⟨r, _, _⟩ | ⟨r, _, _⟩ | ⟨r, _, _⟩ | ⟨r, _, _, _⟩ | ⟨r, _, _, _, _⟩ <;> rw [r] <;> simp only [Nat.reduceEqDiff, if_true, if_false]
    · rw [ih ((n + 1) / 2) (by omega) (by omega), ih (n - (n + 1) / 2) (by omega) (by omega), ih ((n + 1) / 2 + 1) (by omega) (by omega)]
    · rw [ih ((n + 2) / 3) (by omega) (by omega), ih (n - 2 * ((n + 2) / 3)) (by omega) (by omega), ih ((n + 2) / 3 + 1) (by omega) (by omega)]
theorem sqF_eq {B T N f n : Nat} (e : Ent B T N) (hf : n < f) : sqF B T N f n = sqt B T N n := sqF_fuel e f (n + 1) n hf (by omega)
theorem sqt_zero {B T N n : Nat} (h : rt B T N n n = 0 ∨ rt B T N n n = 2) : sqt B T N n = 0 := by unfold sqt sqF; rcases h with h | h <;> simp [h]
theorem sqt_one {B T N n : Nat} (h : rt B T N n n = 1) : sqt B T N n = n * (n + 1) / 2 := by unfold sqt sqF; simp [h]
theorem sqt_three {B T N n : Nat} (e : Ent B T N) (h : rt B T N n n = 3) (h1 : B ≤ n) : sqt B T N n = sqt B T N ((n + 1) / 2) + sqt B T N (n - (n + 1) / 2) + sqt B T N ((n + 1) / 2 + 1) := by
  have e1 := e.b1
  rw [sqt]; unfold sqF; simp only [h, Nat.reduceEqDiff, if_true, if_false]
  rw [sqF_eq e (by omega), sqF_eq e (by omega), sqF_eq e (by omega)]
theorem sqt_four {B T N n : Nat} (e : Ent B T N) (h : rt B T N n n = 4) (h1 : T ≤ n) : sqt B T N n = sqt B T N ((n + 2) / 3) + 3 * sqt B T N ((n + 2) / 3 + 1) + sqt B T N (n - 2 * ((n + 2) / 3)) := by
  have e1 := e.t1
  rw [sqt]; unfold sqF; simp only [h, Nat.reduceEqDiff, if_true, if_false]
  rw [sqF_eq e (by omega), sqF_eq e (by omega), sqF_eq e (by omega)]
theorem sqt_five {B T N n : Nat} (h : rt B T N n n = 5) : sqt B T N n = tf n n 2 := by unfold sqt sqF; simp [h]

/-- A transform of s at least 64: its length's half is P, P is below s. -/
theorem tf_half (n m : Nat) (h : 64 ≤ n + m) : ∃ L P, 6 ≤ L ∧ P = 2 ^ (L - 1) ∧ P < n + m ∧ n + m ≤ 2 * P ∧ tf n m 3 = 9 * (P * L) + 24 * P := by
  obtain ⟨h1, h2⟩ := lg_least (n + m) (by omega)
  have h3 := lg_le (n + m)
  obtain ⟨k, hk⟩ : ∃ k, lg (n + m) = k + 1 := ⟨lg (n + m) - 1, by omega⟩
  rw [hk] at h1 h2 h3
  rw [Nat.add_sub_cancel] at h2
  have h4 : 2 ^ 6 ≤ 2 ^ (k + 1) := by omega
  have h5 := (Nat.pow_le_pow_iff_right (a := 2) (by omega)).1 h4
  refine ⟨k + 1, 2 ^ k, by omega, by rw [Nat.add_sub_cancel], h2, by rw [Nat.pow_succ] at h3; omega, ?_⟩
  unfold tf tfL
  rw [hk, Nat.pow_succ, Nat.mul_div_cancel _ (by omega), Nat.mul_assoc 3 (2 ^ k) (k + 1)]
  omega

theorem pow_big : ∀ k, 36 * (k + 7) + 96 ≤ 3 * 2 ^ (k + 7)
  | 0 => by decide
  | k + 1 => by have := pow_big k; rw [show k + 1 + 7 = (k + 7) + 1 from by omega, Nat.pow_succ]; omega
theorem pow_big2 : ∀ k, 162 * (k + 7) + 432 ≤ 16 * 2 ^ (k + 7)
  | 0 => by decide
  | k + 1 => by have := pow_big2 k; rw [show k + 1 + 7 = (k + 7) + 1 from by omega, Nat.pow_succ]; omega

theorem sq_even (i : Nat) : (i + 3) * (i + 3) + (i + 3) * (i + 3) + (i + 3 + 1) * (i + 3 + 1) ≤ (2 * (i + 3)) * (2 * (i + 3)) := by grind
theorem sq_odd (i : Nat) : (i + 5) * (i + 5) + (i + 4) * (i + 4) + (i + 5 + 1) * (i + 5 + 1) ≤ (2 * i + 9) * (2 * i + 9) := by grind
theorem sq_toom0 (i : Nat) : (i + 3) * (i + 3) + 3 * ((i + 3 + 1) * (i + 3 + 1)) + (i + 3) * (i + 3) ≤ (3 * i + 9) * (3 * i + 9) := by grind
theorem sq_toom1 (i : Nat) : (i + 3) * (i + 3) + 3 * ((i + 3 + 1) * (i + 3 + 1)) + (i + 2) * (i + 2) ≤ (3 * i + 8) * (3 * i + 8) := by grind
theorem sq_toom2 (i : Nat) : (i + 4) * (i + 4) + 3 * ((i + 4 + 1) * (i + 4 + 1)) + (i + 2) * (i + 2) ≤ (3 * i + 10) * (3 * i + 10) := by grind
theorem nine (n m : Nat) (h1 : m ≤ n) (h2 : n ≤ 2 * m) : 2 * ((n + m) * (n + m)) ≤ 9 * (n * m) := by
  obtain ⟨i, rfl⟩ : ∃ i, n = m + i := ⟨n - m, by omega⟩
  obtain ⟨j, rfl⟩ : ∃ j, m = i + j := ⟨m - i, by omega⟩
  grind

theorem mul_mono {a b : Nat} (h : a ≤ b) : a * a ≤ b * b := Nat.mul_le_mul h h

/-- A transform of two rows that are neither far from each other nor short. -/
theorem tf_eight (n m : Nat) (h1 : m ≤ n) (h2 : n ≤ 2 * m) (h : 64 ≤ n + m) : tf n m 3 ≤ 8 * (n * m) := by
  obtain ⟨L, P, hL, hP, p1, p2, e⟩ := tf_half n m h
  have k9 := nine n m h1 h2
  rw [e]
  by_cases h6 : L = 6
  · subst h6
    have hP : P = 32 := hP
    subst hP
    have := mul_mono h
    omega
  · obtain ⟨k, rfl⟩ : ∃ k, L = k + 7 := ⟨L - 7, by omega⟩
    have hb := pow_big2 k
    have hP2 : 2 ^ (k + 7) = 2 * P := by rw [hP, show k + 7 - 1 = k + 6 from by omega, show k + 7 = (k + 6) + 1 from by omega, Nat.pow_succ]; omega
    rw [hP2] at hb
    have hm := Nat.mul_le_mul_left P hb
    have hs := mul_mono (show P ≤ n + m by omega)
    have r1 : P * (162 * (k + 7) + 432) = 162 * (P * (k + 7)) + 432 * P := by grind
    have r2 : P * (16 * (2 * P)) = 32 * (P * P) := by grind
    omega
/-- A transform of two rows of one length. -/
theorem tf_six (n : Nat) (h : 32 ≤ n) : tf n n 3 ≤ 6 * (n * n) := by
  obtain ⟨L, P, hL, hP, p1, p2, e⟩ := tf_half n n (by omega)
  rw [e]
  by_cases h6 : L = 6
  · subst h6
    have hP : P = 32 := hP
    subst hP
    have := mul_mono h
    omega
  · obtain ⟨k, rfl⟩ : ∃ k, L = k + 7 := ⟨L - 7, by omega⟩
    have hb := pow_big k
    have hP2 : 2 ^ (k + 7) = 2 * P := by rw [hP, show k + 7 - 1 = k + 6 from by omega, show k + 7 = (k + 6) + 1 from by omega, Nat.pow_succ]; omega
    rw [hP2] at hb
    have hm := Nat.mul_le_mul_left P hb
    have hs := mul_mono (show P ≤ n + n by omega)
    have r1 : P * (36 * (k + 7) + 96) = 36 * (P * (k + 7)) + 96 * P := by grind
    have r2 : P * (3 * (2 * P)) = 6 * (P * P) := by grind
    have r3 : (n + n) * (n + n) = 4 * (n * n) := by grind
    omega

/-- What two rows of one length cost at most. -/
theorem cst_sq {B T N : Nat} (e : Ent B T N) : ∀ f n, n < f → cst B T N n n ≤ 6 * (n * n) ∧ (n ≤ 3 → cst B T N n n ≤ n * n) ∧ (n ≤ 5 → cst B T N n n ≤ 2 * (n * n))
  | 0, _, h => by omega
  | f + 1, n, hf => by
    have ih := fun n (h : n < f) => cst_sq e f n h
    have e1 := e.b1
    have e2 := e.t1
    have e3 := e.n1
    rcases rt_ways n n (Nat.le_refl _) e with ⟨r, h0⟩ | ⟨r, h0, h1⟩ | ⟨r, h0, h1⟩ | ⟨r, h0, h1⟩ | ⟨r, h0, h1, h2⟩ | ⟨r, h0, h1, h2, h3⟩
    · rw [cst_zero r]; omega
    · rw [cst_one r]; omega
    · omega
    · rw [cst_three e (Nat.le_refl _) r h0 h1]
      obtain ⟨a1, a2, a3⟩ := ih ((n + 1) / 2) (by omega)
      obtain ⟨b1, b2, b3⟩ := ih (n - (n + 1) / 2) (by omega)
      obtain ⟨c1, c2, c3⟩ := ih ((n + 1) / 2 + 1) (by omega)
      by_cases h5 : n ≤ 5
      · have h45 : n = 4 ∨ n = 5 := by omega
        rcases h45 with rfl | rfl
        · simp at a2 b2 c2 ⊢; omega
        · simp at a2 b2 c3 ⊢; omega
      · refine ⟨?_, by omega, by omega⟩
        by_cases h7 : n = 7
        · subst h7; simp at a3 b2 c3 ⊢; omega
        · by_cases hev : n % 2 = 0
          · obtain ⟨i, rfl⟩ : ∃ i, n = 2 * (i + 3) := ⟨n / 2 - 3, by omega⟩
            rw [show (2 * (i + 3) + 1) / 2 = i + 3 from by omega] at *
            rw [show 2 * (i + 3) - (i + 3) = i + 3 from by omega] at *
            have := sq_even i
            omega
          · obtain ⟨i, rfl⟩ : ∃ i, n = 2 * i + 9 := ⟨(n - 9) / 2, by omega⟩
            rw [show (2 * i + 9 + 1) / 2 = i + 5 from by omega] at *
            rw [show 2 * i + 9 - (i + 5) = i + 4 from by omega] at *
            have := sq_odd i
            omega
    · rw [cst_four e (Nat.le_refl _) r h0 h2]
      obtain ⟨a1, a2, a3⟩ := ih ((n + 2) / 3) (by omega)
      obtain ⟨b1, b2, b3⟩ := ih (n - 2 * ((n + 2) / 3)) (by omega)
      obtain ⟨c1, c2, c3⟩ := ih ((n + 2) / 3 + 1) (by omega)
      refine ⟨?_, by omega, by omega⟩
      have hmod : n % 3 = 0 ∨ n % 3 = 1 ∨ n % 3 = 2 := by omega
      rcases hmod with hm | hm | hm
      · obtain ⟨i, rfl⟩ : ∃ i, n = 3 * i + 9 := ⟨(n - 9) / 3, by omega⟩
        rw [show (3 * i + 9 + 2) / 3 = i + 3 from by omega] at *
        rw [show 3 * i + 9 - 2 * (i + 3) = i + 3 from by omega] at *
        have := sq_toom0 i
        omega
      · obtain ⟨i, rfl⟩ : ∃ i, n = 3 * i + 10 := ⟨(n - 10) / 3, by omega⟩
        rw [show (3 * i + 10 + 2) / 3 = i + 4 from by omega] at *
        rw [show 3 * i + 10 - 2 * (i + 4) = i + 2 from by omega] at *
        have := sq_toom2 i
        omega
      · obtain ⟨i, rfl⟩ : ∃ i, n = 3 * i + 8 := ⟨(n - 8) / 3, by omega⟩
        rw [show (3 * i + 8 + 2) / 3 = i + 3 from by omega] at *
        rw [show 3 * i + 8 - 2 * (i + 3) = i + 2 from by omega] at *
        have := sq_toom1 i
        omega
    · rw [cst_five r]
      exact ⟨tf_six n (by omega), by omega, by omega⟩

theorem kara_room (h n m : Nat) (hh : 4 ≤ h) (h1 : 2 * h - 1 ≤ n) (h2 : h + 1 ≤ m) (hn : h ≤ n) : 6 * (h * h) + 8 * ((n - h) * (m - h)) + 6 * ((h + 1) * (h + 1)) ≤ 8 * (n * m) := by
  obtain ⟨i, rfl⟩ : ∃ i, h = i + 4 := ⟨h - 4, by omega⟩
  obtain ⟨x, rfl⟩ : ∃ x, n = 2 * i + 7 + x := ⟨n - (2 * i + 7), by omega⟩
  obtain ⟨y, rfl⟩ : ∃ y, m = i + 5 + y := ⟨m - (i + 5), by omega⟩
  rw [show 2 * i + 7 + x - (i + 4) = i + 3 + x from by omega, show i + 5 + y - (i + 4) = y + 1 from by omega]
  have h1 := Nat.zero_le (i * i)
  have h2 := Nat.zero_le (i * x)
  have h3 := Nat.zero_le (i * y)
  have h4 := Nat.zero_le (x * y)
  grind
theorem toom_room (k n m : Nat) (hk : 3 ≤ k) (h1 : 3 * k - 2 ≤ n) (h2 : 2 * k + 1 ≤ m) (h3 : 2 * k ≤ n) : 6 * (k * k) + 3 * (6 * ((k + 1) * (k + 1))) + 8 * ((n - 2 * k) * (m - 2 * k)) ≤ 8 * (n * m) := by
  obtain ⟨i, rfl⟩ : ∃ i, k = i + 3 := ⟨k - 3, by omega⟩
  obtain ⟨x, rfl⟩ : ∃ x, n = 3 * i + 7 + x := ⟨n - (3 * i + 7), by omega⟩
  obtain ⟨y, rfl⟩ : ∃ y, m = 2 * i + 7 + y := ⟨m - (2 * i + 7), by omega⟩
  rw [show 3 * i + 7 + x - 2 * (i + 3) = i + 1 + x from by omega, show 2 * i + 7 + y - 2 * (i + 3) = y + 1 from by omega]
  have h1 := Nat.zero_le (i * i)
  have h2 := Nat.zero_le (i * x)
  have h3 := Nat.zero_le (i * y)
  have h4 := Nat.zero_le (x * y)
  grind

/-- P4.4: what a product costs at most. -/
theorem cst_le {B T N : Nat} (e : Ent B T N) : ∀ f n m, n < f → m ≤ n → cst B T N n m ≤ 8 * (n * m)
  | 0, _, _, h, _ => by omega
  | f + 1, n, m, hf, hm => by
    have ih := fun n m (h : n < f) (k : m ≤ n) => cst_le e f n m h k
    have sq := fun n => (cst_sq e (n + 1) n (by omega))
    have e1 := e.b1
    have e2 := e.t1
    have e3 := e.n1
    rcases rt_ways n m hm e with ⟨r, h0⟩ | ⟨r, h0, h1⟩ | ⟨r, h0, h1⟩ | ⟨r, h0, h1⟩ | ⟨r, h0, h1, h2⟩ | ⟨r, h0, h1, h2, h3⟩
    · rw [cst_zero r]; omega
    · rw [cst_one r]; omega
    · rw [cst_two e hm r h0 h1]
      have a := (sq m).1
      have b := ih m (n % m) (by omega) (by have := Nat.mod_lt n (show 0 < m by omega); omega)
      have c := Nat.mul_le_mul_left (n / m) a
      have d := Nat.div_add_mod n m
      have x : n * m = m * m * (n / m) + m * (n % m) := by
        have : n * m = (m * (n / m) + n % m) * m := by rw [d]
        rw [this]
        generalize n / m = q
        generalize n % m = r
        grind
      have y : n / m * (6 * (m * m)) = 6 * (m * m * (n / m)) := by grind
      rw [x]
      omega
    · rw [cst_three e hm r h0 h1]
      obtain ⟨a1, a2, a3⟩ := sq ((n + 1) / 2)
      obtain ⟨c1, c2, c3⟩ := sq ((n + 1) / 2 + 1)
      have b := ih (n - (n + 1) / 2) (m - (n + 1) / 2) (by omega) (by omega)
      by_cases hs : 4 ≤ (n + 1) / 2
      · have := kara_room ((n + 1) / 2) n m hs (by omega) (by omega) (by omega)
        omega
      · have hn : n = 4 ∨ n = 5 ∨ n = 6 := by omega
        have hm2 : m = 4 ∨ m = 5 ∨ m = 6 := by omega
        rcases hn with rfl | rfl | rfl <;> rcases hm2 with rfl | rfl | rfl <;> simp at a2 b c3 ⊢ <;> omega
    · rw [cst_four e hm r h0 h2]
      obtain ⟨a1, a2, a3⟩ := sq ((n + 2) / 3)
      obtain ⟨c1, c2, c3⟩ := sq ((n + 2) / 3 + 1)
      have b := ih (n - 2 * ((n + 2) / 3)) (m - 2 * ((n + 2) / 3)) (by omega) (by omega)
      have := toom_room ((n + 2) / 3) n m (by omega) (by omega) (by omega) (by omega)
      omega
    · rw [cst_five r]
      exact tf_eight n m hm (by omega) (by omega)

/-- A product of two rows that have words costs something. -/
theorem cst_pos {B T N : Nat} (e : Ent B T N) : ∀ f n m, n < f → m ≤ n → 0 < m → 0 < cst B T N n m
  | 0, _, _, h, _, _ => by omega
  | f + 1, n, m, hf, hm, h => by
    have ih := fun n m (h : n < f) (k : m ≤ n) (l : 0 < m) => cst_pos e f n m h k l
    have e1 := e.b1
    have e2 := e.t1
    rcases rt_ways n m hm e with ⟨r, h0⟩ | ⟨r, h0, h1⟩ | ⟨r, h0, h1⟩ | ⟨r, h0, h1⟩ | ⟨r, h0, h1, h2⟩ | ⟨r, h0, h1, h2, h3⟩
    · omega
    · rw [cst_one r]; exact Nat.mul_pos (by omega) h
    · rw [cst_two e hm r h0 h1]
      have a := ih m m (by omega) (by omega) (by omega)
      have b := Nat.mul_pos (Nat.div_pos hm h) a
      omega
    · rw [cst_three e hm r h0 h1]
      have := ih ((n + 1) / 2) ((n + 1) / 2) (by omega) (by omega) (by omega)
      omega
    · rw [cst_four e hm r h0 h2]
      have := ih ((n + 2) / 3) ((n + 2) / 3) (by omega) (by omega) (by omega)
      omega
    · rw [cst_five r]
      unfold tf tfL
      have := Nat.pow_pos (n := lg (n + m)) (show 0 < 2 by omega)
      omega
theorem cst_nought {B T N n : Nat} : cst B T N n 0 = 0 := cst_zero (by unfold rt; simp)

/-- A square costs at most what a product of two rows of one length does. -/
theorem sqt_le {B T N : Nat} (e : Ent B T N) : ∀ f n, n < f → sqt B T N n ≤ cst B T N n n
  | 0, _, h => by omega
  | f + 1, n, hf => by
    have ih := fun n (h : n < f) => sqt_le e f n h
    have e1 := e.b1
    have e2 := e.t1
    rcases rt_ways n n (Nat.le_refl _) e with ⟨r, h0⟩ | ⟨r, h0, h1⟩ | ⟨r, h0, h1⟩ | ⟨r, h0, h1⟩ | ⟨r, h0, h1, h2⟩ | ⟨r, h0, h1, h2, h3⟩
    · rw [sqt_zero (Or.inl r)]; omega
    · rw [cst_one r, sqt_one r]
      have : n * (n + 1) ≤ 2 * (n * n) := by
        have := Nat.mul_le_mul_left n (show n + 1 ≤ 2 * n by omega)
        have r : n * (2 * n) = 2 * (n * n) := by grind
        omega
      omega
    · omega
    · rw [cst_three e (Nat.le_refl _) r h0 h1, sqt_three e r h0]
      have a := ih ((n + 1) / 2) (by omega)
      have b := ih (n - (n + 1) / 2) (by omega)
      have c := ih ((n + 1) / 2 + 1) (by omega)
      omega
    · rw [cst_four e (Nat.le_refl _) r h0 h2, sqt_four e r h0]
      have a := ih ((n + 2) / 3) (by omega)
      have b := ih (n - 2 * ((n + 2) / 3)) (by omega)
      have c := ih ((n + 2) / 3 + 1) (by omega)
      omega
    · rw [cst_five r, sqt_five r]
      exact tf_ways n n
theorem sqt_eight {B T N : Nat} (e : Ent B T N) (n : Nat) : sqt B T N n ≤ 8 * (n * n) := Nat.le_trans (sqt_le e (n + 1) n (by omega)) (cst_le e (n + 1) n n (by omega) (Nat.le_refl _))

/-- Below Toom two rows of one length go by hand, or by three products. -/
theorem rt_below {B T N n : Nat} (e : Ent B T N) (hT : n < T) (hB : B ≤ n) : rt B T N n n = 3 := by
  have e1 := e.b1
  unfold rt
  rw [if_neg (by omega), if_neg (by omega), if_neg (by omega), if_pos hT]
theorem rt_hand {B T N n : Nat} (h0 : 0 < n) (hB : n < B) : rt B T N n n = 1 := by
  unfold rt
  rw [if_neg (by omega), if_pos hB]
/-- Three to the q times as much serves lengths that are 2 to the q times as great. -/
theorem kara_up {B T N c x : Nat} (e : Ent B T N) (h0 : ∀ n, n ≤ x + 3 → n < T → cst B T N n n ≤ c) (hx : B ≤ x + 4) : ∀ q n, n ≤ x * 2 ^ q + 3 → n < T → cst B T N n n ≤ c * 3 ^ q
  | 0, n, hn, hT => by simpa using h0 n (by simpa using hn) hT
  | q + 1, n, hn, hT => by
    have ih := kara_up e h0 hx q
    have hp := Nat.pow_pos (n := q) (show 0 < 2 by omega)
    have hp3 := Nat.pow_pos (n := q) (show 0 < 3 by omega)
    rw [Nat.pow_succ] at hn ⊢
    have r1 : x * (2 ^ q * 2) = 2 * (x * 2 ^ q) := by grind
    have r2 : c * (3 ^ q * 3) = 3 * (c * 3 ^ q) := by grind
    rw [r1] at hn
    rw [r2]
    by_cases hB : n < B
    · have h1 : n ≤ x * 2 ^ q + 3 := by
        have := Nat.mul_le_mul_left x hp
        omega
      have := ih n h1 hT
      omega
    · rw [cst_three e (Nat.le_refl _) (rt_below e hT (by omega)) (by omega) (by have := e.b1; omega)]
      have e1 := e.b1
      have a := ih ((n + 1) / 2) (by omega) (by omega)
      have b := ih (n - (n + 1) / 2) (by omega) (by omega)
      have d := ih ((n + 1) / 2 + 1) (by omega) (by omega)
      omega

/-- P4.4: below Toom a product of two rows of one length costs at most Base Base 3^L, L being n's binary digits. -/
theorem cst_kara {B T N : Nat} (e : Ent B T N) (n L : Nat) (hT : n < T) (hL : n < 2 ^ L) : cst B T N n n ≤ B * B * 3 ^ L := by
  have e1 := e.b1
  by_cases h4 : B = 4
  · subst h4
    by_cases hL0 : L = 0
    · subst hL0
      obtain rfl : n = 0 := by simpa using hL
      rw [cst_nought]
      omega
    · obtain ⟨q, rfl⟩ : ∃ q, L = q + 1 := ⟨L - 1, by omega⟩
      have h := kara_up (c := 48) (x := 2) e (fun n hn hnT => by
        have := (cst_sq e (n + 1) n (by omega))
        have hn5 : n ≤ 5 := by omega
        by_cases h5 : n = 5
        · subst h5
          rw [cst_three e (Nat.le_refl _) (rt_below e hnT (by omega)) (by omega) (by omega)]
          have a := (cst_sq e 4 3 (by omega)).2.1
          have b := (cst_sq e 3 2 (by omega)).2.1
          have d := (cst_sq e 5 4 (by omega)).2.2
          simp at a b d ⊢
          omega
        · have h44 := this.2.2 (by omega)
          have := mul_mono (show n ≤ 4 by omega)
          omega) (by omega) q n (by rw [Nat.pow_succ] at hL; omega) hT
      rw [Nat.pow_succ]
      omega
  · have h := kara_up (c := B * B) (x := B - 4) e (fun n hn hnT => by
        by_cases h0 : n = 0
        · subst h0; rw [cst_nought]; omega
        · rw [cst_one (rt_hand (by omega) (by omega))]
          exact mul_mono (by omega)) (by omega) L n (by have := Nat.mul_le_mul_right (2 ^ L) (show 1 ≤ B - 4 by omega); omega) hT
    exact h

end Go.Proofs.Ytdocljbmmaoenaa
