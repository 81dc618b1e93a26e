/- The pieces of a product, in plain numbers: what they cost together, and how many of them are remembered. -/
import Derived.Test.YtpaeihaiaegoeabTBound
namespace Go.Proofs.Ytpaeihaiaegoeab

/-- The i-th piece that a way needs: how long, how long, how often. -/
def pN (way n m i : Nat) : Nat :=
  if way = 2 then m
  else if way = 3 then (if i = 0 then (n + 1) / 2 else if i = 1 then n - (n + 1) / 2 else (n + 1) / 2 + 1)
  else (if i = 0 then (n + 2) / 3 else if i = 1 then (n + 2) / 3 + 1 else n - 2 * ((n + 2) / 3))
def pM (way n m i : Nat) : Nat :=
  if way = 2 then (if i = 0 then m else n % m)
  else if way = 3 then (if i = 0 then (n + 1) / 2 else if i = 1 then m - (n + 1) / 2 else (n + 1) / 2 + 1)
  else (if i = 0 then (n + 2) / 3 else if i = 1 then (n + 2) / 3 + 1 else m - 2 * ((n + 2) / 3))
def pT (way n m i : Nat) : Nat :=
  if way = 2 then (if i = 0 then n / m else 1)
  else if way = 3 then 1
  else (if i = 1 then 3 else 1)
/-- How many pieces. -/
def pK (way : Nat) : Nat := if way = 2 then 2 else 3

/-- What a product or, where both are one, a square costs. -/
def vq (q : Bool) (B T N n m : Nat) : Nat := if q then sqt B T N n else cst B T N n m

/-- What the first k pieces cost. -/
def pS (q : Bool) (B T N way n m : Nat) : Nat → Nat
  | 0 => 0
  | k + 1 => pS q B T N way n m k + pT way n m k * vq q B T N (pN way n m k) (pM way n m k)

/-- How many products of such lengths are remembered at most. -/
def st (n : Nat) : Nat := if n < 4 then 0 else n * n
/-- .. of the first k pieces. -/
def pR (way n m : Nat) : Nat → Nat
  | 0 => 0
  | k + 1 => pR way n m k + st (pN way n m k)

/-- What is known of the pieces of a way that needs some. -/
structure Way (q : Bool) (B T N way n m : Nat) : Prop where
  lt : ∀ i, i < pK way → pN way n m i < n
  le : ∀ i, i < pK way → pM way n m i ≤ pN way n m i
  sq : q = true → ∀ i, i < pK way → pN way n m i = pM way n m i
  sum : pS q B T N way n m (pK way) = vq q B T N n m
  room : pR way n m (pK way) + 1 ≤ st n
  times : ∀ i, i < pK way → pT way n m i ≤ n

theorem st_two (n m : Nat) (h1 : 4 ≤ m) (h2 : 2 * m ≤ n + 1) : 0 + m * m + m * m + 1 ≤ n * n := by
  obtain ⟨i, rfl⟩ : ∃ i, n = 2 * m - 1 + i := ⟨n - (2 * m - 1), by omega⟩
  obtain ⟨j, rfl⟩ : ∃ j, m = j + 4 := ⟨m - 4, by omega⟩
  rw [show 2 * (j + 4) - 1 + i = 2 * j + 7 + i from by omega]
  grind
theorem sq3_even (i : Nat) : (i + 3) * (i + 3) + (i + 3) * (i + 3) + (i + 3 + 1) * (i + 3 + 1) + 1 ≤ (2 * (i + 3)) * (2 * (i + 3)) := by grind
theorem sq3_odd (i : Nat) : (i + 5) * (i + 5) + (i + 4) * (i + 4) + (i + 5 + 1) * (i + 5 + 1) + 1 ≤ (2 * i + 9) * (2 * i + 9) := by grind
theorem st_le (n : Nat) : st n ≤ n * n := by unfold st; split <;> omega
theorem st_ge (n : Nat) (h : 4 ≤ n) : st n = n * n := by unfold st; rw [if_neg (by omega)]
theorem st_small (n : Nat) (h : n < 4) : st n = 0 := by unfold st; rw [if_pos h]

theorem room_three (n : Nat) (h : 4 ≤ n) : 0 + st ((n + 1) / 2) + st (n - (n + 1) / 2) + st ((n + 1) / 2 + 1) + 1 ≤ st n := by
  rw [st_ge n h]
  by_cases h7 : n ≤ 7
  · have : n = 4 ∨ n = 5 ∨ n = 6 ∨ n = 7 := by omega
    rcases this with rfl | rfl | rfl | rfl <;> decide
  · have a := st_le ((n + 1) / 2)
    have b := st_le (n - (n + 1) / 2)
    have c := st_le ((n + 1) / 2 + 1)
    by_cases hev : n % 2 = 0
    · obtain ⟨i, rfl⟩ : ∃ i, n = 2 * (i + 3) := ⟨n / 2 - 3, by omega⟩
      have := sq3_even i
      rw [show (2 * (i + 3) + 1) / 2 = i + 3 from by omega, show 2 * (i + 3) - (i + 3) = i + 3 from by omega] at *
      omega
    · obtain ⟨i, rfl⟩ : ∃ i, n = 2 * i + 9 := ⟨(n - 9) / 2, by omega⟩
      have := sq3_odd i
      rw [show (2 * i + 9 + 1) / 2 = i + 5 from by omega, show 2 * i + 9 - (i + 5) = i + 4 from by omega] at *
      omega
theorem room_four (n : Nat) (h : 12 ≤ n) : 0 + st ((n + 2) / 3) + st ((n + 2) / 3 + 1) + st (n - 2 * ((n + 2) / 3)) + 1 ≤ st n := by
  rw [st_ge n (by omega)]
  have a := st_le ((n + 2) / 3)
  have b := st_le ((n + 2) / 3 + 1)
  have c := st_le (n - 2 * ((n + 2) / 3))
  have hd : n = 3 * ((n + 2) / 3) ∨ n + 1 = 3 * ((n + 2) / 3) ∨ n + 2 = 3 * ((n + 2) / 3) := by omega
  generalize (n + 2) / 3 = k at *
  have c2 : (n - 2 * k) * (n - 2 * k) ≤ k * k := Nat.mul_le_mul (by omega) (by omega)
  obtain ⟨j, rfl⟩ : ∃ j, k = j + 4 := ⟨k - 4, by omega⟩
  have e : (3 * j + 10) * (3 * j + 10) ≤ n * n := Nat.mul_le_mul (by omega) (by omega)
  have e2 : (j + 4) * (j + 4) + (j + 4 + 1) * (j + 4 + 1) + (j + 4) * (j + 4) + 1 ≤ (3 * j + 10) * (3 * j + 10) := by grind
  omega

theorem way_two {B T N n m : Nat} (e : Ent B T N) (hm : m ≤ n) (r : rt B T N n m = 2) (h1 : B ≤ m) (h2 : 2 * m ≤ n + 1) : Way false B T N 2 n m := by
  have e1 := e.b1
  have hmod := Nat.mod_lt n (show 0 < m by omega)
  refine ⟨fun i hi => ?_, fun i hi => ?_, (by intro h; cases h), ?_, ?_, fun i hi => ?_⟩
  · simp [pN]; omega
  · simp only [pK, if_true] at hi
    have : i = 0 ∨ i = 1 := by omega
    rcases this with rfl | rfl <;> simp [pN, pM]
    omega
  · simp [pK, pS, pT, pN, pM, vq, cst_two e hm r h1 h2]
  · simp only [pK, if_true, pR, pN]
    have := st_two n m (by omega) h2
    rw [st_ge n (by omega), st_ge m (by omega)]
    omega
  · simp only [pK, if_true] at hi
    have : i = 0 ∨ i = 1 := by omega
    have hd := Nat.div_le_self n m
    rcases this with rfl | rfl <;> simp [pT] <;> omega
theorem way_three {q : Bool} {B T N n m : Nat} (e : Ent B T N) (hm : m ≤ n) (r : rt B T N n m = 3) (h1 : B ≤ m) (h2 : n + 1 < 2 * m) (hq : q = true → n = m) : Way q B T N 3 n m := by
  have e1 := e.b1
  refine ⟨fun i hi => ?_, fun i hi => ?_, fun hh i hi => ?_, ?_, ?_, fun i hi => ?_⟩
  · simp only [pK, Nat.reduceEqDiff, if_false] at hi
    have : i = 0 ∨ i = 1 ∨ i = 2 := by omega
    rcases this with rfl | rfl | rfl <;> simp [pN] <;> omega
  · simp only [pK, Nat.reduceEqDiff, if_false] at hi
    have : i = 0 ∨ i = 1 ∨ i = 2 := by omega
    rcases this with rfl | rfl | rfl <;> simp [pN, pM]
    omega
  · obtain rfl := hq hh
    simp [pN, pM]
  · cases q
    · simp [pK, pS, pT, pN, pM, vq, cst_three e hm r h1 h2]
    · obtain rfl := hq rfl
      simp [pK, pS, pT, pN, vq, sqt_three e r h1]
  · exact room_three n (by omega)
  · simp [pT]; omega
theorem way_four {q : Bool} {B T N n m : Nat} (e : Ent B T N) (hm : m ≤ n) (r : rt B T N n m = 4) (h1 : T ≤ m) (h2 : 2 * ((n + 2) / 3) < m) (hq : q = true → n = m) : Way q B T N 4 n m := by
  have e1 := e.t1
  refine ⟨fun i hi => ?_, fun i hi => ?_, fun hh i hi => ?_, ?_, ?_, fun i hi => ?_⟩
  · simp only [pK, Nat.reduceEqDiff, if_false] at hi
    have : i = 0 ∨ i = 1 ∨ i = 2 := by omega
    rcases this with rfl | rfl | rfl <;> simp [pN] <;> omega
  · simp only [pK, Nat.reduceEqDiff, if_false] at hi
    have : i = 0 ∨ i = 1 ∨ i = 2 := by omega
    rcases this with rfl | rfl | rfl <;> simp [pN, pM]
    omega
  · obtain rfl := hq hh
    simp [pN, pM]
  · cases q
    · simp [pK, pS, pT, pN, pM, vq, cst_four e hm r h1 h2]
    · obtain rfl := hq rfl
      simp [pK, pS, pT, pN, vq, sqt_four e r h1]
  · exact room_four n (by omega)
  · simp only [pT, Nat.reduceEqDiff, if_false]; split <;> omega

/-- What a product costs, within a number that an int holds. -/
theorem vq_le {q : Bool} {B T N n m : Nat} (e : Ent B T N) (hm : m ≤ n) (hq : q = true → n = m) : vq q B T N n m ≤ 8 * (n * m) := by
  cases q
  · exact cst_le e (n + 1) n m (by omega) hm
  · obtain rfl := hq rfl
    exact sqt_eight e n
theorem pS_mono {q : Bool} {B T N way n m : Nat} : ∀ j i, i ≤ j → pS q B T N way n m i ≤ pS q B T N way n m j
  | 0, i, h => by rw [show i = 0 from by omega]; exact Nat.le_refl _
  | j + 1, i, h => by
    by_cases hij : i = j + 1
    · rw [hij]; exact Nat.le_refl _
    · have := pS_mono (q := q) (B := B) (T := T) (N := N) (way := way) (n := n) (m := m) j i (by omega)
      show _ ≤ pS q B T N way n m j + _
      omega
theorem pR_mono {way n m : Nat} : ∀ j i, i ≤ j → pR way n m i ≤ pR way n m j
  | 0, i, h => by rw [show i = 0 from by omega]; exact Nat.le_refl _
  | j + 1, i, h => by
    by_cases hij : i = j + 1
    · rw [hij]; exact Nat.le_refl _
    · have := pR_mono (way := way) (n := n) (m := m) j i (by omega)
      show _ ≤ pR way n m j + _
      omega

end Go.Proofs.Ytpaeihaiaegoeab
