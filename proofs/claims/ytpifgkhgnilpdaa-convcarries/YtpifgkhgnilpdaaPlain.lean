/- Plain mathematics of naturals as rows of digits of 32 bits, the lowest first: their value, canonical rows, comparison. Nothing of any program here. -/
namespace Go.Proofs.Ytpifgkhgnilpdaa

/-- The number that a row of digits stands for. -/
def val : List Nat → Nat
  | [] => 0
  | d :: ds => d + 4294967296 * val ds

/-- Every digit is below the base. -/
def Dig (xs : List Nat) : Prop := ∀ j, xs.getD j 0 < 4294967296

/-- Digits, and no nought on top. -/
def Can (xs : List Nat) : Prop := Dig xs ∧ (0 < xs.length → 0 < xs.getD (xs.length - 1) 0)

theorem dig_nil : Dig [] := fun j => by simp
theorem can_nil : Can [] := ⟨dig_nil, fun h => absurd h (by simp)⟩

theorem getD_append (xs ys : List Nat) (j : Nat) : (xs ++ ys).getD j 0 = if j < xs.length then xs.getD j 0 else ys.getD (j - xs.length) 0 := by
  simp only [List.getD_eq_getElem?_getD, List.getElem?_append]
  split <;> rfl

theorem dig_snoc {xs : List Nat} {d : Nat} (h : Dig xs) (hd : d < 4294967296) : Dig (xs ++ [d]) := by
  intro j
  rw [getD_append]
  split
  · exact h j
  · generalize j - xs.length = k
    match k with
    | 0 => simpa using hd
    | k + 1 => simp

theorem dig_take {xs : List Nat} (h : Dig xs) (k : Nat) : Dig (xs.take k) := by
  intro j
  simp only [List.getD_eq_getElem?_getD, List.getElem?_take]
  split
  · have := h j; simpa [List.getD_eq_getElem?_getD] using this
  · simp

theorem val_append (xs ys : List Nat) : val (xs ++ ys) = val xs + 4294967296 ^ xs.length * val ys := by
  induction xs with
  | nil => simp [val]
  | cons d ds ih =>
    simp only [List.cons_append, val, ih, List.length_cons, Nat.pow_succ, Nat.mul_add]
    rw [Nat.mul_comm (4294967296 ^ ds.length) 4294967296, Nat.mul_assoc]
    omega

theorem val_snoc (xs : List Nat) (d : Nat) : val (xs ++ [d]) = val xs + 4294967296 ^ xs.length * d := by
  rw [val_append]; simp [val]

theorem getD_lt {xs : List Nat} {j : Nat} (h : j < xs.length) : xs.getD j 0 = xs[j] := by simp [List.getD_eq_getElem?_getD, h]
theorem getD_ge {xs : List Nat} {j : Nat} (h : xs.length ≤ j) : xs.getD j 0 = 0 := by simp [List.getD_eq_getElem?_getD, h]

theorem take_snoc (xs : List Nat) (k : Nat) (h : k < xs.length) : xs.take (k + 1) = xs.take k ++ [xs.getD k 0] := by
  rw [List.take_succ_eq_append_getElem h, getD_lt h]

theorem val_take_succ (xs : List Nat) (k : Nat) : val (xs.take (k + 1)) = val (xs.take k) + 4294967296 ^ k * xs.getD k 0 := by
  by_cases h : k < xs.length
  · rw [take_snoc xs k h, val_snoc, List.length_take, Nat.min_eq_left (by omega)]
  · rw [List.take_of_length_le (by omega), List.take_of_length_le (by omega), getD_ge (by omega)]; simp

theorem val_take_ge (xs : List Nat) (k : Nat) (h : xs.length ≤ k) : val (xs.take k) = val xs := by rw [List.take_of_length_le h]

theorem val_lt {xs : List Nat} (h : Dig xs) : ∀ k, val (xs.take k) < 4294967296 ^ k
  | 0 => by simp [val]
  | k + 1 => by
    rw [val_take_succ]
    have h1 := val_lt h k
    have h2 := h k
    have h3 : 4294967296 ^ k * xs.getD k 0 ≤ 4294967296 ^ k * 4294967295 := Nat.mul_le_mul_left _ (by omega)
    have h4 : 4294967296 ^ (k + 1) = 4294967296 ^ k * 4294967295 + 4294967296 ^ k := by rw [Nat.pow_succ, ← Nat.mul_succ]
    omega

theorem val_lt_pow {xs : List Nat} (h : Dig xs) : val xs < 4294967296 ^ xs.length := by
  have := val_lt h xs.length
  rwa [List.take_length] at this

theorem val_drop (xs : List Nat) (k : Nat) : val xs = val (xs.take k) + 4294967296 ^ k * val (xs.drop k) := by
  by_cases h : k ≤ xs.length
  · have := val_append (xs.take k) (xs.drop k)
    rw [List.take_append_drop, List.length_take, Nat.min_eq_left h] at this
    exact this
  · rw [List.take_of_length_le (by omega), List.drop_eq_nil_of_le (by omega)]; simp [val]

theorem val_ge {xs : List Nat} (h : Can xs) (hl : 0 < xs.length) : 4294967296 ^ (xs.length - 1) ≤ val xs := by
  have h1 := val_take_succ xs (xs.length - 1)
  rw [show xs.length - 1 + 1 = xs.length from by omega, List.take_length] at h1
  have h2 := h.2 hl
  have h3 : 4294967296 ^ (xs.length - 1) * 1 ≤ 4294967296 ^ (xs.length - 1) * xs.getD (xs.length - 1) 0 := Nat.mul_le_mul_left _ (by omega)
  omega

theorem len_lt {xs ys : List Nat} (hx : Dig xs) (hy : Can ys) (h : xs.length < ys.length) : val xs < val ys := by
  have h1 := val_lt_pow hx
  have h2 := val_ge hy (by omega)
  have h3 : 4294967296 ^ xs.length ≤ 4294967296 ^ (ys.length - 1) := Nat.pow_le_pow_right (by omega) (by omega)
  omega

/-- Digits above place i are the same, the digit at i is less: the number is less. -/
theorem dig_below {xs ys : List Nat} (hx : Dig xs) (i : Nat) (hd : xs.drop (i + 1) = ys.drop (i + 1)) (h : xs.getD i 0 < ys.getD i 0) : val xs < val ys := by
  have h1 := val_drop xs (i + 1)
  have h2 := val_drop ys (i + 1)
  rw [val_take_succ] at h1 h2
  have h3 := val_lt hx i
  have h4 : 4294967296 ^ i * (xs.getD i 0 + 1) ≤ 4294967296 ^ i * ys.getD i 0 := Nat.mul_le_mul_left _ (by omega)
  rw [Nat.mul_succ] at h4
  rw [hd] at h1
  omega

theorem drop_step {xs ys : List Nat} (i : Nat) (hi : i < xs.length) (hl : xs.length = ys.length) (hd : xs.drop (i + 1) = ys.drop (i + 1)) (h : xs.getD i 0 = ys.getD i 0) : xs.drop i = ys.drop i := by
  have hj : i < ys.length := by omega
  rw [List.drop_eq_getElem_cons hi, List.drop_eq_getElem_cons hj, hd]
  rw [getD_lt hi, getD_lt hj] at h
  rw [h]

/-- How two numbers stand to each other, as Cmp tells it. -/
def cmpN (m n : Nat) : Int := if m < n then -1 else if n < m then 1 else 0
theorem cmpN_lt {m n : Nat} (h : m < n) : cmpN m n = -1 := by unfold cmpN; rw [if_pos h]
theorem cmpN_gt {m n : Nat} (h : n < m) : cmpN m n = 1 := by unfold cmpN; rw [if_neg (by omega), if_pos h]
theorem cmpN_eq {m n : Nat} (h : m = n) : cmpN m n = 0 := by unfold cmpN; rw [if_neg (by omega), if_neg (by omega)]
theorem cmpN_range (m n : Nat) : -1 ≤ cmpN m n ∧ cmpN m n ≤ 1 := by unfold cmpN; split <;> (try split) <;> omega

theorem can_unique {xs ys : List Nat} (hx : Can xs) (hy : Can ys) (h : val xs = val ys) : xs = ys := by
  have hl : xs.length = ys.length := by
    rcases Nat.lt_trichotomy xs.length ys.length with l | l | l
    · have := len_lt hx.1 hy l; omega
    · exact l
    · have := len_lt hy.1 hx l; omega
  have key : ∀ k, k ≤ xs.length → xs.drop (xs.length - k) = ys.drop (xs.length - k) := by
    intro k
    induction k with
    | zero => intro _; rw [Nat.sub_zero, List.drop_eq_nil_of_le (Nat.le_refl _), List.drop_eq_nil_of_le (by omega)]
    | succ k ih =>
      intro hk
      have ih := ih (by omega)
      have e : xs.length - k = xs.length - (k + 1) + 1 := by omega
      rw [e] at ih
      refine drop_step _ (by omega) hl ih ?_
      rcases Nat.lt_trichotomy (xs.getD (xs.length - (k + 1)) 0) (ys.getD (xs.length - (k + 1)) 0) with l | l | l
      · have := dig_below hx.1 _ ih l; omega
      · exact l
      · have := dig_below hy.1 _ ih.symm l; omega
  have := key xs.length (Nat.le_refl _)
  simpa using this

/-- The length without noughts on top: what norm cuts to. -/
def nlen (xs : List Nat) : Nat → Nat
  | 0 => 0
  | k + 1 => if xs.getD k 0 = 0 then nlen xs k else k + 1
theorem nlen_le (xs : List Nat) : ∀ k, nlen xs k ≤ k
  | 0 => Nat.le_refl _
  | k + 1 => by unfold nlen; split; (have := nlen_le xs k; omega); omega
theorem nlen_val (xs : List Nat) : ∀ k, val (xs.take (nlen xs k)) = val (xs.take k)
  | 0 => rfl
  | k + 1 => by
    unfold nlen; split
    · rename_i h; rw [nlen_val xs k, val_take_succ, h]; simp
    · rfl
theorem nlen_top (xs : List Nat) : ∀ k, 0 < nlen xs k → 0 < xs.getD (nlen xs k - 1) 0
  | 0 => fun h => absurd h (by simp [nlen])
  | k + 1 => by
    unfold nlen; split
    · exact nlen_top xs k
    · rename_i h; intro _; simp only [Nat.add_sub_cancel]; omega
def nrm (xs : List Nat) : List Nat := xs.take (nlen xs xs.length)
theorem nrm_length (xs : List Nat) : (nrm xs).length = nlen xs xs.length := by
  have := nlen_le xs xs.length
  simp [nrm]; omega
theorem nrm_val (xs : List Nat) : val (nrm xs) = val xs := by
  have := nlen_val xs xs.length
  rw [List.take_length] at this; exact this
theorem nrm_can {xs : List Nat} (h : Dig xs) : Can (nrm xs) := by
  refine ⟨dig_take h _, fun hl => ?_⟩
  rw [nrm_length] at hl ⊢
  have h1 := nlen_top xs xs.length hl
  unfold nrm
  rw [List.getD_eq_getElem?_getD, List.getElem?_take, if_pos (by omega)]
  rwa [List.getD_eq_getElem?_getD] at h1

/-- A small number has few digits. -/
theorem len_le {xs : List Nat} (h : Can xs) {L : Nat} (hv : val xs < 4294967296 ^ L) : xs.length ≤ L := by
  refine Nat.le_of_not_lt fun hl => ?_
  have h1 := val_ge h (by omega)
  have h2 : 4294967296 ^ L ≤ 4294967296 ^ (xs.length - 1) := Nat.pow_le_pow_right (by omega) (by omega)
  omega

end Go.Proofs.Ytpifgkhgnilpdaa
