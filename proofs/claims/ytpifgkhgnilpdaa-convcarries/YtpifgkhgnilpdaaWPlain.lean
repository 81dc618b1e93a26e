/- Plain mathematics of naturals as rows of words of 64 bits, the lowest first. Nothing of any program here. -/
import Derived.Test.YtpifgkhgnilpdaaMul
namespace Go.Proofs.Ytpifgkhgnilpdaa

/-- Every word is below the base. -/
def WDig (xs : List Nat) : Prop := ∀ j, xs.getD j 0 < 18446744073709551616

/-- Words, and no nought on top. -/
def WCan (xs : List Nat) : Prop := WDig xs ∧ (0 < xs.length → 0 < xs.getD (xs.length - 1) 0)

theorem wDig_nil : WDig [] := fun j => by simp
theorem wCan_nil : WCan [] := ⟨wDig_nil, fun h => absurd h (by simp)⟩

theorem wDig_snoc {xs : List Nat} {d : Nat} (h : WDig xs) (hd : d < 18446744073709551616) : WDig (xs ++ [d]) := by
  intro j
  rw [getD_append]
  split
  · exact h j
  · generalize j - xs.length = k
    match k with
    | 0 => simpa using hd
    | k + 1 => simp

theorem wDig_take {xs : List Nat} (h : WDig xs) (k : Nat) : WDig (xs.take k) := by
  intro j
  simp only [List.getD_eq_getElem?_getD, List.getElem?_take]
  split
  · have := h j; simpa [List.getD_eq_getElem?_getD] using this
  · simp

theorem wval_append (xs ys : List Nat) : wval (xs ++ ys) = wval xs + 18446744073709551616 ^ xs.length * wval ys := by
  induction xs with
  | nil => simp [wval]
  | cons d ds ih =>
    simp only [List.cons_append, wval, ih, List.length_cons, Nat.pow_succ, Nat.mul_add]
    rw [Nat.mul_comm (18446744073709551616 ^ ds.length) 18446744073709551616, Nat.mul_assoc]
    omega

theorem wval_snoc (xs : List Nat) (d : Nat) : wval (xs ++ [d]) = wval xs + 18446744073709551616 ^ xs.length * d := by
  rw [wval_append]; simp [wval]

theorem wval_take_succ (xs : List Nat) (k : Nat) : wval (xs.take (k + 1)) = wval (xs.take k) + 18446744073709551616 ^ k * xs.getD k 0 := by
  by_cases h : k < xs.length
  · rw [take_snoc xs k h, wval_snoc, List.length_take, Nat.min_eq_left (by omega)]
  · rw [List.take_of_length_le (by omega), List.take_of_length_le (by omega), getD_ge (by omega)]; simp

theorem wval_take_ge (xs : List Nat) (k : Nat) (h : xs.length ≤ k) : wval (xs.take k) = wval xs := by rw [List.take_of_length_le h]

theorem wval_lt {xs : List Nat} (h : WDig xs) : ∀ k, wval (xs.take k) < 18446744073709551616 ^ k
  | 0 => by simp [wval]
  | k + 1 => by
    rw [wval_take_succ]
    have h1 := wval_lt h k
    have h2 := h k
    have h3 : 18446744073709551616 ^ k * xs.getD k 0 ≤ 18446744073709551616 ^ k * 18446744073709551615 := Nat.mul_le_mul_left _ (by omega)
    have h4 : 18446744073709551616 ^ (k + 1) = 18446744073709551616 ^ k * 18446744073709551615 + 18446744073709551616 ^ k := by rw [Nat.pow_succ, ← Nat.mul_succ]
    omega

theorem wval_lt_pow {xs : List Nat} (h : WDig xs) : wval xs < 18446744073709551616 ^ xs.length := by
  have := wval_lt h xs.length
  rwa [List.take_length] at this

theorem wval_drop (xs : List Nat) (k : Nat) : wval xs = wval (xs.take k) + 18446744073709551616 ^ k * wval (xs.drop k) := by
  by_cases h : k ≤ xs.length
  · have := wval_append (xs.take k) (xs.drop k)
    rw [List.take_append_drop, List.length_take, Nat.min_eq_left h] at this
    exact this
  · rw [List.take_of_length_le (by omega), List.drop_eq_nil_of_le (by omega)]; simp [wval]

theorem wval_ge {xs : List Nat} (h : WCan xs) (hl : 0 < xs.length) : 18446744073709551616 ^ (xs.length - 1) ≤ wval xs := by
  have h1 := wval_take_succ xs (xs.length - 1)
  rw [show xs.length - 1 + 1 = xs.length from by omega, List.take_length] at h1
  have h2 := h.2 hl
  have h3 : 18446744073709551616 ^ (xs.length - 1) * 1 ≤ 18446744073709551616 ^ (xs.length - 1) * xs.getD (xs.length - 1) 0 := Nat.mul_le_mul_left _ (by omega)
  omega

theorem wlen_lt {xs ys : List Nat} (hx : WDig xs) (hy : WCan ys) (h : xs.length < ys.length) : wval xs < wval ys := by
  have h1 := wval_lt_pow hx
  have h2 := wval_ge hy (by omega)
  have h3 : 18446744073709551616 ^ xs.length ≤ 18446744073709551616 ^ (ys.length - 1) := Nat.pow_le_pow_right (by omega) (by omega)
  omega

/-- Digits above place i are the same, the digit at i is less: the number is less. -/
theorem wDig_below {xs ys : List Nat} (hx : WDig xs) (i : Nat) (hd : xs.drop (i + 1) = ys.drop (i + 1)) (h : xs.getD i 0 < ys.getD i 0) : wval xs < wval ys := by
  have h1 := wval_drop xs (i + 1)
  have h2 := wval_drop ys (i + 1)
  rw [wval_take_succ] at h1 h2
  have h3 := wval_lt hx i
  have h4 : 18446744073709551616 ^ i * (xs.getD i 0 + 1) ≤ 18446744073709551616 ^ i * ys.getD i 0 := Nat.mul_le_mul_left _ (by omega)
  rw [Nat.mul_succ] at h4
  rw [hd] at h1
  omega

theorem wCan_unique {xs ys : List Nat} (hx : WCan xs) (hy : WCan ys) (h : wval xs = wval ys) : xs = ys := by
  have hl : xs.length = ys.length := by
    rcases Nat.lt_trichotomy xs.length ys.length with l | l | l
    · have := wlen_lt hx.1 hy l; omega
    · exact l
    · have := wlen_lt hy.1 hx l; omega
  have key : ∀ k, k ≤ xs.length → xs.drop (xs.length - k) = ys.drop (xs.length - k) := by
    intro k
    induction k with
    | zero => intro _; rw [Nat.sub_zero, List.drop_eq_nil_of_le (Nat.le_refl _), List.drop_eq_nil_of_le (by omega)]
    | succ k ih =>
      intro hk
      have ih := ih (by omega)
      have e : xs.length - k = xs.length - (k + 1) + 1 := by omega
      rw [e] at ih
      refine drop_step _ (by omega) hl ih ?_
      rcases Nat.lt_trichotomy (xs.getD (xs.length - (k + 1)) 0) (ys.getD (xs.length - (k + 1)) 0) with l | l | l
      · have := wDig_below hx.1 _ ih l; omega
      · exact l
      · have := wDig_below hy.1 _ ih.symm l; omega
  have := key xs.length (Nat.le_refl _)
  simpa using this

theorem nlen_wval (xs : List Nat) : ∀ k, wval (xs.take (nlen xs k)) = wval (xs.take k)
  | 0 => rfl
  | k + 1 => by
    unfold nlen; split
    · rename_i h; rw [nlen_wval xs k, wval_take_succ, h]; simp
    · rfl
theorem nrm_wval (xs : List Nat) : wval (nrm xs) = wval xs := by
  have := nlen_wval xs xs.length
  rw [List.take_length] at this; exact this
theorem nrm_wcan {xs : List Nat} (h : WDig xs) : WCan (nrm xs) := by
  refine ⟨wDig_take h _, fun hl => ?_⟩
  rw [nrm_length] at hl ⊢
  have h1 := nlen_top xs xs.length hl
  unfold nrm
  rw [List.getD_eq_getElem?_getD, List.getElem?_take, if_pos (by omega)]
  rwa [List.getD_eq_getElem?_getD] at h1

/-- A small number has few digits. -/
theorem wlen_le {xs : List Nat} (h : WCan xs) {L : Nat} (hv : wval xs < 18446744073709551616 ^ L) : xs.length ≤ L := by
  refine Nat.le_of_not_lt fun hl => ?_
  have h1 := wval_ge h (by omega)
  have h2 : 18446744073709551616 ^ L ≤ 18446744073709551616 ^ (xs.length - 1) := Nat.pow_le_pow_right (by omega) (by omega)
  omega

theorem wDig_set {xs : List Nat} {k d : Nat} (h : WDig xs) (hk : k < xs.length) (hd : d < 18446744073709551616) : WDig (xs.set k d) := by
  intro j
  rw [getD_set xs k j d hk]
  split
  · exact hd
  · exact h j

theorem wval_set : ∀ (xs : List Nat) (k d : Nat), k < xs.length → wval (xs.set k d) + 18446744073709551616 ^ k * xs.getD k 0 = wval xs + 18446744073709551616 ^ k * d
  | [], k, d, h => absurd h (by simp)
  | x :: xs, 0, d, _ => by simp [wval]; omega
  | x :: xs, k + 1, d, h => by
    have ih := wval_set xs k d (by simpa using h)
    simp only [List.set_cons_succ, wval, List.getD_cons_succ, Nat.pow_succ]
    rw [Nat.mul_comm (18446744073709551616 ^ k) 18446744073709551616, Nat.mul_assoc, Nat.mul_assoc]
    omega


theorem wzeros (n : Nat) : WDig (List.replicate n 0) ∧ wval (List.replicate n 0) = 0 := by
  constructor
  · intro j
    have : (List.replicate n 0).getD j 0 = 0 := by
      simp only [List.getD_eq_getElem?_getD, List.getElem?_replicate]; split <;> rfl
    omega
  · induction n with
    | zero => rfl
    | succ k ih => rw [List.replicate_succ, wval, ih]

theorem wval_one (x : Nat) : wval [x] = x := by simp [wval]
theorem wDig_one {x : Nat} (h : x < 18446744073709551616) : WDig [x] := fun j => by
  match j with
  | 0 => simpa using h
  | j + 1 => simp
theorem wDig_append {xs ys : List Nat} (h : WDig xs) (k : WDig ys) : WDig (xs ++ ys) := by
  intro j; rw [getD_append]; split
  · exact h j
  · exact k _
theorem wDig_drop {xs : List Nat} (h : WDig xs) (k : Nat) : WDig (xs.drop k) := by
  intro j
  have e : (xs.drop k).getD j 0 = xs.getD (k + j) 0 := by simp [List.getD_eq_getElem?_getD]
  rw [e]; exact h _
theorem wDig_mem {xs : List Nat} (h : WDig xs) : ∀ x ∈ xs, x < 18446744073709551616 := by
  intro x hx
  obtain ⟨j, hj, rfl⟩ := List.getElem_of_mem hx
  have := h j
  rwa [getD_lt hj] at this

/-- B to the p, of words and of digits. -/
theorem wpow (p : Nat) : 18446744073709551616 ^ p = 4294967296 ^ (2 * p) := by
  rw [Nat.pow_mul]
theorem wpow_pos (p : Nat) : 0 < 18446744073709551616 ^ p := Nat.pow_pos (by omega)
theorem pow_sum {m n p : Nat} (hm : m < 18446744073709551616 ^ p) (hn : n < 18446744073709551616 ^ p) : m + n < 18446744073709551616 ^ (p + 1) := by
  rw [Nat.pow_succ]; omega
theorem pow_times {m p x : Nat} (hm : m < 18446744073709551616 ^ p) (hx : x < 18446744073709551616) : m * x < 18446744073709551616 ^ (p + 1) := by
  rw [Nat.pow_succ]
  exact Nat.mul_lt_mul_of_lt_of_le hm (by omega) (by omega)
theorem pow_up {m p q : Nat} (hm : m < 18446744073709551616 ^ p) (h : p ≤ q) : m < 18446744073709551616 ^ q := Nat.lt_of_lt_of_le hm (Nat.pow_le_pow_right (by omega) h)

end Go.Proofs.Ytpifgkhgnilpdaa
