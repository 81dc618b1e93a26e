/- Plain mathematics of naturals as rows of digits of 32 bits, the lowest first: their value, canonical rows, comparison. Nothing of any program here. -/
namespace Go.Proofs.Ytpifgkhgnilpdaa

/-- The number that a row of digits stands for. -/
def val : List Nat → Nat
  | [] => 0
  | d :: ds => d + 4294967296 * val ds

/-- Every digit is below the base. -/
def Dig (xs : List Nat) : Prop := ∀ j, xs.getD j 0 < 4294967296

/-- Digits, and no nought on top. -/
def Can (xs : List Nat) : Prop := Dig xs ∧ (0 < xs.length → 0 < xs.getD (xs.length - 1) 0)

theorem dig_nil : Dig [] := fun j => by simp
theorem can_nil : Can [] := ⟨dig_nil, fun h => absurd h (by simp)⟩

theorem getD_append (xs ys : List Nat) (j : Nat) : (xs ++ ys).getD j 0 = if j < xs.length then xs.getD j 0 else ys.getD (j - xs.length) 0 := by
  simp only [List.getD_eq_getElem?_getD, List.getElem?_append]
  split <;> rfl

theorem dig_snoc {xs : List Nat} {d : Nat} (h : Dig xs) (hd : d < 4294967296) : Dig (xs ++ [d]) := by
  intro j
  rw [getD_append]
  split
  · exact h j
  · generalize j - xs.length = k
    match k with
    | 0 => simpa using hd
    | k + 1 => simp

theorem dig_take {xs : List Nat} (h : Dig xs) (k : Nat) : Dig (xs.take k) := by
  intro j
  simp only [List.getD_eq_getElem?_getD, List.getElem?_take]
  split
  · have := h j; simpa [List.getD_eq_getElem?_getD] using this
  · simp

theorem val_append (xs ys : List Nat) : val (xs ++ ys) = val xs + 4294967296 ^ xs.length * val ys := by
  induction xs with
  | nil => simp [val]
  | cons d ds ih =>
    simp only [List.cons_append, val, ih, List.length_cons, Nat.pow_succ, Nat.mul_add]
    rw [Nat.mul_comm (4294967296 ^ ds.length) 4294967296, Nat.mul_assoc]
    omega

theorem val_snoc (xs : List Nat) (d : Nat) : val (xs ++ [d]) = val xs + 4294967296 ^ xs.length * d := by
  rw [val_append]; simp [val]

theorem getD_lt {xs : List Nat} {j : Nat} (h : j < xs.length) : xs.getD j 0 = xs[j] := by simp [List.getD_eq_getElem?_getD, h]
theorem getD_ge {xs : List Nat} {j : Nat} (h : xs.length ≤ j) : xs.getD j 0 = 0 := by simp [List.getD_eq_getElem?_getD, h]

theorem take_snoc (xs : List Nat) (k : Nat) (h : k < xs.length) : xs.take (k + 1) = xs.take k ++ [xs.getD k 0] := by
  rw [List.take_succ_eq_append_getElem h, getD_lt h]

theorem val_take_succ (xs : List Nat) (k : Nat) : val (xs.take (k + 1)) = val (xs.take k) + 4294967296 ^ k * xs.getD k 0 := by
  by_cases h : k < xs.length
  · rw [take_snoc xs k h, val_snoc, List.length_take, Nat.min_eq_left (by omega)]
  · rw [List.take_of_length_le (by omega), List.take_of_length_le (by omega), getD_ge (by omega)]; simp

theorem val_take_ge (xs : List Nat) (k : Nat) (h : xs.length ≤ k) : val (xs.take k) = val xs := by rw [List.take_of_length_le h]

theorem val_lt {xs : List Nat} (h : Dig xs) : ∀ k, val (xs.take k) < 4294967296 ^ k
  | 0 => by simp [val]
  | k + 1 => by
    rw [val_take_succ]
    have h1 := val_lt h k
    have h2 := h k
    have h3 : 4294967296 ^ k * xs.getD k 0 ≤ 4294967296 ^ k * 4294967295 := Nat.mul_le_mul_left _ (by omega)
    have h4 : 4294967296 ^ (k + 1) = 4294967296 ^ k * 4294967295 + 4294967296 ^ k := by rw [Nat.pow_succ, ← Nat.mul_succ]
    omega

theorem val_lt_pow {xs : List Nat} (h : Dig xs) : val xs < 4294967296 ^ xs.length := by
  have := val_lt h xs.length
  rwa [List.take_length] at this

theorem val_drop (xs : List Nat) (k : Nat) : val xs = val (xs.take k) + 4294967296 ^ k * val (xs.drop k) := by
  by_cases h : k ≤ xs.length
  · have := val_append (xs.take k) (xs.drop k)
    rw [List.take_append_drop, List.length_take, Nat.min_eq_left h] at this
    exact this
  · rw [List.take_of_length_le (by omega), List.drop_eq_nil_of_le (by omega)]; simp [val]

theorem val_ge {xs : List Nat} (h : Can xs) (hl : 0 < xs.length) : 4294967296 ^ (xs.length - 1) ≤ val xs := by
  have h1 := val_take_succ xs (xs.length - 1)
  rw [show xs.length - 1 + 1 = xs.length from by omega, List.take_length] at h1
  have h2 := h.2 hl
  have h3 : 4294967296 ^ (xs.length - 1) * 1 ≤ 4294967296 ^ (xs.length - 1) * xs.getD (xs.length - 1) 0 := Nat.mul_le_mul_left _ (by omega)
  omega

theorem len_lt {xs ys : List Nat} (hx : Dig xs) (hy : Can ys) (h : xs.length < ys.length) : val xs < val ys := by
  have h1 := val_lt_pow hx
  have h2 := val_ge hy (by omega)
  have h3 : 4294967296 ^ xs.length ≤ 4294967296 ^ (ys.length - 1) := Nat.pow_le_pow_right (by omega) (by omega)
  omega

/-- Digits above place i are the same, the digit at i is less: the number is less. -/
theorem dig_below {xs ys : List Nat} (hx : Dig xs) (i : Nat) (hd : xs.drop (i + 1) = ys.drop (i + 1)) (h : xs.getD i 0 < ys.getD i 0) : val xs < val ys := by
  have h1 := val_drop xs (i + 1)
  have h2 := val_drop ys (i + 1)
  rw [val_take_succ] at h1 h2
  have h3 := val_lt hx i
  have h4 : 4294967296 ^ i * (xs.getD i 0 + 1) ≤ 4294967296 ^ i * ys.getD i 0 := Nat.mul_le_mul_left _ (by omega)
  rw [Nat.mul_succ] at h4
  rw [hd] at h1
  omega

theorem drop_step {xs ys : List Nat} (i : Nat) (hi : i < xs.length) (hl : xs.length = ys.length) (hd : xs.drop (i + 1) = ys.drop (i + 1)) (h : xs.getD i 0 = ys.getD i 0) : xs.drop i = ys.drop i := by
  have hj : i < ys.length := by omega
  rw [List.drop_eq_getElem_cons hi, List.drop_eq_getElem_cons hj, hd]
  rw [getD_lt hi, getD_lt hj] at h
  rw [h]

/-- How two numbers stand to each other, as Cmp tells it. -/
def cmpN (m n : Nat) : Int := if m < n then -1 else if n < m then 1 else 0
theorem cmpN_lt {m n : Nat} (h : m < n) : cmpN m n = -1 := by unfold cmpN; rw [if_pos h]
theorem cmpN_gt {m n : Nat} (h : n < m) : cmpN m n = 1 := by unfold cmpN; rw [if_neg (by omega), if_pos h]
theorem cmpN_eq {m n : Nat} (h : m = n) : cmpN m n = 0 := by unfold cmpN; rw [if_neg (by omega), if_neg (by omega)]
theorem cmpN_range (m n : Nat) : -1 ≤ cmpN m n ∧ cmpN m n ≤ 1 := by unfold cmpN; split <;> (try split) <;> omega

theorem can_unique {xs ys : List Nat} (hx : Can xs) (hy : Can ys) (h : val xs = val ys) : xs = ys := by
  have hl : xs.length = ys.length := by
    rcases Nat.lt_trichotomy xs.length ys.length with l | l | l
    · have := len_lt hx.1 hy l; omega
    · exact l
    · have := len_lt hy.1 hx l; omega
  have key : ∀ k, k ≤ xs.length → xs.drop (xs.length - k) = ys.drop (xs.length - k) := by
    intro k
    induction k with
    | zero => intro _; rw [Nat.sub_zero, List.drop_eq_nil_of_le (Nat.le_refl _), List.drop_eq_nil_of_le (by omega)]
    | succ k ih =>
      intro hk
      have ih := ih (by omega)
      have e : xs.length - k = xs.length - (k + 1) + 1 := by omega
      rw [e] at ih
      refine drop_step _ (by omega) hl ih ?_
      rcases Nat.lt_trichotomy (xs.getD (xs.length - (k + 1)) 0) (ys.getD (xs.length - (k + 1)) 0) with l | l | l
      · have := dig_below hx.1 _ ih l; omega
      · exact l
      · have := dig_below hy.1 _ ih.symm l; omega
  have := key xs.length (Nat.le_refl _)
  simpa using this

/-- The length without noughts on top: what norm cuts to. -/
def nlen (xs : List Nat) : Nat → Nat
  | 0 => 0
  | k + 1 => if xs.getD k 0 = 0 then nlen xs k else k + 1
theorem nlen_le (xs : List Nat) : ∀ k, nlen xs k ≤ k
  | 0 => Nat.le_refl _
  | k + 1 => by unfold nlen; split; (have := nlen_le xs k; omega); omega
theorem nlen_val (xs : List Nat) : ∀ k, val (xs.take (nlen xs k)) = val (xs.take k)
  | 0 => rfl
  | k + 1 => by
    unfold nlen; split
    · rename_i h; rw [nlen_val xs k, val_take_succ, h]; simp
    · rfl
theorem nlen_top (xs : List Nat) : ∀ k, 0 < nlen xs k → 0 < xs.getD (nlen xs k - 1) 0
  | 0 => fun h => absurd h (by simp [nlen])
  | k + 1 => by
    unfold nlen; split
    · exact nlen_top xs k
    · rename_i h; intro _; simp only [Nat.add_sub_cancel]; omega
def nrm (xs : List Nat) : List Nat := xs.take (nlen xs xs.length)
theorem nrm_length (xs : List Nat) : (nrm xs).length = nlen xs xs.length := by
  have := nlen_le xs xs.length
  simp [nrm]; omega
theorem nrm_val (xs : List Nat) : val (nrm xs) = val xs := by
  have := nlen_val xs xs.length
  rw [List.take_length] at this; exact this
theorem nrm_can {xs : List Nat} (h : Dig xs) : Can (nrm xs) := by
  refine ⟨dig_take h _, fun hl => ?_⟩
  rw [nrm_length] at hl ⊢
  have h1 := nlen_top xs xs.length hl
  unfold nrm
  rw [List.getD_eq_getElem?_getD, List.getElem?_take, if_pos (by omega)]
  rwa [List.getD_eq_getElem?_getD] at h1

/-- A small number has few digits. -/
theorem len_le {xs : List Nat} (h : Can xs) {L : Nat} (hv : val xs < 4294967296 ^ L) : xs.length ≤ L := by
  refine Nat.le_of_not_lt fun hl => ?_
  have h1 := val_ge h (by omega)
  have h2 : 4294967296 ^ L ≤ 4294967296 ^ (xs.length - 1) := Nat.pow_le_pow_right (by omega) (by omega)
  omega

end Go.Proofs.Ytpifgkhgnilpdaa

/- Plain mathematics of doubling, comparing and subtracting rows of digits in place. -/
namespace Go.Proofs.Ytpifgkhgnilpdaa

theorem set_mid (os rs : List Nat) (k d : Nat) (hk : os.length = k) (hr : k < rs.length) : (os ++ rs.drop k).set k d = (os ++ [d]) ++ rs.drop (k + 1) := by
  rw [List.drop_eq_getElem_cons hr, List.set_append_right k d (by omega), hk, Nat.sub_self, List.set_cons_zero, List.append_assoc]
  rfl
theorem getD_mid (os rs : List Nat) (k : Nat) (hk : os.length = k) : (os ++ rs.drop k).getD k 0 = rs.getD k 0 := by
  rw [getD_append, if_neg (by omega), hk, Nat.sub_self]
  simp [List.getD_eq_getElem?_getD]
theorem len_mid (os rs : List Nat) (k n : Nat) (hk : os.length = k) (hr : rs.length = n) (h : k ≤ n) : (os ++ rs.drop k).length = n := by simp; omega
theorem mid_end (os rs : List Nat) (n : Nat) (hr : rs.length = n) : os ++ rs.drop n = os := by rw [List.drop_eq_nil_of_le (by omega), List.append_nil]

theorem getD_drop (xs : List Nat) (k t : Nat) : (xs.drop k).getD t 0 = xs.getD (k + t) 0 := by
  simp [List.getD_eq_getElem?_getD]
theorem val_ext {xs ys : List Nat} (h : ∀ t, xs.getD t 0 = ys.getD t 0) : val xs = val ys := by
  have key : ∀ N, val (xs.take N) = val (ys.take N) := by
    intro N
    induction N with
    | zero => simp
    | succ N ih => rw [val_take_succ, val_take_succ, ih, h N]
  have := key (xs.length + ys.length)
  rwa [val_take_ge _ _ (by omega), val_take_ge _ _ (by omega)] at this
theorem val_drop_ext {xs ys : List Nat} {k : Nat} (h : ∀ t, k ≤ t → xs.getD t 0 = ys.getD t 0) : val (xs.drop k) = val (ys.drop k) :=
  val_ext fun t => by rw [getD_drop, getD_drop]; exact h _ (by omega)
/-- Digits above place i are the same, the digit at i is less: the number is less (rows of any lengths). -/
theorem dig_less {xs ys : List Nat} (hx : Dig xs) (i : Nat) (hd : ∀ t, i + 1 ≤ t → xs.getD t 0 = ys.getD t 0) (h : xs.getD i 0 < ys.getD i 0) : val xs < val ys := by
  have h1 := val_drop xs (i + 1)
  have h2 := val_drop ys (i + 1)
  rw [val_take_succ] at h1 h2
  have h3 := val_lt hx i
  have h4 : 4294967296 ^ i * (xs.getD i 0 + 1) ≤ 4294967296 ^ i * ys.getD i 0 := Nat.mul_le_mul_left _ (by omega)
  rw [Nat.mul_succ] at h4
  rw [val_drop_ext hd] at h1
  omega

/-- Doubling: k digits done, c is carried. -/
def DblAt (rs os : List Nat) (k b c : Nat) : Prop := os.length = k ∧ Dig os ∧ c ≤ 1 ∧ val os + 4294967296 ^ k * c = 2 * val (rs.take k) + b
theorem dbl_start (rs : List Nat) (b : Nat) (hb : b ≤ 1) : DblAt rs [] 0 b b := ⟨rfl, dig_nil, hb, by simp [val]⟩
theorem dbl_step {rs os : List Nat} {k b c : Nat} (h : DblAt rs os k b c) (hr : rs.getD k 0 < 4294967296) : DblAt rs (os ++ [(2 * rs.getD k 0 + c) % 4294967296]) (k + 1) b ((2 * rs.getD k 0 + c) / 4294967296) := by
  obtain ⟨h1, h2, h3, h4⟩ := h
  refine ⟨by simp [h1], dig_snoc h2 (by omega), by omega, ?_⟩
  rw [val_snoc, h1, val_take_succ, Nat.pow_succ, Nat.mul_assoc]
  generalize 4294967296 ^ k = B at *
  generalize rs.getD k 0 = x at *
  have e : B * ((2 * x + c) % 4294967296) + B * (4294967296 * ((2 * x + c) / 4294967296)) = B * (2 * x) + B * c := by
    rw [← Nat.mul_add, Nat.mod_add_div, Nat.mul_add]
  have e2 : B * (2 * x) = 2 * (B * x) := Nat.mul_left_comm _ _ _
  omega
theorem dbl_end {rs os : List Nat} {n b c : Nat} (h : DblAt rs os n b c) (hr : rs.length = n) (hv : 2 * val rs + b < 4294967296 ^ n) : val os = 2 * val rs + b := by
  obtain ⟨h1, h2, h3, h4⟩ := h
  rw [val_take_ge _ _ (by omega)] at h4
  have : c = 0 ∨ c = 1 := by omega
  rcases this with rfl | rfl
  · simpa using h4
  · omega

/-- Subtracting: k digits done, c is borrowed. -/
def SubAt (rs ds os : List Nat) (k c : Nat) : Prop := os.length = k ∧ Dig os ∧ c ≤ 1 ∧ val os + val (ds.take k) = val (rs.take k) + 4294967296 ^ k * c
theorem sub_start (rs ds : List Nat) : SubAt rs ds [] 0 0 := ⟨rfl, dig_nil, by omega, by simp [val]⟩
theorem sub_no {rs ds os : List Nat} {k c : Nat} (h : SubAt rs ds os k c) (hr : rs.getD k 0 < 4294967296) (hs : c + ds.getD k 0 ≤ rs.getD k 0) : SubAt rs ds (os ++ [rs.getD k 0 - (c + ds.getD k 0)]) (k + 1) 0 := by
  obtain ⟨h1, h2, h3, h4⟩ := h
  refine ⟨by simp [h1], dig_snoc h2 (by omega), by omega, ?_⟩
  rw [val_snoc, h1, val_take_succ, val_take_succ]
  generalize 4294967296 ^ k = B at *
  generalize rs.getD k 0 = x at *
  generalize ds.getD k 0 = d at *
  have e : B * (x - (c + d)) + (B * c + B * d) = B * x := by rw [← Nat.mul_add, ← Nat.mul_add, Nat.sub_add_cancel hs]
  omega
theorem sub_yes {rs ds os : List Nat} {k c : Nat} (h : SubAt rs ds os k c) (hd : ds.getD k 0 < 4294967296) (hs : ¬ c + ds.getD k 0 ≤ rs.getD k 0) : SubAt rs ds (os ++ [rs.getD k 0 + (4294967296 - (c + ds.getD k 0))]) (k + 1) 1 := by
  obtain ⟨h1, h2, h3, h4⟩ := h
  refine ⟨by simp [h1], dig_snoc h2 (by omega), by omega, ?_⟩
  rw [val_snoc, h1, val_take_succ, val_take_succ, Nat.pow_succ]
  generalize 4294967296 ^ k = B at *
  generalize rs.getD k 0 = x at *
  generalize ds.getD k 0 = d at *
  have e : B * (x + (4294967296 - (c + d))) + (B * c + B * d) = B * x + B * 4294967296 := by
    rw [← Nat.mul_add, ← Nat.mul_add, ← Nat.mul_add]; congr 1; omega
  omega
theorem sub_end {rs ds os : List Nat} {n c : Nat} (h : SubAt rs ds os n c) (hr : rs.length ≤ n) (hd : ds.length ≤ n) (hv : val ds ≤ val rs) : val os = val rs - val ds := by
  obtain ⟨h1, h2, h3, h4⟩ := h
  rw [val_take_ge _ _ hr, val_take_ge _ _ hd] at h4
  have hl := val_lt_pow h2
  rw [h1] at hl
  have : c = 0 ∨ c = 1 := by omega
  rcases this with rfl | rfl
  · omega
  · omega

end Go.Proofs.Ytpifgkhgnilpdaa

/- Residues of a word: plain mathematics. Nothing of any program here. -/
namespace Go.Proofs.Ytpifgkhgnilpdaa

/-- a and b are the same modulo p. -/
def Cg (p : Nat) (a b : Int) : Prop := (p : Int) ∣ a - b

theorem Cg.refl (p : Nat) (a : Int) : Cg p a a := ⟨0, by omega⟩
theorem Cg.of_eq {p : Nat} {a b : Int} (h : a = b) : Cg p a b := h ▸ Cg.refl p a
theorem Cg.symm {p : Nat} {a b : Int} (h : Cg p a b) : Cg p b a := by
  obtain ⟨x, hx⟩ := h
  exact ⟨-x, by grind⟩
theorem Cg.trans {p : Nat} {a b c : Int} (h : Cg p a b) (k : Cg p b c) : Cg p a c := by
  obtain ⟨x, hx⟩ := h
  obtain ⟨y, hy⟩ := k
  exact ⟨x + y, by grind⟩
theorem Cg.add {p : Nat} {a b c d : Int} (h : Cg p a b) (k : Cg p c d) : Cg p (a + c) (b + d) := by
  obtain ⟨x, hx⟩ := h
  obtain ⟨y, hy⟩ := k
  exact ⟨x + y, by grind⟩
theorem Cg.sub {p : Nat} {a b c d : Int} (h : Cg p a b) (k : Cg p c d) : Cg p (a - c) (b - d) := by
  obtain ⟨x, hx⟩ := h
  obtain ⟨y, hy⟩ := k
  exact ⟨x - y, by grind⟩
theorem Cg.mul {p : Nat} {a b c d : Int} (h : Cg p a b) (k : Cg p c d) : Cg p (a * c) (b * d) := by
  obtain ⟨x, hx⟩ := h
  obtain ⟨y, hy⟩ := k
  exact ⟨x * c + b * y, by grind⟩
theorem Cg.mod (p a : Nat) : Cg p ((a % p : Nat) : Int) (a : Int) := by
  have h := Nat.div_add_mod a p
  refine ⟨-((a / p : Nat) : Int), ?_⟩
  have h' : (p : Int) * ((a / p : Nat) : Int) + ((a % p : Nat) : Int) = (a : Int) := by exact_mod_cast h
  grind
theorem Cg.of_mod {p a b : Nat} (h : a % p = b % p) : Cg p (a : Int) (b : Int) := (Cg.mod p a).symm.trans (by rw [h]; exact Cg.mod p b)
theorem Cg.same {p a b : Nat} (h : Cg p (a : Int) (b : Int)) : a % p = b % p := by
  have := Int.emod_eq_emod_iff_emod_sub_eq_zero.2 (Int.emod_eq_zero_of_dvd h)
  exact_mod_cast this
theorem Cg.eq {p a b : Nat} (h : Cg p (a : Int) (b : Int)) (ha : a < p) (hb : b < p) : a = b := by
  have := h.same
  rwa [Nat.mod_eq_of_lt ha, Nat.mod_eq_of_lt hb] at this
theorem Cg.self (p : Nat) : Cg p (p : Int) 0 := ⟨1, by omega⟩
theorem Cg.pow {p : Nat} {a b : Int} (h : Cg p a b) (n : Nat) : Cg p (a ^ n) (b ^ n) := by
  induction n with
  | zero => rw [Int.pow_zero, Int.pow_zero]; exact Cg.refl _ _
  | succ n ih => rw [Int.pow_succ, Int.pow_succ]; exact ih.mul h

/-- a - b modulo p. -/
def sb (p a b : Nat) : Nat := (a % p + (p - b % p)) % p
theorem sb_lt {p : Nat} (h : 0 < p) (a b : Nat) : sb p a b < p := Nat.mod_lt _ h
theorem sb_cg {p : Nat} (h : 0 < p) (a b : Nat) : Cg p (sb p a b : Int) ((a : Int) - (b : Int)) := by
  refine (Cg.mod p _).trans ?_
  have h2 := Nat.mod_lt b h
  have e : ((a % p + (p - b % p) : Nat) : Int) = ((a % p : Nat) : Int) - ((b % p : Nat) : Int) + (p : Int) := by omega
  rw [e]
  have := ((Cg.mod p a).sub (Cg.mod p b)).add (Cg.self p)
  rwa [Int.add_zero] at this
theorem sb_ge {p a b : Nat} (_h : 0 < p) (h2 : b % p ≤ a % p) : sb p a b = a % p - b % p := by
  unfold sb
  have := Nat.mod_lt a _h
  rw [show a % p + (p - b % p) = a % p - b % p + p by have := Nat.mod_lt b _h; omega, Nat.add_mod_right, Nat.mod_eq_of_lt (by omega)]
theorem sb_less {p a b : Nat} (h : 0 < p) (h2 : a % p < b % p) : sb p a b = a % p + p - b % p := by
  unfold sb
  have := Nat.mod_lt b h
  rw [show a % p + (p - b % p) = a % p + p - b % p by omega, Nat.mod_eq_of_lt (by omega)]

/-- a; a + b; a b; a b over B; a to the n: modulo p. -/
def rd (p a : Nat) : Nat := a % p
def ad (p a b : Nat) : Nat := (a + b) % p
def ml (p a b : Nat) : Nat := a * b % p

theorem ad_less {p a b : Nat} (h : a % p + b % p < p) : (a + b) % p = a % p + b % p := by
  rw [Nat.add_mod, Nat.mod_eq_of_lt h]
theorem ad_ge {p a b : Nat} (hp : 0 < p) (h : p ≤ a % p + b % p) : (a + b) % p = a % p + b % p - p := by
  have h1 := Nat.mod_lt a hp
  have h2 := Nat.mod_lt b hp
  rw [Nat.add_mod, Nat.mod_eq_sub_mod h, Nat.mod_eq_of_lt (by omega)]

/-- A step towards the inverse modulo a word, and the inverse. -/
def stepI (p v : Nat) : Nat := v * ((18446744073709551618 - p * v % 18446744073709551616) % 18446744073709551616) % 18446744073709551616
def invs (p : Nat) : Nat → Nat
  | 0 => p
  | k + 1 => stepI p (invs p k)
def invB (p : Nat) : Nat := invs p 5
theorem invs_lt {p : Nat} (h : p < 18446744073709551616) : ∀ k, invs p k < 18446744073709551616
  | 0 => h
  | _ + 1 => Nat.mod_lt _ (by omega)
theorem stepI_cg (p v : Nat) : Cg 18446744073709551616 (stepI p v : Int) ((v : Int) * (2 - (p : Int) * (v : Int))) := by
  unfold stepI
  refine (Cg.mod _ _).trans ?_
  rw [Int.natCast_mul]
  refine (Cg.refl _ _).mul ((Cg.mod _ _).trans ?_)
  have h := Nat.mod_lt (p * v) (show 0 < 18446744073709551616 by omega)
  have hm := Cg.mod 18446744073709551616 (p * v)
  generalize p * v % 18446744073709551616 = x at *
  have e : ((18446744073709551618 - x : Nat) : Int) = 2 - (x : Int) + ((18446744073709551616 : Nat) : Int) := by omega
  rw [e]
  have := ((Cg.refl 18446744073709551616 2).sub hm).add (Cg.self 18446744073709551616)
  rwa [Int.add_zero, Int.natCast_mul] at this
theorem step_right {p v m M : Nat} (h : (m : Int) ∣ (p : Int) * v - 1) (hM : (M : Int) ∣ (m : Int) * m) (hB : (M : Int) ∣ 18446744073709551616) : (M : Int) ∣ (p : Int) * (stepI p v : Nat) - 1 := by
  obtain ⟨x, hx⟩ := h
  obtain ⟨y, hy⟩ := hM
  obtain ⟨z, hz⟩ := hB
  obtain ⟨t, ht⟩ := stepI_cg p v
  generalize (stepI p v : Int) = s at *
  have hz' : ((18446744073709551616 : Nat) : Int) = M * z := hz
  rw [hz'] at ht
  refine ⟨(p : Int) * z * t - y * x * x, ?_⟩
  have e1 : s = (v : Int) * (2 - (p : Int) * v) + M * z * t := by omega
  have e2 : ((p : Int) * v - 1) * ((p : Int) * v - 1) = M * (y * x * x) := by rw [hx]; grind
  rw [e1]
  grind
theorem odd_eight {p : Nat} (h : p % 2 = 1) : ((8 : Nat) : Int) ∣ (p : Int) * p - 1 := by
  have e : p * p % 8 = 1 := by
    rw [Nat.mul_mod]
    have : p % 8 = 1 ∨ p % 8 = 3 ∨ p % 8 = 5 ∨ p % 8 = 7 := by omega
    rcases this with h | h | h | h <;> rw [h]
  have := Nat.div_add_mod (p * p) 8
  refine ⟨((p * p / 8 : Nat) : Int), ?_⟩
  have e2 : (p : Int) * p = ((p * p : Nat) : Int) := (Int.natCast_mul p p).symm
  rw [e2]
  generalize p * p = q at *
  omega
theorem invB_right {p : Nat} (h : p % 2 = 1) : (18446744073709551616 : Int) ∣ (p : Int) * (invB p : Nat) - 1 := by
  have h0 := odd_eight h
  have h1 := step_right (M := 64) h0 (by decide) (by decide)
  have h2 := step_right (M := 4096) h1 (by decide) (by decide)
  have h3 := step_right (M := 16777216) h2 (by decide) (by decide)
  have h4 := step_right (M := 281474976710656) h3 (by decide) (by decide)
  exact step_right (M := 18446744073709551616) h4 (by decide) (by decide)

/-- What B times is 1 modulo p. -/
def ib (p : Nat) : Nat := p - p * invB p / 18446744073709551616
theorem ib_one {p : Nat} (h : p % 2 = 1) (hp : p < 18446744073709551616) : Cg p ((ib p : Int) * 18446744073709551616) 1 := by
  obtain ⟨k, hk⟩ := invB_right h
  have hv : invB p < 18446744073709551616 := invs_lt hp 5
  have e1 : p * invB p < p * 18446744073709551616 := Nat.mul_lt_mul_of_pos_left hv (by omega)
  unfold ib
  have e2 : (p : Int) * (invB p : Nat) = ((p * invB p : Nat) : Int) := (Int.natCast_mul _ _).symm
  refine ⟨18446744073709551616 - (invB p : Int), ?_⟩
  rw [Int.mul_sub, e2]
  rw [e2] at hk
  generalize p * invB p = t at *
  have : k = ((t / 18446744073709551616 : Nat) : Int) := by omega
  omega

def mm (p a b : Nat) : Nat := a * b * ib p % p
def pw (p a n : Nat) : Nat := a ^ n % p

theorem mul_hi_lt {p a b : Nat} (ha : a < p) (hb : b < p) (hp : p ≤ 18446744073709551616) : a * b / 18446744073709551616 < p := by
  rw [Nat.div_lt_iff_lt_mul (by omega)]
  exact Nat.lt_of_lt_of_le (Nat.mul_lt_mul'' ha hb) (Nat.mul_le_mul_left _ hp)

/-- Montgomery's product. -/
theorem mont_eq {p a b lo q top hi : Nat} (h : p % 2 = 1) (hp : p < 18446744073709551616) (hhi : hi = (a % p) * (b % p) / 18446744073709551616) (hlo : lo = (a % p) * (b % p) % 18446744073709551616)
    (hq : q = lo * invB p % 18446744073709551616) (ht : top = q * p / 18446744073709551616) : sb p hi top = a * b * ib p % p := by
  have h0 : 0 < p := by omega
  refine Cg.eq (p := p) ?_ (sb_lt h0 _ _) (Nat.mod_lt _ h0)
  refine (sb_cg h0 _ _).trans (Cg.trans ?_ (Cg.mod p _).symm)
  have h1 := Nat.div_add_mod ((a % p) * (b % p)) 18446744073709551616
  rw [← hhi, ← hlo] at h1
  have h2 := Nat.div_add_mod (q * p) 18446744073709551616
  have hlt : lo < 18446744073709551616 := by rw [hlo]; exact Nat.mod_lt _ (by omega)
  have hl : q * p % 18446744073709551616 = lo := by
    have : Cg 18446744073709551616 ((q * p : Nat) : Int) (lo : Int) := by
      rw [Int.natCast_mul]
      obtain ⟨k, hk⟩ := invB_right h
      have hqc : Cg 18446744073709551616 (q : Int) ((lo : Int) * (invB p : Nat)) := by
        rw [hq, ← Int.natCast_mul]; exact Cg.mod _ _
      obtain ⟨x, hx⟩ := hqc
      refine ⟨x * p + lo * k, ?_⟩
      have e : ((18446744073709551616 : Nat) : Int) = 18446744073709551616 := rfl
      rw [e] at hx ⊢
      generalize (18446744073709551616 : Int) = B at *
      grind
    have := this.same
    rwa [Nat.mod_eq_of_lt hlt] at this
  rw [← ht, hl] at h2
  have hab : Cg p (((a % p) * (b % p) : Nat) : Int) ((a * b : Nat) : Int) := by
    rw [Int.natCast_mul, Int.natCast_mul]; exact (Cg.mod p a).mul (Cg.mod p b)
  rw [← h1] at hab
  -- (hi - top) B = a b - q p
  have key : Cg p (((hi : Int) - (top : Int)) * 18446744073709551616) ((a * b : Nat) : Int) := by
    refine Cg.trans ?_ hab
    refine ⟨-(q : Int), ?_⟩
    have e2 : (18446744073709551616 : Int) * top + lo = (q : Int) * p := by
      rw [← Int.natCast_mul q p, ← h2]; omega
    have e3 : ((18446744073709551616 * hi + lo : Nat) : Int) = 18446744073709551616 * (hi : Int) + lo := by omega
    rw [e3]
    generalize (18446744073709551616 : Int) = B at *
    grind
  have hib := ib_one h hp
  have k2 := key.mul (Cg.refl p (ib p : Int))
  rw [Int.natCast_mul]
  refine Cg.trans ?_ k2
  have k3 := (Cg.refl p ((hi : Int) - (top : Int))).mul hib
  refine Cg.trans ?_ (k3.symm.trans (Cg.of_eq ?_))
  · rw [Int.mul_one]; exact Cg.refl _ _
  · generalize (18446744073709551616 : Int) = B at *
    grind
theorem modmul (p a b : Nat) : (a % p) * (b % p) % p = a * b % p := (Nat.mul_mod a b p).symm
theorem mont_in {p : Nat} (a : Nat) (h : p % 2 = 1) (hp : p < 18446744073709551616) : a * (18446744073709551616 * 18446744073709551616 % p) * ib p % p = a * 18446744073709551616 % p := by
  refine Cg.same ?_
  have hib := ib_one h hp
  have h1 := Cg.mod p (18446744073709551616 * 18446744073709551616)
  rw [Int.natCast_mul, Int.natCast_mul]
  refine (((Cg.refl p (a : Int)).mul h1).mul (Cg.refl p _)).trans ?_
  rw [Int.natCast_mul a]
  have k := (Cg.refl p ((a : Int) * 18446744073709551616)).mul hib
  refine Cg.trans (Cg.of_eq ?_) (k.trans (Cg.of_eq ?_))
  · have e : ((18446744073709551616 * 18446744073709551616 : Nat) : Int) = 18446744073709551616 * 18446744073709551616 := rfl
    rw [e]
    generalize (18446744073709551616 : Int) = B at *
    grind
  · rw [Int.mul_one]; rfl
theorem mont_back {p : Nat} (a : Nat) (h : p % 2 = 1) (hp : p < 18446744073709551616) : (a * 18446744073709551616 % p) * ib p % p = a % p := by
  refine Cg.same ?_
  have hib := ib_one h hp
  rw [Int.natCast_mul]
  refine ((Cg.mod p _).mul (Cg.refl p _)).trans ?_
  have k := (Cg.refl p (a : Int)).mul hib
  rw [Int.natCast_mul]
  refine Cg.trans (Cg.of_eq ?_) (k.trans (Cg.of_eq (Int.mul_one _)))
  have e : ((18446744073709551616 : Nat) : Int) = 18446744073709551616 := rfl
  rw [e]
  generalize (18446744073709551616 : Int) = B at *
  grind
theorem mont_mont {p : Nat} (a b : Nat) (h : p % 2 = 1) (hp : p < 18446744073709551616) : (a * 18446744073709551616 % p) * (b * 18446744073709551616 % p) * ib p % p = a * b * 18446744073709551616 % p := by
  refine Cg.same ?_
  have hib := ib_one h hp
  rw [Int.natCast_mul, Int.natCast_mul]
  refine (((Cg.mod p _).mul (Cg.mod p _)).mul (Cg.refl p _)).trans ?_
  have k := (Cg.refl p ((a : Int) * b * 18446744073709551616)).mul hib
  rw [Int.natCast_mul, Int.natCast_mul, Int.natCast_mul, Int.natCast_mul]
  have e : ((18446744073709551616 : Nat) : Int) = 18446744073709551616 := rfl
  rw [e]
  refine Cg.trans (Cg.of_eq ?_) (k.trans (Cg.of_eq (Int.mul_one _)))
  generalize (18446744073709551616 : Int) = B at *
  grind

/-- A factor's own quotient: what is left is below 2 p. -/
theorem shoup_left {p a w s q : Nat} (hp : 0 < p) (ha : a < p) (hp2 : p < 4611686018427387904) (hs : s = 18446744073709551616 * w / p) (hq : q = a * s / 18446744073709551616) :
    ∃ r, a * w = q * p + r ∧ r < 2 * p := by
  have h1 := Nat.div_add_mod (18446744073709551616 * w) p
  have h2 := Nat.mod_lt (18446744073709551616 * w) hp
  rw [← hs] at h1
  have h3 := Nat.div_add_mod (a * s) 18446744073709551616
  have h4 := Nat.mod_lt (a * s) (show 0 < 18446744073709551616 by omega)
  rw [← hq] at h3
  generalize 18446744073709551616 * w % p = e at *
  generalize a * s % 18446744073709551616 = f at *
  have k1 : 18446744073709551616 * (a * w) = 18446744073709551616 * (q * p) + (f * p + a * e) := by
    have x1 : a * (18446744073709551616 * w) = a * (p * s + e) := by rw [h1]
    have x2 : p * (a * s) = p * (18446744073709551616 * q + f) := by rw [h3]
    generalize 18446744073709551616 = B at *
    grind
  have k2 : f * p ≤ 18446744073709551615 * p := Nat.mul_le_mul_right _ (by omega)
  have k3 : a * e ≤ a * p := Nat.mul_le_mul_left _ (by omega)
  have k4 : a * p ≤ 4611686018427387904 * p := Nat.mul_le_mul_right _ (by omega)
  have k5 : q * p ≤ a * w := by
    generalize a * w = X at *
    generalize q * p = Y at *
    omega
  refine ⟨a * w - q * p, by omega, ?_⟩
  generalize a * w = X at *
  generalize q * p = Y at *
  generalize f * p = F at *
  generalize a * e = G at *
  omega

theorem shoup_end {p a w q r : Nat} (h : rd p a * rd p w = q * p + r) : rd p r = ml p a w := by
  unfold rd ml at *
  rw [← modmul p a w, h, Nat.add_comm, Nat.add_mul_mod_self_right]

/-- A power by squares, in Montgomery's form: o is X B, s is Y B, and X Y^n is a^N. -/
def PowAt (p a N o s n : Nat) : Prop := ∃ X Y, o = X * 18446744073709551616 % p ∧ s = Y * 18446744073709551616 % p ∧ X * Y ^ n % p = a ^ N % p
theorem pow_start (p a N : Nat) : PowAt p a N (1 * 18446744073709551616 % p) (a * 18446744073709551616 % p) N := ⟨1, a, rfl, rfl, by rw [Nat.one_mul]⟩
theorem mm_mont {p : Nat} (X Y : Nat) (h : p % 2 = 1) (hp : p < 18446744073709551616) : mm p (X * 18446744073709551616 % p) (Y * 18446744073709551616 % p) = X * Y * 18446744073709551616 % p := mont_mont X Y h hp
theorem sq_pow (Y n : Nat) : (Y * Y) ^ n = Y ^ (2 * n) := by rw [Nat.pow_mul, Nat.pow_two]
theorem pow_odd {p a N o s n : Nat} (h : p % 2 = 1) (hp : p < 18446744073709551616) (H : PowAt p a N o s n) (hn : n % 2 = 1) : PowAt p a N (mm p o s) (mm p s s) (n / 2) := by
  obtain ⟨X, Y, rfl, rfl, e⟩ := H
  refine ⟨X * Y, Y * Y, mm_mont X Y h hp, mm_mont Y Y h hp, ?_⟩
  rw [← e, sq_pow, Nat.mul_assoc X Y, ← Nat.pow_succ']
  have : (2 * (n / 2)).succ = n := by omega
  rw [this]
theorem pow_even {p a N o s n : Nat} (h : p % 2 = 1) (hp : p < 18446744073709551616) (H : PowAt p a N o s n) (hn : ¬ n % 2 = 1) : PowAt p a N o (mm p s s) (n / 2) := by
  obtain ⟨X, Y, rfl, rfl, e⟩ := H
  refine ⟨X, Y * Y, rfl, mm_mont Y Y h hp, ?_⟩
  rw [← e, sq_pow]
  have : 2 * (n / 2) = n := by omega
  rw [this]
theorem pow_end {p a N o s : Nat} (h : p % 2 = 1) (hp : p < 18446744073709551616) (H : PowAt p a N o s 0) : mm p o 1 = pw p a N := by
  obtain ⟨X, Y, rfl, rfl, e⟩ := H
  unfold mm pw
  rw [Nat.mul_one, mont_back X h hp, ← e, Nat.pow_zero, Nat.mul_one]

/-- Euclid's steps: each remainder is a multiple of a modulo p. -/
def EuAt (p a up lo ut t : Nat) : Prop := Cg p (up : Int) ((ut : Int) * a) ∧ Cg p (lo : Int) ((t : Int) * a) ∧ Nat.gcd up lo = Nat.gcd a p ∧ ut < p ∧ t < p
theorem eu_start {p : Nat} (a : Nat) (h : 3 ≤ p) : EuAt p a p (rd p a) 0 1 := by
  refine ⟨?_, ?_, ?_, by omega, by omega⟩
  · rw [show ((0 : Nat) : Int) * (a : Int) = 0 by simp]; exact Cg.self p
  · rw [show ((1 : Nat) : Int) * (a : Int) = (a : Int) by simp]; exact Cg.mod p a
  · show Nat.gcd p (a % p) = Nat.gcd a p
    rw [Nat.gcd_comm p (a % p), ← Nat.gcd_rec, Nat.gcd_comm]
theorem eu_step {p a up lo ut t : Nat} (h : 0 < p) (H : EuAt p a up lo ut t) : EuAt p a lo (up % lo) t (sb p ut (ml p (up / lo) t)) := by
  obtain ⟨h1, h2, h3, h4, h5⟩ := H
  refine ⟨h2, ?_, ?_, h5, sb_lt h _ _⟩
  · have e := Nat.div_add_mod up lo
    have e' : ((up % lo : Nat) : Int) = (up : Int) - (lo : Int) * ((up / lo : Nat) : Int) := by
      have : ((lo * (up / lo) + up % lo : Nat) : Int) = (up : Int) := by rw [e]
      rw [Int.natCast_add, Int.natCast_mul] at this
      omega
    rw [e']
    have k1 := (sb_cg h ut (ml p (up / lo) t)).mul (Cg.refl p (a : Int))
    have k2 : Cg p (ml p (up / lo) t : Int) (((up / lo : Nat) : Int) * (t : Int)) := by
      rw [← Int.natCast_mul]; exact Cg.mod p _
    have k3 := ((Cg.refl p (ut : Int)).sub k2).mul (Cg.refl p (a : Int))
    refine Cg.trans ?_ (k1.trans k3).symm
    refine Cg.trans (h1.sub (h2.mul (Cg.refl p ((up / lo : Nat) : Int)))) (Cg.of_eq ?_)
    generalize ((up / lo : Nat) : Int) = q
    generalize (ut : Int) = u
    generalize (t : Int) = v
    generalize (a : Int) = b
    grind
  · rw [← h3, Nat.gcd_comm up lo, Nat.gcd_rec lo up, Nat.gcd_comm]
theorem eu_end {p a up ut t : Nat} (h : 3 ≤ p) (H : EuAt p a up 0 ut t) : up = Nat.gcd a p ∧ (up = 1 → ut < p ∧ ml p a ut = 1) := by
  obtain ⟨h1, _, h3, h4, _⟩ := H
  rw [Nat.gcd_zero_right] at h3
  refine ⟨h3, fun e => ⟨h4, ?_⟩⟩
  subst e
  have : Cg p ((1 : Nat) : Int) ((ut * a : Nat) : Int) := by rw [Int.natCast_mul]; exact h1
  have := this.same
  unfold ml
  rw [Nat.mul_comm, ← this, Nat.mod_eq_of_lt (by omega)]
theorem inv_one {p a x y : Nat} (hx : x < p) (hy : y < p) (h1 : ml p a x = 1) (h2 : ml p a y = 1) : x = y := by
  have hp : 0 < p := by omega
  refine Cg.eq (p := p) ?_ hx hy
  have k1 : Cg p ((a : Int) * x) 1 := by have := (Cg.mod p (a * x)).symm; rw [show a * x % p = 1 from h1, Int.natCast_mul] at this; exact this
  have k2 : Cg p ((a : Int) * y) 1 := by have := (Cg.mod p (a * y)).symm; rw [show a * y % p = 1 from h2, Int.natCast_mul] at this; exact this
  have k3 := (Cg.refl p (x : Int)).mul k2
  have k4 := (Cg.refl p (y : Int)).mul k1
  rw [Int.mul_one] at k3 k4
  refine k3.symm.trans (Cg.trans (Cg.of_eq ?_) k4)
  grind

/-- A power by the binary digits, the highest first. -/
theorem pw_top {p a n : Nat} (hn : n < 18446744073709551616) : pw p a (n / 2 ^ 64) = 1 % p := by
  rw [Nat.div_eq_of_lt (by omega)]; rfl
theorem pw_end (p a n : Nat) : pw p a (n / 2 ^ 0) = pw p a n := by rw [Nat.pow_zero, Nat.div_one]
theorem half_digit (n k : Nat) : n / 2 ^ k = 2 * (n / 2 ^ (k + 1)) + n / 2 ^ k % 2 := by
  rw [Nat.pow_succ, ← Nat.div_div_eq_div_mul]
  omega
theorem pw_double (p a m : Nat) : ml p (pw p a m) (pw p a m) = pw p a (2 * m) := by
  unfold ml pw
  rw [modmul, ← Nat.pow_add, Nat.two_mul]
theorem pw_more (p a m : Nat) : ml p (pw p a m) a = pw p a (m + 1) := by
  unfold ml pw
  rw [Nat.mod_mul_mod, Nat.pow_succ]
theorem pw_one {p a n k : Nat} (h : n / 2 ^ k % 2 = 1) : ml p (ml p (pw p a (n / 2 ^ (k + 1))) (pw p a (n / 2 ^ (k + 1)))) a = pw p a (n / 2 ^ k) := by
  rw [half_digit n k, h, pw_double, pw_more]
theorem pw_nought {p a n k : Nat} (h : n / 2 ^ k % 2 = 0) : ml p (pw p a (n / 2 ^ (k + 1))) (pw p a (n / 2 ^ (k + 1))) = pw p a (n / 2 ^ k) := by
  rw [half_digit n k, h, pw_double]
  rfl

end Go.Proofs.Ytpifgkhgnilpdaa
