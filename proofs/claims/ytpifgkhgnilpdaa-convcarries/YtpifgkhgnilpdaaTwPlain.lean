/- Plain mathematics of doubling, comparing and subtracting rows of digits in place. -/
import Derived.Test.YtpifgkhgnilpdaaPlain
namespace Go.Proofs.Ytpifgkhgnilpdaa

theorem set_mid (os rs : List Nat) (k d : Nat) (hk : os.length = k) (hr : k < rs.length) : (os ++ rs.drop k).set k d = (os ++ [d]) ++ rs.drop (k + 1) := by
  rw [List.drop_eq_getElem_cons hr, List.set_append_right k d (by omega), hk, Nat.sub_self, List.set_cons_zero, List.append_assoc]
  rfl
theorem getD_mid (os rs : List Nat) (k : Nat) (hk : os.length = k) : (os ++ rs.drop k).getD k 0 = rs.getD k 0 := by
  rw [getD_append, if_neg (by omega), hk, Nat.sub_self]
  simp [List.getD_eq_getElem?_getD]
theorem len_mid (os rs : List Nat) (k n : Nat) (hk : os.length = k) (hr : rs.length = n) (h : k ≤ n) : (os ++ rs.drop k).length = n := by simp; omega
theorem mid_end (os rs : List Nat) (n : Nat) (hr : rs.length = n) : os ++ rs.drop n = os := by rw [List.drop_eq_nil_of_le (by omega), List.append_nil]

theorem getD_drop (xs : List Nat) (k t : Nat) : (xs.drop k).getD t 0 = xs.getD (k + t) 0 := by
  simp [List.getD_eq_getElem?_getD]
theorem val_ext {xs ys : List Nat} (h : ∀ t, xs.getD t 0 = ys.getD t 0) : val xs = val ys := by
  have key : ∀ N, val (xs.take N) = val (ys.take N) := by
    intro N
    induction N with
    | zero => simp
    | succ N ih => rw [val_take_succ, val_take_succ, ih, h N]
  have := key (xs.length + ys.length)
  rwa [val_take_ge _ _ (by omega), val_take_ge _ _ (by omega)] at this
theorem val_drop_ext {xs ys : List Nat} {k : Nat} (h : ∀ t, k ≤ t → xs.getD t 0 = ys.getD t 0) : val (xs.drop k) = val (ys.drop k) :=
  val_ext fun t => by rw [getD_drop, getD_drop]; exact h _ (by omega)
/-- Digits above place i are the same, the digit at i is less: the number is less (rows of any lengths). -/
theorem dig_less {xs ys : List Nat} (hx : Dig xs) (i : Nat) (hd : ∀ t, i + 1 ≤ t → xs.getD t 0 = ys.getD t 0) (h : xs.getD i 0 < ys.getD i 0) : val xs < val ys := by
  have h1 := val_drop xs (i + 1)
  have h2 := val_drop ys (i + 1)
  rw [val_take_succ] at h1 h2
  have h3 := val_lt hx i
  have h4 : 4294967296 ^ i * (xs.getD i 0 + 1) ≤ 4294967296 ^ i * ys.getD i 0 := Nat.mul_le_mul_left _ (by omega)
  rw [Nat.mul_succ] at h4
  rw [val_drop_ext hd] at h1
  omega

/-- Doubling: k digits done, c is carried. -/
def DblAt (rs os : List Nat) (k b c : Nat) : Prop := os.length = k ∧ Dig os ∧ c ≤ 1 ∧ val os + 4294967296 ^ k * c = 2 * val (rs.take k) + b
theorem dbl_start (rs : List Nat) (b : Nat) (hb : b ≤ 1) : DblAt rs [] 0 b b := ⟨rfl, dig_nil, hb, by simp [val]⟩
theorem dbl_step {rs os : List Nat} {k b c : Nat} (h : DblAt rs os k b c) (hr : rs.getD k 0 < 4294967296) : DblAt rs (os ++ [(2 * rs.getD k 0 + c) % 4294967296]) (k + 1) b ((2 * rs.getD k 0 + c) / 4294967296) := by
  obtain ⟨h1, h2, h3, h4⟩ := h
  refine ⟨by simp [h1], dig_snoc h2 (by omega), by omega, ?_⟩
  rw [val_snoc, h1, val_take_succ, Nat.pow_succ, Nat.mul_assoc]
  generalize 4294967296 ^ k = B at *
  generalize rs.getD k 0 = x at *
  have e : B * ((2 * x + c) % 4294967296) + B * (4294967296 * ((2 * x + c) / 4294967296)) = B * (2 * x) + B * c := by
    rw [← Nat.mul_add, Nat.mod_add_div, Nat.mul_add]
  have e2 : B * (2 * x) = 2 * (B * x) := Nat.mul_left_comm _ _ _
  omega
theorem dbl_end {rs os : List Nat} {n b c : Nat} (h : DblAt rs os n b c) (hr : rs.length = n) (hv : 2 * val rs + b < 4294967296 ^ n) : val os = 2 * val rs + b := by
  obtain ⟨h1, h2, h3, h4⟩ := h
  rw [val_take_ge _ _ (by omega)] at h4
  have : c = 0 ∨ c = 1 := by omega
  rcases this with rfl | rfl
  · simpa using h4
  · omega

/-- Subtracting: k digits done, c is borrowed. -/
def SubAt (rs ds os : List Nat) (k c : Nat) : Prop := os.length = k ∧ Dig os ∧ c ≤ 1 ∧ val os + val (ds.take k) = val (rs.take k) + 4294967296 ^ k * c
theorem sub_start (rs ds : List Nat) : SubAt rs ds [] 0 0 := ⟨rfl, dig_nil, by omega, by simp [val]⟩
theorem sub_no {rs ds os : List Nat} {k c : Nat} (h : SubAt rs ds os k c) (hr : rs.getD k 0 < 4294967296) (hs : c + ds.getD k 0 ≤ rs.getD k 0) : SubAt rs ds (os ++ [rs.getD k 0 - (c + ds.getD k 0)]) (k + 1) 0 := by
  obtain ⟨h1, h2, h3, h4⟩ := h
  refine ⟨by simp [h1], dig_snoc h2 (by omega), by omega, ?_⟩
  rw [val_snoc, h1, val_take_succ, val_take_succ]
  generalize 4294967296 ^ k = B at *
  generalize rs.getD k 0 = x at *
  generalize ds.getD k 0 = d at *
  have e : B * (x - (c + d)) + (B * c + B * d) = B * x := by rw [← Nat.mul_add, ← Nat.mul_add, Nat.sub_add_cancel hs]
  omega
theorem sub_yes {rs ds os : List Nat} {k c : Nat} (h : SubAt rs ds os k c) (hd : ds.getD k 0 < 4294967296) (hs : ¬ c + ds.getD k 0 ≤ rs.getD k 0) : SubAt rs ds (os ++ [rs.getD k 0 + (4294967296 - (c + ds.getD k 0))]) (k + 1) 1 := by
  obtain ⟨h1, h2, h3, h4⟩ := h
  refine ⟨by simp [h1], dig_snoc h2 (by omega), by omega, ?_⟩
  rw [val_snoc, h1, val_take_succ, val_take_succ, Nat.pow_succ]
  generalize 4294967296 ^ k = B at *
  generalize rs.getD k 0 = x at *
  generalize ds.getD k 0 = d at *
  have e : B * (x + (4294967296 - (c + d))) + (B * c + B * d) = B * x + B * 4294967296 := by
    rw [← Nat.mul_add, ← Nat.mul_add, ← Nat.mul_add]; congr 1; omega
  omega
theorem sub_end {rs ds os : List Nat} {n c : Nat} (h : SubAt rs ds os n c) (hr : rs.length ≤ n) (hd : ds.length ≤ n) (hv : val ds ≤ val rs) : val os = val rs - val ds := by
  obtain ⟨h1, h2, h3, h4⟩ := h
  rw [val_take_ge _ _ hr, val_take_ge _ _ hd] at h4
  have hl := val_lt_pow h2
  rw [h1] at hl
  have : c = 0 ∨ c = 1 := by omega
  rcases this with rfl | rfl
  · omega
  · omega

end Go.Proofs.Ytpifgkhgnilpdaa
