/- Plain mathematics of products by hand. Nothing of any program here. -/
import Derived.Test.YtdocljbmmaoenaaLAdd
namespace Go.Proofs.Ytdocljbmmaoenaa

/-- k words of bs times y are added from place o on; c is carried; all other words are as they were. -/
def SAt (z0 zs bs : List Nat) (y o k c : Nat) : Prop :=
  zs.length = z0.length ∧ WDig zs ∧ c < 18446744073709551616 ∧ wval zs + 18446744073709551616 ^ (o + k) * c = wval z0 + 18446744073709551616 ^ o * (y * wval (bs.take k)) ∧
    ∀ j, o + k ≤ j → zs.getD j 0 = z0.getD j 0
theorem s_start {z0 : List Nat} (h : WDig z0) (bs : List Nat) (y o : Nat) : SAt z0 z0 bs y o 0 0 := ⟨rfl, h, by omega, by simp [wval], fun _ _ => rfl⟩

/-- The product of two words, with two words more, has room in two words. -/
theorem s_parts {b y c r h0 l0 l1 c1 h1 d c2 c3 : Nat} (hb : b < 18446744073709551616) (hy : y < 18446744073709551616) (hc : c < 18446744073709551616) (hr : r < 18446744073709551616)
    (e0 : h0 = b * y / 18446744073709551616) (e1 : l0 = b * y % 18446744073709551616) (e2 : l1 = (l0 + c + 0) % 18446744073709551616) (e3 : c1 = (l0 + c + 0) / 18446744073709551616) (e4 : h1 = h0 + c1)
    (e5 : d = (r + l1 + 0) % 18446744073709551616) (e6 : c2 = (r + l1 + 0) / 18446744073709551616) (e7 : c3 = h1 + c2) :
    h1 < 18446744073709551616 ∧ c3 < 18446744073709551616 ∧ d < 18446744073709551616 ∧ d + 18446744073709551616 * c3 = r + b * y + c := by
  have hp : b * y ≤ 18446744073709551615 * 18446744073709551615 := Nat.mul_le_mul (by omega) (by omega)
  generalize b * y = p at *
  omega

theorem s_step {z0 zs bs : List Nat} {y o k c r b d c3 : Nat} (h : SAt z0 zs bs y o k c) (hk : o + k < zs.length) (hr : r = zs.getD (o + k) 0) (hb : b = bs.getD k 0)
    (hd : d < 18446744073709551616) (hc3 : c3 < 18446744073709551616) (he : d + 18446744073709551616 * c3 = r + b * y + c) : SAt z0 (zs.set (o + k) d) bs y o (k + 1) c3 := by
  obtain ⟨h1, h2, h3, h4, h5⟩ := h
  refine ⟨by simpa using h1, wDig_set h2 hk hd, hc3, ?_, fun j hj => ?_⟩
  · have hs := wval_set zs (o + k) d hk
    rw [← hr] at hs
    rw [wval_take_succ, ← hb, Nat.mul_add y, Nat.mul_left_comm y, Nat.mul_add, ← Nat.mul_assoc (18446744073709551616 ^ o) (18446744073709551616 ^ k), ← Nat.pow_add, ← Nat.add_assoc o k 1, Nat.pow_succ, Nat.mul_assoc (18446744073709551616 ^ (o + k))]
    have e : 18446744073709551616 ^ (o + k) * d + 18446744073709551616 ^ (o + k) * (18446744073709551616 * c3) = 18446744073709551616 ^ (o + k) * r + 18446744073709551616 ^ (o + k) * (y * b) + 18446744073709551616 ^ (o + k) * c := by
      rw [← Nat.mul_add, he, Nat.mul_add, Nat.mul_add, Nat.mul_comm b y]
    omega
  · rw [← h5 j (by omega)]
    simp [List.getD_eq_getElem?_getD, show ¬ o + k = j by omega]

/-- The words from place k on are noughts. -/
def Nought (zs : List Nat) (k : Nat) : Prop := ∀ j, k ≤ j → zs.getD j 0 = 0
theorem nought_all (n k : Nat) : Nought (List.replicate n 0) k := fun j _ => by simp [List.getD_eq_getElem?_getD, List.getElem?_replicate]; split <;> rfl
theorem wval_noughts : ∀ n, wval (List.replicate n 0) = 0
  | 0 => rfl
  | n + 1 => by rw [List.replicate_succ, wval, wval_noughts n]
theorem wDig_noughts (n : Nat) : WDig (List.replicate n 0) := fun j => by rw [nought_all n 0 j (by omega)]; omega

/-- What is carried is laid on top of what was added. -/
theorem s_top {z0 zs bs : List Nat} {y o k c : Nat} (h : SAt z0 zs bs y o k c) (hk : bs.length ≤ k) (hz : Nought z0 (o + k)) (ho : o + k < zs.length) :
    (zs.set (o + k) c).length = z0.length ∧ WDig (zs.set (o + k) c) ∧ wval (zs.set (o + k) c) = wval z0 + 18446744073709551616 ^ o * (y * wval bs) ∧ Nought (zs.set (o + k) c) (o + k + 1) := by
  obtain ⟨h1, h2, h3, h4, h5⟩ := h
  refine ⟨by simpa using h1, wDig_set h2 ho h3, ?_, fun j hj => ?_⟩
  · have hs := wval_set zs (o + k) c ho
    rw [h5 _ (Nat.le_refl _), hz _ (Nat.le_refl _), Nat.mul_zero] at hs
    rw [wval_take_ge _ _ hk] at h4
    omega
  · have : (zs.set (o + k) c).getD j 0 = zs.getD j 0 := by simp [List.getD_eq_getElem?_getD, show ¬ o + k = j by omega]
    rw [this, h5 j (by omega), hz j (by omega)]

/-- k words of bs are multiplied by xs, and summed. -/
def MRow (xs bs zs : List Nat) (N k : Nat) : Prop := zs.length = N ∧ WDig zs ∧ wval zs = wval xs * wval (bs.take k) ∧ Nought zs (k + xs.length)
theorem m_start (xs bs : List Nat) (N : Nat) : MRow xs bs (List.replicate N 0) N 0 := ⟨by simp, wDig_noughts _, by rw [wval_noughts]; simp [wval], nought_all _ _⟩
theorem m_step {xs bs z0 zs : List Nat} {N k c y : Nat} (h : MRow xs bs z0 N k) (hs : SAt z0 zs xs y k xs.length c) (hy : y = bs.getD k 0) (hk : k + xs.length < N) : MRow xs bs (zs.set (k + xs.length) c) N (k + 1) := by
  obtain ⟨h1, h2, h3, h4⟩ := h
  obtain ⟨t1, t2, t3, t4⟩ := s_top hs (Nat.le_refl _) h4 (by rw [hs.1, h1]; exact hk)
  refine ⟨by rw [t1, h1], t2, ?_, fun j hj => t4 j (by omega)⟩
  rw [t3, h3, wval_take_succ, ← hy, Nat.mul_add, Nat.mul_left_comm (wval xs), Nat.mul_comm (wval xs) y]

/-- The sum of the products of each two words, as far as k words are done; the sum of the squares. -/
def crs (xs : List Nat) : Nat → Nat
  | 0 => 0
  | k + 1 => crs xs k + 18446744073709551616 ^ (2 * k + 1) * (xs.getD k 0 * wval (xs.drop (k + 1)))
def sqs (xs : List Nat) : Nat → Nat
  | 0 => 0
  | k + 1 => sqs xs k + 18446744073709551616 ^ (2 * k) * (xs.getD k 0 * xs.getD k 0)
theorem wval_drop_one (xs : List Nat) (k : Nat) : wval (xs.drop k) = xs.getD k 0 + 18446744073709551616 * wval (xs.drop (k + 1)) := by
  by_cases h : k < xs.length
  · rw [List.drop_eq_getElem_cons h, wval, getD_lt h]
  · rw [List.drop_eq_nil_of_le (by omega), List.drop_eq_nil_of_le (by omega), getD_ge (by omega)]; simp [wval]
theorem sq_step (p B x v : Nat) : p * ((x + B * v) * (x + B * v)) = p * (x * x) + p * B * (x * v) + p * B * (x * v) + p * B * B * (v * v) := by
  have e : (x + B * v) * (x + B * v) = x * x + B * (x * v) + B * (x * v) + B * B * (v * v) := by
    rw [Nat.mul_add, Nat.add_mul, Nat.add_mul, Nat.mul_comm (B * v) x, Nat.mul_left_comm x B v, Nat.mul_assoc B v, Nat.mul_left_comm v B v, ← Nat.mul_assoc B B]
    omega
  rw [e, Nat.mul_add, Nat.mul_add, Nat.mul_add, ← Nat.mul_assoc p B (x * v), ← Nat.mul_assoc p (B * B), ← Nat.mul_assoc p B B]
theorem sum_help (c s t1 t2 t3 : Nat) : c + t1 + (c + t1) + (s + t3) + t2 = c + c + s + (t3 + t1 + t1 + t2) := by omega
theorem square_sum (xs : List Nat) : ∀ k, crs xs k + crs xs k + sqs xs k + 18446744073709551616 ^ (2 * k) * (wval (xs.drop k) * wval (xs.drop k)) = wval xs * wval xs
  | 0 => by simp [crs, sqs]
  | k + 1 => by
    rw [← square_sum xs k, wval_drop_one xs k, crs, sqs, sq_step, show 2 * (k + 1) = 2 * k + 1 + 1 from by omega, Nat.pow_succ, Nat.pow_succ]
    exact sum_help _ _ _ _ _
theorem square_is (xs : List Nat) (n : Nat) (h : xs.length ≤ n) : crs xs n + crs xs n + sqs xs n = wval xs * wval xs := by
  have := square_sum xs n
  rw [List.drop_eq_nil_of_le h] at this
  simpa [wval] using this

/-- As far as k words are done: the products of each two. -/
def CRow (xs zs : List Nat) (n k : Nat) : Prop := zs.length = 2 * n ∧ WDig zs ∧ wval zs = crs xs k ∧ Nought zs (k + n)
theorem c_start (xs : List Nat) (n : Nat) : CRow xs (List.replicate (2 * n) 0) n 0 := ⟨by simp, wDig_noughts _, by rw [wval_noughts]; rfl, nought_all _ _⟩
theorem c_step {xs z0 zs : List Nat} {n k c y : Nat} (h : CRow xs z0 n k) (hs : SAt z0 zs (xs.drop (k + 1)) y (2 * k + 1) (n - (k + 1)) c) (hy : y = xs.getD k 0) (hl : xs.length = n) (hk : k < n) : CRow xs (zs.set (k + n) c) n (k + 1) := by
  obtain ⟨h1, h2, h3, h4⟩ := h
  have e : 2 * k + 1 + (n - (k + 1)) = k + n := by omega
  obtain ⟨t1, t2, t3, t4⟩ := s_top hs (by simp; omega) (by rw [e]; exact h4) (by rw [hs.1, h1]; omega)
  rw [e] at t1 t2 t3 t4
  refine ⟨by rw [t1, h1], t2, ?_, fun j hj => t4 j (by omega)⟩
  rw [t3, h3, crs, ← hy]

/-- As far as k words are done: their squares. -/
def QRow (xs zs : List Nat) (n k : Nat) : Prop := zs.length = 2 * n ∧ WDig zs ∧ wval zs = sqs xs k ∧ Nought zs (2 * k)
theorem q_start (xs : List Nat) (n : Nat) : QRow xs (List.replicate (2 * n) 0) n 0 := ⟨by simp, wDig_noughts _, by rw [wval_noughts]; rfl, nought_all _ _⟩
theorem q_step {xs zs : List Nat} {n k x hi lo : Nat} (h : QRow xs zs n k) (hx : x = xs.getD k 0) (hk : k < n) (hh : hi < 18446744073709551616) (hl : lo < 18446744073709551616) (he : 18446744073709551616 * hi + lo = x * x) :
    QRow xs ((zs.set (2 * k + 1) hi).set (2 * k) lo) n (k + 1) := by
  obtain ⟨h1, h2, h3, h4⟩ := h
  have d1 := wDig_set h2 (k := 2 * k + 1) (by omega) hh
  refine ⟨by simpa using h1, wDig_set d1 (by simp; omega) hl, ?_, fun j hj => ?_⟩
  · have s1 := wval_set zs (2 * k + 1) hi (by omega)
    rw [h4 _ (by omega), Nat.mul_zero] at s1
    have s2 := wval_set (zs.set (2 * k + 1) hi) (2 * k) lo (by simp; omega)
    have : (zs.set (2 * k + 1) hi).getD (2 * k) 0 = zs.getD (2 * k) 0 := by simp [List.getD_eq_getElem?_getD]
    rw [this, h4 _ (by omega), Nat.mul_zero] at s2
    rw [sqs, ← hx, ← he, Nat.mul_add, ← Nat.mul_assoc, ← Nat.pow_succ]
    show _ = _ + (18446744073709551616 ^ (2 * k + 1) * hi + _)
    omega
  · have : ((zs.set (2 * k + 1) hi).set (2 * k) lo).getD j 0 = zs.getD j 0 := by simp [List.getD_eq_getElem?_getD, show ¬ 2 * k + 1 = j by omega, show ¬ 2 * k = j by omega]
    rw [this, h4 j (by omega)]

end Go.Proofs.Ytdocljbmmaoenaa
