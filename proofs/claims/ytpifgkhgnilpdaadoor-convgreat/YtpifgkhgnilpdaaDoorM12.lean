/- What the statements on transforms call: a row of just n words, a prime of the list. -/
import Derived.Test.YtpifgkhgnilpdaaDoorM8
import Derived.Test.YtpifgkhgnilpdaaDoorM11
import Derived.Test.YtpifgkhgnilpdaaDoorM4
import Derived.Test.YtpifgkhgnilpdaaDoorM9
namespace Go.Proofs.YtpifgkhgnilpdaaDoor
open Go.RowKit

/-- Just n words of a row. -/
def rowTo (n : Nat) (xs : List Nat) : List Nat := xs.take (min n xs.length) ++ List.replicate (n - min n xs.length) 0
theorem rowTo_length (n : Nat) (xs : List Nat) : (rowTo n xs).length = n := by simp [rowTo]; omega
theorem splice_row (ys : List Nat) (n k : Nat) (h : ys.length = k) (_hk : k ≤ n) : splice (zlist n) 0 (crow ys) = cellsOf (ys ++ List.replicate (n - k) 0) := by
  simp [splice, zlist, crow, cellsOf, h]

theorem fields_at : ∀ j, j < 12 → (#[.int .u64 17, .int .u64 97, .int .u64 193, .int .u64 257, .int .u64 769, .int .u64 12289, .int .u64 40961, .int .u64 65537, .int .u64 998244353, .int .u64 180143985094819841, .int .u64 1945555039024054273, .int .u64 4179340454199820289] : Array Value)[j]? = some (.int .u64 (fields.getD j 0 : Int))
  | 0, _ => rfl
  | 1, _ => rfl
  | 2, _ => rfl
  | 3, _ => rfl
  | 4, _ => rfl
  | 5, _ => rfl
  | 6, _ => rfl
  | 7, _ => rfl
  | 8, _ => rfl
  | 9, _ => rfl
  | 10, _ => rfl
  | 11, _ => rfl
  | k + 12, h => absurd h (by omega)

end Go.Proofs.YtpifgkhgnilpdaaDoor

/- Transforms: what comes back; sums of products by transforms are the reference's. Nothing of any program here but the reference's rows. -/
namespace Go.Proofs.YtpifgkhgnilpdaaDoor

theorem sI_cut {n m : Nat} {f : Nat → Int} (h : m ≤ n) (hz : ∀ j, m ≤ j → j < n → f j = 0) : sI n f = sI m f := by
  obtain ⟨d, rfl⟩ : ∃ d, n = m + d := ⟨n - m, by omega⟩
  rw [sI_join, sI_congr (n := d) (g := fun _ => 0) fun j hj => hz (m + j) (by omega) (by omega), sI_zero, Int.add_zero]
theorem rowI_out {xs : List Nat} {j : Nat} (h : xs.length ≤ j) : rowI xs j = 0 := by
  unfold rowI
  rw [List.getD_eq_getElem?_getD, List.getElem?_eq_none h]
  rfl
theorem rowI_rowTo {xs : List Nat} {n j : Nat} (hj : j < n) : rowI (rowTo n xs) j = rowI xs j := by
  unfold rowI rowTo
  congr 1
  rw [List.getD_eq_getElem?_getD, List.getD_eq_getElem?_getD]
  by_cases h : j < xs.length
  · rw [List.getElem?_append_left (by simp; omega), List.getElem?_take, if_pos (by omega)]
  · rw [List.getElem?_append_right (by simp; omega), List.getElem?_replicate, List.getElem?_eq_none (l := xs) (by omega)]
    split <;> rfl

/-- The reference's sums, where both rows have just n. -/
theorem conv_cyc {p n : Nat} {xs ys : List Nat} (hx : xs.length = n) (hy : ys.length = n) (hn : 0 < n) (k : Nat) (hk : k < n) : Cg p ((convR p n xs ys).getD k 0 : Int) (cyc n (rowI xs) (rowI ys) k) := by
  have := cvOut_cg (p := p) (xs := xs) (ys := ys) hn k hk xs.length
  unfold convR
  rw [hx, hy] at this
  rw [hx]
  exact this
/-- The reference's sums of two rows that fit. -/
theorem conv_pad {p n m : Nat} {xs ys : List Nat} (hx : 1 ≤ xs.length) (hy : 1 ≤ ys.length) (hm : m + 1 = xs.length + ys.length) (hn : m ≤ n) (k : Nat) (hk : k < m) : Cg p ((convR p m xs ys).getD k 0 : Int) (cyc n (rowI (rowTo n xs)) (rowI (rowTo n ys)) k) := by
  refine (cvOut_cg (p := p) (xs := xs) (ys := ys) (by omega) k hk xs.length).trans (Cg.of_eq ?_)
  unfold cyc
  have e1 : (sI n fun i => sI n fun j => if (i + j) % n = k then rowI (rowTo n xs) i * rowI (rowTo n ys) j else 0) = sI n fun i => sI n fun j => if (i + j) % n = k then rowI xs i * rowI ys j else 0 :=
    sI_congr fun i hi => sI_congr fun j hj => by rw [rowI_rowTo hi, rowI_rowTo hj]
  rw [e1]
  symm
  rw [sI_cut (m := xs.length) (by omega) fun i h1 h2 => by
    rw [sI_congr (g := fun _ => 0) fun j _ => by rw [rowI_out h1, Int.zero_mul]; split <;> rfl]
    exact sI_zero n]
  refine sI_congr fun i hi => ?_
  rw [sI_cut (m := ys.length) (by omega) fun j h1 h2 => by rw [rowI_out h1, Int.mul_zero]; split <;> rfl]
  refine sI_congr fun j hj => ?_
  rw [Nat.mod_eq_of_lt (show i + j < n by omega), Nat.mod_eq_of_lt (show i + j < m by omega)]

/-- Rows of residues that are the same modulo p are the same. -/
theorem rows_eq {p n : Nat} {xs ys : List Nat} (hx : xs.length = n) (hy : ys.length = n) (lx : ∀ k, k < n → xs.getD k 0 < p) (ly : ∀ k, k < n → ys.getD k 0 < p) (h : ∀ k, k < n → Cg p (rowI xs k) (rowI ys k)) : xs = ys :=
  list_of (hx.trans hy.symm) fun k hk => Cg.eq (h k (by omega)) (lx k (by omega)) (ly k (by omega))
theorem convR_lt {p m : Nat} {xs ys : List Nat} (hp : 0 < p) (k : Nat) : (convR p m xs ys).getD k 0 < p := cvOut_lt hp xs.length k
theorem convR_length (p m : Nat) (xs ys : List Nat) : (convR p m xs ys).length = m := cvOut_length p m xs ys xs.length
theorem reds_length (p : Nat) (xs : List Nat) : (reds p xs).length = xs.length := by simp [reds]
theorem reds_lt {p : Nat} (hp : 0 < p) (xs : List Nat) (k : Nat) : (reds p xs).getD k 0 < p := by
  unfold reds
  rw [List.getD_eq_getElem?_getD, List.getElem?_map]
  cases xs[k]? with
  | none => exact hp
  | some x => exact Nat.mod_lt _ hp
theorem reds_cg (p : Nat) (xs : List Nat) (k : Nat) : Cg p (rowI (reds p xs) k) (rowI xs k) := by
  unfold rowI reds
  rw [List.getD_eq_getElem?_getD, List.getD_eq_getElem?_getD, List.getElem?_map]
  cases xs[k]? with
  | none => exact Cg.refl _ _
  | some x => exact Cg.mod p x
theorem fwd_cg {p w : Nat} (xs : List Nat) {k : Nat} (h : k < xs.length) : Cg p (rowI (fwd p w xs) k) (dft (w : Int) xs.length (rowI xs) k) := by
  unfold rowI
  rw [fwd_at p w xs h]
  exact part_cg p w xs k xs.length
theorem fwd_lt {p : Nat} (hp : 0 < p) (w : Nat) (xs : List Nat) (k : Nat) : (fwd p w xs).getD k 0 < p := by
  by_cases h : k < xs.length
  · rw [fwd_at p w xs h]; exact part_lt hp w xs k _
  · rw [List.getD_eq_getElem?_getD, List.getElem?_eq_none (by rw [fwd_length]; omega)]; exact hp

/-- What was transformed forward, transformed by the inverse root and divided by N, is what it was. -/
theorem back_cg {p l : Nat} {w v c : Int} (h : Rt p w l) (hv : Cg p (w * v) 1) (hc : Cg p (c * ((2 ^ l : Nat) : Int)) 1) {a b : Nat → Int} (hb : ∀ k, k < 2 ^ l → Cg p (b k) (dft w (2 ^ l) a k)) (i : Nat) (hi : i < 2 ^ l) :
    Cg p (c * dft v (2 ^ l) b i) (a i) := by
  have h1 : Cg p (dft v (2 ^ l) b i) (dft v (2 ^ l) (dft w (2 ^ l) a) i) := dft_cg (Cg.refl p v) hb
  have h2 := (Cg.refl p c).mul (h1.trans (dft_back h hv a i hi))
  refine h2.trans ?_
  rw [← Int.mul_assoc]
  have := hc.mul (Cg.refl p (a i))
  rwa [Int.one_mul] at this
/-- The inverse root is a root, too. -/
theorem Rt.inv {p : Nat} {w v : Int} : ∀ {l : Nat}, Rt p w l → Cg p (w * v) 1 → Rt p v l
  | 0, h, hv => by
    have h1 : Cg p w 1 := h
    have h2 := h1.mul (Cg.refl p v)
    rw [Int.one_mul] at h2
    exact h2.symm.trans hv
  | l + 1, h, hv => by
    have h1 : Cg p (w ^ 2 ^ l) (-1) := h
    show Cg p (v ^ 2 ^ l) (-1)
    have h2 := inv_pow hv (2 ^ l)
    have h3 := h1.mul (Cg.refl p (v ^ 2 ^ l))
    have h4 := h3.symm.trans h2
    have h5 := (Cg.refl p (-1)).mul h4
    refine Cg.trans (Cg.of_eq ?_) (h5.trans (Cg.of_eq rfl))
    omega
/-- Products of transforms, brought back, are the sums that go round. -/
theorem cyc_back {p l : Nat} {w v c : Int} (h : Rt p w l) (hv : Cg p (w * v) 1) (hc : Cg p (c * ((2 ^ l : Nat) : Int)) 1) {a b d : Nat → Int} (hd : ∀ k, k < 2 ^ l → Cg p (d k) (dft w (2 ^ l) a k * dft w (2 ^ l) b k)) (i : Nat) (hi : i < 2 ^ l) :
    Cg p (c * dft v (2 ^ l) d i) (cyc (2 ^ l) a b i) :=
  back_cg h hv hc (fun k hk => (hd k hk).trans (dft_cyc h.one (Nat.pow_pos (by omega)) a b k)) i hi

end Go.Proofs.YtpifgkhgnilpdaaDoor

/- A transform by halves, in place: plain mathematics. Nothing of any program here. -/
namespace Go.Proofs.YtpifgkhgnilpdaaDoor

/-- The i-th power of r, in Montgomery's form. -/
def mp (p r i : Nat) : Nat := r ^ i * 18446744073709551616 % p
theorem mp_next {p : Nat} (r i : Nat) (h : p % 2 = 1) (hp : p < 18446744073709551616) : mm p (mp p r i) (ml p r 18446744073709551616) = mp p r (i + 1) := by
  have := mm_mont (r ^ i) r h hp
  rw [← Nat.pow_succ] at this
  exact this
theorem mp_zero (p r : Nat) : ml p 1 18446744073709551616 = mp p r 0 := by unfold mp ml; rw [Nat.pow_zero]
theorem mm_cg {p : Nat} (a r t : Nat) (h : p % 2 = 1) (hp : p < 18446744073709551616) : Cg p (mm p a (mp p r t) : Int) ((a : Int) * (r : Int) ^ t) := by
  unfold mm
  have h1 := ib_one h hp
  have h2 : Cg p (mp p r t : Int) ((r : Int) ^ t * 18446744073709551616) := by
    unfold mp
    refine (Cg.mod p _).trans (Cg.of_eq ?_)
    rw [Int.natCast_mul, Int.natCast_pow]
    rfl
  refine (Cg.mod p _).trans ?_
  rw [Int.natCast_mul, Int.natCast_mul]
  have h3 := ((Cg.refl p (a : Int)).mul h2).mul (Cg.refl p (ib p : Int))
  refine h3.trans ?_
  have h4 := (Cg.refl p ((a : Int) * (r : Int) ^ t)).mul h1
  rw [Int.mul_one] at h4
  refine Cg.trans (Cg.of_eq ?_) h4
  grind

/-- One number of the halves joined. -/
def bf (p : Nat) (W : Nat → Nat) (n M : Nat) (z : List Nat) (i : Nat) : Nat :=
  if i / n % 2 = 0 then ad p (z.getD i 0) (mm p (z.getD (i + n) 0) (W (i % n * M))) else sb p (z.getD (i - n) 0) (mm p (z.getD i 0) (W (i % n * M)))
def jn (p : Nat) (W : Nat → Nat) (n M : Nat) (z : List Nat) : List Nat := (List.range z.length).map (bf p W n M z)
theorem jn_length (p : Nat) (W : Nat → Nat) (n M : Nat) (z : List Nat) : (jn p W n M z).length = z.length := by simp [jn]
theorem jn_at (p : Nat) (W : Nat → Nat) (n M : Nat) (z : List Nat) {i : Nat} (h : i < z.length) : (jn p W n M z).getD i 0 = bf p W n M z i := by simp [jn, h]
theorem bf_low (p : Nat) (W : Nat → Nat) {n M : Nat} (z : List Nat) (q : Nat) {k : Nat} (hk : k < n) : bf p W n M z (2 * n * q + k) = ad p (z.getD (2 * n * q + k) 0) (mm p (z.getD (2 * n * q + n + k) 0) (W (k * M))) := by
  have e : 2 * n * q + k = k + n * (2 * q) := by rw [Nat.mul_comm 2 n, Nat.mul_assoc]; omega
  have h1 : (2 * n * q + k) / n = 2 * q := by rw [e, Nat.add_mul_div_left _ _ (by omega), Nat.div_eq_of_lt hk]; omega
  have h2 : (2 * n * q + k) % n = k := by rw [e, Nat.add_mul_mod_self_left, Nat.mod_eq_of_lt hk]
  unfold bf
  rw [h1, h2, if_pos (by omega), show 2 * n * q + k + n = 2 * n * q + n + k by omega]
theorem bf_high (p : Nat) (W : Nat → Nat) {n M : Nat} (z : List Nat) (q : Nat) {k : Nat} (hk : k < n) : bf p W n M z (2 * n * q + n + k) = sb p (z.getD (2 * n * q + k) 0) (mm p (z.getD (2 * n * q + n + k) 0) (W (k * M))) := by
  have e : 2 * n * q + n + k = k + n * (2 * q + 1) := by rw [Nat.mul_comm 2 n, Nat.mul_assoc, Nat.mul_add, Nat.mul_one]; omega
  have h1 : (2 * n * q + n + k) / n = 2 * q + 1 := by rw [e, Nat.add_mul_div_left _ _ (by omega), Nat.div_eq_of_lt hk]; omega
  have h2 : (2 * n * q + n + k) % n = k := by rw [e, Nat.add_mul_mod_self_left, Nat.mod_eq_of_lt hk]
  unfold bf
  rw [h1, h2, if_neg (by omega), show 2 * n * q + n + k - n = 2 * n * q + k by omega]

/-- zs: what of z0 the halves joined so far have become: all ahead of st, and of each of the two behind it the first j. -/
def JRow (F : Nat → Nat) (z0 zs : List Nat) (n st j : Nat) : Prop :=
  zs.length = z0.length ∧ ∀ i, i < z0.length → zs.getD i 0 = if i < st + j ∨ (st + n ≤ i ∧ i < st + n + j) then F i else z0.getD i 0
theorem jrow_start (F : Nat → Nat) (z0 : List Nat) (n : Nat) : JRow F z0 z0 n 0 0 := ⟨rfl, fun i _ => by rw [if_neg (by omega)]⟩
theorem jrow_low {F : Nat → Nat} {z0 zs : List Nat} {n st j : Nat} (h : JRow F z0 zs n st j) (hj : j < n) (hl : st + 2 * n ≤ z0.length) : zs.getD (st + j) 0 = z0.getD (st + j) 0 := by
  rw [h.2 _ (by omega), if_neg (by omega)]
theorem jrow_high {F : Nat → Nat} {z0 zs : List Nat} {n st j : Nat} (h : JRow F z0 zs n st j) (hj : j < n) (hl : st + 2 * n ≤ z0.length) : zs.getD (st + n + j) 0 = z0.getD (st + n + j) 0 := by
  rw [h.2 _ (by omega), if_neg (by omega)]
theorem set_at (zs : List Nat) (k v i : Nat) (hk : k < zs.length) : (zs.set k v).getD i 0 = if i = k then v else zs.getD i 0 := by
  by_cases e : i = k
  · subst e; simp [hk]
  · rw [if_neg e]; simp [List.getElem?_set_ne (Ne.symm e)]
theorem jrow_step {F : Nat → Nat} {z0 zs : List Nat} {n st j : Nat} (h : JRow F z0 zs n st j) (hj : j < n) (hl : st + 2 * n ≤ z0.length) : JRow F z0 ((zs.set (st + j) (F (st + j))).set (st + n + j) (F (st + n + j))) n st (j + 1) := by
  refine ⟨by simpa using h.1, fun i hi => ?_⟩
  have h0 := h.2 i hi
  have hz := h.1
  rw [set_at _ _ _ _ (by simp; omega), set_at _ _ _ _ (by omega)]
  by_cases e1 : i = st + n + j
  · rw [if_pos e1, if_pos (by omega), e1]
  · rw [if_neg e1]
    by_cases e2 : i = st + j
    · rw [if_pos e2, if_pos (by omega), e2]
    · rw [if_neg e2, h0]
      by_cases c : i < st + j ∨ (st + n ≤ i ∧ i < st + n + j)
      · rw [if_pos c, if_pos (by omega)]
      · rw [if_neg c, if_neg (by omega)]
theorem jrow_next {F : Nat → Nat} {z0 zs : List Nat} {n st : Nat} (h : JRow F z0 zs n st n) : JRow F z0 zs n (st + 2 * n) 0 := by
  refine ⟨h.1, fun i hi => ?_⟩
  rw [h.2 i hi]
  by_cases c : i < st + 2 * n
  · rw [if_pos (by omega), if_pos (by omega)]
  · rw [if_neg (by omega), if_neg (by omega)]
theorem jrow_end {p : Nat} {W : Nat → Nat} {M : Nat} {z0 zs : List Nat} {n st : Nat} (h : JRow (bf p W n M z0) z0 zs n st 0) (hs : z0.length ≤ st) : zs = jn p W n M z0 := by
  refine list_of (by rw [h.1, jn_length]) fun k hk => ?_
  rw [jn_length] at hk
  rw [jn_at _ _ _ _ _ hk, h.2 k hk, if_pos (by omega)]

/-- zs: transforms of 2 to the s numbers, 2 to the t of them, of what lies 2 to the t apart. -/
def Lev (p r t s : Nat) (xs zs : List Nat) : Prop :=
  zs.length = 2 ^ (s + t) ∧ (∀ i, zs.getD i 0 < p) ∧ ∀ q k, q < 2 ^ t → k < 2 ^ s → Cg p (rowI zs (2 ^ s * q + k)) (dft ((r : Int) ^ 2 ^ t) (2 ^ s) (fun j => rowI xs (rev t q + 2 ^ t * j)) k)

/-- A row scattered, as far as the k-th. -/
def Scat (p L : Nat) (xs zs : List Nat) (k : Nat) : Prop := zs.length = 2 ^ L ∧ (∀ i, zs.getD i 0 < p) ∧ ∀ i, i < k → zs.getD (rev L i) 0 = xs.getD i 0 % p
theorem scat_start {p : Nat} (hp : 0 < p) (L : Nat) (xs : List Nat) : Scat p L xs (List.replicate (2 ^ L) 0) 0 := by
  refine ⟨by simp, fun i => ?_, fun i hi => absurd hi (by omega)⟩
  rw [List.getD_eq_getElem?_getD, List.getElem?_replicate]
  split <;> exact hp
theorem scat_step {p L : Nat} {xs zs : List Nat} {k : Nat} (hp : 0 < p) (h : Scat p L xs zs k) (hk : k < 2 ^ L) : Scat p L xs (zs.set (rev L k) (xs.getD k 0 % p)) (k + 1) := by
  obtain ⟨h1, h2, h3⟩ := h
  have hr : rev L k < zs.length := by rw [h1]; exact rev_lt L k
  refine ⟨by simpa using h1, fun i => ?_, fun i hi => ?_⟩
  · rw [set_at _ _ _ _ hr]
    split
    · exact Nat.mod_lt _ hp
    · exact h2 i
  · rw [set_at _ _ _ _ hr]
    by_cases e : i = k
    · subst e; rw [if_pos rfl]
    · rw [if_neg, h3 i (by omega)]
      intro e2
      apply e
      rw [← rev_rev (L := L) (x := i) (by omega), e2, rev_rev hk]
theorem lev_start {p r L : Nat} {xs zs : List Nat} (h : Scat p L xs zs (2 ^ L)) : Lev p r L 0 xs zs := by
  obtain ⟨h1, h2, h3⟩ := h
  refine ⟨by rw [h1, Nat.zero_add], h2, fun q k hq hk => ?_⟩
  obtain rfl : k = 0 := by simpa using hk
  have e : rowI zs (2 ^ 0 * q + 0) = ((xs.getD (rev L q) 0 % p : Nat) : Int) := by
    unfold rowI
    rw [Nat.pow_zero, Nat.one_mul, Nat.add_zero, ← h3 (rev L q) (rev_lt L q), rev_rev hq]
  rw [e]
  refine (Cg.mod p _).trans (Cg.of_eq ?_)
  show _ = sI 1 _
  show _ = 0 + rowI xs (rev L q + 2 ^ L * 0) * _ ^ (0 * 0)
  rw [Nat.mul_zero, Nat.mul_zero, Nat.add_zero, Int.pow_zero, Int.mul_one, Int.zero_add]
  rfl
theorem lev_step {p r t s : Nat} {xs z0 : List Nat} (hr : Rt p (r : Int) (s + t + 1)) (h : p % 2 = 1) (hp : p < 18446744073709551616) (H : Lev p r (t + 1) s xs z0) : Lev p r t (s + 1) xs (jn p (mp p r) (2 ^ s) (2 ^ t) z0) := by
  obtain ⟨h1, h2, h3⟩ := H
  have hp0 : 0 < p := by omega
  have hlen : z0.length = 2 ^ (s + 1 + t) := by rw [h1]; congr 1; omega
  refine ⟨by rw [jn_length, hlen], fun i => ?_, fun q k hq hk => ?_⟩
  · by_cases hi : i < z0.length
    · rw [jn_at _ _ _ _ _ hi]
      unfold bf
      split
      · exact Nat.mod_lt _ hp0
      · exact Nat.mod_lt _ hp0
    · rw [List.getD_eq_getElem?_getD, List.getElem?_eq_none (by rw [jn_length]; omega)]
      exact hp0
  · obtain ⟨n, hn⟩ : ∃ n, n = 2 ^ s := ⟨_, rfl⟩
    have hn1 : 0 < n := by rw [hn]; exact Nat.pow_pos (by decide)
    have e2 : 2 ^ (s + 1) = 2 * n := by rw [hn, Nat.pow_succ, Nat.mul_comm]
    have hNn : z0.length = 2 * n * 2 ^ t := by rw [hlen, Nat.pow_add, e2]
    have hq1 : 2 * n * q + 2 * n ≤ z0.length := by
      rw [hNn]
      have := Nat.mul_le_mul_left (2 * n) (show q + 1 ≤ 2 ^ t from hq)
      rwa [Nat.mul_add, Nat.mul_one] at this
    obtain ⟨v, hv⟩ : ∃ v : Int, v = (r : Int) ^ 2 ^ t := ⟨_, rfl⟩
    have hvv : (r : Int) ^ 2 ^ (t + 1) = v * v := by rw [hv, Nat.pow_succ, Int.pow_mul, Int.pow_succ, Int.pow_succ, Int.pow_zero, Int.one_mul]
    have hm1 : Cg p (v ^ n) (-1) := by
      have : Cg p ((r : Int) ^ 2 ^ (s + t)) (-1) := hr
      rw [hv, hn, ← Int.pow_mul, ← Nat.pow_add, Nat.add_comm t s]
      exact this
    obtain ⟨b, hb⟩ : ∃ b : Nat → Int, b = fun j => rowI xs (rev t q + 2 ^ t * j) := ⟨_, rfl⟩
    have q1 : 2 * q < 2 ^ (t + 1) := by rw [Nat.pow_succ]; omega
    have q2 : 2 * q + 1 < 2 ^ (t + 1) := by rw [Nat.pow_succ]; omega
    have hE : ∀ c, c < n → Cg p (rowI z0 (2 * n * q + c)) (dft (v * v) n (fun j => b (2 * j)) c) := fun c hc => by
      have := h3 (2 * q) c q1 (by rw [← hn]; exact hc)
      rw [hvv, ← hn, rev_even, show n * (2 * q) + c = 2 * n * q + c by rw [Nat.mul_comm 2 n, Nat.mul_assoc]] at this
      refine this.trans (Cg.of_eq ?_)
      congr 1
      funext j
      rw [hb]
      show _ = rowI xs (rev t q + 2 ^ t * (2 * j))
      rw [Nat.pow_succ, Nat.mul_assoc]
    have hO : ∀ c, c < n → Cg p (rowI z0 (2 * n * q + n + c)) (dft (v * v) n (fun j => b (2 * j + 1)) c) := fun c hc => by
      have := h3 (2 * q + 1) c q2 (by rw [← hn]; exact hc)
      rw [hvv, ← hn, rev_odd, show n * (2 * q + 1) + c = 2 * n * q + n + c by rw [Nat.mul_add, Nat.mul_one, Nat.mul_comm 2 n, Nat.mul_assoc]] at this
      refine this.trans (Cg.of_eq ?_)
      congr 1
      funext j
      rw [hb]
      show _ = rowI xs (rev t q + 2 ^ t * (2 * j + 1))
      rw [Nat.pow_succ, Nat.mul_add, Nat.mul_one, Nat.mul_assoc]
      congr 1
      omega
    have hmul : ∀ c, c < n → Cg p (mm p (z0.getD (2 * n * q + n + c) 0) (mp p r (c * 2 ^ t)) : Int) (v ^ c * dft (v * v) n (fun j => b (2 * j + 1)) c) := fun c hc => by
      refine (mm_cg _ r _ h hp).trans ?_
      have e : (r : Int) ^ (c * 2 ^ t) = v ^ c := by rw [hv, ← Int.pow_mul, Nat.mul_comm]
      rw [e, Int.mul_comm]
      exact (Cg.refl p _).mul (hO c hc)
    rw [e2] at hk ⊢
    by_cases hc : k < n
    · have e3 : rowI (jn p (mp p r) (2 ^ s) (2 ^ t) z0) (2 * n * q + k) = (ad p (z0.getD (2 * n * q + k) 0) (mm p (z0.getD (2 * n * q + n + k) 0) (mp p r (k * 2 ^ t))) : Int) := by
        unfold rowI
        rw [← hn, jn_at _ _ _ _ _ (by omega), bf_low _ _ _ _ hc]
      rw [e3, ← hb, ← hv]
      refine (ad_cg p _ _).trans ?_
      refine ((hE k hc).add (hmul k hc)).trans ?_
      exact (dft_low n b k).symm
    · obtain ⟨c, rfl⟩ : ∃ c, k = c + n := ⟨k - n, by omega⟩
      have hc : c < n := by omega
      have e3 : rowI (jn p (mp p r) (2 ^ s) (2 ^ t) z0) (2 * n * q + (c + n)) = (sb p (z0.getD (2 * n * q + c) 0) (mm p (z0.getD (2 * n * q + n + c) 0) (mp p r (c * 2 ^ t))) : Int) := by
        unfold rowI
        rw [← hn, show 2 * n * q + (c + n) = 2 * n * q + n + c by omega, jn_at _ _ _ _ _ (by omega), bf_high _ _ _ _ hc]
      rw [e3, ← hb, ← hv]
      refine (sb_cg hp0 _ _).trans ?_
      refine ((hE c hc).sub (hmul c hc)).trans ?_
      exact (dft_high hm1 b c).symm
theorem lev_end {p r L : Nat} {xs zs : List Nat} (hp : 0 < p) (hl : xs.length = 2 ^ L) (H : Lev p r 0 L xs zs) : zs = fwd p r xs := by
  obtain ⟨h1, h2, h3⟩ := H
  refine rows_eq (p := p) (n := 2 ^ L) (by rw [h1, Nat.add_zero]) (by rw [fwd_length, hl]) (fun k _ => h2 k) (fun k _ => fwd_lt hp r xs k) fun k hk => ?_
  have := h3 0 k (by decide) hk
  rw [Nat.mul_zero, Nat.zero_add] at this
  refine this.trans (Cg.trans (Cg.of_eq ?_) (fwd_cg (p := p) (w := r) xs (by omega)).symm)
  rw [hl, Nat.pow_zero, Int.pow_succ, Int.pow_zero, Int.one_mul]
  congr 1
  funext j
  rw [Nat.one_mul]
  show rowI xs (0 + j) = _
  rw [Nat.zero_add]

end Go.Proofs.YtpifgkhgnilpdaaDoor
