/- Shl, Shr and Low of the reference, in general. -/
import Derived.Test.YteinonbijiokmaaCShl
import Derived.Test.YteinonbijiokmaaM2
import Derived.Test.YteinonbijiokmaaM6
namespace Go.Proofs.Yteinonbijiokmaa
open Go.RowKit

theorem shl_any (w : World) (u : Value) (m n L : Nat) (hL : L ≤ 1073741824) (hm : m < 4294967296 ^ L) (hn : n ≤ 17179869184) (hu : IsN w u m) :
    Calls Try.prog 57 #[u, .int .i64 (n : Int)] w fun e w' => ∃ r, e = .returned r ∧ IsN w' r (m * 2 ^ n) ∧ Below w.heap.size w w' := by
  obtain ⟨ga, b, o, cap, xs, rfl, hr, hc, rfl⟩ := hu
  have hl := len_le hc hm
  by_cases h0 : xs.length = 0
  · obtain rfl : xs = [] := List.length_eq_zero_iff.1 h0
    refine (shl_zero w ga cap (n : Int)).mono ?_
    rintro e w' ⟨rfl, rfl⟩
    exact ⟨_, rfl, by rw [show val [] = 0 from rfl, Nat.zero_mul]; exact isN_none _, Below.refl _ _⟩
  · exact shl_rep w ga b o cap _ n _ _ xs rfl (by omega) (by omega) rfl rfl hn hr hc.1

/-- k digits are moved down: what is above stays to be moved. -/
def ShrAt (xs os : List Nat) (s t k : Nat) : Prop := os.length = k ∧ Dig os ∧ val os + 4294967296 ^ k * (val (xs.drop (s + k)) / 2 ^ t) = val (xs.drop s) / 2 ^ t

theorem val_drop_succ (xs : List Nat) (i : Nat) : val (xs.drop i) = xs.getD i 0 + 4294967296 * val (xs.drop (i + 1)) := by
  by_cases h : i < xs.length
  · rw [List.drop_eq_getElem_cons h, getD_lt h]; rfl
  · rw [List.drop_eq_nil_of_le (by omega), List.drop_eq_nil_of_le (by omega), getD_ge (by omega)]; rfl

theorem pow_split32 (t : Nat) (ht : t < 32) : 2 ^ (32 - t) * 2 ^ t = 4294967296 := by
  rw [← Nat.pow_add, show 32 - t + t = 32 from by omega]

/-- One digit moved down. -/
theorem shr_digit {x y D t : Nat} (hx : x < 4294967296) (hy : y = D % 4294967296) (ht : t < 32) :
    (y * 2 ^ (32 - t)) % 4294967296 = (D % 2 ^ t) * 2 ^ (32 - t) ∧ x / 2 ^ t + (D % 2 ^ t) * 2 ^ (32 - t) < 4294967296 ∧ (x + 4294967296 * D) / 2 ^ t = (x / 2 ^ t + (D % 2 ^ t) * 2 ^ (32 - t)) + 4294967296 * (D / 2 ^ t) := by
  have hp := pow_split32 t ht
  have hpos : 0 < 2 ^ t := Nat.pow_pos (by omega)
  have hpos2 : 0 < 2 ^ (32 - t) := Nat.pow_pos (by omega)
  have hd := Nat.div_add_mod D (2 ^ t)
  have hm := Nat.mod_lt D hpos
  generalize hq : 2 ^ (32 - t) = q at *
  generalize hP : 2 ^ t = p at *
  have e1 : D * q % 4294967296 = D % p * q := by
    rw [← hp, Nat.mul_comm q p, Nat.mul_mod_mul_right]
  refine ⟨?_, ?_, ?_⟩
  · rw [hy, Nat.mod_mul_mod]; exact e1
  · have h1 : x / p < q := by rw [Nat.div_lt_iff_lt_mul hpos, hp]; exact hx
    have h2 : (D % p + 1) * q ≤ p * q := Nat.mul_le_mul_right _ hm
    rw [Nat.add_mul, Nat.one_mul, Nat.mul_comm p q, hp] at h2
    omega
  · have e2 : x + 4294967296 * D = x + p * (q * D) := by rw [← hp, Nat.mul_comm q p, Nat.mul_assoc]
    rw [e2, Nat.add_mul_div_left _ _ hpos]
    have e3 : q * D = D % p * q + 4294967296 * (D / p) := by
      rw [← hp]
      have : q * D = q * (p * (D / p) + D % p) := by rw [hd]
      rw [this, Nat.mul_add, Nat.mul_comm q (D % p), ← Nat.mul_assoc]
      omega
    omega

theorem shr_start (xs : List Nat) (s t : Nat) : ShrAt xs [] s t 0 := ⟨rfl, dig_nil, by simp [val]⟩
theorem drop_mod (xs : List Nat) (h : Dig xs) (i : Nat) : val (xs.drop i) % 4294967296 = xs.getD i 0 := by
  rw [val_drop_succ]; have := h i; omega
theorem shr_step {xs os : List Nat} {s t k x d : Nat} (h : ShrAt xs os s t k) (dx : Dig xs) (ht : t < 32) (hx : x = xs.getD (s + k) 0) (hd : d = x / 2 ^ t + (val (xs.drop (s + k + 1)) % 2 ^ t) * 2 ^ (32 - t)) : ShrAt xs (os ++ [d]) s t (k + 1) := by
  obtain ⟨h1, h2, h3⟩ := h
  have hx32 : x < 4294967296 := by rw [hx]; exact dx _
  obtain ⟨_, e2, e3⟩ := shr_digit (y := val (xs.drop (s + k + 1)) % 4294967296) hx32 rfl ht
  refine ⟨by simp [h1], dig_snoc h2 (by rw [hd]; exact e2), ?_⟩
  rw [val_snoc, h1, ← h3, val_drop_succ xs (s + k), ← hx, e3, ← hd, Nat.pow_succ, Nat.mul_add, Nat.mul_assoc, Nat.add_assoc, ← Nat.add_assoc s k 1]
theorem shr_end {xs os : List Nat} {s t k : Nat} (h : ShrAt xs os s t k) (hk : xs.length ≤ s + k) (dx : Dig xs) : val os = val xs / 2 ^ (32 * s + t) := by
  obtain ⟨_, _, h3⟩ := h
  rw [List.drop_eq_nil_of_le hk, show val [] = 0 from rfl, Nat.zero_div, Nat.mul_zero, Nat.add_zero] at h3
  rw [h3, Nat.pow_add, ← Nat.div_div_eq_div_mul, Nat.pow_mul]
  congr 1
  have hv := val_drop xs s
  have hl := val_lt dx s
  rw [hv, show (2 : Nat) ^ 32 = 4294967296 from rfl, Nat.add_mul_div_left _ _ (Nat.pow_pos (by omega)), Nat.div_eq_of_lt hl, Nat.zero_add]

set_option maxRecDepth 100000 in
set_option maxHeartbeats 3200000 in
theorem shr_rep (w : World) (ga : Option Addr) (ba oa ca la n s t : Nat) (xs : List Nat) (hx : xs.length = la) (ha : la ≤ 1073741824) (hs : s = n / 32) (ht : t = n % 32) (hn : n ≤ 17179869184)
    (hA : Rep w ga ba oa ca xs) (dx : Dig xs) :
    Calls Try.prog 24 #[.slice ga la ca, .int .i64 (n : Int)] w fun e w' => ∃ v, e = .returned v ∧ IsN w' v (val xs / 2 ^ n) ∧ Below w.heap.size w w' := by
  obtain ⟨i0, hi, hz0, hz1, hz2⟩ := info_parts Try.infoU
  have es : (n : Int) / 32 = (s : Int) := by omega
  have et : (n : Int) % 32 = (t : Int) := by omega
  have ht32 : t < 32 := by omega
  have hsb : s ≤ 536870912 := by omega
  have hne : n = 32 * s + t := by omega
  have HN := hide hne
  obtain ⟨t2, ht2⟩ : ∃ t2, t2 = 32 - t := ⟨_, rfl⟩
  have et2 : (32 : Int) - (t : Int) = (t2 : Int) := by omega
  have ht2b : t2 ≤ 32 := by omega
  have HT2 := hide ht2
  clear hs ht hne ht2
  go_enter Try.func24, Try.ntmps24
  go_wp2
  go_loopw [5, 6] (fun out i wr => ∃ (k : Nat) (os : List Nat) (gw : Option Addr) (cw : Nat), (s + k ≤ la ∨ k = 0) ∧ i = .int .i64 ((s : Int) + (k : Int)) ∧ out = .slice gw k cw ∧
      wr.ownsRow w.heap.size 28 1 (.slice gw k cw) k (cellsOf os) ∧ Hid (ShrAt xs os s t k) ∧ Below w.heap.size w wr)
    (fun _ i _ => la - (intOf i).toNat)
  case atStart => exact ⟨0, [], none, 0, Or.inr rfl, by first | rfl | simp, rfl, World.ownsRow_nil _ _ _ _, shr_start xs s t, Below.refl _ _⟩
  case round =>
    obtain ⟨k, os, gw, cw, hk, rfl, rfl, hown, hAt, hnx⟩ := hrel
    have hsz := hnx.size
    by_cases h1 : s + k < la
    · have h1i : (s : Int) + (k : Int) < (la : Int) := by omega
      obtain rfl := hA.head (by omega)
      obtain ⟨x, hxe⟩ : ∃ x : Nat, x = xs.getD (s + k) 0 := ⟨_, rfl⟩
      have hx32 : x < 4294967296 := by rw [hxe]; exact dx _
      have cx : wr.cell? ⟨ba, oa + (s + k), none⟩ = some (.int .u64 (x : Int)) := by rw [hxe]; exact (hnx.cell (by exact hA.lt (by omega))).trans (hA.cell (s + k) (by omega))
      have e1 := shr_eq x t
      obtain ⟨q, hq⟩ : ∃ q, q = x / 2 ^ t := ⟨_, rfl⟩
      rw [← hq] at e1
      have hqb : q < 4294967296 := by rw [hq]; exact Nat.lt_of_le_of_lt (Nat.div_le_self _ _) hx32
      obtain ⟨D, hD⟩ : ∃ D, D = val (xs.drop (s + k + 1)) := ⟨_, rfl⟩
      obtain ⟨d, hd⟩ : ∃ d, d = x / 2 ^ t + (D % 2 ^ t) * 2 ^ (32 - t) := ⟨_, rfl⟩
      have H2 := hide (shr_step (d := d) hAt.out dx ht32 hxe (by rw [← hD]; exact hd))
      by_cases h2 : s + k + 1 < la
      · obtain ⟨y, hye⟩ : ∃ y : Nat, y = xs.getD (s + k + 1) 0 := ⟨_, rfl⟩
        have hyD : y = D % 4294967296 := by rw [hye, hD, drop_mod xs dx]
        obtain ⟨f1, f2, f3⟩ := shr_digit (x := x) hx32 hyD ht32
        have hy32 : y < 4294967296 := by omega
        have cy : wr.cell? ⟨ba, oa + (s + k + 1), none⟩ = some (.int .u64 (y : Int)) := by rw [hye]; exact (hnx.cell (by exact hA.lt (by omega))).trans (hA.cell (s + k + 1) (by omega))
        have h2i : (s : Int) + (k : Int) + 1 < (la : Int) := by omega
        have hzb : y * 2 ^ t2 < 18446744073709551616 := by
          have h1 : 2 ^ t2 ≤ 2 ^ 32 := Nat.pow_le_pow_right (by omega) ht2b
          have : y * 2 ^ t2 ≤ 4294967295 * 2 ^ 32 := Nat.mul_le_mul (by omega) h1
          omega
        have e2 := shl_fits y t2 hzb
        obtain ⟨z, hz⟩ : ∃ z, z = y * 2 ^ t2 := ⟨_, rfl⟩
        rw [← hz] at e2 hzb
        have e3 : (z : Int) % 4294967296 = ((z % 4294967296 : Nat) : Int) := by omega
        have hzm : z % 4294967296 = (D % 2 ^ t) * 2 ^ (32 - t) := by rw [hz, unhide HT2]; exact f1
        obtain ⟨zm, hzme⟩ : ∃ zm, zm = z % 4294967296 := ⟨_, rfl⟩
        rw [← hzme] at e3 hzm
        have hdz : q + zm = d := by rw [hq, hd, hzm]
        have hd32 : d < 4294967296 := by rw [hd]; exact f2
        have e4 : (q : Int) + (zm : Int) = (d : Int) := by omega
        have e5 : (d : Int) % 4294967296 = (d : Int) := by omega
        clear hk hxe hye hq hD hd hyD f1 f2 f3 hz hzb hzm hzme hdz
        go_wp2_with (at_builtin; refine wpList_append_own _ rfl (.tmp 42) (.tmp 45) 24 rfl w.heap.size 28 i0 (.int .u64 0) 1 8 Try.underlying24 hi hz0 hz1 hz2 rfl (by omega) (.slice gw k cw) k _ rfl (hown.alloc _) ⟨wr.heap.size, 0, none⟩ 1 1 [.int .u64 (d : Int)] rfl rfl (by exact cells_new wr [.int .u64 (d : Int)] 28) (by intro u hu; simp at hu; subst hu; rfl) (by unfold maxLen; omega) (by omega) (by simp; omega) ?_; intro v1 w1 hown1 hgrow1 hnil1)
        have ho2 := owns_snoc hown1
        have hb2 := below_append (hnx.alloc hsz _) (hown.alloc _) hgrow1 (by simp; omega)
        obtain ⟨g1, b1, c1, rfl, _, _, _⟩ := owns_rep ho2
        clear hown1 hgrow1 hnil1
        go_wp2
        go_roundw
        case rel => exact ⟨k + 1, os ++ [d], g1, c1, Or.inl (by omega), by first | rfl | exact congrArg (Value.int .i64) (by omega) | go_num, rfl, ho2, H2, hb2⟩
        case measure => simp [intOf]; omega
      · have hD0 : D = 0 := by rw [hD, List.drop_eq_nil_of_le (by omega)]; rfl
        have h2i : ¬ (s : Int) + (k : Int) + 1 < (la : Int) := by omega
        obtain rfl : d = q := by rw [hd, hq, hD0, Nat.zero_mod, Nat.zero_mul, Nat.add_zero]
        have e5 : (d : Int) % 4294967296 = (d : Int) := by omega
        clear hk hxe hq hD hd hD0
        go_wp2_with (at_builtin; refine wpList_append_own _ rfl (.tmp 42) (.tmp 45) 24 rfl w.heap.size 28 i0 (.int .u64 0) 1 8 Try.underlying24 hi hz0 hz1 hz2 rfl (by omega) (.slice gw k cw) k _ rfl (hown.alloc _) ⟨wr.heap.size, 0, none⟩ 1 1 [.int .u64 (d : Int)] rfl rfl (by exact cells_new wr [.int .u64 (d : Int)] 28) (by intro u hu; simp at hu; subst hu; rfl) (by unfold maxLen; omega) (by omega) (by simp; omega) ?_; intro v1 w1 hown1 hgrow1 hnil1)
        have ho2 := owns_snoc hown1
        have hb2 := below_append (hnx.alloc hsz _) (hown.alloc _) hgrow1 (by simp; omega)
        obtain ⟨g1, b1, c1, rfl, _, _, _⟩ := owns_rep ho2
        clear hown1 hgrow1 hnil1
        go_wp2
        go_roundw
        case rel => exact ⟨k + 1, os ++ [d], g1, c1, Or.inl (by omega), by first | rfl | exact congrArg (Value.int .i64) (by omega) | go_num, rfl, ho2, H2, hb2⟩
        case measure => simp [intOf]; omega
    · have h1i : ¬ (s : Int) + (k : Int) < (la : Int) := by omega
      have hv := shr_end hAt.out (by omega) dx
      rw [← unhide HN] at hv
      obtain ⟨g1, b1, c1, he, hl1, hrep, hb1⟩ := owns_rep hown
      cases he
      have hd := hAt.out.2.1
      have HV := hide hv
      clear hv
      go_wp2_with fail
      refine (norm_isN _ _ _ _ _ _ _ hl1 (by omega) hrep hd).mono ?_
      rintro e w' ⟨v, rfl, hN, rfl⟩
      go_wp2
      go_ret
      exact ⟨v, rfl, by rw [← unhide HV]; exact hN, hnx⟩

theorem shr_any (w : World) (u : Value) (m n L : Nat) (hL : L ≤ 1073741824) (hm : m < 4294967296 ^ L) (hn : n ≤ 17179869184) (hu : IsN w u m) :
    Calls Try.prog 24 #[u, .int .i64 (n : Int)] w fun e w' => ∃ r, e = .returned r ∧ IsN w' r (m / 2 ^ n) ∧ Below w.heap.size w w' := by
  obtain ⟨ga, b, o, cap, xs, rfl, hr, hc, rfl⟩ := hu
  have hl := len_le hc hm
  exact shr_rep w ga b o cap _ n _ _ xs rfl (by omega) rfl rfl hn hr hc.1

set_option maxHeartbeats 800000 in
theorem low_any (w : World) (u : Value) (m n L : Nat) (hL : L ≤ 1073741824) (hm : m < 4294967296 ^ L) (hn : n ≤ 17179869184) (hu : IsN w u m) :
    Calls Try.prog 23 #[u, .int .i64 (n : Int)] w fun e w' => ∃ r, e = .returned r ∧ IsN w' r (m % 2 ^ n) ∧ Below w.heap.size w w' := by
  have hq : m / 2 ^ n < 4294967296 ^ L := Nat.lt_of_le_of_lt (Nat.div_le_self _ _) hm
  have he : m - m / 2 ^ n * 2 ^ n = m % 2 ^ n := by have := Nat.div_add_mod' m (2 ^ n); omega
  have hle : m / 2 ^ n * 2 ^ n ≤ m := Nat.div_mul_le_self _ _
  have C1 := hide (shr_any w u m n L hL hm hn hu)
  have C2 := hide (fun w v => shl_any w v (m / 2 ^ n) n L hL hq hn)
  have C3 := hide (fun w v (hu : IsN w u m) => sub_any w u v m (m / 2 ^ n * 2 ^ n) L hL hm hle hu)
  have HU := hide hu
  rw [he] at C3
  clear hq he hle hm hu
  generalize m % 2 ^ n = R at *
  generalize m / 2 ^ n * 2 ^ n = T at *
  generalize m / 2 ^ n = Q at *
  go_enter Try.func23, Try.ntmps23
  go_wp2_with fail
  refine (unhide C1).mono ?_
  rintro e w1 ⟨v1, rfl, n1, b1⟩
  go_wp2_with fail
  refine (unhide C2 _ _ n1).mono ?_
  rintro e w2 ⟨v2, rfl, n2, b2⟩
  go_wp2_with fail
  refine (unhide C3 _ _ (((unhide HU).next b1).next b2) n2).mono ?_
  rintro e w3 ⟨v3, rfl, n3, b3⟩
  go_wp2
  go_ret
  exact ⟨v3, rfl, n3, bstep (bstep b1 b2) b3⟩

end Go.Proofs.Yteinonbijiokmaa
