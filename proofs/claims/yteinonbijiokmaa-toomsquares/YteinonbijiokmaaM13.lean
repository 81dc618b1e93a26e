/- Package toom's small calls: a difference that is none below 0, one of either sign, a third, how long a piece is, rows in new memory. -/
import Derived.Test.YteinonbijiokmaaM10
import Derived.Test.YteinonbijiokmaaM12
import Derived.Test.YteinonbijiokmaaM4
import Derived.Test.YteinonbijiokmaaM6
import Derived.Test.YteinonbijiokmaaM2
namespace Go.Proofs.Yteinonbijiokmaa
open Go.RowKit

set_option maxHeartbeats 1600000 in
theorem piece_any (w : World) (ga : Option Addr) (n cap h : Nat) (hn : n ≤ 1073741824) (hh : h = (n + 2) / 3) :
    Calls Try.prog 62 #[.slice ga n cap] w fun e w' => e = .returned (.int .i64 (h : Int)) ∧ w' = w := by
  obtain ⟨m, hm⟩ : ∃ m, m = n + 2 := ⟨_, rfl⟩
  have e1 : (n : Int) + 2 = (m : Int) := by omega
  have e2 : IntKind.i64.wrap (m : Int) = (m : Int) := by rw [IntKind.wrap_i64]; omega
  have e3 : (m : Int).tdiv 3 = (h : Int) := by
    rw [Int.tdiv_eq_ediv_of_nonneg (by omega)]; omega
  have e4 : IntKind.i64.wrap (h : Int) = (h : Int) := by rw [IntKind.wrap_i64]; omega
  clear hm hh hn
  go_enter Try.func62, Try.ntmps62
  go_wp2
  go_ret
  exact ⟨rfl, rfl⟩

set_option maxHeartbeats 1600000 in
theorem minus_any (w : World) (u v : Value) (m n : Nat) (h : n ≤ m) (hu : InW w u m) (hv : InW w v n) :
    Calls Try.prog 77 #[u, v] w fun e w' => ∃ r, e = .returned r ∧ NewW w.heap.size w' r (m - n) ∧ Below w.heap.size w w' := by
  have CS := hide (sub_w w u v m n hu hv)
  have H := hide h
  clear hu hv h
  go_enter Try.func77, Try.ntmps77
  go_wp2_with fail
  refine (unhide CS).mono ?_
  rintro e w2 ⟨b2, ⟨_, r2, rfl, h2⟩ | ⟨hlt, _⟩⟩
  case inr => exact absurd (unhide H) (by omega)
  clear CS H
  go_wp2
  go_ret
  exact ⟨r2, rfl, h2, b2⟩

theorem spec_third0 (w : World) (u : Value) (m q : Nat) (hm : m = 3 * q) (hu : InW w u m) :
    Calls Try.prog 16 #[u] w fun e w' => ∃ v, e = .returned (.tuple #[v, .bool true]) ∧ NewW w.heap.size w' v q ∧ Below w.heap.size w w' := by
  have CD := divWord_w w u m 3 (by decide) (by decide) hu
  rw [show m % 3 = 0 by omega, show m / 3 = q by omega] at CD
  replace CD := hide CD
  clear hu hm
  go_enter Try.func16, Try.ntmps16
  go_wp2_with fail
  refine (unhide CD).mono ?_
  rintro e w2 ⟨r2, rfl, h2, b2⟩
  clear CD
  go_wp2
  go_ret2
  exact ⟨r2, rfl, h2, b2⟩

theorem spec_third : SpecThird := by
  intro w ga b o cap la q xs hl hR hd hla hv
  exact spec_third0 w _ _ q hv (inW_rep hR hd hl (by omega))

set_option maxHeartbeats 1600000 in
theorem spec_third_no : SpecThirdNo := by
  intro w ga b o cap la xs hl hR hd hla hv
  have CD := hide (divWord_w w _ _ 3 (by decide) (by decide) (inW_rep hR hd hl (by omega)))
  obtain ⟨r, hr⟩ : ∃ r, r = wval xs % 3 := ⟨_, rfl⟩
  rw [← hr] at CD hv
  clear hR hd hl hla hr
  generalize wval xs = m at *
  go_enter Try.func16, Try.ntmps16
  go_wp2_with fail
  refine (unhide CD).mono ?_
  rintro e w2 ⟨r2, rfl, h2, b2⟩
  clear CD
  go_wp2
  go_ret2
  exact ⟨⟨_, _, rfl⟩, b2⟩

set_option maxRecDepth 100000 in
set_option maxHeartbeats 1600000 in
theorem twide_any (w : World) (ga : Option Addr) (b o cap n N : Nat) (xs : List Nat) (hl : xs.length = n) (hnN : n ≤ N) (hN : N ≤ 1099511627776) (hR : Rep w ga b o cap xs) :
    Calls Try.prog 81 #[.slice ga n cap, .int .i64 (N : Int)] w fun e w' => e = .returned (.slice (some ⟨w.heap.size, 0, none⟩) N N) ∧ Blk w' w.heap.size (xs ++ List.replicate (N - n) 0) ∧ Below w.heap.size w w' := by
  have HC := hide (fun ob => crow_at hR ob)
  clear hR
  have hmk := make_nat N N (N : Int) rfl rfl (by omega)
  go_enter Try.func81, Try.ntmps81
  go_wp2_with (refine wpList_copy_splice rfl _ _ 31 31 rfl 28 Try.underlying31 Try.sizeU _ _ N N n cap rfl rfl w.heap.size 0 (zlist N) 28 ?h1 (crow xs) ?h2 ?h3 ?h4 (cells_one _) w.heap.size w ?h5 (Nat.le_refl _) ?_)
  case h1 => exact heap_alloc_new w _
  case h2 => rw [crow_len, hl]; exact (Nat.min_eq_left (by omega)).symm
  case h3 => exact unhide HC _
  case h4 => rw [crow_len, zlist_len, hl]; omega
  case h5 => exact (Below.refl _ _).alloc (Nat.le_refl _) _
  intro w2 hblk hb2
  have hB : Blk w2 w.heap.size (xs ++ List.replicate (N - n) 0) := by
    have e := splice_copy xs n (N - n) hl
    rw [show n + (N - n) = N from by omega] at e
    have h := hblk.out
    rw [e] at h
    exact h
  clear hblk HC hmk
  go_wp2
  go_ret
  exact ⟨ret_slice rfl, hB, hb2⟩

/-- What limb answered, with so many words, in new memory. -/
theorem wide_new (w : World) (B : Nat) (u : Value) (m N : Nat) (hm : m < 18446744073709551616 ^ N) (hN : N ≤ 1048576) (hu : NewW B w u m) :
    Calls Try.prog 81 #[u, .int .i64 (N : Int)] w fun e w' => ∃ zs, e = .returned (.slice (some ⟨w.heap.size, 0, none⟩) N N) ∧ Blk w' w.heap.size zs ∧ zs.length = N ∧ WDig zs ∧ wval zs = m ∧ Below w.heap.size w w' := by
  obtain ⟨g4, q4, c4, ys, rfl, r4, hc4, hv4, _⟩ := hu.rep
  have hl4 : ys.length ≤ N := wlen_le hc4 (by rw [hv4]; exact hm)
  refine (twide_any w _ _ _ _ _ N ys rfl hl4 (by omega) r4).mono ?_
  rintro e w2 ⟨rfl, k, b⟩
  exact ⟨_, rfl, k, by simp; omega, wDig_pad hc4.1 _, by rw [wval_pad, hv4], b⟩

set_option maxHeartbeats 1600000 in
theorem spec_tnew0 (CC0 : SpecKNew) : SpecTNew := by
  intro T w
  have CC := hide (fun w => CC0 T w)
  unfold Tab.val at CC ⊢
  go_enter Try.func31, Try.ntmps31
  go_wp2_with fail
  refine (unhide CC _).mono ?_
  rintro e w1 ⟨gk, ge, g, rfl, E1, hgk, hge, hg, b1⟩
  have hg' : w.heap.size ≤ g := Nat.le_trans (by simp) hg
  have hge' : w.heap.size ≤ ge := Nat.le_trans (by simp) hge
  have hgk' : w.heap.size ≤ gk := Nat.le_trans (by simp) hgk
  have b0 := hide (bstep ((Below.refl w.heap.size w).alloc (Nat.le_refl _) _) b1)
  have tl := E1.eng.met.lt
  have HE := hide E1
  clear CC b1 hg E1 hge hgk
  go_wp2
  go_ret
  refine ⟨w1.heap.size, gk, ge, g, rfl, ⟨?_, (unhide HE).next ((Below.refl _ _).alloc (Nat.le_refl _) _), by omega⟩, (unhide b0).size, hgk', hge', hg', (unhide b0).alloc (unhide b0).size _⟩
  exact cell_of_row _ w1.heap.size 0 _ _ (0, 0) (heap_alloc_new w1 _)

end Go.Proofs.Yteinonbijiokmaa

/- New of kara. -/
namespace Go.Proofs.Yteinonbijiokmaa
open Go.RowKit

set_option maxHeartbeats 1600000 in
theorem schoolNew_t (T : Tab) (w : World) :
    Calls Try.prog 80 #[T.val] w fun e w' => ∃ ge g, e = .returned (.pointer (some ⟨ge, 0, none⟩)) ∧ Eng w' ge g 0 ∧ Tune w' g T ∧ w.heap.size ≤ g ∧ w.heap.size ≤ ge ∧ Below w.heap.size w w' := by
  have CC := hide (fun w => new_any T w)
  unfold Tab.val at CC ⊢
  go_enter Try.func80, Try.ntmps80
  go_wp2_with fail
  refine (unhide CC _).mono ?_
  rintro e w1 ⟨g, rfl, tn, hg, b1⟩
  have hg' : w.heap.size ≤ g := Nat.le_trans (by simp) hg
  have b0 := hide (bstep ((Below.refl w.heap.size w).alloc (Nat.le_refl _) _) b1)
  have tl := tn.lt
  have HT := hide tn
  clear tn CC b1 hg
  go_wp2
  go_ret
  refine ⟨w1.heap.size, g, rfl, ⟨?_, ?_, by omega, ?_⟩, (unhide HT).next ((Below.refl _ _).alloc (Nat.le_refl _) _), hg', (unhide b0).size, (unhide b0).alloc (unhide b0).size _⟩
  · exact cell_of_row _ w1.heap.size 0 _ _ (0, 0) (heap_alloc_new w1 _)
  · exact (unhide HT).met.next ((Below.refl _ _).alloc (Nat.le_refl _) _)
  · exact ((unhide HT).next ((Below.refl _ _).alloc (Nat.le_refl _) _)).ints

set_option maxHeartbeats 1600000 in
theorem spec_knew : SpecKNew := by
  intro T w
  have CC := hide (fun w => schoolNew_t T w)
  unfold Tab.val at CC ⊢
  go_enter Try.func61, Try.ntmps61
  go_wp2_with fail
  refine (unhide CC _).mono ?_
  rintro e w1 ⟨ge, g, rfl, E1, tn, hg, hge, b1⟩
  have hg' : w.heap.size ≤ g := Nat.le_trans (by simp) hg
  have hge' : w.heap.size ≤ ge := Nat.le_trans (by simp) hge
  have b0 := hide (bstep ((Below.refl w.heap.size w).alloc (Nat.le_refl _) _) b1)
  have tl := tn.lt
  have HT := hide tn
  have HE := hide E1
  clear tn CC b1 hg E1 hge
  go_wp2
  go_ret
  refine ⟨w1.heap.size, ge, g, rfl, ⟨?_, (unhide HE).next ((Below.refl _ _).alloc (Nat.le_refl _) _), ((unhide HT).next ((Below.refl _ _).alloc (Nat.le_refl _) _)).tabC, by omega⟩, (unhide b0).size, hge', hg', (unhide b0).alloc (unhide b0).size _⟩
  exact cell_of_row _ w1.heap.size 0 _ _ (0, 0) (heap_alloc_new w1 _)

end Go.Proofs.Yteinonbijiokmaa

/- New of toom. -/
namespace Go.Proofs.Yteinonbijiokmaa
open Go.RowKit

theorem spec_tnew : SpecTNew := spec_tnew0 spec_knew

end Go.Proofs.Yteinonbijiokmaa

/- Products in three pieces: plain mathematics. Nothing of any program here. -/
namespace Go.Proofs.Yteinonbijiokmaa

/-- A product's five values, of its five coefficients; bl: the one at -1 is below 0. -/
structure Five (bl : Bool) (c0 c1 c2 c3 c4 p1 m1 p2 : Nat) : Prop where
  one : p1 = c0 + c1 + c2 + c3 + c4
  neg : bl = true → m1 + (c0 + c2 + c4) = c1 + c3
  pos : bl = false → m1 + (c1 + c3) = c0 + c2 + c4
  two : p2 = c0 + 2 * c1 + 4 * c2 + 8 * c3 + 16 * c4
theorem Five.le {bl : Bool} {c0 c1 c2 c3 c4 p1 m1 p2 : Nat} (h : Five bl c0 c1 c2 c3 c4 p1 m1 p2) : m1 ≤ p1 := by
  obtain ⟨h1, h2, h3, _⟩ := h
  cases bl
  · have := h3 rfl; omega
  · have := h2 rfl; omega
theorem Five.halves {bl : Bool} {c0 c1 c2 c3 c4 p1 m1 p2 : Nat} (h : Five bl c0 c1 c2 c3 c4 p1 m1 p2) : (bl = true → (p1 + m1) / 2 = c1 + c3 ∧ (p1 - m1) / 2 = c0 + c2 + c4) ∧ (bl = false → (p1 + m1) / 2 = c0 + c2 + c4 ∧ (p1 - m1) / 2 = c1 + c3) := by
  obtain ⟨h1, h2, h3, _⟩ := h
  refine ⟨fun e => ?_, fun e => ?_⟩
  · have := h2 e; omega
  · have := h3 e; omega

theorem nd_mul (x y u v : Nat) : ((decide (x < y) != decide (u < v)) = true → nd x y * nd u v + (x * u + y * v) = x * v + y * u) ∧ ((decide (x < y) != decide (u < v)) = false → nd x y * nd u v + (x * v + y * u) = x * u + y * v) := by
  by_cases h1 : x < y <;> by_cases h2 : u < v
  · obtain ⟨d, rfl⟩ : ∃ d, y = x + d := ⟨y - x, by omega⟩
    obtain ⟨e, rfl⟩ : ∃ e, v = u + e := ⟨v - u, by omega⟩
    have a1 : nd x (x + d) = d := by unfold nd; omega
    have a2 : nd u (u + e) = e := by unfold nd; omega
    rw [a1, a2]
    simp only [h1, h2, decide_true, bne_self_eq_false]
    exact ⟨fun h => (Bool.false_ne_true h).elim, fun _ => by grind⟩
  · obtain ⟨d, rfl⟩ : ∃ d, y = x + d := ⟨y - x, by omega⟩
    obtain ⟨e, rfl⟩ : ∃ e, u = v + e := ⟨u - v, by omega⟩
    have a1 : nd x (x + d) = d := by unfold nd; omega
    have a2 : nd (v + e) v = e := by unfold nd; omega
    rw [a1, a2]
    refine ⟨fun _ => by grind, fun h => ?_⟩
    rw [decide_eq_true h1, decide_eq_false h2] at h
    exact absurd h (by decide)
  · obtain ⟨d, rfl⟩ : ∃ d, x = y + d := ⟨x - y, by omega⟩
    obtain ⟨e, rfl⟩ : ∃ e, v = u + e := ⟨v - u, by omega⟩
    have a1 : nd (y + d) y = d := by unfold nd; omega
    have a2 : nd u (u + e) = e := by unfold nd; omega
    rw [a1, a2]
    refine ⟨fun _ => by grind, fun h => ?_⟩
    rw [decide_eq_false h1, decide_eq_true h2] at h
    exact absurd h (by decide)
  · obtain ⟨d, rfl⟩ : ∃ d, x = y + d := ⟨x - y, by omega⟩
    obtain ⟨e, rfl⟩ : ∃ e, u = v + e := ⟨u - v, by omega⟩
    have a1 : nd (y + d) y = d := by unfold nd; omega
    have a2 : nd (v + e) v = e := by unfold nd; omega
    rw [a1, a2]
    refine ⟨fun h => ?_, fun _ => by grind⟩
    rw [decide_eq_false h1, decide_eq_false h2] at h
    exact absurd h (by decide)

/-- The products of two factors' values are the product's values. -/
theorem five_mul (a0 a1 a2 b0 b1 b2 : Nat) : Five (decide (a0 + a2 < a1) != decide (b0 + b2 < b1)) (a0 * b0) (a0 * b1 + a1 * b0) (a0 * b2 + a1 * b1 + a2 * b0) (a1 * b2 + a2 * b1) (a2 * b2)
    ((a0 + a1 + a2) * (b0 + b1 + b2)) (nd (a0 + a2) a1 * nd (b0 + b2) b1) ((a0 + 2 * a1 + 4 * a2) * (b0 + 2 * b1 + 4 * b2)) := by
  obtain ⟨h1, h2⟩ := nd_mul (a0 + a2) a1 (b0 + b2) b1
  refine ⟨by grind, fun h => ?_, fun h => ?_, by grind⟩
  · have := h1 h
    generalize nd (a0 + a2) a1 * nd (b0 + b2) b1 = D at *
    grind
  · have := h2 h
    generalize nd (a0 + a2) a1 * nd (b0 + b2) b1 = D at *
    grind
/-- The same of a square: the value at -1 is never below 0. -/
theorem five_sqr (a0 a1 a2 : Nat) : Five false (a0 * a0) (a0 * a1 + a1 * a0) (a0 * a2 + a1 * a1 + a2 * a0) (a1 * a2 + a2 * a1) (a2 * a2)
    ((a0 + a1 + a2) * (a0 + a1 + a2)) (nd (a0 + a2) a1 * nd (a0 + a2) a1) ((a0 + 2 * a1 + 4 * a2) * (a0 + 2 * a1 + 4 * a2)) := by
  have h := five_mul a0 a1 a2 a0 a1 a2
  rwa [bne_self_eq_false] at h
theorem five_value (P a0 a1 a2 b0 b1 b2 : Nat) : a0 * b0 + P * (a0 * b1 + a1 * b0) + P * P * (a0 * b2 + a1 * b1 + a2 * b0) + P * P * P * (a1 * b2 + a2 * b1) + P * P * P * P * (a2 * b2) = (a0 + P * a1 + P * P * a2) * (b0 + P * b1 + P * P * b2) := by grind

/-- A number by its three pieces. -/
theorem three_is (m P : Nat) : m % P + P * (m / P % P) + P * P * (m / P / P) = m := by
  have h1 := Nat.div_add_mod m P
  have h2 := Nat.div_add_mod (m / P) P
  rw [Nat.mul_assoc, Nat.add_assoc, ← Nat.mul_add, Nat.add_comm (m / P % P), h2]
  omega
theorem third_lt {m n h : Nat} (hm : m < 18446744073709551616 ^ n) (hh : 2 * h ≤ n) : m / 18446744073709551616 ^ h / 18446744073709551616 ^ h < 18446744073709551616 ^ (n - 2 * h) := by
  rw [Nat.div_div_eq_div_mul, ← Nat.pow_add]
  refine Nat.div_lt_of_lt_mul ?_
  rw [← Nat.pow_add]
  rwa [show h + h + (n - 2 * h) = n by omega]
theorem pow_mono {a b : Nat} (h : a ≤ b) : 18446744073709551616 ^ a ≤ 18446744073709551616 ^ b := Nat.pow_le_pow_right (by omega) h
theorem val1_lt {a0 a1 a2 P : Nat} (h0 : a0 < P) (h1 : a1 < P) (h2 : a2 < P) : a0 + a1 + a2 < P * 18446744073709551616 := by omega
theorem valn_lt {a0 a1 a2 P : Nat} (h0 : a0 < P) (h1 : a1 < P) (h2 : a2 < P) : nd (a0 + a2) a1 < P * 18446744073709551616 := by unfold nd; omega
theorem val2_lt {a0 a1 a2 P : Nat} (h0 : a0 < P) (h1 : a1 < P) (h2 : a2 < P) : a0 + 2 * a1 + 4 * a2 < P * 18446744073709551616 := by omega

end Go.Proofs.Yteinonbijiokmaa

/- Naturals in new memory; blocks of one cell. -/
namespace Go.Proofs.Yteinonbijiokmaa
open Go.RowKit

theorem to_isN (w : World) (v : Value) (n L : Nat) (hL : L ≤ 1073741824) (hn : n < 4294967296 ^ L) (h : IsN w v n) :
    Calls Try.prog 14 #[v] w fun e w' => ∃ r, e = .returned r ∧ NewI w.heap.size w' r n ∧ Below w.heap.size w w' := by
  obtain ⟨ga, b, o, cap, xs, rfl, hR, hc, hv⟩ := h
  have hl := len_le hc (L := L) (by rw [hv]; exact hn)
  refine (to_rep w ga b o cap _ xs rfl (by omega) hR hc).mono ?_
  rintro e w' ⟨g1, b1, c1, ws, rfl, r1, k1, v1, hb, hn1⟩
  have hlw := wlen_le k1 (L := L) (by rw [v1, hv]; exact Nat.lt_of_lt_of_le hn (Nat.pow_le_pow_left (by omega) L))
  exact ⟨_, rfl, ⟨g1, b1, 0, c1, ws, rfl, r1, k1.1, by rw [v1, hv], by omega, hn1⟩, hb⟩

/-- Naturals with zero words on top: what a row of l words says is below B to the l. -/
theorem inD_lt {D : Nat → Prop} {w : World} {v : Value} {n l : Nat} (h : InD D w v n l) : n < 18446744073709551616 ^ l := by
  obtain ⟨ga, b, o, cap, xs, _, hl, _, hd, hv, _⟩ := h
  rw [← hv, ← hl]
  exact wval_lt_pow hd

/-- A block of one cell. -/
def One (w : World) (g : Nat) (v : Value) (t : Nat) : Prop := w.heap[g]? = some (.cells #[v] t (0, 0))
theorem One.lt {w : World} {g t : Nat} {v : Value} (h : One w g v t) : g < w.heap.size := (Array.getElem?_eq_some_iff.1 h).1
theorem One.cell {w : World} {g t : Nat} {v : Value} (h : One w g v t) : w.cell? ⟨g, 0, none⟩ = some v := cell_of_row w g 0 _ _ (0, 0) h
theorem One.frozen {w : World} {g t : Nat} {v : Value} (h : One w g v t) : w.frozen? ⟨g, 0, none⟩ = false := frozen_of_row w g 0 _ _ h
theorem One.set {w : World} {g t : Nat} {v : Value} (h : One w g v t) (u : Value) : One (w.setCell ⟨g, 0, none⟩ u) g u t := by
  have := heap_setCell_same w g 0 _ _ u h
  show _ = _
  rw [this]; rfl
theorem One.other {w : World} {g k i t : Nat} {v : Value} (h : One w g v t) (hk : g ≠ k) (u : Value) : One (w.setCell ⟨k, i, none⟩ u) g v t := by
  show _ = _
  rw [heap_setCell_other w ⟨k, i, none⟩ g u hk]
  exact h
theorem One.next {w w' : World} {g t : Nat} {v : Value} (h : One w g v t) (b : Below w.heap.size w w') : One w' g v t := (b.block g h.lt).trans h
theorem One.out {D : Nat → Prop} {w w' : World} {g t : Nat} {v : Value} (h : One w g v t) (o : Out D w w') (hd : ¬ D g) : One w' g v t := (o.block g h.lt hd).trans h
theorem Out.set {D : Nat → Prop} {w w' : World} (h : Out D w w') {g i : Nat} (hd : D g) (u : Value) : Out D w (w'.setCell ⟨g, i, none⟩ u) :=
  h.trans ⟨rfl, rfl, rfl, by simp [World.setCell], fun k _ hn => heap_setCell_other w' ⟨g, i, none⟩ k u (fun e => hn (by rw [e]; exact hd))⟩

/-- No row of words lies in a block of one cell that is no word. -/
theorem One.away {w : World} {g t : Nat} {v : Value} (h : One w g v t) (hv : ∀ x, v ≠ .int .u64 x) {ga : Option Addr} {b o cap : Nat} {xs : List Nat} (r : Rep w ga b o cap xs) (h0 : 0 < xs.length) : b ≠ g := by
  rintro rfl
  have c := r.cell 0 h0
  rw [cell_of_row w b (o + 0) _ _ (0, 0) h] at c
  match o, c with
  | 0, c => exact hv _ (Option.some.inj c)
  | o + 1, c => simp at c
theorem One.apart {w : World} {g k t u : Nat} {v x : Value} (h : One w g v t) (h' : One w k x u) (hv : v ≠ x) : g ≠ k := by
  rintro rfl
  have := h.cell.symm.trans h'.cell
  exact hv (Option.some.inj this)

end Go.Proofs.Yteinonbijiokmaa

/- Whole numbers of the reference: a natural, and whether it is below 0. -/
namespace Go.Proofs.Yteinonbijiokmaa
open Go.RowKit

/-- The whole number of a sign and a size. -/
def zi (neg : Bool) (n : Nat) : Int := if neg = true then -(n : Int) else (n : Int)
/-- A whole number of the reference: 0 is not below 0. -/
def IsI (w : World) (v : Value) (z : Int) : Prop := ∃ nv neg n, v = .agg #[nv, .bool neg] ∧ IsN w nv n ∧ z = zi neg n ∧ (neg = true → n ≠ 0)
theorem IsI.next {w w' : World} {v : Value} {z : Int} (h : IsI w v z) (b : Below w.heap.size w w') : IsI w' v z := by
  obtain ⟨nv, neg, n, e, hn, hz, h0⟩ := h
  exact ⟨nv, neg, n, e, hn.next b, hz, h0⟩
theorem zi_size (neg : Bool) (n : Nat) : (zi neg n).natAbs = n := by
  unfold zi
  split <;> omega
theorem isI_of {z : Int} : ∃ (neg : Bool) (n : Nat), z = zi neg n ∧ (neg = true → n ≠ 0) ∧ n = z.natAbs ∧ neg = decide (z < 0) := by
  refine ⟨decide (z < 0), z.natAbs, ?_, ?_, rfl, rfl⟩
  · unfold zi
    by_cases h : z < 0
    · simp [h]; omega
    · simp [h]; omega
  · intro h
    simp at h
    omega
/-- The sign of a normal one. -/
theorem zi_neg {neg : Bool} {n : Nat} (h : neg = true → n ≠ 0) : neg = decide (zi neg n < 0) := by
  unfold zi
  cases neg
  · simp
  · have := h rfl
    simp
    omega

set_option maxRecDepth 100000 in
set_option maxHeartbeats 1600000 in
theorem made_any (w : World) (nv : Value) (n : Nat) (neg ng : Bool) (h : IsN w nv n) (hg : ng = (neg && !decide (n = 0))) :
    Calls Try.prog 58 #[nv, .bool neg] w fun e w' => e = .returned (.agg #[nv, .bool ng]) ∧ Below w.heap.size w w' := by
  have CZ := hide (fun W (b : Below w.heap.size w W) => rZero_any W nv n (decide (n = 0)) rfl (h.next b))
  obtain ⟨ga, b, o, cap, xs, rfl, _⟩ := h
  generalize xs.length = l at *
  replace hg : (neg && !decide (n = 0)) = ng := hg.symm
  generalize decide (n = 0) = zz at *
  have bl : Below w.heap.size w (w.alloc (.cells #[.slice none 0 0, .bool false] 46)) := (Below.refl _ _).alloc (Nat.le_refl _) _
  have CZ := hide (unhide CZ _ bl)
  have BL := hide bl
  cases neg
  · obtain rfl : ng = false := hg.symm
    clear bl hg
    go_enter Try.func58, Try.ntmps58
    go_wp2
    refine bodyPost_ret (v := .agg #[.slice ga l cap, .bool false]) (by simp [results, Try.results58, go_sem]) rfl ⟨rfl, ?_⟩
    exact (Below.refl _ _).alloc (Nat.le_refl _) _
  · cases zz
    · obtain rfl : ng = true := hg.symm
      clear bl hg
      go_enter Try.func58, Try.ntmps58
      go_wp2_with fail
      refine (unhide CZ).mono ?_
      rintro e w1 ⟨rfl, hw⟩
      obtain rfl := hw.symm
      clear hw
      go_wp2
      refine bodyPost_ret (v := .agg #[.slice ga l cap, .bool true]) (by simp [results, Try.results58, go_sem]) rfl ⟨rfl, ?_⟩
      exact (Below.refl _ _).alloc (Nat.le_refl _) _
    · obtain rfl : ng = false := hg.symm
      clear bl hg
      go_enter Try.func58, Try.ntmps58
      go_wp2_with fail
      refine (unhide CZ).mono ?_
      rintro e w1 ⟨rfl, hw⟩
      obtain rfl := hw.symm
      clear hw
      go_wp2
      refine bodyPost_ret (v := .agg #[.slice ga l cap, .bool false]) (by simp [results, Try.results58, go_sem]) rfl ⟨rfl, ?_⟩
      exact (Below.refl _ _).alloc (Nat.le_refl _) _

theorem made_isI (w : World) (nv : Value) (n : Nat) (neg : Bool) (h : IsN w nv n) :
    Calls Try.prog 58 #[nv, .bool neg] w fun e w' => ∃ v, e = .returned v ∧ IsI w' v (zi neg n) ∧ Below w.heap.size w w' := by
  refine (made_any w nv n neg _ h rfl).mono ?_
  rintro e w' ⟨rfl, b⟩
  refine ⟨_, rfl, ⟨nv, _, n, rfl, h.next b, ?_, ?_⟩, b⟩
  · unfold zi
    cases neg
    · rfl
    · by_cases h0 : n = 0
      · simp [h0]
      · simp [h0]
  · intro e
    simp at e
    exact e.2

set_option maxHeartbeats 800000 in
theorem iNat_any (w : World) (nv : Value) (n : Nat) (h : IsN w nv n) :
    Calls Try.prog 22 #[nv] w fun e w' => ∃ v, e = .returned v ∧ IsI w' v (n : Int) ∧ Below w.heap.size w w' := by
  have h' := h
  obtain ⟨ga, b, o, cap, xs, rfl, _⟩ := h
  generalize xs.length = l at *
  have H := hide h'
  clear h'
  go_enter Try.func22, Try.ntmps22
  go_wp2
  refine bodyPost_ret (v := .agg #[.slice ga l cap, .bool false]) (by simp [results, Try.results22, go_sem]) rfl ?_
  have bl : Below w.heap.size w (w.alloc (.cells #[.slice ga l cap, .bool false] 46)) := (Below.refl _ _).alloc (Nat.le_refl _) _
  exact ⟨_, rfl, ⟨_, false, n, rfl, (unhide H).next bl, rfl, fun e => by cases e⟩, bl⟩

theorem boxes3 (w : World) (o1 o2 o3 : Obj) : (((w.alloc o1).alloc o2).alloc o3).heap[w.heap.size]? = some o1 ∧ (((w.alloc o1).alloc o2).alloc o3).heap[w.heap.size + 1]? = some o2 ∧ (((w.alloc o1).alloc o2).alloc o3).heap[w.heap.size + 1 + 1]? = some o3 := by
  have s1 : (w.alloc o1).heap.size = w.heap.size + 1 := by simp
  have s2 : ((w.alloc o1).alloc o2).heap.size = w.heap.size + 1 + 1 := by simp
  have b1 : Below (w.alloc o1).heap.size (w.alloc o1) ((w.alloc o1).alloc o2) := (Below.refl _ _).alloc (Nat.le_refl _) _
  have b2 : Below ((w.alloc o1).alloc o2).heap.size ((w.alloc o1).alloc o2) (((w.alloc o1).alloc o2).alloc o3) := (Below.refl _ _).alloc (Nat.le_refl _) _
  refine ⟨?_, ?_, ?_⟩
  · exact (b2.block _ (by omega)).trans ((b1.block _ (by omega)).trans (heap_alloc_new w o1))
  · rw [← s1]
    exact (b2.block _ (by omega)).trans (heap_alloc_new (w.alloc o1) o2)
  · rw [← s2]
    exact heap_alloc_new ((w.alloc o1).alloc o2) o3
/-- A box of a whole number. -/
def Box2 (w : World) (R : Nat) (t : Nat) : Prop := ∃ a l c b, w.heap[R]? = some (.cells #[.slice a l c, .bool b] t (0, 0))
theorem Box2.next {w w' : World} {R t : Nat} (h : Box2 w R t) (b : Below w.heap.size w w') : Box2 w' R t := by
  obtain ⟨a, l, c, x, h⟩ := h
  exact ⟨a, l, c, x, (b.block R (Array.getElem?_eq_some_iff.1 h).1).trans h⟩
theorem Box2.cells {w : World} {R t : Nat} (h : Box2 w R t) : (∃ a l c, w.cell? ⟨R, 0, none⟩ = some (.slice a l c)) ∧ (∃ b, w.cell? ⟨R, 1, none⟩ = some (.bool b)) ∧ w.frozen? ⟨R, 0, none⟩ = false ∧ w.frozen? ⟨R, 1, none⟩ = false := by
  obtain ⟨a, l, c, x, h⟩ := h
  exact ⟨⟨a, l, c, cell_of_row w R 0 _ _ (0, 0) h⟩, ⟨x, cell_of_row w R 1 _ _ (0, 0) h⟩, frozen_of_row w R 0 _ _ h, frozen_of_row w R 1 _ _ h⟩
theorem IsN.box {w : World} {R t : Nat} {v : Value} {n : Nat} (h : IsN w v n) (hk : Box2 w R t) (x y : Value) : IsN ((w.setCell ⟨R, 0, none⟩ x).setCell ⟨R, 1, none⟩ y) v n := by
  obtain ⟨ga, b, o, cap, xs, rfl, hr, hc, hv⟩ := h
  obtain ⟨a, l, c, z, hk⟩ := hk
  refine ⟨ga, b, o, cap, xs, rfl, hr.but (grown_trans (grown_set w R 0 x) (grown_set _ R 1 y)) ?_, hc, hv⟩
  rintro h0 rfl
  have c0 := hr.cell 0 h0
  rw [cell_of_row w b (o + 0) _ _ (0, 0) hk] at c0
  match o, c0 with
  | 0, c0 => cases c0
  | 1, c0 => cases c0
  | o + 2, c0 => simp at c0
theorem IsI.box {w : World} {R t : Nat} {v : Value} {z : Int} (h : IsI w v z) (hk : Box2 w R t) (x y : Value) : IsI ((w.setCell ⟨R, 0, none⟩ x).setCell ⟨R, 1, none⟩ y) v z := by
  obtain ⟨nv, neg, n, e, hn, hz, h0⟩ := h
  exact ⟨nv, neg, n, e, hn.box hk x y, hz, h0⟩
/-- A whole number's parts. -/
theorem IsI.parts {w : World} {v : Value} {z : Int} (h : IsI w v z) : ∃ ga l cap neg n, v = .agg #[.slice ga l cap, .bool neg] ∧ IsN w (.slice ga l cap) n ∧ z = zi neg n ∧ (neg = true → n ≠ 0) := by
  obtain ⟨nv, neg, n, rfl, hn, hz, h0⟩ := h
  have hn' := hn
  obtain ⟨ga, b, o, cap, xs, rfl, _⟩ := hn
  exact ⟨ga, _, cap, neg, n, rfl, hn', hz, h0⟩

set_option maxRecDepth 100000 in
set_option maxHeartbeats 1600000 in
theorem iNeg_any (w : World) (v : Value) (z : Int) (h : IsI w v z) :
    Calls Try.prog 60 #[v] w fun e w' => ∃ u, e = .returned u ∧ IsI w' u (-z) ∧ Below w.heap.size w w' := by
  obtain ⟨ga, l, cap, neg, n, rfl, hn, rfl, h0⟩ := h.parts
  have CM := hide (fun W (h : IsN W (.slice ga l cap) n) => made_isI W _ n (!neg) h)
  have e0 : zi (!neg) n = -(zi neg n) := by unfold zi; cases neg <;> simp
  rw [e0] at CM
  have bP : Below w.heap.size w (w.alloc (.cells #[.slice ga l cap, .bool neg] 46)) := (Below.refl _ _).alloc (Nat.le_refl _) _
  have bQ : Below w.heap.size w ((w.alloc (.cells #[.slice ga l cap, .bool neg] 46)).alloc (.cells #[.slice none 0 0, .bool false] 46)) := bP.alloc bP.size _
  have sz : (w.alloc (.cells #[.slice ga l cap, .bool neg] 46)).heap.size = w.heap.size + 1 := by simp
  have hB : Box2 ((w.alloc (.cells #[.slice ga l cap, .bool neg] 46)).alloc (.cells #[.slice none 0 0, .bool false] 46)) (w.heap.size + 1) 46 := ⟨none, 0, 0, false, by rw [← sz]; exact heap_alloc_new _ _⟩
  have CM := hide (unhide CM _ (hn.next bQ))
  have BX := hide hB
  have BL := hide bQ
  obtain ⟨R, hR⟩ : ∃ R, w.heap.size + 1 = R := ⟨_, rfl⟩
  rw [hR] at BX
  have LR : Hid (w.heap.size ≤ R) := by show _ ≤ _; omega
  clear hn h0 h e0 bP bQ sz hB
  go_enter Try.func60, Try.ntmps60
  go_wp2_with fail
  refine (unhide CM).mono ?_
  rintro e w1 ⟨u, rfl, hu, b⟩
  have hk := BX.out.next b
  have bl := hide (bstep (unhide BL) b)
  obtain ⟨⟨x0, x1, x2, z0⟩, ⟨x3, z1⟩, f0, f1⟩ := hk.cells
  have hu' := hu
  obtain ⟨ga', l', cap', ng', n', rfl, _⟩ := hu.parts
  have HU := hide (hu'.box hk (.slice ga' l' cap') (.bool ng'))
  have bl2 := hide (((unhide bl).setCell (p := ⟨R, 0, none⟩) (unhide LR) (.slice ga' l' cap')).setCell (p := ⟨R, 1, none⟩) (unhide LR) (.bool ng'))
  clear CM hu hu' hk b
  go_wp2
  refine bodyPost_ret (v := .agg #[.slice ga' l' cap', .bool ng']) (by simp [results, Try.results60, go_sem, z0, z1]) rfl ?_
  exact ⟨_, rfl, unhide HU, unhide bl2⟩

end Go.Proofs.Yteinonbijiokmaa

/- Package toom: a product of its five values. -/
namespace Go.Proofs.Yteinonbijiokmaa
open Go.RowKit

theorem parts_five (w : World) (u0 u1 u2 u3 u4 : Value) (n0 n1 n2 n3 n4 t : Nat) (h0 : InW w u0 n0) (h1 : InW w u1 n1) (h2 : InW w u2 n2) (h3 : InW w u3 n3) (h4 : InW w u4 n4) :
    Parts (w.alloc (.cells #[u0, u1, u2, u3, u4] t)) (some ⟨w.heap.size, 0, none⟩) w.heap.size 0 [u0, u1, u2, u3, u4] [n0, n1, n2, n3, n4] := by
  have hb : Below w.heap.size w (w.alloc (.cells #[u0, u1, u2, u3, u4] t)) := (Below.refl _ _).alloc (Nat.le_refl _) _
  refine ⟨fun _ => rfl, rfl, fun j hj => ?_, fun j hj => ?_⟩
  · have hj2 : j < 5 := hj
    rw [Nat.zero_add, cell_of_row _ w.heap.size j #[u0, u1, u2, u3, u4] t (0, 0) (heap_alloc_new w _)]
    match j, hj2 with
    | 0, _ => rfl
    | 1, _ => rfl
    | 2, _ => rfl
    | 3, _ => rfl
    | 4, _ => rfl
  · have hj2 : j < 5 := hj
    match j, hj2 with
    | 0, _ => exact h0.next hb
    | 1, _ => exact h1.next hb
    | 2, _ => exact h2.next hb
    | 3, _ => exact h3.next hb
    | 4, _ => exact h4.next hb
/-- Five numbers, each k words higher than the one ahead. -/
def sum5 (k n0 n1 n2 n3 n4 : Nat) : Nat := n0 + 18446744073709551616 ^ k * n1 + 18446744073709551616 ^ (k * 2) * n2 + 18446744073709551616 ^ (k * 3) * n3 + 18446744073709551616 ^ (k * 4) * n4
theorem join_five (w : World) (u0 u1 u2 u3 u4 : Value) (n0 n1 n2 n3 n4 k : Nat) (z : Int) (hz : (k : Int) = min (max z 0) 16384) (h0 : InW w u0 n0) (h1 : InW w u1 n1) (h2 : InW w u2 n2) (h3 : InW w u3 n3) (h4 : InW w u4 n4) :
    Calls Try.prog 86 #[.int .i64 z, .slice (some ⟨w.heap.size, 0, none⟩) 5 5] (w.alloc (.cells #[u0, u1, u2, u3, u4] 31)) fun e w' => ∃ r, e = .returned r ∧ NewW w.heap.size w' r (sum5 k n0 n1 n2 n3 n4) ∧ Below w.heap.size w w' := by
  have hb : Below w.heap.size w (w.alloc (.cells #[u0, u1, u2, u3, u4] 31)) := (Below.refl _ _).alloc (Nat.le_refl _) _
  refine (join_k _ _ _ _ 5 5 k z _ _ rfl (by omega) hz (parts_five w u0 u1 u2 u3 u4 n0 n1 n2 n3 n4 31 h0 h1 h2 h3 h4)).mono ?_
  rintro e w' ⟨r, rfl, hr, h⟩
  have e2 : jsum k [n0, n1, n2, n3, n4] 5 = sum5 k n0 n1 n2 n3 n4 := by simp [jsum, sum5]
  rw [e2] at hr
  exact ⟨r, rfl, hr.mono hb.size, bstep hb h⟩

set_option maxRecDepth 100000 in
set_option maxHeartbeats 3200000 in
theorem halves_any (w : World) (u0 u1 u2 u3 u4 : Value) (bl : Bool) (c0 c1 c2 c3 c4 p1 m1 p2 L : Nat) (hL : L ≤ 1073741824) (hF : Five bl c0 c1 c2 c3 c4 p1 m1 p2) (hp : p1 + m1 < 18446744073709551616 ^ L)
    (h0 : InW w u0 c0) (h1 : InW w u1 p1) (h2 : InW w u2 m1) (h3 : InW w u3 p2) (h4 : InW w u4 c4) :
    Calls Try.prog 82 #[.agg #[u0, u1, u2, u3, u4, .bool bl]] w fun e w' => ∃ x y, e = .returned (.tuple #[x, y]) ∧ NewW w.heap.size w' x (c0 + c2 + c4) ∧ NewW w.heap.size w' y (c1 + c3) ∧ Below w.heap.size w w' := by
  obtain ⟨f1, f2⟩ := hF.halves
  have HM := hide hF.le
  have hp1 : Hid (p1 - m1 < 18446744073709551616 ^ L) := Nat.lt_of_le_of_lt (by omega) hp
  have HP := hide hp
  have F1 := hide f1
  have F2 := hide f2
  obtain ⟨g0, l0, k0, rfl⟩ := h0.is
  obtain ⟨g1, l1, k1, rfl⟩ := h1.is
  obtain ⟨g2, l2, k2, rfl⟩ := h2.is
  obtain ⟨g3, l3, k3, rfl⟩ := h3.is
  obtain ⟨g4, l4, k4, rfl⟩ := h4.is
  have H1 := hide h1
  have H2 := hide h2
  clear f1 f2 hF hp h0 h1 h2 h3 h4
  go_enter Try.func82, Try.ntmps82
  go_wp2
  go_region
  have b0 : Below w.heap.size w (w.alloc (.cells #[.slice g0 l0 k0, .slice g1 l1 k1, .slice g2 l2 k2, .slice g3 l3 k3, .slice g4 l4 k4, .bool bl] 104)).drew := ((Below.refl _ _).alloc (Nat.le_refl _) _).drew
  have HX : Hid (∀ W, Below (w.alloc (.cells #[.slice g0 l0 k0, .slice g1 l1 k1, .slice g2 l2 k2, .slice g3 l3 k3, .slice g4 l4 k4, .bool bl] 104)).drew.heap.size (w.alloc (.cells #[.slice g0 l0 k0, .slice g1 l1 k1, .slice g2 l2 k2, .slice g3 l3 k3, .slice g4 l4 k4, .bool bl] 104)).drew W → W.cell? ⟨w.heap.size, 5, none⟩ = some (.bool bl)) := fun W q => cell_of_row _ w.heap.size 5 _ _ (0, 0) ((q.block w.heap.size (by simp [World.drew])).trans (heap_alloc_new w _))
  generalize (w.alloc (.cells #[.slice g0 l0 k0, .slice g1 l1 k1, .slice g2 l2 k2, .slice g3 l3 k3, .slice g4 l4 k4, .bool bl] 104)).drew = W0 at *
  have s0 := hide b0.size
  have i1 := (unhide H1).next b0
  have i2 := (unhide H2).next b0
  have B0 := hide b0
  clear H1 H2 b0
  go_wp2_with fail
  refine (add_w _ _ _ _ _ i1 i2).mono ?_
  rintro e w1 ⟨r1, rfl, n1, b1⟩
  go_wp2_with fail
  refine (shr_w _ _ 1 _ 1 (by decide) (n1.toIn (unhide HP) hL)).mono ?_
  rintro e w2 ⟨r2, rfl, n2, b2⟩
  have b12 := bstep b1 b2
  clear n1
  go_wp2_with fail
  refine (minus_any _ _ _ _ _ (unhide HM) (i1.next b12) (i2.next b12)).mono ?_
  rintro e w3 ⟨r3, rfl, n3, b3⟩
  go_wp2_with fail
  refine (shr_w _ _ 1 _ 1 (by decide) (n3.toIn (unhide hp1) hL)).mono ?_
  rintro e w4 ⟨r4, rfl, n4, b4⟩
  have b14 := bstep (bstep b12 b3) b4
  have c5 := unhide HX _ b14
  have N2 := hide (((n2.next b3).next b4).mono (Nat.le_trans (unhide s0) b1.size))
  have N4 := hide (n4.mono (Nat.le_trans (unhide s0) (bstep b12 b3).size))
  have BB := hide (bstep (unhide B0) b14)
  clear n2 n3 n4 i1 i2 b1 b2 b3 b4 b12 b14
  cases bl with
  | true =>
    obtain ⟨f1, f2⟩ := unhide F1 rfl
    rw [Nat.pow_one, f1] at N2
    rw [Nat.pow_one, f2] at N4
    clear F1 F2 f1 f2 HP hp1 HM
    go_wp2
    go_ret2
    exact ⟨_, _, rfl, unhide N4, unhide N2, unhide BB⟩
  | false =>
    obtain ⟨f1, f2⟩ := unhide F2 rfl
    rw [Nat.pow_one, f1] at N2
    rw [Nat.pow_one, f2] at N4
    clear F1 F2 f1 f2 HP hp1 HM
    go_wp2
    go_ret2
    exact ⟨_, _, rfl, unhide N2, unhide N4, unhide BB⟩

theorem Five.two_le {bl : Bool} {c0 c1 c2 c3 c4 p1 m1 p2 : Nat} (h : Five bl c0 c1 c2 c3 c4 p1 m1 p2) : p1 ≤ p2 := by
  have h1 := h.one; have h2 := h.two; omega

set_option maxRecDepth 100000 in
set_option maxHeartbeats 3200000 in
theorem vjoin_any (w : World) (u0 u1 u2 u3 u4 : Value) (bl : Bool) (c0 c1 c2 c3 c4 p1 m1 p2 h L : Nat) (hh : h ≤ 16384) (hL : L ≤ 1073741824) (hF : Five bl c0 c1 c2 c3 c4 p1 m1 p2) (hp : 2 * p2 < 18446744073709551616 ^ L)
    (h0 : InW w u0 c0) (h1 : InW w u1 p1) (h2 : InW w u2 m1) (h3 : InW w u3 p2) (h4 : InW w u4 c4) :
    Calls Try.prog 66 #[.agg #[u0, u1, u2, u3, u4, .bool bl], .int .i64 (h : Int)] w fun e w' => ∃ r, e = .returned r ∧ NewW w.heap.size w' r (sum5 h c0 c1 c2 c3 c4) ∧ Below w.heap.size w w' := by
  have q1 := hF.two_le
  have q2 := hF.le
  have q3 := hF.two
  have hz : Hid ((h : Int) = min (max (h : Int) 0) 16384) := by show _ = _; omega
  have CH := hide (fun W (b : Below w.heap.size w W) => halves_any W u0 u1 u2 u3 u4 bl c0 c1 c2 c3 c4 p1 m1 p2 L hL hF (Nat.lt_of_le_of_lt (by omega) hp) (h0.next b) (h1.next b) (h2.next b) (h3.next b) (h4.next b))
  have L1 : Hid (c0 + c2 + c4 < 18446744073709551616 ^ L) := Nat.lt_of_le_of_lt (by omega) hp
  have L2 : Hid (c1 + c3 < 18446744073709551616 ^ L) := Nat.lt_of_le_of_lt (by omega) hp
  have L3 : Hid (c0 + c4 < 18446744073709551616 ^ L) := Nat.lt_of_le_of_lt (by omega) hp
  have L4 : Hid (c2 < 18446744073709551616 ^ L) := Nat.lt_of_le_of_lt (by omega) hp
  have L5 : Hid (c2 * 2 ^ 2 < 18446744073709551616 ^ L) := Nat.lt_of_le_of_lt (by omega) hp
  have L6 : Hid (c4 * 2 ^ 4 < 18446744073709551616 ^ L) := Nat.lt_of_le_of_lt (by omega) hp
  have L7 : Hid (c0 + c2 * 2 ^ 2 + c4 * 2 ^ 4 < 18446744073709551616 ^ L) := Nat.lt_of_le_of_lt (by omega) hp
  have L8 : Hid (p2 - (c0 + c2 * 2 ^ 2 + c4 * 2 ^ 4) < 18446744073709551616 ^ L) := Nat.lt_of_le_of_lt (by omega) hp
  have L9 : Hid (c1 + 4 * c3 < 18446744073709551616 ^ L) := Nat.lt_of_le_of_lt (by omega) hp
  have L10 : Hid (3 * c3 < 18446744073709551616 ^ L) := Nat.lt_of_le_of_lt (by omega) hp
  have L11 : Hid (c3 < 18446744073709551616 ^ L) := Nat.lt_of_le_of_lt (by omega) hp
  have L12 : Hid (c1 < 18446744073709551616 ^ L) := Nat.lt_of_le_of_lt (by omega) hp
  have E1 : Hid (c0 + c4 ≤ c0 + c2 + c4 ∧ c0 + c2 + c4 - (c0 + c4) = c2) := ⟨by omega, by omega⟩
  have E2 : Hid (c0 + c2 * 2 ^ 2 + c4 * 2 ^ 4 ≤ p2 ∧ (p2 - (c0 + c2 * 2 ^ 2 + c4 * 2 ^ 4)) / 2 ^ 1 = c1 + 4 * c3) := ⟨by omega, by omega⟩
  have E3 : Hid (c1 + c3 ≤ c1 + 4 * c3 ∧ c1 + 4 * c3 - (c1 + c3) = 3 * c3) := ⟨by omega, by omega⟩
  have E4 : Hid (c3 ≤ c1 + c3 ∧ c1 + c3 - c3 = c1) := ⟨by omega, by omega⟩
  obtain ⟨g0, l0, k0, rfl⟩ := h0.is
  obtain ⟨g1, l1, k1, rfl⟩ := h1.is
  obtain ⟨g2, l2, k2, rfl⟩ := h2.is
  obtain ⟨g3, l3, k3, rfl⟩ := h3.is
  obtain ⟨g4, l4, k4, rfl⟩ := h4.is
  have H0 := hide h0
  have H3 := hide h3
  have H4 := hide h4
  clear hF hp h0 h1 h2 h3 h4 q1 q2 q3
  go_enter Try.func66, Try.ntmps66
  go_wp2
  go_region
  have b0 : Below w.heap.size w (w.alloc (.cells #[.slice g0 l0 k0, .slice g1 l1 k1, .slice g2 l2 k2, .slice g3 l3 k3, .slice g4 l4 k4, .bool bl] 104)).drew := ((Below.refl _ _).alloc (Nat.le_refl _) _).drew
  have kx : (w.alloc (.cells #[.slice g0 l0 k0, .slice g1 l1 k1, .slice g2 l2 k2, .slice g3 l3 k3, .slice g4 l4 k4, .bool bl] 104)).drew.heap[w.heap.size]? = some (.cells #[.slice g0 l0 k0, .slice g1 l1 k1, .slice g2 l2 k2, .slice g3 l3 k3, .slice g4 l4 k4, .bool bl] 104 (0, 0)) := heap_alloc_new w _
  generalize (w.alloc (.cells #[.slice g0 l0 k0, .slice g1 l1 k1, .slice g2 l2 k2, .slice g3 l3 k3, .slice g4 l4 k4, .bool bl] 104)).drew = W0 at *
  have x0 := cell_of_row _ w.heap.size 0 _ _ (0, 0) kx
  have x1 := cell_of_row _ w.heap.size 1 _ _ (0, 0) kx
  have x2 := cell_of_row _ w.heap.size 2 _ _ (0, 0) kx
  have x3 := cell_of_row _ w.heap.size 3 _ _ (0, 0) kx
  have x4 := cell_of_row _ w.heap.size 4 _ _ (0, 0) kx
  have x5 := cell_of_row _ w.heap.size 5 _ _ (0, 0) kx
  simp only [List.getElem?_toArray, List.getElem?_cons_succ, List.getElem?_cons_zero] at x0 x1 x2 x3 x4 x5
  clear kx
  have CH := hide (unhide CH W0 b0)
  have B0 := hide b0
  clear b0
  go_wp2_with fail
  refine (unhide CH).mono ?_
  rintro e w1 ⟨ev, od, rfl, ne, no, b1⟩
  clear CH x0 x1 x2 x3 x4 x5
  have b1 := bstep (unhide B0) b1
  have i0 := (unhide H0).next b1
  have i3 := (unhide H3).next b1
  have i4 := (unhide H4).next b1
  have ie := ne.toIn (unhide L1) hL
  have io := no.toIn (unhide L2) hL
  clear ne no H0 H3 H4 B0
  go_wp2_with fail
  refine (add_w _ _ _ _ _ i0 i4).mono ?_
  rintro e w2 ⟨r2, rfl, n2, b2⟩
  go_wp2_with fail
  refine (minus_any _ _ _ _ _ (unhide E1).1 (ie.next b2) (n2.toIn (unhide L3) hL)).mono ?_
  rintro e w3 ⟨r3, rfl, n3, b3⟩
  rw [(unhide E1).2] at n3
  have b23 := bstep b2 b3
  have i0 := i0.next b23
  have i3 := i3.next b23
  have i4 := i4.next b23
  have io := io.next b23
  have i2 := n3.toIn (unhide L4) hL
  have b1 := bstep b1 b23
  clear ie n2 n3 b2 b3 b23 E1 L1 L3 L4
  go_wp2_with fail
  refine (shl_w _ _ 2 _ 2 (by decide) i2).mono ?_
  rintro e w4 ⟨r4, rfl, n4, b4⟩
  go_wp2_with fail
  refine (shl_w _ _ 4 _ 4 (by decide) (i4.next b4)).mono ?_
  rintro e w5 ⟨r5, rfl, n5, b5⟩
  have b45 := bstep b4 b5
  have i0 := i0.next b45
  have i2 := i2.next b45
  have i3 := i3.next b45
  have i4 := i4.next b45
  have io := io.next b45
  have b1 := bstep b1 b45
  have j4 := (n4.next b5).toIn (unhide L5) hL
  have j5 := n5.toIn (unhide L6) hL
  clear n4 n5 b4 b5 b45 L5 L6
  obtain ⟨g6, l6, k6, rfl⟩ := j4.is
  obtain ⟨g7, l7, k7, rfl⟩ := j5.is
  go_wp2_with fail
  refine (sum_three _ _ _ _ _ _ _ i0 j4 j5).mono ?_
  rintro e w6 ⟨r6, rfl, n6, b6⟩
  have j6 := n6.toIn (unhide L7) hL
  clear n6 j4 j5
  go_wp2_with fail
  refine (minus_any _ _ _ _ _ (unhide E2).1 (i3.next b6) j6).mono ?_
  rintro e w7 ⟨r7, rfl, n7, b7⟩
  have j7 := n7.toIn (unhide L8) hL
  clear n7 j6
  go_wp2_with fail
  refine (shr_w _ _ 1 _ 1 (by decide) j7).mono ?_
  rintro e w8 ⟨r8, rfl, n8, b8⟩
  rw [(unhide E2).2] at n8
  have j8 := n8.toIn (unhide L9) hL
  have b68 := bstep (bstep b6 b7) b8
  have i0 := i0.next b68
  have i2 := i2.next b68
  have i4 := i4.next b68
  have io := io.next b68
  have b1 := bstep b1 b68
  clear j7 n8 b6 b7 b8 b68 i3 L7 L8 L9 E2
  go_wp2_with fail
  refine (minus_any _ _ _ _ _ (unhide E3).1 j8 io).mono ?_
  rintro e w9 ⟨r9, rfl, n9, b9⟩
  rw [(unhide E3).2] at n9
  have j9 := n9.toIn (unhide L10) hL
  go_wp2_with fail
  refine (spec_third0 _ _ _ c3 rfl j9).mono ?_
  rintro e w10 ⟨r10, rfl, n10, b10⟩
  have j10 := n10.toIn (unhide L11) hL
  have b90 := bstep b9 b10
  have i0 := i0.next b90
  have i2 := i2.next b90
  have i4 := i4.next b90
  have io := io.next b90
  have b1 := bstep b1 b90
  clear j8 j9 n9 n10 b9 b10 b90 E3 L10 L11
  go_wp2_with fail
  refine (minus_any _ _ _ _ _ (unhide E4).1 io j10).mono ?_
  rintro e w11 ⟨r11, rfl, n11, b11⟩
  rw [(unhide E4).2] at n11
  have j11 := n11.toIn (unhide L12) hL
  have i0 := i0.next b11
  have i2 := i2.next b11
  have i4 := i4.next b11
  have j10 := j10.next b11
  have b1 := bstep b1 b11
  clear n11 b11 E4 io L12
  obtain ⟨ga, la, ka, rfl⟩ := i2.is
  obtain ⟨gb, lb, kb, rfl⟩ := j10.is
  obtain ⟨gc, lc, kc, rfl⟩ := j11.is
  go_wp2_with fail
  refine (join_five _ _ _ _ _ _ _ _ _ _ _ h (h : Int) (unhide hz) i0 j11 i2 j10 i4).mono ?_
  rintro e w12 ⟨r12, rfl, n12, b12⟩
  have s1 := b1.size
  have b1 := bstep b1 b12
  clear i0 i2 i4 j10 j11 b12 hz
  go_wp2
  go_ret
  exact ⟨r12, rfl, n12.mono s1, b1⟩

end Go.Proofs.Yteinonbijiokmaa

/- What the statements on package toom ask of Toom and ToomSqr, whose own variables turn between the calls of inner. -/
namespace Go.Proofs.Yteinonbijiokmaa
open Go.RowKit

/-- What is asked of a call that is handed in: it multiplies, its own blocks D and the meter at g alone may turn, and what it counts goes from St i to St (i + 1); what is not below B does not matter to that. -/
structure InnT (B gt gk ge g : Nat) (l : Int) (T : Tab) (n m h k : Nat) (fs cs : Array Value) (D : Nat → Prop) (St : Nat → World → Prop) : Prop where
  go : ∀ (args : Array Value) (W : World), (callFunc k args).run Try.prog W = .ok (.enter k args) W
  next : ∀ i W W', St i W → Out (fun j => B ≤ j) W W' → St i W'
  eng : ∀ i W, St i W → ∃ s' m', TEng W gt gk ge g s' (l + 1) m' T
  call : ∀ i W u v a c, i < 5 → St i W → InD (fun j => D j ∨ j = g) W u a (tlen n m h i).1 → InD (fun j => D j ∨ j = g) W v c (tlen n m h i).2 →
    Calls Try.prog k (fs ++ #[u, v] ++ cs) W fun e W' => ∃ r, e = .returned r ∧ NewI W.heap.size W' r (a * c) ∧ St (i + 1) W' ∧ Out (fun j => D j ∨ j = g) W W'

def SpecToomT : Prop := ∀ (w : World) (gt gk ge g : Nat) (s l m : Int) (T : Tab) (ga gb : Option Addr) (b o cap la b' o' cap' lb h : Nat) (xs ys : List Nat) (k : Nat) (fs cs : Array Value) (D : Nat → Prop) (St : Nat → World → Prop),
  TEng w gt gk ge g s l m T → 0 ≤ l → l ≤ 1000000 → xs.length = la → Rep w ga b o cap xs → WDig xs → (0 < la → ¬ D b) → ys.length = lb → Rep w gb b' o' cap' ys → WDig ys → (0 < lb → ¬ D b') → la ≤ 16384 → lb ≤ 16384 →
  h = (max la lb + 2) / 3 → 2 * h < min la lb → ¬ D gt → ¬ D gk → ¬ D ge → ¬ D g → (∀ j, D j → j < w.heap.size) → InnT w.heap.size gt gk ge g l T (max la lb) (min la lb) h k fs cs D St →
  (∀ W, Out (· = g) w W → TEng W gt gk ge g s (l + 1) (max m (l + 1)) T → St 0 W) →
  Calls Try.prog 32 #[.pointer (some ⟨gt, 0, none⟩), .slice ga la cap, .slice gb lb cap', .func (.func k) fs cs] w fun e w' => ∃ v W, e = .returned (.tuple #[v, .bool true]) ∧ NewW w.heap.size w' v (wval xs * wval ys) ∧ St 5 W ∧ Out (· = g) W w' ∧ (∀ s' m', TEng W gt gk ge g s' (l + 1) m' T → TEng w' gt gk ge g s' l m' T) ∧ Out (fun j => D j ∨ j = g) w w'
/-- The same for a call that squares. -/
structure InnS (B gt gk ge g : Nat) (l : Int) (T : Tab) (n h k : Nat) (fs cs : Array Value) (D : Nat → Prop) (St : Nat → World → Prop) : Prop where
  go : ∀ (args : Array Value) (W : World), (callFunc k args).run Try.prog W = .ok (.enter k args) W
  next : ∀ i W W', St i W → Out (fun j => B ≤ j) W W' → St i W'
  eng : ∀ i W, St i W → ∃ s' m', TEng W gt gk ge g s' (l + 1) m' T
  call : ∀ i W u a, i < 5 → St i W → InD (fun j => D j ∨ j = g) W u a (tlen n n h i).1 →
    Calls Try.prog k (fs ++ #[u] ++ cs) W fun e W' => ∃ r, e = .returned r ∧ NewI W.heap.size W' r (a * a) ∧ St (i + 1) W' ∧ Out (fun j => D j ∨ j = g) W W'
def SpecToomS : Prop := ∀ (w : World) (gt gk ge g : Nat) (s l m : Int) (T : Tab) (ga : Option Addr) (b o cap la h : Nat) (xs : List Nat) (k : Nat) (fs cs : Array Value) (D : Nat → Prop) (St : Nat → World → Prop),
  TEng w gt gk ge g s l m T → 0 ≤ l → l ≤ 1000000 → xs.length = la → Rep w ga b o cap xs → WDig xs → (0 < la → ¬ D b) → la ≤ 16384 →
  h = (la + 2) / 3 → 2 * h < la → ¬ D gt → ¬ D gk → ¬ D ge → ¬ D g → (∀ j, D j → j < w.heap.size) → InnS w.heap.size gt gk ge g l T la h k fs cs D St →
  (∀ W, Out (· = g) w W → TEng W gt gk ge g s (l + 1) (max m (l + 1)) T → St 0 W) →
  Calls Try.prog 39 #[.pointer (some ⟨gt, 0, none⟩), .slice ga la cap, .func (.func k) fs cs] w fun e w' => ∃ v W, e = .returned (.tuple #[v, .bool true]) ∧ NewW w.heap.size w' v (wval xs * wval xs) ∧ St 5 W ∧ Out (· = g) W w' ∧ (∀ s' m', TEng W gt gk ge g s' (l + 1) m' T → TEng w' gt gk ge g s' l m' T) ∧ Out (fun j => D j ∨ j = g) w w'

end Go.Proofs.Yteinonbijiokmaa

/- What the statements on package toom call: from, hand, and the closures that count. -/
namespace Go.Proofs.Yteinonbijiokmaa
open Go.RowKit

theorem from_toom (w : World) (ga : Option Addr) (b o cap n A : Nat) (us : List Nat) (hl : us.length = n) (hn : n ≤ 1073741824) (hR : Rep w ga b o cap us) (hd : WDig us) (hA : A = wval us) :
    Calls Try.prog 10 #[.slice ga n cap] w fun e w' => ∃ v, e = .returned v ∧ IsN w' v A ∧ Below w.heap.size w w' := by
  subst hl
  have CF := hide (from_any w ga b o cap us (by omega) hR (wDig_mem hd))
  rw [← hA] at CF
  clear hA
  generalize us.length = n at *
  go_enter Try.func10, Try.ntmps10
  go_wp2_with fail
  refine (unhide CF).mono ?_
  rintro e w' ⟨v, rfl, hv, hb⟩
  go_wp2
  go_ret
  exact ⟨v, rfl, hv, hb⟩

set_option maxHeartbeats 1600000 in
theorem handT_any (w : World) (u v : Value) (a c lu lv : Nat) (D : Nat → Prop) (hu : InD D w u a lu) (hv : InD D w v c lv) (q : Nat) (hq : q ≤ 1000) (h1 : lu ≤ q) (h2 : lv ≤ q) :
    Calls Try.prog 34 #[u, v] w fun e w' => ∃ r, e = .returned r ∧ NewI w.heap.size w' r (a * c) ∧ Below w.heap.size w w' := by
  have l1 := inD_lt hu
  have l2 := inD_lt hv
  obtain ⟨ga, b, o, cap, xs, rfl, hl, hr, hd, hva, _⟩ := hu
  obtain ⟨gb, b', o', cap', ys, rfl, hl', hr', hd', hvb, _⟩ := hv
  have HR' := hide (fun W (t : Below w.heap.size w W) => hr'.next t)
  have CF := hide (from_toom w ga b o cap lu a xs hl (by omega) hr hd hva.symm)
  have CG := hide (fun W (r : Rep W gb b' o' cap' ys) => from_toom W gb b' o' cap' lv c ys hl' (by omega) r hd' hvb.symm)
  have m1 : Hid (a < 4294967296 ^ (2 * q)) := by have := pow_up l1 (q := q) h1; rw [wpow] at this; exact this
  have m2 : Hid (c < 4294967296 ^ (2 * q)) := by have := pow_up l2 (q := q) h2; rw [wpow] at this; exact this
  have m3 : Hid (a * c < 4294967296 ^ (2 * q + 2 * q)) := by
    have := Nat.mul_lt_mul'' (unhide m1) (unhide m2)
    rwa [← Nat.pow_add] at this
  have CM := hide (fun W v1 v2 (n1 : IsN W v1 a) (n2 : IsN W v2 c) => mul_any W v1 v2 a c (2 * q) (by omega) (unhide m1) (unhide m2) n1 n2)
  have CT := hide (fun W v3 (n3 : IsN W v3 (a * c)) => to_isN W v3 (a * c) (2 * q + 2 * q) (by omega) (unhide m3) n3)
  clear l1 l2 m1 m2 m3 hr hr' hd hd' hva hvb hl hl'
  generalize a * c = P at *
  go_enter Try.func34, Try.ntmps34
  go_wp2_with fail
  refine (unhide CF).mono ?_
  rintro e w1 ⟨v1, rfl, n1, b1⟩
  clear CF
  go_wp2_with fail
  refine (unhide CG _ (unhide HR' _ b1)).mono ?_
  rintro e w2 ⟨v2, rfl, n2, b2⟩
  have n1 := n1.next b2
  have bl := bstep b1 b2
  clear CG b1 b2
  go_wp2_with fail
  refine (unhide CM _ _ _ n1 n2).mono ?_
  rintro e w3 ⟨v3, rfl, n3, b3⟩
  have bl := bstep bl b3
  clear CM b3 n1 n2
  go_wp2_with fail
  refine (unhide CT _ _ n3).mono ?_
  rintro e w4 ⟨r, rfl, nr, b4⟩
  have hs := bl.size
  have bl := bstep bl b4
  have hnr : NewI w.heap.size w4 r P := by
    obtain ⟨ga, b, oo, cap, xs, e, hr, hx, hv, hl, hn⟩ := nr
    exact ⟨ga, b, oo, cap, xs, e, hr, hx, hv, hl, fun h => Nat.le_trans hs (hn h)⟩
  clear CT b4 n3 nr hs
  go_wp2
  go_ret
  exact ⟨r, rfl, hnr, bl⟩

end Go.Proofs.Yteinonbijiokmaa

/- The closures that the statements on package toom hand in. Written by gen_toom.py. -/
namespace Go.Proofs.Yteinonbijiokmaa
open Go.RowKit

set_option maxRecDepth 100000 in
set_option maxHeartbeats 3200000 in
theorem mulsClosT_any (w : World) (u v : Value) (a c lu lv i R C Wt Wb : Nat) (D : Nat → Prop) (hu : InD D w u a lu) (hv : InD D w v c lv) (h1 : lu ≤ 60) (h2 : lv ≤ 60) (hi : i < 5) (hR : One w R (.bool true) 4) (hC : One w C (.int .i64 (i : Int)) 3) (hW : w.cell? ⟨Wt, 0, none⟩ = some (.slice (some ⟨Wb, 0, none⟩) 5 5)) (w0 : w.cell? ⟨Wb, i * 2, none⟩ = some (.int .i64 (lu : Int))) (w1 : w.cell? ⟨Wb, i * 2 + 1, none⟩ = some (.int .i64 (lv : Int))) :
    Calls Try.prog 33 #[u, v, .pointer (some ⟨R, 0, none⟩), .pointer (some ⟨C, 0, none⟩), .pointer (some ⟨Wt, 0, none⟩)] w fun e w' => ∃ r, e = .returned r ∧ NewI w.heap.size w' r (a * c) ∧ One w' R (.bool true) 4 ∧ One w' C (.int .i64 ((i + 1 : Nat) : Int)) 3 ∧ Out (fun j => j = R ∨ j = C) w w' := by
  have hne : ¬ C = R := hC.apart hR (by intro e; cases e)
  obtain ⟨ga, b, o, cap, xs, rfl, hl, hr, hd, hva, hn⟩ := hu
  obtain ⟨gb, b', o', cap', ys, rfl, hl', hr', hd', hvb, hn'⟩ := hv
  have cR := hR.cell
  have cC := hC.cell
  have fR := hR.frozen
  have fC := hC.frozen
  have o1 := ((Out.refl (fun j => j = R ∨ j = C) w).set (g := R) (i := 0) (Or.inl rfl) (.bool true)).set (g := C) (i := 0) (Or.inr rfl) (.int .i64 ((i + 1 : Nat) : Int))
  have R1 := (hR.set (.bool true)).other (k := C) (i := 0) (fun e => hne e.symm) (.int .i64 ((i + 1 : Nat) : Int))
  have C1 := (hC.other (k := R) (i := 0) hne (.bool true)).set (.int .i64 ((i + 1 : Nat) : Int))
  have nR : 0 < xs.length → ¬ (b = R ∨ b = C) := fun h => by
    have h1 := hR.away (fun x e => by cases e) hr h
    have h2 := hC.away (fun x e => by cases e) hr h
    omega
  have nR' : 0 < ys.length → ¬ (b' = R ∨ b' = C) := fun h => by
    have h1 := hR.away (fun x e => by cases e) hr' h
    have h2 := hC.away (fun x e => by cases e) hr' h
    omega
  have iu : InD (fun j => j = R ∨ j = C) ((w.setCell ⟨R, 0, none⟩ (.bool true)).setCell ⟨C, 0, none⟩ (.int .i64 ((i + 1 : Nat) : Int))) (.slice ga lu cap) a lu := ⟨ga, b, o, cap, xs, rfl, hl, o1.rep hr nR, hd, hva, by rw [← hl]; exact nR⟩
  have iv : InD (fun j => j = R ∨ j = C) ((w.setCell ⟨R, 0, none⟩ (.bool true)).setCell ⟨C, 0, none⟩ (.int .i64 ((i + 1 : Nat) : Int))) (.slice gb lv cap') c lv := ⟨gb, b', o', cap', ys, rfl, hl', o1.rep hr' nR', hd', hvb, by rw [← hl']; exact nR'⟩
  have CH := hide (handT_any _ _ _ a c lu lv _ iu iv 60 (by omega) h1 h2)
  have hsz : ((w.setCell ⟨R, 0, none⟩ (.bool true)).setCell ⟨C, 0, none⟩ (.int .i64 ((i + 1 : Nat) : Int))).heap.size = w.heap.size := by simp [World.setCell]
  obtain ⟨i1, hi1⟩ : ∃ i1, i1 = i + 1 := ⟨_, rfl⟩
  rw [← hi1] at o1 R1 C1 CH hsz ⊢
  have e1 : (i : Int) + 1 = (i1 : Int) := by omega
  have e2 : IntKind.i64.wrap (i1 : Int) = (i1 : Int) := by rw [IntKind.wrap_i64]; omega
  have O1 := hide o1
  have R1 := hide R1
  have C1 := hide C1
  have HSZ := hide hsz
  clear iu iv o1 nR nR' hr hr' hd hd' hva hvb hn hn' hl hl' hi1 hR hC hsz
  generalize a * c = P at *
  go_enter Try.func33, Try.ntmps33
  go_wp2_with fail
  refine (unhide CH).mono ?_
  rintro e w4 ⟨r, rfl, nr, b4⟩
  rw [unhide HSZ] at nr
  have O4 := (unhide O1).next b4
  have R4 := (unhide R1).next b4
  have C4 := (unhide C1).next b4
  clear CH b4 O1 R1 C1
  go_wp2
  go_ret
  exact ⟨r, rfl, nr, R4, C4, O4⟩

set_option maxRecDepth 100000 in
set_option maxHeartbeats 3200000 in
theorem sqrsClosT_any (w : World) (u : Value) (a lu i R C Wt Wb : Nat) (D : Nat → Prop) (hu : InD D w u a lu) (h1 : lu ≤ 60) (hi : i < 5) (hR : One w R (.bool true) 4) (hC : One w C (.int .i64 (i : Int)) 3) (hW : w.cell? ⟨Wt, 0, none⟩ = some (.slice (some ⟨Wb, 0, none⟩) 5 5)) (w0 : w.cell? ⟨Wb, i, none⟩ = some (.int .i64 (lu : Int))) :
    Calls Try.prog 40 #[u, .pointer (some ⟨R, 0, none⟩), .pointer (some ⟨C, 0, none⟩), .pointer (some ⟨Wt, 0, none⟩)] w fun e w' => ∃ r, e = .returned r ∧ NewI w.heap.size w' r (a * a) ∧ One w' R (.bool true) 4 ∧ One w' C (.int .i64 ((i + 1 : Nat) : Int)) 3 ∧ Out (fun j => j = R ∨ j = C) w w' := by
  have hne : ¬ C = R := hC.apart hR (by intro e; cases e)
  obtain ⟨ga, b, o, cap, xs, rfl, hl, hr, hd, hva, hn⟩ := hu
  have cR := hR.cell
  have cC := hC.cell
  have fR := hR.frozen
  have fC := hC.frozen
  have o1 := ((Out.refl (fun j => j = R ∨ j = C) w).set (g := R) (i := 0) (Or.inl rfl) (.bool true)).set (g := C) (i := 0) (Or.inr rfl) (.int .i64 ((i + 1 : Nat) : Int))
  have R1 := (hR.set (.bool true)).other (k := C) (i := 0) (fun e => hne e.symm) (.int .i64 ((i + 1 : Nat) : Int))
  have C1 := (hC.other (k := R) (i := 0) hne (.bool true)).set (.int .i64 ((i + 1 : Nat) : Int))
  have nR : 0 < xs.length → ¬ (b = R ∨ b = C) := fun h => by
    have h1 := hR.away (fun x e => by cases e) hr h
    have h2 := hC.away (fun x e => by cases e) hr h
    omega
  have iu : InD (fun j => j = R ∨ j = C) ((w.setCell ⟨R, 0, none⟩ (.bool true)).setCell ⟨C, 0, none⟩ (.int .i64 ((i + 1 : Nat) : Int))) (.slice ga lu cap) a lu := ⟨ga, b, o, cap, xs, rfl, hl, o1.rep hr nR, hd, hva, by rw [← hl]; exact nR⟩
  have CH := hide (handT_any _ _ _ a a lu lu _ iu iu 60 (by omega) h1 h1)
  have hsz : ((w.setCell ⟨R, 0, none⟩ (.bool true)).setCell ⟨C, 0, none⟩ (.int .i64 ((i + 1 : Nat) : Int))).heap.size = w.heap.size := by simp [World.setCell]
  obtain ⟨i1, hi1⟩ : ∃ i1, i1 = i + 1 := ⟨_, rfl⟩
  rw [← hi1] at o1 R1 C1 CH hsz ⊢
  have e1 : (i : Int) + 1 = (i1 : Int) := by omega
  have e2 : IntKind.i64.wrap (i1 : Int) = (i1 : Int) := by rw [IntKind.wrap_i64]; omega
  have O1 := hide o1
  have R1 := hide R1
  have C1 := hide C1
  have HSZ := hide hsz
  clear iu o1 nR hr hd hva hn hl hi1 hR hC hsz
  generalize a * a = P at *
  go_enter Try.func40, Try.ntmps40
  go_wp2_with fail
  refine (unhide CH).mono ?_
  rintro e w4 ⟨r, rfl, nr, b4⟩
  rw [unhide HSZ] at nr
  have O4 := (unhide O1).next b4
  have R4 := (unhide R1).next b4
  have C4 := (unhide C1).next b4
  clear CH b4 O1 R1 C1
  go_wp2
  go_ret
  exact ⟨r, rfl, nr, R4, C4, O4⟩

end Go.Proofs.Yteinonbijiokmaa

/- Package toom: the examples of the document. -/
namespace Go.Proofs.Yteinonbijiokmaa
open Go.RowKit

def SpecTWakes : Prop := ∀ w : World, Calls Try.prog 19 #[] w fun e w' => e = .returned (.bool true) ∧ Below w.heap.size w w'
theorem blk_lone (w : World) (a : Nat) : Blk (w.alloc (.cells #[.int .u64 (a : Int)] 28)) w.heap.size [a] := heap_alloc_new w _
theorem dig_lone {a : Nat} (h : a < 18446744073709551616) : WDig [a] := fun j => by
  match j with
  | 0 => exact h
  | j + 1 => exact Nat.zero_lt_succ _

set_option maxRecDepth 100000 in
set_option maxHeartbeats 6400000 in
theorem toomWakes_any (SN : SpecTNew) (S3 : SpecThird) (S4 : SpecThirdNo) : SpecTWakes := by
  intro w
  have CN : Hid (∀ w, Calls Try.prog 31 #[.agg #[.int .i64 0, .int .i64 0, .int .i64 0, .int .i64 0, .int .i64 0, .int .i64 0, .int .i64 0, .int .i64 0, .int .i64 0, .int .i64 0, .int .i64 0]] w fun e w' => ∃ gt gk ge g, e = .returned (.pointer (some ⟨gt, 0, none⟩)) ∧ TEng w' gt gk ge g 0 0 0 Tab0 ∧ w.heap.size ≤ gt ∧ w.heap.size ≤ gk ∧ w.heap.size ≤ ge ∧ w.heap.size ≤ g ∧ Below w.heap.size w w') := fun w => SN Tab0 w
  have C3 := hide (S3 _ _ _ 0 1 1 4 [12] rfl (Blk.whole (blk_lone w 12) (n := 1) rfl) (dig_lone (by decide)) (by decide) (by decide))
  have C4 := hide (fun w => S4 _ _ _ 0 1 1 [13] rfl (Blk.whole (blk_lone w 13) (n := 1) rfl) (dig_lone (by decide)) (by decide) (by decide))
  have b0 : Below w.heap.size w (w.alloc (.cells #[.int .u64 12] 28)) := (Below.refl _ _).alloc (Nat.le_refl _) _
  have B0 := hide b0
  clear SN S3 S4 b0
  go_enter Try.func19, Try.ntmps19
  go_wp2_with fail
  refine (unhide C3).mono ?_
  rintro e w1 ⟨v, rfl, nv, b1⟩
  have B1 := hide (bstep (unhide B0) b1)
  have b2 : Below w1.heap.size w1 (w1.alloc (.cells #[.int .u64 13] 28)) := (Below.refl _ _).alloc (Nat.le_refl _) _
  have B2 := hide (bstep (unhide B1) b2)
  have nv := nv.next b2
  have C4 := hide (unhide C4 w1)
  clear C3 b1 b2
  go_wp2_with fail
  refine (unhide C4).mono ?_
  rintro e w3 ⟨⟨gv, cv, rfl⟩, b3⟩
  have B3 := hide (bstep (unhide B2) b3)
  have nv := nv.next b3
  obtain ⟨ga, b, cap, xs, rfl, hr, hx, hv, _⟩ := nv.rep
  obtain rfl : xs = [4] := wCan_unique hx ⟨dig_lone (by decide), fun _ => by decide⟩ (hv.trans (by decide))
  have hal : Below w3.heap.size w3 (w3.alloc (.cells #[.int .u64 4] 28)) := (Below.refl _ _).alloc (Nat.le_refl _) _
  have CS : Hid (Calls Try.prog 51 #[.slice ga 1 cap, .slice (some ⟨w3.heap.size, 0, none⟩) 1 1] (w3.alloc (.cells #[.int .u64 4] 28)) fun e w' => e = .returned (.bool true) ∧ Below (w3.alloc (.cells #[.int .u64 4] 28)).heap.size (w3.alloc (.cells #[.int .u64 4] 28)) w') := keepSame_any _ ga (some ⟨w3.heap.size, 0, none⟩) b 0 cap w3.heap.size 0 1 1 [4] rfl (by decide) (hr.next hal) (Blk.whole (blk_lone w3 4) (n := 1) rfl)
  have B4 := hide (bstep (unhide B3) hal)
  clear C4 b3 nv hr hx hv hal
  go_wp2_with fail
  refine (unhide CS).mono ?_
  rintro e w5 ⟨rfl, b5⟩
  have B5 := hide (bstep (unhide B4) b5)
  clear CS b5
  go_wp2_with fail
  refine (unhide CN _).mono ?_
  rintro e w6 ⟨gt, gk, ge, g, rfl, _, _, _, _, _, b6⟩
  have bl := bstep (unhide B5) b6
  clear CN b6
  go_wp2
  go_ret
  exact ⟨rfl, bl⟩

end Go.Proofs.Yteinonbijiokmaa
