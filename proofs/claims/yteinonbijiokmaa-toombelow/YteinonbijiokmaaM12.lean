/- Package toom's small calls: a difference that is none below 0, one of either sign, a third, how long a piece is, rows in new memory. -/
import Derived.Test.YteinonbijiokmaaM10
import Derived.Test.YteinonbijiokmaaCLDiv
import Derived.Test.YteinonbijiokmaaM6
namespace Go.Proofs.Yteinonbijiokmaa
open Go.RowKit

set_option maxHeartbeats 1600000 in
theorem piece_any (w : World) (ga : Option Addr) (n cap h : Nat) (hn : n ≤ 1073741824) (hh : h = (n + 2) / 3) :
    Calls Try.prog 62 #[.slice ga n cap] w fun e w' => e = .returned (.int .i64 (h : Int)) ∧ w' = w := by
  obtain ⟨m, hm⟩ : ∃ m, m = n + 2 := ⟨_, rfl⟩
  have e1 : (n : Int) + 2 = (m : Int) := by omega
  have e2 : IntKind.i64.wrap (m : Int) = (m : Int) := by rw [IntKind.wrap_i64]; omega
  have e3 : (m : Int).tdiv 3 = (h : Int) := by
    rw [Int.tdiv_eq_ediv_of_nonneg (by omega)]; omega
  have e4 : IntKind.i64.wrap (h : Int) = (h : Int) := by rw [IntKind.wrap_i64]; omega
  clear hm hh hn
  go_enter Try.func62, Try.ntmps62
  go_wp2
  go_ret
  exact ⟨rfl, rfl⟩

set_option maxHeartbeats 1600000 in
theorem minus_any (w : World) (u v : Value) (m n : Nat) (h : n ≤ m) (hu : InW w u m) (hv : InW w v n) :
    Calls Try.prog 77 #[u, v] w fun e w' => ∃ r, e = .returned r ∧ NewW w.heap.size w' r (m - n) ∧ Below w.heap.size w w' := by
  have CS := hide (sub_w w u v m n hu hv)
  have H := hide h
  clear hu hv h
  go_enter Try.func77, Try.ntmps77
  go_wp2_with fail
  refine (unhide CS).mono ?_
  rintro e w2 ⟨b2, ⟨_, r2, rfl, h2⟩ | ⟨hlt, _⟩⟩
  case inr => exact absurd (unhide H) (by omega)
  clear CS H
  go_wp2
  go_ret
  exact ⟨r2, rfl, h2, b2⟩

theorem spec_third0 (w : World) (u : Value) (m q : Nat) (hm : m = 3 * q) (hu : InW w u m) :
    Calls Try.prog 16 #[u] w fun e w' => ∃ v, e = .returned (.tuple #[v, .bool true]) ∧ NewW w.heap.size w' v q ∧ Below w.heap.size w w' := by
  have CD := divWord_w w u m 3 (by decide) (by decide) hu
  rw [show m % 3 = 0 by omega, show m / 3 = q by omega] at CD
  replace CD := hide CD
  clear hu hm
  go_enter Try.func16, Try.ntmps16
  go_wp2_with fail
  refine (unhide CD).mono ?_
  rintro e w2 ⟨r2, rfl, h2, b2⟩
  clear CD
  go_wp2
  go_ret2
  exact ⟨r2, rfl, h2, b2⟩

theorem spec_third : SpecThird := by
  intro w ga b o cap la q xs hl hR hd hla hv
  exact spec_third0 w _ _ q hv (inW_rep hR hd hl (by omega))

set_option maxHeartbeats 1600000 in
theorem spec_third_no : SpecThirdNo := by
  intro w ga b o cap la xs hl hR hd hla hv
  have CD := hide (divWord_w w _ _ 3 (by decide) (by decide) (inW_rep hR hd hl (by omega)))
  obtain ⟨r, hr⟩ : ∃ r, r = wval xs % 3 := ⟨_, rfl⟩
  rw [← hr] at CD hv
  clear hR hd hl hla hr
  generalize wval xs = m at *
  go_enter Try.func16, Try.ntmps16
  go_wp2_with fail
  refine (unhide CD).mono ?_
  rintro e w2 ⟨r2, rfl, h2, b2⟩
  clear CD
  go_wp2
  go_ret2
  exact ⟨⟨_, _, rfl⟩, b2⟩

set_option maxRecDepth 100000 in
set_option maxHeartbeats 1600000 in
theorem twide_any (w : World) (ga : Option Addr) (b o cap n N : Nat) (xs : List Nat) (hl : xs.length = n) (hnN : n ≤ N) (hN : N ≤ 1099511627776) (hR : Rep w ga b o cap xs) :
    Calls Try.prog 81 #[.slice ga n cap, .int .i64 (N : Int)] w fun e w' => e = .returned (.slice (some ⟨w.heap.size, 0, none⟩) N N) ∧ Blk w' w.heap.size (xs ++ List.replicate (N - n) 0) ∧ Below w.heap.size w w' := by
  have HC := hide (fun ob => crow_at hR ob)
  clear hR
  have hmk := make_nat N N (N : Int) rfl rfl (by omega)
  go_enter Try.func81, Try.ntmps81
  go_wp2_with (refine wpList_copy_splice rfl _ _ 31 31 rfl 28 Try.underlying31 Try.sizeU _ _ N N n cap rfl rfl w.heap.size 0 (zlist N) 28 ?h1 (crow xs) ?h2 ?h3 ?h4 (cells_one _) w.heap.size w ?h5 (Nat.le_refl _) ?_)
  case h1 => exact heap_alloc_new w _
  case h2 => rw [crow_len, hl]; exact (Nat.min_eq_left (by omega)).symm
  case h3 => exact unhide HC _
  case h4 => rw [crow_len, zlist_len, hl]; omega
  case h5 => exact (Below.refl _ _).alloc (Nat.le_refl _) _
  intro w2 hblk hb2
  have hB : Blk w2 w.heap.size (xs ++ List.replicate (N - n) 0) := by
    have e := splice_copy xs n (N - n) hl
    rw [show n + (N - n) = N from by omega] at e
    have h := hblk.out
    rw [e] at h
    exact h
  clear hblk HC hmk
  go_wp2
  go_ret
  exact ⟨ret_slice rfl, hB, hb2⟩

/-- What limb answered, with so many words, in new memory. -/
theorem wide_new (w : World) (B : Nat) (u : Value) (m N : Nat) (hm : m < 18446744073709551616 ^ N) (hN : N ≤ 1048576) (hu : NewW B w u m) :
    Calls Try.prog 81 #[u, .int .i64 (N : Int)] w fun e w' => ∃ zs, e = .returned (.slice (some ⟨w.heap.size, 0, none⟩) N N) ∧ Blk w' w.heap.size zs ∧ zs.length = N ∧ WDig zs ∧ wval zs = m ∧ Below w.heap.size w w' := by
  obtain ⟨g4, q4, c4, ys, rfl, r4, hc4, hv4, _⟩ := hu.rep
  have hl4 : ys.length ≤ N := wlen_le hc4 (by rw [hv4]; exact hm)
  refine (twide_any w _ _ _ _ _ N ys rfl hl4 (by omega) r4).mono ?_
  rintro e w2 ⟨rfl, k, b⟩
  exact ⟨_, rfl, k, by simp; omega, wDig_pad hc4.1 _, by rw [wval_pad, hv4], b⟩

set_option maxHeartbeats 1600000 in
theorem spec_tnew0 (CC0 : SpecKNew) : SpecTNew := by
  intro T w
  have CC := hide (fun w => CC0 T w)
  unfold Tab.val at CC ⊢
  go_enter Try.func31, Try.ntmps31
  go_wp2_with fail
  refine (unhide CC _).mono ?_
  rintro e w1 ⟨gk, ge, g, rfl, E1, hgk, hge, hg, b1⟩
  have hg' : w.heap.size ≤ g := Nat.le_trans (by simp) hg
  have hge' : w.heap.size ≤ ge := Nat.le_trans (by simp) hge
  have hgk' : w.heap.size ≤ gk := Nat.le_trans (by simp) hgk
  have b0 := hide (bstep ((Below.refl w.heap.size w).alloc (Nat.le_refl _) _) b1)
  have tl := E1.eng.met.lt
  have HE := hide E1
  clear CC b1 hg E1 hge hgk
  go_wp2
  go_ret
  refine ⟨w1.heap.size, gk, ge, g, rfl, ⟨?_, (unhide HE).next ((Below.refl _ _).alloc (Nat.le_refl _) _), by omega⟩, (unhide b0).size, hgk', hge', hg', (unhide b0).alloc (unhide b0).size _⟩
  exact cell_of_row _ w1.heap.size 0 _ _ (0, 0) (heap_alloc_new w1 _)

end Go.Proofs.Yteinonbijiokmaa

/- New of kara. -/
namespace Go.Proofs.Yteinonbijiokmaa
open Go.RowKit

set_option maxHeartbeats 1600000 in
theorem schoolNew_t (T : Tab) (w : World) :
    Calls Try.prog 80 #[T.val] w fun e w' => ∃ ge g, e = .returned (.pointer (some ⟨ge, 0, none⟩)) ∧ Eng w' ge g 0 ∧ Tune w' g T ∧ w.heap.size ≤ g ∧ w.heap.size ≤ ge ∧ Below w.heap.size w w' := by
  have CC := hide (fun w => new_any T w)
  unfold Tab.val at CC ⊢
  go_enter Try.func80, Try.ntmps80
  go_wp2_with fail
  refine (unhide CC _).mono ?_
  rintro e w1 ⟨g, rfl, tn, hg, b1⟩
  have hg' : w.heap.size ≤ g := Nat.le_trans (by simp) hg
  have b0 := hide (bstep ((Below.refl w.heap.size w).alloc (Nat.le_refl _) _) b1)
  have tl := tn.lt
  have HT := hide tn
  clear tn CC b1 hg
  go_wp2
  go_ret
  refine ⟨w1.heap.size, g, rfl, ⟨?_, ?_, by omega, ?_⟩, (unhide HT).next ((Below.refl _ _).alloc (Nat.le_refl _) _), hg', (unhide b0).size, (unhide b0).alloc (unhide b0).size _⟩
  · exact cell_of_row _ w1.heap.size 0 _ _ (0, 0) (heap_alloc_new w1 _)
  · exact (unhide HT).met.next ((Below.refl _ _).alloc (Nat.le_refl _) _)
  · exact ((unhide HT).next ((Below.refl _ _).alloc (Nat.le_refl _) _)).ints

set_option maxHeartbeats 1600000 in
theorem spec_knew : SpecKNew := by
  intro T w
  have CC := hide (fun w => schoolNew_t T w)
  unfold Tab.val at CC ⊢
  go_enter Try.func61, Try.ntmps61
  go_wp2_with fail
  refine (unhide CC _).mono ?_
  rintro e w1 ⟨ge, g, rfl, E1, tn, hg, hge, b1⟩
  have hg' : w.heap.size ≤ g := Nat.le_trans (by simp) hg
  have hge' : w.heap.size ≤ ge := Nat.le_trans (by simp) hge
  have b0 := hide (bstep ((Below.refl w.heap.size w).alloc (Nat.le_refl _) _) b1)
  have tl := tn.lt
  have HT := hide tn
  have HE := hide E1
  clear tn CC b1 hg E1 hge
  go_wp2
  go_ret
  refine ⟨w1.heap.size, ge, g, rfl, ⟨?_, (unhide HE).next ((Below.refl _ _).alloc (Nat.le_refl _) _), ((unhide HT).next ((Below.refl _ _).alloc (Nat.le_refl _) _)).tabC, by omega⟩, (unhide b0).size, hge', hg', (unhide b0).alloc (unhide b0).size _⟩
  exact cell_of_row _ w1.heap.size 0 _ _ (0, 0) (heap_alloc_new w1 _)

end Go.Proofs.Yteinonbijiokmaa

/- New of toom. -/
namespace Go.Proofs.Yteinonbijiokmaa
open Go.RowKit

theorem spec_tnew : SpecTNew := spec_tnew0 spec_knew

end Go.Proofs.Yteinonbijiokmaa

/- Naturals in new memory; blocks of one cell. -/
namespace Go.Proofs.Yteinonbijiokmaa
open Go.RowKit

theorem to_isN (w : World) (v : Value) (n L : Nat) (hL : L ≤ 1073741824) (hn : n < 4294967296 ^ L) (h : IsN w v n) :
    Calls Try.prog 14 #[v] w fun e w' => ∃ r, e = .returned r ∧ NewI w.heap.size w' r n ∧ Below w.heap.size w w' := by
  obtain ⟨ga, b, o, cap, xs, rfl, hR, hc, hv⟩ := h
  have hl := len_le hc (L := L) (by rw [hv]; exact hn)
  refine (to_rep w ga b o cap _ xs rfl (by omega) hR hc).mono ?_
  rintro e w' ⟨g1, b1, c1, ws, rfl, r1, k1, v1, hb, hn1⟩
  have hlw := wlen_le k1 (L := L) (by rw [v1, hv]; exact Nat.lt_of_lt_of_le hn (Nat.pow_le_pow_left (by omega) L))
  exact ⟨_, rfl, ⟨g1, b1, 0, c1, ws, rfl, r1, k1.1, by rw [v1, hv], by omega, hn1⟩, hb⟩

/-- Naturals with zero words on top: what a row of l words says is below B to the l. -/
theorem inD_lt {D : Nat → Prop} {w : World} {v : Value} {n l : Nat} (h : InD D w v n l) : n < 18446744073709551616 ^ l := by
  obtain ⟨ga, b, o, cap, xs, _, hl, _, hd, hv, _⟩ := h
  rw [← hv, ← hl]
  exact wval_lt_pow hd

/-- A block of one cell. -/
def One (w : World) (g : Nat) (v : Value) (t : Nat) : Prop := w.heap[g]? = some (.cells #[v] t (0, 0))
theorem One.lt {w : World} {g t : Nat} {v : Value} (h : One w g v t) : g < w.heap.size := (Array.getElem?_eq_some_iff.1 h).1
theorem One.cell {w : World} {g t : Nat} {v : Value} (h : One w g v t) : w.cell? ⟨g, 0, none⟩ = some v := cell_of_row w g 0 _ _ (0, 0) h
theorem One.frozen {w : World} {g t : Nat} {v : Value} (h : One w g v t) : w.frozen? ⟨g, 0, none⟩ = false := frozen_of_row w g 0 _ _ h
theorem One.set {w : World} {g t : Nat} {v : Value} (h : One w g v t) (u : Value) : One (w.setCell ⟨g, 0, none⟩ u) g u t := by
  have := heap_setCell_same w g 0 _ _ u h
  show _ = _
  rw [this]; rfl
theorem One.other {w : World} {g k i t : Nat} {v : Value} (h : One w g v t) (hk : g ≠ k) (u : Value) : One (w.setCell ⟨k, i, none⟩ u) g v t := by
  show _ = _
  rw [heap_setCell_other w ⟨k, i, none⟩ g u hk]
  exact h
theorem One.next {w w' : World} {g t : Nat} {v : Value} (h : One w g v t) (b : Below w.heap.size w w') : One w' g v t := (b.block g h.lt).trans h
theorem One.out {D : Nat → Prop} {w w' : World} {g t : Nat} {v : Value} (h : One w g v t) (o : Out D w w') (hd : ¬ D g) : One w' g v t := (o.block g h.lt hd).trans h
theorem Out.set {D : Nat → Prop} {w w' : World} (h : Out D w w') {g i : Nat} (hd : D g) (u : Value) : Out D w (w'.setCell ⟨g, i, none⟩ u) :=
  h.trans ⟨rfl, rfl, rfl, by simp [World.setCell], fun k _ hn => heap_setCell_other w' ⟨g, i, none⟩ k u (fun e => hn (by rw [e]; exact hd))⟩

/-- No row of words lies in a block of one cell that is no word. -/
theorem One.away {w : World} {g t : Nat} {v : Value} (h : One w g v t) (hv : ∀ x, v ≠ .int .u64 x) {ga : Option Addr} {b o cap : Nat} {xs : List Nat} (r : Rep w ga b o cap xs) (h0 : 0 < xs.length) : b ≠ g := by
  rintro rfl
  have c := r.cell 0 h0
  rw [cell_of_row w b (o + 0) _ _ (0, 0) h] at c
  match o, c with
  | 0, c => exact hv _ (Option.some.inj c)
  | o + 1, c => simp at c
theorem One.apart {w : World} {g k t u : Nat} {v x : Value} (h : One w g v t) (h' : One w k x u) (hv : v ≠ x) : g ≠ k := by
  rintro rfl
  have := h.cell.symm.trans h'.cell
  exact hv (Option.some.inj this)

end Go.Proofs.Yteinonbijiokmaa

/- What the statements on package toom call: from, hand, and the closures that count. -/
namespace Go.Proofs.Yteinonbijiokmaa
open Go.RowKit

theorem from_toom (w : World) (ga : Option Addr) (b o cap n A : Nat) (us : List Nat) (hl : us.length = n) (hn : n ≤ 1073741824) (hR : Rep w ga b o cap us) (hd : WDig us) (hA : A = wval us) :
    Calls Try.prog 10 #[.slice ga n cap] w fun e w' => ∃ v, e = .returned v ∧ IsN w' v A ∧ Below w.heap.size w w' := by
  subst hl
  have CF := hide (from_any w ga b o cap us (by omega) hR (wDig_mem hd))
  rw [← hA] at CF
  clear hA
  generalize us.length = n at *
  go_enter Try.func10, Try.ntmps10
  go_wp2_with fail
  refine (unhide CF).mono ?_
  rintro e w' ⟨v, rfl, hv, hb⟩
  go_wp2
  go_ret
  exact ⟨v, rfl, hv, hb⟩

set_option maxHeartbeats 1600000 in
theorem handT_any (w : World) (u v : Value) (a c lu lv : Nat) (D : Nat → Prop) (hu : InD D w u a lu) (hv : InD D w v c lv) (q : Nat) (hq : q ≤ 1000) (h1 : lu ≤ q) (h2 : lv ≤ q) :
    Calls Try.prog 34 #[u, v] w fun e w' => ∃ r, e = .returned r ∧ NewI w.heap.size w' r (a * c) ∧ Below w.heap.size w w' := by
  have l1 := inD_lt hu
  have l2 := inD_lt hv
  obtain ⟨ga, b, o, cap, xs, rfl, hl, hr, hd, hva, _⟩ := hu
  obtain ⟨gb, b', o', cap', ys, rfl, hl', hr', hd', hvb, _⟩ := hv
  have HR' := hide (fun W (t : Below w.heap.size w W) => hr'.next t)
  have CF := hide (from_toom w ga b o cap lu a xs hl (by omega) hr hd hva.symm)
  have CG := hide (fun W (r : Rep W gb b' o' cap' ys) => from_toom W gb b' o' cap' lv c ys hl' (by omega) r hd' hvb.symm)
  have m1 : Hid (a < 4294967296 ^ (2 * q)) := by have := pow_up l1 (q := q) h1; rw [wpow] at this; exact this
  have m2 : Hid (c < 4294967296 ^ (2 * q)) := by have := pow_up l2 (q := q) h2; rw [wpow] at this; exact this
  have m3 : Hid (a * c < 4294967296 ^ (2 * q + 2 * q)) := by
    have := Nat.mul_lt_mul'' (unhide m1) (unhide m2)
    rwa [← Nat.pow_add] at this
  have CM := hide (fun W v1 v2 (n1 : IsN W v1 a) (n2 : IsN W v2 c) => mul_any W v1 v2 a c (2 * q) (by omega) (unhide m1) (unhide m2) n1 n2)
  have CT := hide (fun W v3 (n3 : IsN W v3 (a * c)) => to_isN W v3 (a * c) (2 * q + 2 * q) (by omega) (unhide m3) n3)
  clear l1 l2 m1 m2 m3 hr hr' hd hd' hva hvb hl hl'
  generalize a * c = P at *
  go_enter Try.func34, Try.ntmps34
  go_wp2_with fail
  refine (unhide CF).mono ?_
  rintro e w1 ⟨v1, rfl, n1, b1⟩
  clear CF
  go_wp2_with fail
  refine (unhide CG _ (unhide HR' _ b1)).mono ?_
  rintro e w2 ⟨v2, rfl, n2, b2⟩
  have n1 := n1.next b2
  have bl := bstep b1 b2
  clear CG b1 b2
  go_wp2_with fail
  refine (unhide CM _ _ _ n1 n2).mono ?_
  rintro e w3 ⟨v3, rfl, n3, b3⟩
  have bl := bstep bl b3
  clear CM b3 n1 n2
  go_wp2_with fail
  refine (unhide CT _ _ n3).mono ?_
  rintro e w4 ⟨r, rfl, nr, b4⟩
  have hs := bl.size
  have bl := bstep bl b4
  have hnr : NewI w.heap.size w4 r P := by
    obtain ⟨ga, b, oo, cap, xs, e, hr, hx, hv, hl, hn⟩ := nr
    exact ⟨ga, b, oo, cap, xs, e, hr, hx, hv, hl, fun h => Nat.le_trans hs (hn h)⟩
  clear CT b4 n3 nr hs
  go_wp2
  go_ret
  exact ⟨r, rfl, hnr, bl⟩

end Go.Proofs.Yteinonbijiokmaa

/- The closures that the statements on package toom hand in. Written by gen_toom.py. -/
namespace Go.Proofs.Yteinonbijiokmaa
open Go.RowKit

set_option maxRecDepth 100000 in
set_option maxHeartbeats 3200000 in
theorem mulsClosT_any (w : World) (u v : Value) (a c lu lv i R C Wt Wb : Nat) (D : Nat → Prop) (hu : InD D w u a lu) (hv : InD D w v c lv) (h1 : lu ≤ 60) (h2 : lv ≤ 60) (hi : i < 5) (hR : One w R (.bool true) 4) (hC : One w C (.int .i64 (i : Int)) 3) (hW : w.cell? ⟨Wt, 0, none⟩ = some (.slice (some ⟨Wb, 0, none⟩) 5 5)) (w0 : w.cell? ⟨Wb, i * 2, none⟩ = some (.int .i64 (lu : Int))) (w1 : w.cell? ⟨Wb, i * 2 + 1, none⟩ = some (.int .i64 (lv : Int))) :
    Calls Try.prog 33 #[u, v, .pointer (some ⟨R, 0, none⟩), .pointer (some ⟨C, 0, none⟩), .pointer (some ⟨Wt, 0, none⟩)] w fun e w' => ∃ r, e = .returned r ∧ NewI w.heap.size w' r (a * c) ∧ One w' R (.bool true) 4 ∧ One w' C (.int .i64 ((i + 1 : Nat) : Int)) 3 ∧ Out (fun j => j = R ∨ j = C) w w' := by
  have hne : ¬ C = R := hC.apart hR (by intro e; cases e)
  obtain ⟨ga, b, o, cap, xs, rfl, hl, hr, hd, hva, hn⟩ := hu
  obtain ⟨gb, b', o', cap', ys, rfl, hl', hr', hd', hvb, hn'⟩ := hv
  have cR := hR.cell
  have cC := hC.cell
  have fR := hR.frozen
  have fC := hC.frozen
  have o1 := ((Out.refl (fun j => j = R ∨ j = C) w).set (g := R) (i := 0) (Or.inl rfl) (.bool true)).set (g := C) (i := 0) (Or.inr rfl) (.int .i64 ((i + 1 : Nat) : Int))
  have R1 := (hR.set (.bool true)).other (k := C) (i := 0) (fun e => hne e.symm) (.int .i64 ((i + 1 : Nat) : Int))
  have C1 := (hC.other (k := R) (i := 0) hne (.bool true)).set (.int .i64 ((i + 1 : Nat) : Int))
  have nR : 0 < xs.length → ¬ (b = R ∨ b = C) := fun h => by
    have h1 := hR.away (fun x e => by cases e) hr h
    have h2 := hC.away (fun x e => by cases e) hr h
    omega
  have nR' : 0 < ys.length → ¬ (b' = R ∨ b' = C) := fun h => by
    have h1 := hR.away (fun x e => by cases e) hr' h
    have h2 := hC.away (fun x e => by cases e) hr' h
    omega
  have iu : InD (fun j => j = R ∨ j = C) ((w.setCell ⟨R, 0, none⟩ (.bool true)).setCell ⟨C, 0, none⟩ (.int .i64 ((i + 1 : Nat) : Int))) (.slice ga lu cap) a lu := ⟨ga, b, o, cap, xs, rfl, hl, o1.rep hr nR, hd, hva, by rw [← hl]; exact nR⟩
  have iv : InD (fun j => j = R ∨ j = C) ((w.setCell ⟨R, 0, none⟩ (.bool true)).setCell ⟨C, 0, none⟩ (.int .i64 ((i + 1 : Nat) : Int))) (.slice gb lv cap') c lv := ⟨gb, b', o', cap', ys, rfl, hl', o1.rep hr' nR', hd', hvb, by rw [← hl']; exact nR'⟩
  have CH := hide (handT_any _ _ _ a c lu lv _ iu iv 60 (by omega) h1 h2)
  have hsz : ((w.setCell ⟨R, 0, none⟩ (.bool true)).setCell ⟨C, 0, none⟩ (.int .i64 ((i + 1 : Nat) : Int))).heap.size = w.heap.size := by simp [World.setCell]
  obtain ⟨i1, hi1⟩ : ∃ i1, i1 = i + 1 := ⟨_, rfl⟩
  rw [← hi1] at o1 R1 C1 CH hsz ⊢
  have e1 : (i : Int) + 1 = (i1 : Int) := by omega
  have e2 : IntKind.i64.wrap (i1 : Int) = (i1 : Int) := by rw [IntKind.wrap_i64]; omega
  have O1 := hide o1
  have R1 := hide R1
  have C1 := hide C1
  have HSZ := hide hsz
  clear iu iv o1 nR nR' hr hr' hd hd' hva hvb hn hn' hl hl' hi1 hR hC hsz
  generalize a * c = P at *
  go_enter Try.func33, Try.ntmps33
  go_wp2_with fail
  refine (unhide CH).mono ?_
  rintro e w4 ⟨r, rfl, nr, b4⟩
  rw [unhide HSZ] at nr
  have O4 := (unhide O1).next b4
  have R4 := (unhide R1).next b4
  have C4 := (unhide C1).next b4
  clear CH b4 O1 R1 C1
  go_wp2
  go_ret
  exact ⟨r, rfl, nr, R4, C4, O4⟩

set_option maxRecDepth 100000 in
set_option maxHeartbeats 3200000 in
theorem sqrsClosT_any (w : World) (u : Value) (a lu i R C Wt Wb : Nat) (D : Nat → Prop) (hu : InD D w u a lu) (h1 : lu ≤ 60) (hi : i < 5) (hR : One w R (.bool true) 4) (hC : One w C (.int .i64 (i : Int)) 3) (hW : w.cell? ⟨Wt, 0, none⟩ = some (.slice (some ⟨Wb, 0, none⟩) 5 5)) (w0 : w.cell? ⟨Wb, i, none⟩ = some (.int .i64 (lu : Int))) :
    Calls Try.prog 40 #[u, .pointer (some ⟨R, 0, none⟩), .pointer (some ⟨C, 0, none⟩), .pointer (some ⟨Wt, 0, none⟩)] w fun e w' => ∃ r, e = .returned r ∧ NewI w.heap.size w' r (a * a) ∧ One w' R (.bool true) 4 ∧ One w' C (.int .i64 ((i + 1 : Nat) : Int)) 3 ∧ Out (fun j => j = R ∨ j = C) w w' := by
  have hne : ¬ C = R := hC.apart hR (by intro e; cases e)
  obtain ⟨ga, b, o, cap, xs, rfl, hl, hr, hd, hva, hn⟩ := hu
  have cR := hR.cell
  have cC := hC.cell
  have fR := hR.frozen
  have fC := hC.frozen
  have o1 := ((Out.refl (fun j => j = R ∨ j = C) w).set (g := R) (i := 0) (Or.inl rfl) (.bool true)).set (g := C) (i := 0) (Or.inr rfl) (.int .i64 ((i + 1 : Nat) : Int))
  have R1 := (hR.set (.bool true)).other (k := C) (i := 0) (fun e => hne e.symm) (.int .i64 ((i + 1 : Nat) : Int))
  have C1 := (hC.other (k := R) (i := 0) hne (.bool true)).set (.int .i64 ((i + 1 : Nat) : Int))
  have nR : 0 < xs.length → ¬ (b = R ∨ b = C) := fun h => by
    have h1 := hR.away (fun x e => by cases e) hr h
    have h2 := hC.away (fun x e => by cases e) hr h
    omega
  have iu : InD (fun j => j = R ∨ j = C) ((w.setCell ⟨R, 0, none⟩ (.bool true)).setCell ⟨C, 0, none⟩ (.int .i64 ((i + 1 : Nat) : Int))) (.slice ga lu cap) a lu := ⟨ga, b, o, cap, xs, rfl, hl, o1.rep hr nR, hd, hva, by rw [← hl]; exact nR⟩
  have CH := hide (handT_any _ _ _ a a lu lu _ iu iu 60 (by omega) h1 h1)
  have hsz : ((w.setCell ⟨R, 0, none⟩ (.bool true)).setCell ⟨C, 0, none⟩ (.int .i64 ((i + 1 : Nat) : Int))).heap.size = w.heap.size := by simp [World.setCell]
  obtain ⟨i1, hi1⟩ : ∃ i1, i1 = i + 1 := ⟨_, rfl⟩
  rw [← hi1] at o1 R1 C1 CH hsz ⊢
  have e1 : (i : Int) + 1 = (i1 : Int) := by omega
  have e2 : IntKind.i64.wrap (i1 : Int) = (i1 : Int) := by rw [IntKind.wrap_i64]; omega
  have O1 := hide o1
  have R1 := hide R1
  have C1 := hide C1
  have HSZ := hide hsz
  clear iu o1 nR hr hd hva hn hl hi1 hR hC hsz
  generalize a * a = P at *
  go_enter Try.func40, Try.ntmps40
  go_wp2_with fail
  refine (unhide CH).mono ?_
  rintro e w4 ⟨r, rfl, nr, b4⟩
  rw [unhide HSZ] at nr
  have O4 := (unhide O1).next b4
  have R4 := (unhide R1).next b4
  have C4 := (unhide C1).next b4
  clear CH b4 O1 R1 C1
  go_wp2
  go_ret
  exact ⟨r, rfl, nr, R4, C4, O4⟩

end Go.Proofs.Yteinonbijiokmaa

/- Package toom: the examples of the document. -/
namespace Go.Proofs.Yteinonbijiokmaa
open Go.RowKit

def SpecTWakes : Prop := ∀ w : World, Calls Try.prog 19 #[] w fun e w' => e = .returned (.bool true) ∧ Below w.heap.size w w'
theorem blk_lone (w : World) (a : Nat) : Blk (w.alloc (.cells #[.int .u64 (a : Int)] 28)) w.heap.size [a] := heap_alloc_new w _
theorem dig_lone {a : Nat} (h : a < 18446744073709551616) : WDig [a] := fun j => by
  match j with
  | 0 => exact h
  | j + 1 => exact Nat.zero_lt_succ _

set_option maxRecDepth 100000 in
set_option maxHeartbeats 6400000 in
theorem toomWakes_any (SN : SpecTNew) (S3 : SpecThird) (S4 : SpecThirdNo) : SpecTWakes := by
  intro w
  have CN : Hid (∀ w, Calls Try.prog 31 #[.agg #[.int .i64 0, .int .i64 0, .int .i64 0, .int .i64 0, .int .i64 0, .int .i64 0, .int .i64 0, .int .i64 0, .int .i64 0, .int .i64 0, .int .i64 0]] w fun e w' => ∃ gt gk ge g, e = .returned (.pointer (some ⟨gt, 0, none⟩)) ∧ TEng w' gt gk ge g 0 0 0 Tab0 ∧ w.heap.size ≤ gt ∧ w.heap.size ≤ gk ∧ w.heap.size ≤ ge ∧ w.heap.size ≤ g ∧ Below w.heap.size w w') := fun w => SN Tab0 w
  have C3 := hide (S3 _ _ _ 0 1 1 4 [12] rfl (Blk.whole (blk_lone w 12) (n := 1) rfl) (dig_lone (by decide)) (by decide) (by decide))
  have C4 := hide (fun w => S4 _ _ _ 0 1 1 [13] rfl (Blk.whole (blk_lone w 13) (n := 1) rfl) (dig_lone (by decide)) (by decide) (by decide))
  have b0 : Below w.heap.size w (w.alloc (.cells #[.int .u64 12] 28)) := (Below.refl _ _).alloc (Nat.le_refl _) _
  have B0 := hide b0
  clear SN S3 S4 b0
  go_enter Try.func19, Try.ntmps19
  go_wp2_with fail
  refine (unhide C3).mono ?_
  rintro e w1 ⟨v, rfl, nv, b1⟩
  have B1 := hide (bstep (unhide B0) b1)
  have b2 : Below w1.heap.size w1 (w1.alloc (.cells #[.int .u64 13] 28)) := (Below.refl _ _).alloc (Nat.le_refl _) _
  have B2 := hide (bstep (unhide B1) b2)
  have nv := nv.next b2
  have C4 := hide (unhide C4 w1)
  clear C3 b1 b2
  go_wp2_with fail
  refine (unhide C4).mono ?_
  rintro e w3 ⟨⟨gv, cv, rfl⟩, b3⟩
  have B3 := hide (bstep (unhide B2) b3)
  have nv := nv.next b3
  obtain ⟨ga, b, cap, xs, rfl, hr, hx, hv, _⟩ := nv.rep
  obtain rfl : xs = [4] := wCan_unique hx ⟨dig_lone (by decide), fun _ => by decide⟩ (hv.trans (by decide))
  have hal : Below w3.heap.size w3 (w3.alloc (.cells #[.int .u64 4] 28)) := (Below.refl _ _).alloc (Nat.le_refl _) _
  have CS : Hid (Calls Try.prog 51 #[.slice ga 1 cap, .slice (some ⟨w3.heap.size, 0, none⟩) 1 1] (w3.alloc (.cells #[.int .u64 4] 28)) fun e w' => e = .returned (.bool true) ∧ Below (w3.alloc (.cells #[.int .u64 4] 28)).heap.size (w3.alloc (.cells #[.int .u64 4] 28)) w') := keepSame_any _ ga (some ⟨w3.heap.size, 0, none⟩) b 0 cap w3.heap.size 0 1 1 [4] rfl (by decide) (hr.next hal) (Blk.whole (blk_lone w3 4) (n := 1) rfl)
  have B4 := hide (bstep (unhide B3) hal)
  clear C4 b3 nv hr hx hv hal
  go_wp2_with fail
  refine (unhide CS).mono ?_
  rintro e w5 ⟨rfl, b5⟩
  have B5 := hide (bstep (unhide B4) b5)
  clear CS b5
  go_wp2_with fail
  refine (unhide CN _).mono ?_
  rintro e w6 ⟨gt, gk, ge, g, rfl, _, _, _, _, _, b6⟩
  have bl := bstep (unhide B5) b6
  clear CN b6
  go_wp2
  go_ret
  exact ⟨rfl, bl⟩

end Go.Proofs.Yteinonbijiokmaa
