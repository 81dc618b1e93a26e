/- An engine of school: New; Mul and Sqr. -/
import Derived.Test.YtiojfgcahopfmaaM7
import Derived.Test.YtiojfgcahopfmaaCTNew
import Derived.Test.YtiojfgcahopfmaaM8
import Derived.Test.YtiojfgcahopfmaaCKOut
import Derived.Test.YtiojfgcahopfmaaM4
import Derived.Test.YtiojfgcahopfmaaM5
import Derived.Test.YtiojfgcahopfmaaM6
namespace Go.Proofs.Ytiojfgcahopfmaa
open Go.RowKit

/-- At block ge lies an engine; its tune lies at block g; its meter has spent s. -/
structure Eng (w : World) (ge g : Nat) (s : Int) (l : Int := 0) (m : Int := 0) : Prop where
  ptr : w.cell? ⟨ge, 0, none⟩ = some (.pointer (some ⟨g, 0, none⟩))
  met : Met w g 0 s l m
  ne : ge ≠ g
  ints : ∀ j v, w.cell? ⟨g, j, none⟩ = some v → ∃ z, v = .int .i64 z
theorem Eng.next {w w' : World} {ge g : Nat} {s l m : Int} (h : Eng w ge g s l m) (b : Below w.heap.size w w') : Eng w' ge g s l m :=
  ⟨(b.cell (World.block_lt_of_cell? _ _ h.ptr)).trans h.ptr, h.met.next b, h.ne, fun j v hv => h.ints j v ((b.cell (p := ⟨g, j, none⟩) h.met.lt).symm.trans hv)⟩
theorem Eng.step {w w' : World} {ge g : Nat} {s s' lv dp lv' dp' : Int} (h : Eng w ge g s lv dp) (m : Met w' g 0 s' lv' dp') (t : Touch g 0 3 w w') : Eng w' ge g s' lv' dp' :=
  ⟨t.grown.cell h.ptr (by simpa using h.ne), m, h.ne, fun j v hv => by
    by_cases hj : 3 ≤ j
    · exact h.ints j v ((t.cell j (by omega)).symm.trans hv)
    · match j, hj with
      | 0, _ => exact ⟨_, Option.some.inj (hv.symm.trans m.c0)⟩
      | 1, _ => exact ⟨_, Option.some.inj (hv.symm.trans m.c1)⟩
      | 2, _ => exact ⟨_, Option.some.inj (hv.symm.trans m.c2)⟩
      | j + 3, hj => omega⟩
/-- No row of words lies in a tune. -/
theorem Eng.away {w : World} {ge g : Nat} {s l m : Int} (h : Eng w ge g s l m) {ga : Option Addr} {b o cap : Nat} {xs : List Nat} (r : Rep w ga b o cap xs) : 0 < xs.length → b ≠ g := fun h0 e => by
  subst e
  obtain ⟨z, hz⟩ := h.ints _ _ (r.cell 0 h0)
  injection hz with hk
  cases hk
/-- What an engine does leaves all rows of words, and all naturals. -/
theorem Eng.rep {w w' : World} {ge g : Nat} {s l m : Int} (h : Eng w ge g s l m) (G : w.grownBy w' (some g)) {ga : Option Addr} {b o cap : Nat} {xs : List Nat} (r : Rep w ga b o cap xs) : Rep w' ga b o cap xs := r.but G (h.away r)
theorem Eng.isN {w w' : World} {ge g : Nat} {s l m : Int} (h : Eng w ge g s l m) (G : w.grownBy w' (some g)) {v : Value} {n : Nat} (r : IsN w v n) : IsN w' v n := by
  obtain ⟨ga, b, o, cap, xs, rfl, hr, hc, hv⟩ := r
  exact ⟨ga, b, o, cap, xs, rfl, h.rep G hr, hc, hv⟩
theorem Tune.ints {w : World} {g : Nat} {T : Tab} (h : Tune w g T) : ∀ j v, w.cell? ⟨g, j, none⟩ = some v → ∃ z, v = .int .i64 z := fun j v hv => by
  rw [cell_of_row w g j _ _ (0, 0) h.row] at hv
  have hm := Array.mem_of_getElem? hv
  simp at hm
  rcases hm with h | h | h | h | h | h | h | h | h | h | h | h <;> exact ⟨_, h⟩

/-- A row of l words that says n, in no cell of block g. -/
def InG (g : Nat) (w : World) (v : Value) (n l : Nat) : Prop :=
  ∃ ga b o cap xs, v = .slice ga l cap ∧ xs.length = l ∧ Rep w ga b o cap xs ∧ WDig xs ∧ wval xs = n ∧ (0 < l → b ≠ g)
theorem InG.but {g : Nat} {w w' : World} {v : Value} {n l : Nat} (h : InG g w v n l) (hb : w.grownBy w' (some g)) : InG g w' v n l := by
  obtain ⟨ga, b, o, cap, xs, rfl, hl, hr, hd, hv, hn⟩ := h
  exact ⟨ga, b, o, cap, xs, rfl, hl, hr.but hb (by rw [hl]; exact hn), hd, hv, hn⟩
theorem InG.next {g : Nat} {w w' : World} {v : Value} {n l : Nat} (h : InG g w v n l) (hb : Below w.heap.size w w') : InG g w' v n l := by
  obtain ⟨ga, b, o, cap, xs, rfl, hl, hr, hd, hv, hn⟩ := h
  exact ⟨ga, b, o, cap, xs, rfl, hl, hr.next hb, hd, hv, hn⟩
/-- What limb or school answers lies in no cell of an older block. -/
theorem NewW.toG {B g : Nat} {w : World} {v : Value} {n L : Nat} (h : NewW B w v n) (hg : g < B) (hn : n < 18446744073709551616 ^ L) : ∃ l, l ≤ L ∧ InG g w v n l := by
  obtain ⟨ga, b, cap, xs, rfl, hr, hc, hv, hb⟩ := h.rep
  exact ⟨xs.length, wlen_le hc (by rw [hv]; exact hn), ga, b, 0, cap, xs, rfl, rfl, hr, hc.1, hv, fun h => by have := hb h; omega⟩

set_option maxHeartbeats 1600000 in
theorem schoolNew_any (T : Tab) (w : World) :
    Calls Try.prog 29 #[T.val] w fun e w' => ∃ ge g, e = .returned (.pointer (some ⟨ge, 0, none⟩)) ∧ Eng w' ge g 0 ∧ w.heap.size ≤ g ∧ w.heap.size ≤ ge ∧ Below w.heap.size w w' := by
  have CC := hide (fun w => new_any T w)
  unfold Tab.val at CC ⊢
  go_enter Try.func29, Try.ntmps29
  go_wp2_with fail
  refine (unhide CC _).mono ?_
  rintro e w1 ⟨g, rfl, tn, hg, b1⟩
  have hg' : w.heap.size ≤ g := Nat.le_trans (by simp) hg
  have b0 := hide (bstep ((Below.refl w.heap.size w).alloc (Nat.le_refl _) _) b1)
  have tl := tn.lt
  have HT := hide tn
  clear tn CC b1 hg
  go_wp2
  go_ret
  refine ⟨w1.heap.size, g, rfl, ⟨?_, ?_, by omega, ?_⟩, hg', (unhide b0).size, (unhide b0).alloc (unhide b0).size _⟩
  · exact cell_of_row _ w1.heap.size 0 _ _ (0, 0) (heap_alloc_new w1 _)
  · exact (unhide HT).met.next ((Below.refl _ _).alloc (Nat.le_refl _) _)
  · exact ((unhide HT).next ((Below.refl _ _).alloc (Nat.le_refl _) _)).ints

theorem touch_spend {w w' : World} {g : Nat} (h : Touch g 0 3 w w') : w.grownBy w' (some g) := h.grown
theorem mul_fits {la lb : Nat} (ha : la ≤ 1048576) (hb : lb ≤ 1048576) : la * lb ≤ 1099511627776 := Nat.mul_le_mul ha hb

set_option maxRecDepth 100000 in
set_option maxHeartbeats 6400000 in
theorem schoolMul_t {w : World} {ge g : Nat} {s lv dp : Int} (E : Eng w ge g s lv dp) (u v : Value) (m n la lb : Nat) (hu : InG g w u m la) (hv : InG g w v n lb) (ha : la ≤ 1048576) (hb : lb ≤ 1048576) (hs0 : 0 ≤ s) (hs : s ≤ 4611686018427387904) :
    Calls Try.prog 27 #[.pointer (some ⟨ge, 0, none⟩), u, v] w fun e w' => ∃ r, e = .returned r ∧ NewW w.heap.size w' r (m * n) ∧ Eng w' ge g (s + ((la * lb : Nat) : Int)) lv dp ∧ Touch g 0 3 w w' := by
  obtain ⟨ga, ba, oa, ca, xs, rfl, hx, rA, dx, rfl, na⟩ := hu
  obtain ⟨gb, bb, ob, cb, ys, rfl, hy, rB, dy, rfl, nb⟩ := hv
  have cE := E.ptr
  have hpm := mul_fits ha hb
  obtain ⟨P, hP⟩ : ∃ P, P = la * lb := ⟨_, rfl⟩
  have hPi : (la : Int) * (lb : Int) = (P : Int) := by rw [hP]; exact (Int.natCast_mul la lb).symm
  rw [← hP] at hpm ⊢
  have hwP : IntKind.i64.wrap (P : Int) = (P : Int) := by rw [IntKind.wrap_i64]; omega
  have CS := hide (spend_any (P : Int) (s + (P : Int)) E.met (by omega) (by omega) (by omega))
  obtain ⟨N, hN⟩ : ∃ N, N = la + lb := ⟨_, rfl⟩
  have hN' : (la : Int) + (lb : Int) = (N : Int) := by omega
  have hwN : IntKind.i64.wrap (N : Int) = (N : Int) := by rw [IntKind.wrap_i64]; omega
  have hmk := make_nat N N (N : Int) rfl rfl (by omega)
  have HE := hide E
  have HN := hide hN
  have hNb : N ≤ 2097152 := by omega
  have rA := rA.but (w' := w) (grown_refl _ _) (by rw [hx]; exact na)
  have NA : Hid (0 < xs.length → ba ≠ g) := by rw [hx]; exact na
  have NB : Hid (0 < ys.length → bb ≠ g) := by rw [hy]; exact nb
  clear hP E hN hs na nb
  go_enter Try.func27, Try.ntmps27
  go_wp2_with fail
  refine (unhide CS).mono ?_
  rintro e w1 ⟨rfl, M1, T1⟩
  have G1 := touch_spend T1
  have rA := rA.but G1 (unhide NA)
  have rB := rB.but G1 (unhide NB)
  have E1 := hide ((unhide HE).step M1 T1)
  have S1 := hide G1.size
  have G1 := hide T1
  have bA : Hid (0 < xs.length → ba < w1.heap.size) := fun h => rA.lt h
  have hk0 := hide (blk_noughts w1 N)
  have HB0 := hide ((Below.refl w1.heap.size w1).alloc (Nat.le_refl _) (.cells (zlist N).toArray 59))
  clear CS M1 T1 cE
  go_wp2
  have hst : Hid (MRow xs ys (List.replicate N 0) N 0) := m_start xs ys N
  go_loopw [30] (fun i wr => ∃ (k : Nat) (zs : List Nat), k ≤ lb ∧ i = .int .i64 (k : Int) ∧ Blk wr w1.heap.size zs ∧ Hid (MRow xs ys zs N k) ∧ Below w1.heap.size w1 wr)
    (fun i _ => lb - (intOf i).toNat)
  case atStart => exact ⟨0, _, Nat.zero_le _, rfl, unhide hk0, hst, unhide HB0⟩
  case round =>
    obtain ⟨k, z0, hk, rfl, hBlk, hAt, hnx⟩ := hrel
    have hzl : z0.length = N := hAt.out.1
    by_cases h1 : k < lb
    · obtain rfl := rB.head (by omega)
      obtain ⟨y, hyy⟩ : ∃ y : Nat, y = ys.getD k 0 := ⟨_, rfl⟩
      have hy64 : y < 18446744073709551616 := by rw [hyy]; exact dy k
      have cy : wr.cell? ⟨bb, ob + k, none⟩ = some (.int .u64 (y : Int)) := by rw [hyy]; exact (rB.next hnx).cell k (by omega)
      obtain ⟨M, hM⟩ : ∃ M, N = k + M := ⟨N - k, by have := unhide HN; omega⟩
      obtain ⟨t, ht⟩ : ∃ t, t = k + la := ⟨_, rfl⟩
      have CA := hide (fun W (hB : Blk W w1.heap.size z0) (hr : Rep W ga ba oa ca xs) => addTimes_any W w1.heap.size k M M ba oa ca la y ga z0 xs (by rw [hzl, hM]) hx (by have := unhide HN; omega) (by omega) hy64 hB hAt.out.2.1 hr dx (fun h => by have := unhide bA h; omega))
      have e4 : (k : Int) + (la : Int) = (t : Int) := by omega
      have hw3 : IntKind.i64.wrap (t : Int) = (t : Int) := by rw [IntKind.wrap_i64]; omega
      have i9 : 0 ≤ (t : Int) ∧ (t : Int) < (N : Int) := by have := unhide HN; omega
      have i10 : t < N := by omega
      have i1 : 0 ≤ (k : Int) ∧ (k : Int) ≤ (N : Int) := by have := unhide HN; omega
      have i3 : k ≤ N := by omega
      have i4 : N - k = M := by omega
      have i5 : ¬ N = k := by have := unhide HN; omega
      have HZN := hide hzl
      have HC : Hid (∀ c zs, SAt z0 zs xs y k la c → MRow xs ys (zs.set t c) N (k + 1)) := fun c zs h => by
        subst ht hx
        exact m_step hAt.out h hyy (by have := unhide HN; omega)
      have hsz := hnx.size
      clear hyy ht hM hzl hmk hk0 hst HB0
      go_wp2_with fail
      refine (unhide CA _ hBlk (rA.next hnx)).mono ?_
      rintro e w4 ⟨c, zs, rfl, hS, k4, g4⟩
      have c4 := k4.cell t (by rw [hS.1, unhide HZN]; omega)
      have f4 := k4.frozen t
      have hS := hide hS
      go_wp2
      exact ⟨⟨k + 1, zs.set t c, by omega, by go_num, k4.set t c, unhide HC _ _ hS.out, (below_grown hnx g4 (Nat.le_refl _) hsz).setCell (Nat.le_refl _) _⟩, by simp [intOf]; omega⟩
    · obtain rfl : k = lb := by omega
      have hin : InW wr (.slice (some ⟨w1.heap.size, 0, none⟩) N N) (wval z0) := by
        have hr := hBlk.rep 0 N N (by omega) (Nat.le_refl _)
        rw [List.drop_zero, List.take_of_length_le (by omega)] at hr
        exact ⟨_, _, _, _, z0, by rw [hzl], hr, hAt.out.2.1, rfl, by omega⟩
      have hval : wval z0 = wval xs * wval ys := by rw [hAt.out.2.2.1, wval_take_ge _ _ (by omega)]
      rw [hval] at hin
      have CNm := hide (norm_w _ _ _ hin)
      clear hin hval
      go_wp2_with fail
      refine (unhide CNm).mono ?_
      rintro e w5 ⟨r, rfl, hr, b5⟩
      have b6 := bstep hnx b5
      have hsz := Nat.le_trans (unhide S1) hnx.size
      go_wp2
      go_ret
      exact ⟨r, rfl, hr.mono hsz, (unhide E1).next b6, (unhide G1).then b6 (unhide E1).met.lt⟩
theorem schoolMul_any {w : World} {ge g : Nat} {s : Int} (E : Eng w ge g s) (u v : Value) (m n la lb : Nat) (hu : InG g w u m la) (hv : InG g w v n lb) (ha : la ≤ 1048576) (hb : lb ≤ 1048576) (hs0 : 0 ≤ s) (hs : s ≤ 4611686018427387904) :
    Calls Try.prog 27 #[.pointer (some ⟨ge, 0, none⟩), u, v] w fun e w' => ∃ r, e = .returned r ∧ NewW w.heap.size w' r (m * n) ∧ Eng w' ge g (s + ((la * lb : Nat) : Int)) ∧ w.grownBy w' (some g) := by
  refine (schoolMul_t E u v m n la lb hu hv ha hb hs0 hs).mono ?_
  rintro e w' ⟨r, h1, h2, h3, h4⟩
  exact ⟨r, h1, h2, h3, h4.grown⟩

end Go.Proofs.Ytiojfgcahopfmaa

/- Sqr of an engine of school. -/
namespace Go.Proofs.Ytiojfgcahopfmaa
open Go.RowKit

theorem blk_in {w : World} {g N m : Nat} {zs : List Nat} (h : Blk w g zs) (hl : zs.length = N) (hN : N ≤ 1073741824) (hd : WDig zs) (hm : wval zs = m) : InW w (.slice (some ⟨g, 0, none⟩) N N) m := by
  have hr := h.rep 0 N N (by omega) (Nat.le_refl _)
  rw [List.drop_zero, List.take_of_length_le (by omega)] at hr
  exact ⟨_, _, _, _, zs, by rw [hl], hr, hd, hm, by omega⟩

set_option maxRecDepth 100000 in
set_option maxHeartbeats 6400000 in
theorem schoolSqr_t {w : World} {ge g : Nat} {s lv dp : Int} (E : Eng w ge g s lv dp) (u : Value) (m la P : Nat) (hu : InG g w u m la) (ha : la ≤ 1048576) (hs0 : 0 ≤ s) (hs : s ≤ 4611686018427387904) (hP : P = la * (la + 1) / 2) :
    Calls Try.prog 28 #[.pointer (some ⟨ge, 0, none⟩), u] w fun e w' => ∃ r, e = .returned r ∧ NewW w.heap.size w' r (m * m) ∧ Eng w' ge g (s + (P : Int)) lv dp ∧ Touch g 0 3 w w' := by
  obtain ⟨ga, ba, oa, ca, xs, rfl, hx, rA, dx, rfl, na⟩ := hu
  have cE := E.ptr
  obtain ⟨l1, hl1⟩ : ∃ l1, l1 = la + 1 := ⟨_, rfl⟩
  have hpm : la * l1 ≤ 1048576 * 1048577 := Nat.mul_le_mul ha (by omega)
  rw [← hl1] at hP
  obtain ⟨Q, hQ⟩ : ∃ Q, Q = la * l1 := ⟨_, rfl⟩
  rw [← hQ] at hP hpm
  have e1 : (la : Int) + 1 = (l1 : Int) := by omega
  have hQi : (la : Int) * (l1 : Int) = (Q : Int) := by rw [hQ]; exact (Int.natCast_mul la l1).symm
  have hw1 : IntKind.i64.wrap (l1 : Int) = (l1 : Int) := by rw [IntKind.wrap_i64]; omega
  have hwQ : IntKind.i64.wrap (Q : Int) = (Q : Int) := by rw [IntKind.wrap_i64]; omega
  have hwP : IntKind.i64.wrap (P : Int) = (P : Int) := by rw [IntKind.wrap_i64]; omega
  have e2 : (Q : Int).tdiv 2 = (P : Int) := by rw [Int.tdiv_eq_ediv_of_nonneg (by omega)]; omega
  have e3 : (Q : Int) / 2 = (P : Int) := by omega
  have CS := hide (spend_any (P : Int) (s + (P : Int)) E.met (by omega) (by omega) (by omega))
  have HE := hide E
  have NA : Hid (0 < xs.length → ba ≠ g) := by rw [hx]; exact na
  clear hP E hs na hl1 hQ
  go_enter Try.func28, Try.ntmps28
  go_wp2_with fail
  refine (unhide CS).mono ?_
  rintro e w1 ⟨rfl, M1, T1⟩
  have G1 := touch_spend T1
  have rA := rA.but G1 (unhide NA)
  have E1 := hide ((unhide HE).step M1 T1)
  have S1 := hide G1.size
  have G1 := hide T1
  clear CS M1 T1 cE
  go_wp2_with fail
  refine (cross_any _ ga ba oa ca la xs hx (by omega) rA dx).mono ?_
  rintro e w2 ⟨zs, rfl, hC, k2, b2⟩
  have rA := rA.next b2
  have i2 := blk_in k2 hC.1 (by omega) hC.2.1 hC.2.2.1
  have B2 := hide b2
  have HV := hide (square_is xs la (by omega))
  obtain ⟨N, hN⟩ : ∃ N, N = 2 * la := ⟨_, rfl⟩
  rw [← hN] at i2 ⊢
  have HN := hide hN
  clear hC k2 b2 hN
  go_wp2_with fail
  refine (squares_any _ ga ba oa ca la xs hx (by omega) rA dx).mono ?_
  rintro e w3 ⟨qs, rfl, hQ, k3, b3⟩
  have i2 := i2.next b3
  have i3 := blk_in k3 hQ.1 (by omega) hQ.2.1 hQ.2.2.1
  have hNla : 2 * la = N := (unhide HN).symm
  rw [hNla] at i3 ⊢
  have B3 := hide (bstep (unhide B2) b3)
  clear hQ k3 b3 rA B2 hNla
  have CW := hide (sum_three w3 _ _ _ _ _ _ i2 i2 i3)
  rw [unhide HV] at CW
  go_wp2_with fail
  refine (unhide CW).mono ?_
  rintro e w4 ⟨r, rfl, hr, b4⟩
  have b6 := bstep (unhide B3) b4
  have hsz := Nat.le_trans (unhide S1) (unhide B3).size
  go_wp2
  go_ret
  exact ⟨r, rfl, hr.mono hsz, (unhide E1).next b6, (unhide G1).then b6 (unhide E1).met.lt⟩
theorem schoolSqr_any {w : World} {ge g : Nat} {s : Int} (E : Eng w ge g s) (u : Value) (m la P : Nat) (hu : InG g w u m la) (ha : la ≤ 1048576) (hs0 : 0 ≤ s) (hs : s ≤ 4611686018427387904) (hP : P = la * (la + 1) / 2) :
    Calls Try.prog 28 #[.pointer (some ⟨ge, 0, none⟩), u] w fun e w' => ∃ r, e = .returned r ∧ NewW w.heap.size w' r (m * m) ∧ Eng w' ge g (s + (P : Int)) ∧ w.grownBy w' (some g) := by
  refine (schoolSqr_t E u m la P hu ha hs0 hs hP).mono ?_
  rintro e w' ⟨r, h1, h2, h3, h4⟩
  exact ⟨r, h1, h2, h3, h4.grown⟩

end Go.Proofs.Ytiojfgcahopfmaa

/- The example of the document (school); 'from' of the laws. -/
namespace Go.Proofs.Ytiojfgcahopfmaa
open Go.RowKit

/-- New, called behind a parameter that was laid into memory. -/
theorem schoolNew_box (T : Tab) (w : World) (ob : Obj) :
    Calls Try.prog 29 #[T.val] (w.alloc ob) fun e w' => ∃ ge g, e = .returned (.pointer (some ⟨ge, 0, none⟩)) ∧ Eng w' ge g 0 ∧ w.heap.size ≤ g ∧ w.heap.size ≤ ge ∧ Below w.heap.size w w' := by
  refine (schoolNew_any T _).mono ?_
  rintro e w' ⟨ge, g, h1, h2, h3, h4, b⟩
  have hs : w.heap.size ≤ (w.alloc ob).heap.size := by simp
  exact ⟨ge, g, h1, h2, Nat.le_trans hs h3, Nat.le_trans hs h4, bstep ((Below.refl _ _).alloc (Nat.le_refl _) _) b⟩

def Tab0 : Tab := ⟨0, 0, 0, 0, 0, 0, 0, 0, 0, 0, 0⟩
theorem in_oneG (w : World) (x g : Nat) (hx : x < 18446744073709551616) (hg : g < w.heap.size) : InG g (w.alloc (.cells #[.int .u64 (x : Int)] 59)) (.slice (some ⟨w.heap.size, 0, none⟩) 1 1) x 1 := by
  have hk : Blk (w.alloc (.cells #[.int .u64 (x : Int)] 59)) w.heap.size [x] := heap_alloc_new w _
  have hr := hk.rep 0 1 1 (by simp) (by omega)
  exact ⟨_, _, _, _, [x], rfl, rfl, hr, wDig_one hx, wval_one x, fun _ => by omega⟩
theorem can_wake : WCan [1, 18446744073709551614] := ⟨fun j => by match j with | 0 => decide | 1 => decide | j + 2 => simp, fun _ => by decide⟩

end Go.Proofs.Ytiojfgcahopfmaa

/- What the statements on package kara ask of its calls: as propositions, for whatever code. -/
namespace Go.Proofs.Ytiojfgcahopfmaa
open Go.RowKit

/-- The entries of a table, in their order. -/
def Tab.row (T : Tab) : List Int := [T.b, T.t, T.n, T.d, T.r, T.l, T.x, T.p, T.k, T.s, T.e]
/-- Behind the meter at block g lies the table, clamped. -/
def TabC (w : World) (g : Nat) (T : Tab) : Prop := ∀ j, j < 11 → w.cell? ⟨g, 3 + j, none⟩ = some (.int .i64 (T.clamp.row.getD j 0))
theorem Tune.tabC {w : World} {g : Nat} {T : Tab} (h : Tune w g T) : TabC w g T := fun j hj => by
  rw [cell_of_row w g (3 + j) _ _ (0, 0) h.row]
  match j, hj with
  | 0, _ => rfl
  | 1, _ => rfl
  | 2, _ => rfl
  | 3, _ => rfl
  | 4, _ => rfl
  | 5, _ => rfl
  | 6, _ => rfl
  | 7, _ => rfl
  | 8, _ => rfl
  | 9, _ => rfl
  | 10, _ => rfl
theorem TabC.lt {w : World} {g : Nat} {T : Tab} (h : TabC w g T) : g < w.heap.size := World.block_lt_of_cell? _ _ (h 0 (by decide))
theorem TabC.next {w w' : World} {g : Nat} {T : Tab} (h : TabC w g T) (b : Below w.heap.size w w') : TabC w' g T := fun j hj => (b.cell (p := ⟨g, 3 + j, none⟩) h.lt).trans (h j hj)
theorem TabC.touch {w w' : World} {g : Nat} {T : Tab} (h : TabC w g T) (t : Touch g 0 3 w w') : TabC w' g T := fun j hj => (t.cell (3 + j) (by omega)).trans (h j hj)
theorem TabC.out {D : Nat → Prop} {w w' : World} {g : Nat} {T : Tab} (h : TabC w g T) (o : Out D w w') (hd : ¬ D g) : TabC w' g T := fun j hj => o.cell (h j hj) hd

/-- At block gk lies an engine of kara, whose engine of school lies at ge, with a tune at g. -/
structure KEng (w : World) (gk ge g : Nat) (s l m : Int) (T : Tab) : Prop where
  ptr : w.cell? ⟨gk, 0, none⟩ = some (.pointer (some ⟨ge, 0, none⟩))
  eng : Eng w ge g s l m
  tab : TabC w g T
  nk : gk ≠ g
theorem KEng.lt {w : World} {gk ge g : Nat} {s l m : Int} {T : Tab} (h : KEng w gk ge g s l m T) : gk < w.heap.size := World.block_lt_of_cell? _ _ h.ptr
theorem KEng.next {w w' : World} {gk ge g : Nat} {s l m : Int} {T : Tab} (h : KEng w gk ge g s l m T) (b : Below w.heap.size w w') : KEng w' gk ge g s l m T :=
  ⟨(b.cell (p := ⟨gk, 0, none⟩) h.lt).trans h.ptr, h.eng.next b, h.tab.next b, h.nk⟩
theorem KEng.step {w w' : World} {gk ge g : Nat} {s l m s' l' m' : Int} {T : Tab} (h : KEng w gk ge g s l m T) (M : Met w' g 0 s' l' m') (t : Touch g 0 3 w w') : KEng w' gk ge g s' l' m' T :=
  ⟨t.grown.cell h.ptr (by simpa using h.nk), h.eng.step M t, h.tab.touch t, h.nk⟩
theorem Eng.out {D : Nat → Prop} {w w' : World} {ge g : Nat} {s l m : Int} (h : Eng w ge g s l m) (o : Out D w w') (h1 : ¬ D ge) (h2 : ¬ D g) : Eng w' ge g s l m :=
  ⟨o.cell h.ptr h1, o.met h.met h2, h.ne, fun j v hv => h.ints j v ((World.cell?_of_block (a := ⟨g, j, none⟩) (o.block g h.met.lt h2)).symm.trans hv)⟩
theorem KEng.out {D : Nat → Prop} {w w' : World} {gk ge g : Nat} {s l m : Int} {T : Tab} (h : KEng w gk ge g s l m T) (o : Out D w w') (h0 : ¬ D gk) (h1 : ¬ D ge) (h2 : ¬ D g) : KEng w' gk ge g s l m T :=
  ⟨o.cell h.ptr h0, h.eng.out o h1 h2, h.tab.out o h2, h.nk⟩

/-- A row of l words that says n, in no block of D. -/
def InD (D : Nat → Prop) (w : World) (v : Value) (n l : Nat) : Prop :=
  ∃ ga b o cap xs, v = .slice ga l cap ∧ xs.length = l ∧ Rep w ga b o cap xs ∧ WDig xs ∧ wval xs = n ∧ (0 < l → ¬ D b)
theorem InD.out {D E : Nat → Prop} {w w' : World} {v : Value} {n l : Nat} (h : InD D w v n l) (o : Out E w w') (he : ∀ k, E k → D k) : InD D w' v n l := by
  obtain ⟨ga, b, oo, cap, xs, rfl, hl, hr, hd, hv, hn⟩ := h
  exact ⟨ga, b, oo, cap, xs, rfl, hl, o.rep hr (by rw [hl]; exact fun h x => hn h (he _ x)), hd, hv, hn⟩
/-- Words that say n, in no block below B. -/
def NewI (B : Nat) (w : World) (v : Value) (n : Nat) : Prop := ∃ ga b o cap xs, v = .slice ga xs.length cap ∧ Rep w ga b o cap xs ∧ WDig xs ∧ wval xs = n ∧ xs.length ≤ 1073741824 ∧ (0 < xs.length → B ≤ b)
theorem NewI.out {D : Nat → Prop} {B : Nat} {w w' : World} {v : Value} {n : Nat} (h : NewI B w v n) (o : Out D w w') (hd : ∀ k, D k → k < B) : NewI B w' v n := by
  obtain ⟨ga, b, oo, cap, xs, rfl, hr, hx, hv, hl, hn⟩ := h
  exact ⟨ga, b, oo, cap, xs, rfl, o.rep hr (fun h x => by have := hn h; have := hd b x; omega), hx, hv, hl, hn⟩
theorem NewI.mono {B B' : Nat} {w : World} {v : Value} {n : Nat} (h : NewI B w v n) (hb : B' ≤ B) : NewI B' w v n := by
  obtain ⟨ga, b, oo, cap, xs, rfl, hr, hx, hv, hl, hn⟩ := h
  exact ⟨ga, b, oo, cap, xs, rfl, hr, hx, hv, hl, fun h => by have := hn h; omega⟩
theorem NewI.next {B : Nat} {w w' : World} {v : Value} {n : Nat} (h : NewI B w v n) (b : Below w.heap.size w w') : NewI B w' v n := by
  obtain ⟨ga, k, oo, cap, xs, rfl, hr, hx, hv, hl, hn⟩ := h
  exact ⟨ga, k, oo, cap, xs, rfl, hr.next b, hx, hv, hl, hn⟩
theorem NewI.inW {B : Nat} {w : World} {v : Value} {n : Nat} (h : NewI B w v n) : InW w v n := by
  obtain ⟨ga, b, oo, cap, xs, rfl, hr, hx, hv, hl, _⟩ := h
  exact ⟨ga, b, oo, cap, xs, rfl, hr, hx, hv, hl⟩
theorem NewW.toI {B : Nat} {w : World} {v : Value} {n p : Nat} (h : NewW B w v n) (hn : n < 18446744073709551616 ^ p) (hp : p ≤ 1073741824) : NewI B w v n := by
  obtain ⟨ga, b, cap, xs, rfl, hr, hc, hv, hb⟩ := h.rep
  exact ⟨ga, b, 0, cap, xs, rfl, hr, hc.1, hv, by have := wlen_le hc (L := p) (by rw [hv]; exact hn); omega, hb⟩
/-- With how many words inner is called: the longer one's piece, the other one's. -/
def klen (n m h : Nat) : Nat → Nat × Nat
  | 0 => (h, h)
  | 1 => (n - h, m - h)
  | _ => (h + 1, h + 1)

def SpecKNew : Prop := ∀ (T : Tab) (w : World), Calls Try.prog 9 #[T.val] w fun e w' => ∃ gk ge g, e = .returned (.pointer (some ⟨gk, 0, none⟩)) ∧ KEng w' gk ge g 0 0 0 T ∧ w.heap.size ≤ gk ∧ w.heap.size ≤ ge ∧ w.heap.size ≤ g ∧ Below w.heap.size w w'

theorem kNew_box (SN : SpecKNew) (T : Tab) (w : World) (ob : Obj) :
    Calls Try.prog 9 #[T.val] (w.alloc ob) fun e w' => ∃ gk ge g, e = .returned (.pointer (some ⟨gk, 0, none⟩)) ∧ KEng w' gk ge g 0 0 0 T ∧ w.heap.size ≤ gk ∧ w.heap.size ≤ ge ∧ w.heap.size ≤ g ∧ Below w.heap.size w w' := by
  refine (SN T _).mono ?_
  rintro e w' ⟨gk, ge, g, h1, h2, h3, h4, h5, b⟩
  have hs : w.heap.size ≤ (w.alloc ob).heap.size := by simp
  exact ⟨gk, ge, g, h1, h2, Nat.le_trans hs h3, Nat.le_trans hs h4, Nat.le_trans hs h5, bstep ((Below.refl _ _).alloc (Nat.le_refl _) _) b⟩

/-- What is asked of a call that is handed in: it multiplies, its own blocks D and the meter at g alone may turn, and what it counts goes from St i to St (i + 1). -/
structure Inn2 (gk ge g : Nat) (l : Int) (T : Tab) (n m h k : Nat) (fs cs : Array Value) (D : Nat → Prop) (St : Nat → World → Prop) : Prop where
  go : ∀ (args : Array Value) (W : World), (callFunc k args).run Try.prog W = .ok (.enter k args) W
  next : ∀ i W W', St i W → Below W.heap.size W W' → St i W'
  eng : ∀ i W, St i W → ∃ s' m', KEng W gk ge g s' (l + 1) m' T
  call : ∀ i W u v a c, i < 3 → St i W → InD (fun j => D j ∨ j = g) W u a (klen n m h i).1 → InD (fun j => D j ∨ j = g) W v c (klen n m h i).2 →
    Calls Try.prog k (fs ++ #[u, v] ++ cs) W fun e W' => ∃ r, e = .returned r ∧ NewI W.heap.size W' r (a * c) ∧ St (i + 1) W' ∧ Out (fun j => D j ∨ j = g) W W'

def SpecKara : Prop := ∀ (w : World) (gk ge g : Nat) (s l m : Int) (T : Tab) (ga gb : Option Addr) (b o cap la b' o' cap' lb h : Nat) (xs ys : List Nat) (k : Nat) (fs cs : Array Value) (D : Nat → Prop) (St : Nat → World → Prop),
  KEng w gk ge g s l m T → 0 ≤ l → l ≤ 1000000 → xs.length = la → Rep w ga b o cap xs → WDig xs → (0 < la → ¬ D b) → ys.length = lb → Rep w gb b' o' cap' ys → WDig ys → (0 < lb → ¬ D b') → la ≤ 16384 → lb ≤ 16384 →
  h = (max la lb + 1) / 2 → h < min la lb → ¬ D gk → ¬ D ge → ¬ D g → (∀ j, D j → j < w.heap.size) → Inn2 gk ge g l T (max la lb) (min la lb) h k fs cs D St →
  (∀ W, Out (· = g) w W → KEng W gk ge g s (l + 1) (max m (l + 1)) T → St 0 W) →
  Calls Try.prog 11 #[.pointer (some ⟨gk, 0, none⟩), .slice ga la cap, .slice gb lb cap', .func (.func k) fs cs] w fun e w' => ∃ v W, e = .returned (.tuple #[v, .bool true]) ∧ NewW w.heap.size w' v (wval xs * wval ys) ∧ St 3 W ∧ Out (· = g) W w' ∧ (∀ s' m', KEng W gk ge g s' (l + 1) m' T → KEng w' gk ge g s' l m' T) ∧ Out (fun j => D j ∨ j = g) w w'
def SpecKaraNo : Prop := ∀ (w : World) (gk ge g : Nat) (s l m : Int) (T : Tab) (ga gb : Option Addr) (cap la cap' lb h : Nat) (F : Value), KEng w gk ge g s l m T → 0 ≤ l → l ≤ 1000000 → la ≤ 16384 → lb ≤ 16384 → h = (max la lb + 1) / 2 → min la lb ≤ h →
  Calls Try.prog 11 #[.pointer (some ⟨gk, 0, none⟩), .slice ga la cap, .slice gb lb cap', F] w fun e w' => (∃ gv c, e = .returned (.tuple #[.slice gv 0 c, .bool false])) ∧ Out (· = g) w w'

/-- The same for a call that squares. -/
structure Inn1 (gk ge g : Nat) (l : Int) (T : Tab) (n h k : Nat) (fs cs : Array Value) (D : Nat → Prop) (St : Nat → World → Prop) : Prop where
  go : ∀ (args : Array Value) (W : World), (callFunc k args).run Try.prog W = .ok (.enter k args) W
  next : ∀ i W W', St i W → Below W.heap.size W W' → St i W'
  eng : ∀ i W, St i W → ∃ s' m', KEng W gk ge g s' (l + 1) m' T
  call : ∀ i W u a, i < 3 → St i W → InD (fun j => D j ∨ j = g) W u a (klen n n h i).1 →
    Calls Try.prog k (fs ++ #[u] ++ cs) W fun e W' => ∃ r, e = .returned r ∧ NewI W.heap.size W' r (a * a) ∧ St (i + 1) W' ∧ Out (fun j => D j ∨ j = g) W W'
def SpecKaraSqr : Prop := ∀ (w : World) (gk ge g : Nat) (s l m : Int) (T : Tab) (ga : Option Addr) (b o cap la h : Nat) (xs : List Nat) (k : Nat) (fs cs : Array Value) (D : Nat → Prop) (St : Nat → World → Prop),
  KEng w gk ge g s l m T → 0 ≤ l → l ≤ 1000000 → xs.length = la → Rep w ga b o cap xs → WDig xs → (0 < la → ¬ D b) → la ≤ 16384 →
  h = (la + 1) / 2 → 2 ≤ la → ¬ D gk → ¬ D ge → ¬ D g → (∀ j, D j → j < w.heap.size) → Inn1 gk ge g l T la h k fs cs D St →
  (∀ W, Out (· = g) w W → KEng W gk ge g s (l + 1) (max m (l + 1)) T → St 0 W) →
  Calls Try.prog 23 #[.pointer (some ⟨gk, 0, none⟩), .slice ga la cap, .func (.func k) fs cs] w fun e w' => ∃ v W, e = .returned (.tuple #[v, .bool true]) ∧ NewW w.heap.size w' v (wval xs * wval xs) ∧ St 3 W ∧ Out (· = g) W w' ∧ (∀ s' m', KEng W gk ge g s' (l + 1) m' T → KEng w' gk ge g s' l m' T) ∧ Out (fun j => D j ∨ j = g) w w'
def SpecKaraSqrNo : Prop := ∀ (w : World) (gk ge g : Nat) (s l m : Int) (T : Tab) (ga : Option Addr) (cap la : Nat) (F : Value), KEng w gk ge g s l m T → 0 ≤ l → l ≤ 1000000 → la < 2 →
  Calls Try.prog 23 #[.pointer (some ⟨gk, 0, none⟩), .slice ga la cap, F] w fun e w' => (∃ gv c, e = .returned (.tuple #[.slice gv 0 c, .bool false])) ∧ Out (· = g) w w'

def SpecBoth : Prop := ∀ (w : World) (gk ge g : Nat) (s l m : Int) (T : Tab) (ga gb : Option Addr) (b o cap la b' o' cap' lb : Nat) (xs ys : List Nat),
  KEng w gk ge g s l m T → 0 ≤ l → l ≤ 900000 → 0 ≤ s → s ≤ 1000000 → xs.length = la → Rep w ga b o cap xs → WDig xs → ys.length = lb → Rep w gb b' o' cap' ys → WDig ys → la ≤ 60 → lb ≤ 60 →
  Calls Try.prog 25 #[.pointer (some ⟨gk, 0, none⟩), .slice ga la cap, .slice gb lb cap'] w fun e w' => ∃ v s' m', e = .returned v ∧ NewW w.heap.size w' v (wval xs * wval ys) ∧ KEng w' gk ge g s' l m' T ∧ Out (· = g) w w' ∧ 0 ≤ s' ∧ s' ≤ s + 1099511627776

end Go.Proofs.Ytiojfgcahopfmaa

/- New of kara. -/
namespace Go.Proofs.Ytiojfgcahopfmaa
open Go.RowKit

set_option maxHeartbeats 1600000 in
theorem schoolNew_t (T : Tab) (w : World) :
    Calls Try.prog 29 #[T.val] w fun e w' => ∃ ge g, e = .returned (.pointer (some ⟨ge, 0, none⟩)) ∧ Eng w' ge g 0 ∧ Tune w' g T ∧ w.heap.size ≤ g ∧ w.heap.size ≤ ge ∧ Below w.heap.size w w' := by
  have CC := hide (fun w => new_any T w)
  unfold Tab.val at CC ⊢
  go_enter Try.func29, Try.ntmps29
  go_wp2_with fail
  refine (unhide CC _).mono ?_
  rintro e w1 ⟨g, rfl, tn, hg, b1⟩
  have hg' : w.heap.size ≤ g := Nat.le_trans (by simp) hg
  have b0 := hide (bstep ((Below.refl w.heap.size w).alloc (Nat.le_refl _) _) b1)
  have tl := tn.lt
  have HT := hide tn
  clear tn CC b1 hg
  go_wp2
  go_ret
  refine ⟨w1.heap.size, g, rfl, ⟨?_, ?_, by omega, ?_⟩, (unhide HT).next ((Below.refl _ _).alloc (Nat.le_refl _) _), hg', (unhide b0).size, (unhide b0).alloc (unhide b0).size _⟩
  · exact cell_of_row _ w1.heap.size 0 _ _ (0, 0) (heap_alloc_new w1 _)
  · exact (unhide HT).met.next ((Below.refl _ _).alloc (Nat.le_refl _) _)
  · exact ((unhide HT).next ((Below.refl _ _).alloc (Nat.le_refl _) _)).ints

set_option maxHeartbeats 1600000 in
theorem spec_knew : SpecKNew := by
  intro T w
  have CC := hide (fun w => schoolNew_t T w)
  unfold Tab.val at CC ⊢
  go_enter Try.func9, Try.ntmps9
  go_wp2_with fail
  refine (unhide CC _).mono ?_
  rintro e w1 ⟨ge, g, rfl, E1, tn, hg, hge, b1⟩
  have hg' : w.heap.size ≤ g := Nat.le_trans (by simp) hg
  have hge' : w.heap.size ≤ ge := Nat.le_trans (by simp) hge
  have b0 := hide (bstep ((Below.refl w.heap.size w).alloc (Nat.le_refl _) _) b1)
  have tl := tn.lt
  have HT := hide tn
  have HE := hide E1
  clear tn CC b1 hg E1 hge
  go_wp2
  go_ret
  refine ⟨w1.heap.size, ge, g, rfl, ⟨?_, (unhide HE).next ((Below.refl _ _).alloc (Nat.le_refl _) _), ((unhide HT).next ((Below.refl _ _).alloc (Nat.le_refl _) _)).tabC, by omega⟩, (unhide b0).size, hge', hg', (unhide b0).alloc (unhide b0).size _⟩
  exact cell_of_row _ w1.heap.size 0 _ _ (0, 0) (heap_alloc_new w1 _)

end Go.Proofs.Ytiojfgcahopfmaa

/- Package kara's own: how many words the low piece has, rows in new memory, what a factor is cut into, and how three products are joined. -/
namespace Go.Proofs.Ytiojfgcahopfmaa
open Go.RowKit

set_option maxHeartbeats 1600000 in
theorem half_any (w : World) (ga : Option Addr) (n cap h : Nat) (hn : n ≤ 16384) (hh : h = (n + 1) / 2) :
    Calls Try.prog 30 #[.slice ga n cap] w fun e w' => e = .returned (.int .i64 (h : Int)) ∧ w' = w := by
  obtain ⟨m, hm⟩ : ∃ m, m = n + 1 := ⟨_, rfl⟩
  have e1 : (n : Int) + 1 = (m : Int) := by omega
  have e2 : IntKind.i64.wrap (m : Int) = (m : Int) := by rw [IntKind.wrap_i64]; omega
  have e3 : (m : Int).tdiv 2 = (h : Int) := by
    rw [Int.tdiv_eq_ediv_of_nonneg (by omega)]; omega
  have e4 : IntKind.i64.wrap (h : Int) = (h : Int) := by rw [IntKind.wrap_i64]; omega
  clear hm hh hn
  go_enter Try.func30, Try.ntmps30
  go_wp2
  go_ret
  exact ⟨rfl, rfl⟩

set_option maxRecDepth 100000 in
set_option maxHeartbeats 1600000 in
theorem wide_any (w : World) (ga : Option Addr) (b o cap n N : Nat) (xs : List Nat) (hl : xs.length = n) (hnN : n ≤ N) (hN : N ≤ 1099511627776) (hR : Rep w ga b o cap xs) :
    Calls Try.prog 46 #[.slice ga n cap, .int .i64 (N : Int)] w fun e w' => e = .returned (.slice (some ⟨w.heap.size, 0, none⟩) N N) ∧ Blk w' w.heap.size (xs ++ List.replicate (N - n) 0) ∧ Below w.heap.size w w' := by
  have HC := hide (fun ob => crow_at hR ob)
  clear hR
  have hmk := make_nat N N (N : Int) rfl rfl (by omega)
  go_enter Try.func46, Try.ntmps46
  go_wp2_with (refine wpList_copy_splice rfl _ _ 31 31 rfl 59 Try.underlying31 Try.sizeU _ _ N N n cap rfl rfl w.heap.size 0 (zlist N) 59 ?h1 (crow xs) ?h2 ?h3 ?h4 (cells_one _) w.heap.size w ?h5 (Nat.le_refl _) ?_)
  case h1 => exact heap_alloc_new w _
  case h2 => rw [crow_len, hl]; exact (Nat.min_eq_left (by omega)).symm
  case h3 => exact unhide HC _
  case h4 => rw [crow_len, zlist_len, hl]; omega
  case h5 => exact (Below.refl _ _).alloc (Nat.le_refl _) _
  intro w2 hblk hb2
  have hB : Blk w2 w.heap.size (xs ++ List.replicate (N - n) 0) := by
    have e := splice_copy xs n (N - n) hl
    rw [show n + (N - n) = N from by omega] at e
    have h := hblk.out
    rw [e] at h
    exact h
  clear hblk HC hmk
  go_wp2
  go_ret
  exact ⟨ret_slice rfl, hB, hb2⟩

/-- What a factor is cut into: the low piece, the high one, their sum, in new memory each. -/
structure Pcs (B : Nat) (w : World) (v : Value) (xs : List Nat) (h : Nat) : Prop where
  out : ∃ g0 g1 g2 zs, v = .agg #[.slice (some ⟨g0, 0, none⟩) h h, .slice (some ⟨g1, 0, none⟩) (xs.length - h) (xs.length - h), .slice (some ⟨g2, 0, none⟩) (h + 1) (h + 1)] ∧
    B ≤ g0 ∧ B ≤ g1 ∧ B ≤ g2 ∧ Blk w g0 (xs.take h) ∧ Blk w g1 (xs.drop h) ∧ Blk w g2 zs ∧ zs.length = h + 1 ∧ WDig zs ∧ wval zs = wval (xs.take h) + wval (xs.drop h)

theorem join_three (w : World) (u v x : Value) (m n p k : Nat) (z : Int) (hz : (k : Int) = min (max z 0) 16384) (hu : InW w u m) (hv : InW w v n) (hx : InW w x p) :
    Calls Try.prog 49 #[.int .i64 z, .slice (some ⟨w.heap.size, 0, none⟩) 3 3] (w.alloc (.cells #[u, v, x] 31)) fun e w' => ∃ r, e = .returned r ∧ NewW w.heap.size w' r (m + 18446744073709551616 ^ k * n + 18446744073709551616 ^ (2 * k) * p) ∧ Below w.heap.size w w' := by
  have hb : Below w.heap.size w (w.alloc (.cells #[u, v, x] 31)) := (Below.refl _ _).alloc (Nat.le_refl _) _
  refine (join_k _ _ _ _ 3 3 k z _ _ rfl (by omega) hz (parts_three w u v x m n p 31 hu hv hx)).mono ?_
  rintro e w' ⟨r, rfl, hr, h⟩
  have e2 : jsum k [m, n, p] 3 = m + 18446744073709551616 ^ k * n + 18446744073709551616 ^ (2 * k) * p := by simp [jsum, Nat.mul_comm k 2]
  rw [e2] at hr
  exact ⟨r, rfl, hr.mono hb.size, bstep hb h⟩

theorem InW.is {w : World} {v : Value} {n : Nat} (h : InW w v n) : ∃ g l c, v = .slice g l c := by
  obtain ⟨ga, b, o, cap, xs, rfl, _⟩ := h
  exact ⟨_, _, _, rfl⟩

set_option maxHeartbeats 1600000 in
theorem kjoin_any (w : World) (u v x : Value) (m n p h L : Nat) (hh : h ≤ 16384) (hL : L ≤ 1073741824) (hp : p < 18446744073709551616 ^ L) (hle : m + n ≤ p) (hu : InW w u m) (hv : InW w v n) (hx : InW w x p) :
    Calls Try.prog 34 #[.int .i64 (h : Int), u, v, x] w fun e w' => ∃ r, e = .returned r ∧ NewW w.heap.size w' r (m + 18446744073709551616 ^ h * (p - (m + n)) + 18446744073709551616 ^ (2 * h) * n) ∧ Below w.heap.size w w' := by
  obtain ⟨gu, lu, cu, rfl⟩ := hu.is
  obtain ⟨gv, lv, cv, rfl⟩ := hv.is
  have hp1 : Hid (m + n < 18446744073709551616 ^ L) := Nat.lt_of_le_of_lt hle hp
  have hp2 : Hid (p - (m + n) < 18446744073709551616 ^ L) := Nat.lt_of_le_of_lt (Nat.sub_le _ _) hp
  have CA := hide (add_w w _ _ m n hu hv)
  have HU := hide hu
  have HV := hide hv
  have HX := hide hx
  have hz : Hid ((h : Int) = min (max (h : Int) 0) 16384) := by show _ = _; omega
  have HL := hide hle
  clear hu hv hx hle hp
  go_enter Try.func34, Try.ntmps34
  go_wp2_with fail
  refine (unhide CA).mono ?_
  rintro e w1 ⟨r1, rfl, h1, b1⟩
  clear CA
  have CS := hide (sub_w w1 x r1 p (m + n) ((unhide HX).next b1) (h1.toIn (unhide hp1) hL))
  go_wp2_with fail
  refine (unhide CS).mono ?_
  rintro e w2 ⟨b2, ⟨_, r2, rfl, h2⟩ | ⟨hlt, _⟩⟩
  case inr => exact absurd (unhide HL) (by omega)
  have b12 := bstep b1 b2
  have i2 := h2.toIn (unhide hp2) hL
  obtain ⟨g2, l2, c2, rfl⟩ := i2.is
  have CJ := hide (join_three w2 _ _ _ m (p - (m + n)) n h (h : Int) (unhide hz) ((unhide HU).next b12) i2 ((unhide HV).next b12))
  clear CS h1 h2 i2
  go_wp2_with fail
  refine (unhide CJ).mono ?_
  rintro e w3 ⟨r3, rfl, h3, b3⟩
  clear CJ
  go_wp2
  go_ret
  exact ⟨r3, rfl, h3.mono b12.size, bstep b12 b3⟩

end Go.Proofs.Ytiojfgcahopfmaa

/- Package kara's cut: a factor's pieces. -/
namespace Go.Proofs.Ytiojfgcahopfmaa
open Go.RowKit

theorem inW_rep {w : World} {ga : Option Addr} {b o cap l : Nat} {xs : List Nat} (hr : Rep w ga b o cap xs) (hd : WDig xs) (hl : xs.length = l) (h : l ≤ 1073741824) : InW w (.slice ga l cap) (wval xs) := by
  subst hl
  exact ⟨_, _, _, _, _, rfl, hr, hd, rfl, h⟩
theorem grown_set3 (w : World) (R : Nat) (x y z : Value) : w.grownBy (((w.setCell ⟨R, 0, none⟩ x).setCell ⟨R, 1, none⟩ y).setCell ⟨R, 2, none⟩ z) (some R) :=
  grown_trans (grown_trans (grown_set w R 0 x) (grown_set _ R 1 y)) (grown_set _ R 2 z)

set_option maxRecDepth 100000 in
set_option maxHeartbeats 3200000 in
theorem kcut_any (w : World) (ga : Option Addr) (b o cap n h : Nat) (xs : List Nat) (hl : xs.length = n) (hn : n ≤ 16384) (h0 : 0 < h) (hh : h < n) (h2 : n ≤ 2 * h) (hR : Rep w ga b o cap xs) (hd : WDig xs) :
    Calls Try.prog 33 #[.slice ga n cap, .int .i64 (h : Int)] w fun e w' => ∃ v, e = .returned v ∧ Pcs w.heap.size w' v xs h ∧ Below w.heap.size w w' := by
  have hg := hR.head (by omega)
  subst hg
  have hcap := hR.room
  rw [hl] at hcap
  have hlt := hR.lt (by omega)
  obtain ⟨k, hk⟩ : ∃ k, n - h = k := ⟨_, rfl⟩
  have r0 := hR.take h (by omega)
  have r1 := hR.drop h (by omega)
  have hl0 : (xs.take h).length = h := by simp; omega
  have hl1 : (xs.drop h).length = k := by simp; omega
  have bb : Below w.heap.size w (w.alloc (.cells #[.slice none 0 0, .slice none 0 0, .slice none 0 0] 64)) := (Below.refl _ _).alloc (Nat.le_refl _) _
  have HX : Hid (∀ W, Below (w.alloc (.cells #[.slice none 0 0, .slice none 0 0, .slice none 0 0] 64)).heap.size (w.alloc (.cells #[.slice none 0 0, .slice none 0 0, .slice none 0 0] 64)) W → W.heap[w.heap.size]? = some (.cells #[.slice none 0 0, .slice none 0 0, .slice none 0 0] 64 (0, 0))) := fun W q => (q.block w.heap.size (by simp)).trans (heap_alloc_new w _)
  obtain ⟨W1, hW1⟩ : ∃ W1, w.alloc (.cells #[.slice none 0 0, .slice none 0 0, .slice none 0 0] 64) = W1 := ⟨_, rfl⟩
  rw [hW1] at bb HX
  obtain ⟨G, hG⟩ : ∃ G, w.heap.size = G := ⟨_, rfl⟩
  have r0 := r0.next bb
  have r1 := r1.next bb
  go_enter Try.func33, Try.ntmps33
  have hch : ¬ cap = h := by omega
  have hch1 : h ≤ cap := by omega
  have hch2 : h ≤ n := by omega
  have d0 := wDig_take hd h
  have d1 := wDig_drop hd h
  have hsum : Hid (wval (xs.take h) + wval (xs.drop h) < 18446744073709551616 ^ (h + 1)) := by
    refine kara_sum_lt ?_ ?_
    · have := wval_lt_pow d0
      rwa [hl0] at this
    · refine Nat.lt_of_lt_of_le (wval_lt_pow d1) (Nat.pow_le_pow_right (by omega) ?_)
      omega
  obtain ⟨H1, hH1⟩ : ∃ H1, H1 = h + 1 := ⟨_, rfl⟩
  have HP : Hid (∀ W g0 g1 g2 zs, G ≤ g0 → G ≤ g1 → G ≤ g2 → Blk W g0 (xs.take h) → Blk W g1 (xs.drop h) → Blk W g2 zs → zs.length = H1 → WDig zs → wval zs = wval (xs.take h) + wval (xs.drop h) → Pcs w.heap.size W (.agg #[.slice (some ⟨g0, 0, none⟩) h h, .slice (some ⟨g1, 0, none⟩) k k, .slice (some ⟨g2, 0, none⟩) H1 H1]) xs h) := fun W g0 g1 g2 zs i0 i1 i2 k0 k1 k2 z0 z1 z2 => by
    subst hG hH1
    refine ⟨⟨g0, g1, g2, zs, ?_, i0, i1, i2, k0, k1, k2, z0, z1, z2⟩⟩
    rw [hl, hk]
  have r0 := r0.drew
  have r1 := r1.drew
  have bb := hide bb
  clear hR hd hl h2 hlt hcap
  generalize xs.take h = x0 at *
  generalize xs.drop h = x1 at *
  have hz : (h : Int) + 1 = (H1 : Int) := by omega
  have hz1 : IntKind.i64.wrap (H1 : Int) = (H1 : Int) := by rw [IntKind.wrap_i64]; omega
  have hH2 : H1 ≤ 16385 := by omega
  rw [← hH1] at hsum
  clear hH1
  go_wp2
  go_region
  clear hW1
  have bl : Below W1.heap.size W1 W1.drew := (Below.refl _ _).drew
  go_wp2_with fail
  refine (wide_any _ _ _ _ _ _ _ _ hl0 (Nat.le_refl _) (by omega) r0).mono ?_
  rintro e w2 ⟨rfl, k2, b2⟩
  have bl := bstep bl b2
  have r0 := r0.next b2
  have r1 := r1.next b2
  go_wp2_with fail
  refine (wide_any _ _ _ _ _ _ _ _ hl1 (Nat.le_refl _) (by omega) r1).mono ?_
  rintro e w3 ⟨rfl, k3, b3⟩
  have bl := bstep bl b3
  have k2 : Blk w3 W1.drew.heap.size _ := (b3.block _ k2.lt).trans k2
  have r0 := r0.next b3
  have r1 := r1.next b3
  go_wp2_with fail
  refine (add_w _ _ _ _ _ (inW_rep r0 d0 hl0 (by omega)) (inW_rep r1 d1 hl1 (by omega))).mono ?_
  rintro e w4 ⟨v4, rfl, n4, b4⟩
  obtain ⟨g4, q4, c4, ys, rfl, r4, hc4, hv4, _⟩ := n4.rep
  have hl4 : ys.length ≤ H1 := wlen_le hc4 (by rw [hv4]; exact unhide hsum)
  have bl := bstep bl b4
  have k2 : Blk w4 W1.drew.heap.size _ := (b4.block _ k2.lt).trans k2
  have k3 : Blk w4 w2.heap.size _ := (b4.block _ k3.lt).trans k3
  clear n4 r0 r1
  go_wp2_with fail
  refine (wide_any _ _ _ _ _ _ _ _ rfl hl4 (by omega) r4).mono ?_
  rintro e w5 ⟨rfl, k5, b5⟩
  have bl := bstep bl b5
  have k2 : Blk w5 W1.drew.heap.size _ := (b5.block _ k2.lt).trans k2
  have k3 : Blk w5 w2.heap.size _ := (b5.block _ k3.lt).trans k3
  have kx := unhide HX _ bl
  rw [hG] at kx
  have s2 := b2.size
  have s3 := b3.size
  have s4 := b4.size
  have GW : G < W1.heap.size := by
    have := (Array.getElem?_eq_some_iff.1 (unhide HX W1 (Below.refl _ _))).1
    rwa [hG] at this
  have GD : W1.drew.heap.size = W1.heap.size := rfl
  rw [Nat.sub_self, List.replicate_zero, List.append_nil] at k2 k3
  rw [GD] at k2 s2
  have l5 : Hid ((ys ++ List.replicate (H1 - ys.length) 0).length = H1) := by show _ = _; simp; omega
  have v5 : Hid (wval (ys ++ List.replicate (H1 - ys.length) 0) = wval x0 + wval x1) := by show _ = _; rw [wval_pad, hv4]
  have d5 := wDig_pad hc4.1 (H1 - ys.length)
  have HB := hide (bstep (unhide bb) bl)
  generalize ys ++ List.replicate (H1 - ys.length) 0 = zs at *
  have c0 : w5.cell? ⟨G, 0, none⟩ = some (.slice none 0 0) := cell_of_row _ G 0 _ _ (0, 0) kx
  have c1 : w5.cell? ⟨G, 1, none⟩ = some (.slice none 0 0) := cell_of_row _ G 1 _ _ (0, 0) kx
  have c2 : w5.cell? ⟨G, 2, none⟩ = some (.slice none 0 0) := cell_of_row _ G 2 _ _ (0, 0) kx
  have f0 := frozen_of_row _ G 0 _ _ kx
  have f1 := frozen_of_row _ G 1 _ _ kx
  have f2 := frozen_of_row _ G 2 _ _ kx
  go_wp2
  have gr := grown_set3 w5 G (.slice (some ⟨W1.heap.size, 0, none⟩) h h) (.slice (some ⟨w2.heap.size, 0, none⟩) k k) (.slice (some ⟨w4.heap.size, 0, none⟩) H1 H1)
  refine bodyPost_ret (v := .agg #[.slice (some ⟨W1.heap.size, 0, none⟩) h h, .slice (some ⟨w2.heap.size, 0, none⟩) k k, .slice (some ⟨w4.heap.size, 0, none⟩) H1 H1]) (by simp [results, Try.results33, go_sem, c0, c1, c2]) rfl ?_
  refine ⟨_, rfl, unhide HP _ _ _ _ zs (by omega) (by omega) (by omega) ((gr.block _ k2.lt (by simp; omega)).trans k2) ((gr.block _ k3.lt (by simp; omega)).trans k3) ((gr.block _ k5.lt (by simp; omega)).trans k5) (unhide l5) d5 (unhide v5), ?_⟩
  exact below_grown (unhide HB) gr (by omega) (unhide HB).size

end Go.Proofs.Ytiojfgcahopfmaa

/- Naturals in new memory; blocks of one cell. -/
namespace Go.Proofs.Ytiojfgcahopfmaa
open Go.RowKit

theorem to_isN (w : World) (v : Value) (n L : Nat) (hL : L ≤ 1073741824) (hn : n < 4294967296 ^ L) (h : IsN w v n) :
    Calls Try.prog 35 #[v] w fun e w' => ∃ r, e = .returned r ∧ NewI w.heap.size w' r n ∧ Below w.heap.size w w' := by
  obtain ⟨ga, b, o, cap, xs, rfl, hR, hc, hv⟩ := h
  have hl := len_le hc (L := L) (by rw [hv]; exact hn)
  refine (to_rep w ga b o cap _ xs rfl (by omega) hR hc).mono ?_
  rintro e w' ⟨g1, b1, c1, ws, rfl, r1, k1, v1, hb, hn1⟩
  have hlw := wlen_le k1 (L := L) (by rw [v1, hv]; exact Nat.lt_of_lt_of_le hn (Nat.pow_le_pow_left (by omega) L))
  exact ⟨_, rfl, ⟨g1, b1, 0, c1, ws, rfl, r1, k1.1, by rw [v1, hv], by omega, hn1⟩, hb⟩

/-- Naturals with zero words on top: what a row of l words says is below B to the l. -/
theorem inD_lt {D : Nat → Prop} {w : World} {v : Value} {n l : Nat} (h : InD D w v n l) : n < 18446744073709551616 ^ l := by
  obtain ⟨ga, b, o, cap, xs, _, hl, _, hd, hv, _⟩ := h
  rw [← hv, ← hl]
  exact wval_lt_pow hd

/-- A block of one cell. -/
def One (w : World) (g : Nat) (v : Value) (t : Nat) : Prop := w.heap[g]? = some (.cells #[v] t (0, 0))
theorem One.lt {w : World} {g t : Nat} {v : Value} (h : One w g v t) : g < w.heap.size := (Array.getElem?_eq_some_iff.1 h).1
theorem One.cell {w : World} {g t : Nat} {v : Value} (h : One w g v t) : w.cell? ⟨g, 0, none⟩ = some v := cell_of_row w g 0 _ _ (0, 0) h
theorem One.frozen {w : World} {g t : Nat} {v : Value} (h : One w g v t) : w.frozen? ⟨g, 0, none⟩ = false := frozen_of_row w g 0 _ _ h
theorem One.set {w : World} {g t : Nat} {v : Value} (h : One w g v t) (u : Value) : One (w.setCell ⟨g, 0, none⟩ u) g u t := by
  have := heap_setCell_same w g 0 _ _ u h
  show _ = _
  rw [this]; rfl
theorem One.other {w : World} {g k i t : Nat} {v : Value} (h : One w g v t) (hk : g ≠ k) (u : Value) : One (w.setCell ⟨k, i, none⟩ u) g v t := by
  show _ = _
  rw [heap_setCell_other w ⟨k, i, none⟩ g u hk]
  exact h
theorem One.next {w w' : World} {g t : Nat} {v : Value} (h : One w g v t) (b : Below w.heap.size w w') : One w' g v t := (b.block g h.lt).trans h
theorem One.out {D : Nat → Prop} {w w' : World} {g t : Nat} {v : Value} (h : One w g v t) (o : Out D w w') (hd : ¬ D g) : One w' g v t := (o.block g h.lt hd).trans h
theorem Out.set {D : Nat → Prop} {w w' : World} (h : Out D w w') {g i : Nat} (hd : D g) (u : Value) : Out D w (w'.setCell ⟨g, i, none⟩ u) :=
  h.trans ⟨rfl, rfl, rfl, by simp [World.setCell], fun k _ hn => heap_setCell_other w' ⟨g, i, none⟩ k u (fun e => hn (by rw [e]; exact hd))⟩

/-- No row of words lies in a block of one cell that is no word. -/
theorem One.away {w : World} {g t : Nat} {v : Value} (h : One w g v t) (hv : ∀ x, v ≠ .int .u64 x) {ga : Option Addr} {b o cap : Nat} {xs : List Nat} (r : Rep w ga b o cap xs) (h0 : 0 < xs.length) : b ≠ g := by
  rintro rfl
  have c := r.cell 0 h0
  rw [cell_of_row w b (o + 0) _ _ (0, 0) h] at c
  match o, c with
  | 0, c => exact hv _ (Option.some.inj c)
  | o + 1, c => simp at c
theorem One.apart {w : World} {g k t u : Nat} {v x : Value} (h : One w g v t) (h' : One w k x u) (hv : v ≠ x) : g ≠ k := by
  rintro rfl
  have := h.cell.symm.trans h'.cell
  exact hv (Option.some.inj this)

end Go.Proofs.Ytiojfgcahopfmaa

/- What the statements on package kara call: from, hand, and the closures that count. -/
namespace Go.Proofs.Ytiojfgcahopfmaa
open Go.RowKit

theorem from_kara (w : World) (ga : Option Addr) (b o cap n A : Nat) (us : List Nat) (hl : us.length = n) (hn : n ≤ 1073741824) (hR : Rep w ga b o cap us) (hd : WDig us) (hA : A = wval us) :
    Calls Try.prog 17 #[.slice ga n cap] w fun e w' => ∃ v, e = .returned v ∧ IsN w' v A ∧ Below w.heap.size w w' := by
  subst hl
  have CF := hide (from_any w ga b o cap us (by omega) hR (wDig_mem hd))
  rw [← hA] at CF
  clear hA
  generalize us.length = n at *
  go_enter Try.func17, Try.ntmps17
  go_wp2_with fail
  refine (unhide CF).mono ?_
  rintro e w' ⟨v, rfl, hv, hb⟩
  go_wp2
  go_ret
  exact ⟨v, rfl, hv, hb⟩

set_option maxHeartbeats 1600000 in
theorem hand_any (w : World) (u v : Value) (a c lu lv : Nat) (D : Nat → Prop) (hu : InD D w u a lu) (hv : InD D w v c lv) (q : Nat) (hq : q ≤ 1000) (h1 : lu ≤ q) (h2 : lv ≤ q) :
    Calls Try.prog 13 #[u, v] w fun e w' => ∃ r, e = .returned r ∧ NewI w.heap.size w' r (a * c) ∧ Below w.heap.size w w' := by
  have l1 := inD_lt hu
  have l2 := inD_lt hv
  obtain ⟨ga, b, o, cap, xs, rfl, hl, hr, hd, hva, _⟩ := hu
  obtain ⟨gb, b', o', cap', ys, rfl, hl', hr', hd', hvb, _⟩ := hv
  have HR' := hide (fun W (t : Below w.heap.size w W) => hr'.next t)
  have CF := hide (from_kara w ga b o cap lu a xs hl (by omega) hr hd hva.symm)
  have CG := hide (fun W (r : Rep W gb b' o' cap' ys) => from_kara W gb b' o' cap' lv c ys hl' (by omega) r hd' hvb.symm)
  have m1 : Hid (a < 4294967296 ^ (2 * q)) := by have := pow_up l1 (q := q) h1; rw [wpow] at this; exact this
  have m2 : Hid (c < 4294967296 ^ (2 * q)) := by have := pow_up l2 (q := q) h2; rw [wpow] at this; exact this
  have m3 : Hid (a * c < 4294967296 ^ (2 * q + 2 * q)) := by
    have := Nat.mul_lt_mul'' (unhide m1) (unhide m2)
    rwa [← Nat.pow_add] at this
  have CM := hide (fun W v1 v2 (n1 : IsN W v1 a) (n2 : IsN W v2 c) => mul_any W v1 v2 a c (2 * q) (by omega) (unhide m1) (unhide m2) n1 n2)
  have CT := hide (fun W v3 (n3 : IsN W v3 (a * c)) => to_isN W v3 (a * c) (2 * q + 2 * q) (by omega) (unhide m3) n3)
  clear l1 l2 m1 m2 m3 hr hr' hd hd' hva hvb hl hl'
  generalize a * c = P at *
  go_enter Try.func13, Try.ntmps13
  go_wp2_with fail
  refine (unhide CF).mono ?_
  rintro e w1 ⟨v1, rfl, n1, b1⟩
  clear CF
  go_wp2_with fail
  refine (unhide CG _ (unhide HR' _ b1)).mono ?_
  rintro e w2 ⟨v2, rfl, n2, b2⟩
  have n1 := n1.next b2
  have bl := bstep b1 b2
  clear CG b1 b2
  go_wp2_with fail
  refine (unhide CM _ _ _ n1 n2).mono ?_
  rintro e w3 ⟨v3, rfl, n3, b3⟩
  have bl := bstep bl b3
  clear CM b3 n1 n2
  go_wp2_with fail
  refine (unhide CT _ _ n3).mono ?_
  rintro e w4 ⟨r, rfl, nr, b4⟩
  have hs := bl.size
  have bl := bstep bl b4
  have hnr : NewI w.heap.size w4 r P := by
    obtain ⟨ga, b, oo, cap, xs, e, hr, hx, hv, hl, hn⟩ := nr
    exact ⟨ga, b, oo, cap, xs, e, hr, hx, hv, hl, fun h => Nat.le_trans hs (hn h)⟩
  clear CT b4 n3 nr hs
  go_wp2
  go_ret
  exact ⟨r, rfl, hnr, bl⟩

end Go.Proofs.Ytiojfgcahopfmaa

/- The closures that the statements on package kara hand in. -/
namespace Go.Proofs.Ytiojfgcahopfmaa
open Go.RowKit

set_option maxRecDepth 100000 in
set_option maxHeartbeats 3200000 in
theorem mulsClos_any (w : World) (u v : Value) (a c lu lv i R C Wt Wb : Nat) (D : Nat → Prop) (hu : InD D w u a lu) (hv : InD D w v c lv) (h1 : lu ≤ 60) (h2 : lv ≤ 60) (hi : i < 3) (hR : One w R (.bool true) 4) (hC : One w C (.int .i64 (i : Int)) 3) (hW : w.cell? ⟨Wt, 0, none⟩ = some (.slice (some ⟨Wb, 0, none⟩) 3 3)) (w0 : w.cell? ⟨Wb, i * 2, none⟩ = some (.int .i64 (lu : Int))) (w1 : w.cell? ⟨Wb, i * 2 + 1, none⟩ = some (.int .i64 (lv : Int))) :
    Calls Try.prog 12 #[u, v, .pointer (some ⟨R, 0, none⟩), .pointer (some ⟨C, 0, none⟩), .pointer (some ⟨Wt, 0, none⟩)] w fun e w' => ∃ r, e = .returned r ∧ NewI w.heap.size w' r (a * c) ∧ One w' R (.bool true) 4 ∧ One w' C (.int .i64 ((i + 1 : Nat) : Int)) 3 ∧ Out (fun j => j = R ∨ j = C) w w' := by
  have hne : ¬ C = R := hC.apart hR (by intro e; cases e)
  obtain ⟨ga, b, o, cap, xs, rfl, hl, hr, hd, hva, hn⟩ := hu
  obtain ⟨gb, b', o', cap', ys, rfl, hl', hr', hd', hvb, hn'⟩ := hv
  have cR := hR.cell
  have cC := hC.cell
  have fR := hR.frozen
  have fC := hC.frozen
  have o1 := ((Out.refl (fun j => j = R ∨ j = C) w).set (g := R) (i := 0) (Or.inl rfl) (.bool true)).set (g := C) (i := 0) (Or.inr rfl) (.int .i64 ((i + 1 : Nat) : Int))
  have R1 := (hR.set (.bool true)).other (k := C) (i := 0) (fun e => hne e.symm) (.int .i64 ((i + 1 : Nat) : Int))
  have C1 := (hC.other (k := R) (i := 0) hne (.bool true)).set (.int .i64 ((i + 1 : Nat) : Int))
  have nR : 0 < xs.length → ¬ (b = R ∨ b = C) := fun h => by
    have h1 := hR.away (fun x e => by cases e) hr h
    have h2 := hC.away (fun x e => by cases e) hr h
    omega
  have nR' : 0 < ys.length → ¬ (b' = R ∨ b' = C) := fun h => by
    have h1 := hR.away (fun x e => by cases e) hr' h
    have h2 := hC.away (fun x e => by cases e) hr' h
    omega
  have iu : InD (fun j => j = R ∨ j = C) ((w.setCell ⟨R, 0, none⟩ (.bool true)).setCell ⟨C, 0, none⟩ (.int .i64 ((i + 1 : Nat) : Int))) (.slice ga lu cap) a lu := ⟨ga, b, o, cap, xs, rfl, hl, o1.rep hr nR, hd, hva, by rw [← hl]; exact nR⟩
  have iv : InD (fun j => j = R ∨ j = C) ((w.setCell ⟨R, 0, none⟩ (.bool true)).setCell ⟨C, 0, none⟩ (.int .i64 ((i + 1 : Nat) : Int))) (.slice gb lv cap') c lv := ⟨gb, b', o', cap', ys, rfl, hl', o1.rep hr' nR', hd', hvb, by rw [← hl']; exact nR'⟩
  have CH := hide (hand_any _ _ _ a c lu lv _ iu iv 60 (by omega) h1 h2)
  have hsz : ((w.setCell ⟨R, 0, none⟩ (.bool true)).setCell ⟨C, 0, none⟩ (.int .i64 ((i + 1 : Nat) : Int))).heap.size = w.heap.size := by simp [World.setCell]
  obtain ⟨i1, hi1⟩ : ∃ i1, i1 = i + 1 := ⟨_, rfl⟩
  rw [← hi1] at o1 R1 C1 CH hsz ⊢
  have e1 : (i : Int) + 1 = (i1 : Int) := by omega
  have e2 : IntKind.i64.wrap (i1 : Int) = (i1 : Int) := by rw [IntKind.wrap_i64]; omega
  have O1 := hide o1
  have R1 := hide R1
  have C1 := hide C1
  have HSZ := hide hsz
  clear iu iv o1 nR nR' hr hr' hd hd' hva hvb hn hn' hl hl' hi1 hR hC hsz
  generalize a * c = P at *
  go_enter Try.func12, Try.ntmps12
  go_wp2_with fail
  refine (unhide CH).mono ?_
  rintro e w4 ⟨r, rfl, nr, b4⟩
  rw [unhide HSZ] at nr
  have O4 := (unhide O1).next b4
  have R4 := (unhide R1).next b4
  have C4 := (unhide C1).next b4
  clear CH b4 O1 R1 C1
  go_wp2
  go_ret
  exact ⟨r, rfl, nr, R4, C4, O4⟩

set_option maxRecDepth 100000 in
set_option maxHeartbeats 3200000 in
theorem sqrsClos_any (w : World) (u : Value) (a lu i R C Wt Wb : Nat) (D : Nat → Prop) (hu : InD D w u a lu) (h1 : lu ≤ 60) (hi : i < 3) (hR : One w R (.bool true) 4) (hC : One w C (.int .i64 (i : Int)) 3) (hW : w.cell? ⟨Wt, 0, none⟩ = some (.slice (some ⟨Wb, 0, none⟩) 3 3)) (w0 : w.cell? ⟨Wb, i, none⟩ = some (.int .i64 (lu : Int))) :
    Calls Try.prog 24 #[u, .pointer (some ⟨R, 0, none⟩), .pointer (some ⟨C, 0, none⟩), .pointer (some ⟨Wt, 0, none⟩)] w fun e w' => ∃ r, e = .returned r ∧ NewI w.heap.size w' r (a * a) ∧ One w' R (.bool true) 4 ∧ One w' C (.int .i64 ((i + 1 : Nat) : Int)) 3 ∧ Out (fun j => j = R ∨ j = C) w w' := by
  have hne : ¬ C = R := hC.apart hR (by intro e; cases e)
  obtain ⟨ga, b, o, cap, xs, rfl, hl, hr, hd, hva, hn⟩ := hu
  have cR := hR.cell
  have cC := hC.cell
  have fR := hR.frozen
  have fC := hC.frozen
  have o1 := ((Out.refl (fun j => j = R ∨ j = C) w).set (g := R) (i := 0) (Or.inl rfl) (.bool true)).set (g := C) (i := 0) (Or.inr rfl) (.int .i64 ((i + 1 : Nat) : Int))
  have R1 := (hR.set (.bool true)).other (k := C) (i := 0) (fun e => hne e.symm) (.int .i64 ((i + 1 : Nat) : Int))
  have C1 := (hC.other (k := R) (i := 0) hne (.bool true)).set (.int .i64 ((i + 1 : Nat) : Int))
  have nR : 0 < xs.length → ¬ (b = R ∨ b = C) := fun h => by
    have h1 := hR.away (fun x e => by cases e) hr h
    have h2 := hC.away (fun x e => by cases e) hr h
    omega
  have iu : InD (fun j => j = R ∨ j = C) ((w.setCell ⟨R, 0, none⟩ (.bool true)).setCell ⟨C, 0, none⟩ (.int .i64 ((i + 1 : Nat) : Int))) (.slice ga lu cap) a lu := ⟨ga, b, o, cap, xs, rfl, hl, o1.rep hr nR, hd, hva, by rw [← hl]; exact nR⟩
  have CH := hide (hand_any _ _ _ a a lu lu _ iu iu 60 (by omega) h1 h1)
  have hsz : ((w.setCell ⟨R, 0, none⟩ (.bool true)).setCell ⟨C, 0, none⟩ (.int .i64 ((i + 1 : Nat) : Int))).heap.size = w.heap.size := by simp [World.setCell]
  obtain ⟨i1, hi1⟩ : ∃ i1, i1 = i + 1 := ⟨_, rfl⟩
  rw [← hi1] at o1 R1 C1 CH hsz ⊢
  have e1 : (i : Int) + 1 = (i1 : Int) := by omega
  have e2 : IntKind.i64.wrap (i1 : Int) = (i1 : Int) := by rw [IntKind.wrap_i64]; omega
  have O1 := hide o1
  have R1 := hide R1
  have C1 := hide C1
  have HSZ := hide hsz
  clear iu o1 nR hr hd hva hn hl hi1 hR hC hsz
  generalize a * a = P at *
  go_enter Try.func24, Try.ntmps24
  go_wp2_with fail
  refine (unhide CH).mono ?_
  rintro e w4 ⟨r, rfl, nr, b4⟩
  rw [unhide HSZ] at nr
  have O4 := (unhide O1).next b4
  have R4 := (unhide R1).next b4
  have C4 := (unhide C1).next b4
  clear CH b4 O1 R1 C1
  go_wp2
  go_ret
  exact ⟨r, rfl, nr, R4, C4, O4⟩

set_option maxRecDepth 100000 in
set_option maxHeartbeats 3200000 in
theorem wakeClos_any (w : World) (u v : Value) (a c lu lv i i1 C : Nat) (D : Nat → Prop) (hu : InD D w u a lu) (hv : InD D w v c lv) (h1 : lu ≤ 60) (h2 : lv ≤ 60) (hi : i ≤ 1000) (hi1 : i1 = 10 * i + lu) (hC : One w C (.int .i64 (i : Int)) 3) :
    Calls Try.prog 36 #[u, v, .pointer (some ⟨C, 0, none⟩)] w fun e w' => ∃ r, e = .returned r ∧ NewI w.heap.size w' r (a * c) ∧ One w' C (.int .i64 (i1 : Int)) 3 ∧ Out (· = C) w w' := by
  obtain ⟨ga, b, o, cap, xs, rfl, hl, hr, hd, hva, hn⟩ := hu
  obtain ⟨gb, b', o', cap', ys, rfl, hl', hr', hd', hvb, hn'⟩ := hv
  have cC := hC.cell
  have fC := hC.frozen
  have o1 := (Out.refl (· = C) w).set (g := C) (i := 0) rfl (.int .i64 (i1 : Int))
  have C1 := hC.set (.int .i64 (i1 : Int))
  have nR : 0 < xs.length → ¬ b = C := fun h => hC.away (fun x e => by cases e) hr h
  have nR' : 0 < ys.length → ¬ b' = C := fun h => hC.away (fun x e => by cases e) hr' h
  have iu : InD (· = C) (w.setCell ⟨C, 0, none⟩ (.int .i64 (i1 : Int))) (.slice ga lu cap) a lu := ⟨ga, b, o, cap, xs, rfl, hl, o1.rep hr nR, hd, hva, by rw [← hl]; exact nR⟩
  have iv : InD (· = C) (w.setCell ⟨C, 0, none⟩ (.int .i64 (i1 : Int))) (.slice gb lv cap') c lv := ⟨gb, b', o', cap', ys, rfl, hl', o1.rep hr' nR', hd', hvb, by rw [← hl']; exact nR'⟩
  have CH := hide (hand_any _ _ _ a c lu lv _ iu iv 60 (by omega) h1 h2)
  have hsz : (w.setCell ⟨C, 0, none⟩ (.int .i64 (i1 : Int))).heap.size = w.heap.size := by simp [World.setCell]
  obtain ⟨t, ht⟩ : ∃ t, t = 10 * i := ⟨_, rfl⟩
  have e0 : 10 * (i : Int) = (t : Int) := by omega
  have e1 : IntKind.i64.wrap (t : Int) = (t : Int) := by rw [IntKind.wrap_i64]; omega
  have e2 : (t : Int) + (lu : Int) = (i1 : Int) := by omega
  have e3 : IntKind.i64.wrap (i1 : Int) = (i1 : Int) := by rw [IntKind.wrap_i64]; omega
  have O1 := hide o1
  have C1 := hide C1
  have HSZ := hide hsz
  clear iu iv o1 nR nR' hr hr' hd hd' hva hvb hn hn' hl hl' hi1 hC hsz ht
  generalize a * c = P at *
  go_enter Try.func36, Try.ntmps36
  go_wp2_with fail
  refine (unhide CH).mono ?_
  rintro e w4 ⟨r, rfl, nr, b4⟩
  rw [unhide HSZ] at nr
  have O4 := (unhide O1).next b4
  have C4 := (unhide C1).next b4
  clear CH b4 O1 C1
  go_wp2
  go_ret
  exact ⟨r, rfl, nr, C4, O4⟩

end Go.Proofs.Ytiojfgcahopfmaa

/- Package kara: the example of the document. -/
namespace Go.Proofs.Ytiojfgcahopfmaa
open Go.RowKit

def SpecKWakes : Prop := ∀ w : World, Calls Try.prog 14 #[] w fun e w' => e = .returned (.bool true) ∧ Below w.heap.size w w'

def wn : Nat → Nat
  | 0 => 0
  | 1 => 2
  | 2 => 22
  | _ => 223
/-- The engine stands at level 1, and so much was counted. -/
def WSt (gk ge g C : Nat) (i : Nat) (W : World) : Prop := KEng W gk ge g 0 1 1 Tab0 ∧ One W C (.int .i64 (wn i : Int)) 3
theorem wake_inn {gk ge g C : Nat} (h0 : gk ≠ C) (h1 : ge ≠ C) (h2 : g ≠ C) : Inn2 gk ge g 0 Tab0 4 4 2 36 #[] #[.pointer (some ⟨C, 0, none⟩)] (· = C) (WSt gk ge g C) := by
  refine ⟨fun _ _ => by kernel_rfl, fun i W W' h b => ⟨h.1.next b, h.2.next b⟩, fun i W h => ⟨0, 1, h.1⟩, fun i W u v a c hi h hu hv => ?_⟩
  have hl : (klen 4 4 2 i).1 ≤ 60 ∧ (klen 4 4 2 i).2 ≤ 60 ∧ wn i ≤ 1000 ∧ wn (i + 1) = 10 * wn i + (klen 4 4 2 i).1 := by
    match i, hi with
    | 0, _ => decide
    | 1, _ => decide
    | 2, _ => decide
  refine (wakeClos_any W u v a c _ _ (wn i) (wn (i + 1)) C _ hu hv hl.1 hl.2.1 hl.2.2.1 hl.2.2.2 h.2).mono ?_
  rintro e W' ⟨r, rfl, nr, hC, ho⟩
  exact ⟨r, rfl, nr, ⟨h.1.out ho h0 h1 h2, hC⟩, ho.mono fun k hk => Or.inl hk⟩
theorem blk_four (w : World) (a b c d : Nat) : Blk (w.alloc (.cells #[.int .u64 (a : Int), .int .u64 (b : Int), .int .u64 (c : Int), .int .u64 (d : Int)] 59)) w.heap.size [a, b, c, d] := heap_alloc_new w _
theorem dig_four {a b c d : Nat} (h0 : a < 18446744073709551616) (h1 : b < 18446744073709551616) (h2 : c < 18446744073709551616) (h3 : d < 18446744073709551616) : WDig [a, b, c, d] := fun j => by
  match j with
  | 0 => exact h0
  | 1 => exact h1
  | 2 => exact h2
  | 3 => exact h3
  | j + 4 => exact Nat.zero_lt_succ _

set_option maxRecDepth 100000 in
set_option maxHeartbeats 6400000 in
theorem karaWakes_any (SN : SpecKNew) (SK : SpecKara) : SpecKWakes := by
  intro w
  have CN : Hid (∀ w, Calls Try.prog 9 #[.agg #[.int .i64 0, .int .i64 0, .int .i64 0, .int .i64 0, .int .i64 0, .int .i64 0, .int .i64 0, .int .i64 0, .int .i64 0, .int .i64 0, .int .i64 0]] w fun e w' => ∃ gk ge g, e = .returned (.pointer (some ⟨gk, 0, none⟩)) ∧ KEng w' gk ge g 0 0 0 Tab0 ∧ w.heap.size ≤ gk ∧ w.heap.size ≤ ge ∧ w.heap.size ≤ g ∧ Below w.heap.size w w') := fun w => SN Tab0 w
  have hmf : ∀ (fn : Fn) (first cap : Array Value) (w : World), (Instr.makeFunc fn first cap).run Try.prog w = .ok (.func fn first cap) w := fun _ _ _ _ => rfl
  have HSK := hide SK
  clear SN SK
  go_enter Try.func14, Try.ntmps14
  go_wp2_with fail
  refine (unhide CN _).mono ?_
  rintro e w1 ⟨gk, ge, g, rfl, K, hk, he, hg, b⟩
  have lk := K.lt
  have le : ge < w1.heap.size := World.block_lt_of_cell? _ _ K.eng.ptr
  have lg := K.eng.met.lt
  have bC : Below w1.heap.size w1 (w1.alloc (.cells #[.int .i64 0] 3)) := (Below.refl _ _).alloc (Nat.le_refl _) _
  have oC : One (w1.alloc (.cells #[.int .i64 0] 3)) w1.heap.size (.int .i64 0) 3 := heap_alloc_new w1 _
  have s2 : (w1.alloc (.cells #[.int .i64 0] 3)).heap.size = w1.heap.size + 1 := by simp
  have bA : Below (w1.alloc (.cells #[.int .i64 0] 3)).heap.size (w1.alloc (.cells #[.int .i64 0] 3)) ((w1.alloc (.cells #[.int .i64 0] 3)).alloc (.cells #[.int .u64 1, .int .u64 2, .int .u64 3, .int .u64 4] 59)) := (Below.refl _ _).alloc (Nat.le_refl _) _
  have kA := blk_four (w1.alloc (.cells #[.int .i64 0] 3)) 1 2 3 4
  have s3 : ((w1.alloc (.cells #[.int .i64 0] 3)).alloc (.cells #[.int .u64 1, .int .u64 2, .int .u64 3, .int .u64 4] 59)).heap.size = w1.heap.size + 1 + 1 := by simp
  have bB : Below ((w1.alloc (.cells #[.int .i64 0] 3)).alloc (.cells #[.int .u64 1, .int .u64 2, .int .u64 3, .int .u64 4] 59)).heap.size ((w1.alloc (.cells #[.int .i64 0] 3)).alloc (.cells #[.int .u64 1, .int .u64 2, .int .u64 3, .int .u64 4] 59)) (((w1.alloc (.cells #[.int .i64 0] 3)).alloc (.cells #[.int .u64 1, .int .u64 2, .int .u64 3, .int .u64 4] 59)).alloc (.cells #[.int .u64 5, .int .u64 6, .int .u64 7, .int .u64 8] 59)) := (Below.refl _ _).alloc (Nat.le_refl _) _
  have kB := blk_four ((w1.alloc (.cells #[.int .i64 0] 3)).alloc (.cells #[.int .u64 1, .int .u64 2, .int .u64 3, .int .u64 4] 59)) 5 6 7 8
  have rA := (Blk.whole kA (n := 4) rfl).next bB
  have rB := Blk.whole kB (n := 4) rfl
  have K3 := ((K.next bC).next bA).next bB
  have o3 := (oC.next bA).next bB
  have bl := bstep b (bstep (bstep bC bA) bB)
  rw [s2] at rA
  rw [s3] at rB
  have CK := hide (unhide HSK _ gk ge g 0 0 0 Tab0 _ _ _ 0 4 4 _ 0 4 4 2 [1, 2, 3, 4] [5, 6, 7, 8] 36 #[] #[.pointer (some ⟨w1.heap.size, 0, none⟩)] (· = w1.heap.size) (WSt gk ge g w1.heap.size) K3 (by decide) (by decide) rfl rA (dig_four (by decide) (by decide) (by decide) (by decide)) (fun _ (e : w1.heap.size + 1 = w1.heap.size) => by omega) rfl rB (dig_four (by decide) (by decide) (by decide) (by decide)) (fun _ (e : w1.heap.size + 1 + 1 = w1.heap.size) => by omega) (by decide) (by decide) (by decide) (by decide) (by show ¬ gk = w1.heap.size; omega) (by show ¬ ge = w1.heap.size; omega) (by show ¬ g = w1.heap.size; omega) (fun j hj => by rw [hj]; exact o3.lt) (wake_inn (by omega) (by omega) (by omega)) (fun W ho hK => ⟨hK, o3.out ho (fun (e : w1.heap.size = g) => by omega)⟩))
  obtain ⟨C, hC⟩ : ∃ C, w1.heap.size = C := ⟨_, rfl⟩
  rw [hC] at CK
  have BL := hide bl
  have LG : Hid (g ≠ C ∧ w.heap.size ≤ C) := by have := b.size; show _ ∧ _; omega
  have HG := hide hg
  clear K K3 o3 bl rA rB kA kB bA bB bC oC s2 s3 lk le lg hk he hg b CN
  obtain ⟨P, hP⟩ : ∃ P, P = wval [1, 2, 3, 4] * wval [5, 6, 7, 8] := ⟨_, rfl⟩
  rw [← hP] at CK
  go_wp2_with fail
  refine (unhide CK).mono ?_
  rintro e w5 ⟨v, W, rfl, nv, ⟨_, hn⟩, hO, _, hD⟩
  have n5 := hn.out hO (fun e => (unhide LG).1 e.symm)
  have cn : w5.cell? ⟨C, 0, none⟩ = some (.int .i64 223) := n5.cell
  have b5 := hD.below (B := w.heap.size) (unhide BL).size (fun k hk => by rcases hk with hk | hk; rw [hk]; exact (unhide LG).2; rw [hk]; exact unhide HG)
  have BL := hide ((unhide BL).trans b5)
  clear CK hn hO hD b5 n5
  have HF := hide (fun W (r : Rep W (some ⟨w5.heap.size, 0, none⟩) w5.heap.size 0 4 [1, 2, 3, 4]) => from_kara W _ _ 0 4 4 (wval [1, 2, 3, 4]) [1, 2, 3, 4] rfl (by omega) r (dig_four (by decide) (by decide) (by decide) (by decide)) rfl)
  have kA := Blk.whole (blk_four w5 1 2 3 4) (n := 4) rfl
  have bA : Below w5.heap.size w5 (w5.alloc (.cells #[.int .u64 1, .int .u64 2, .int .u64 3, .int .u64 4] 59)) := (Below.refl _ _).alloc (Nat.le_refl _) _
  have CF := hide (unhide HF _ kA)
  have bl := hide (bstep (unhide BL) bA)
  have nv := nv.next bA
  have m1 : Hid (wval [1, 2, 3, 4] < 4294967296 ^ 8) := by show _ < _; decide +kernel
  have m2 : Hid (wval [5, 6, 7, 8] < 4294967296 ^ 8) := by show _ < _; decide +kernel
  have m3 : Hid (P < 18446744073709551616 ^ 8) := by show _ < _; rw [hP]; decide +kernel
  have HP := hide hP
  clear HF kA bA BL hP
  generalize wval [1, 2, 3, 4] = A1 at *
  obtain ⟨A2, hA2⟩ : ∃ A2, A2 = wval [5, 6, 7, 8] := ⟨_, rfl⟩
  rw [← hA2] at m2 HP
  go_wp2_with fail
  refine (unhide CF).mono ?_
  rintro e w6 ⟨u1, rfl, n1, b6⟩
  have bl := hide (bstep (unhide bl) b6)
  have nv := nv.next b6
  have kB := Blk.whole (blk_four w6 5 6 7 8) (n := 4) rfl
  have bB : Below w6.heap.size w6 (w6.alloc (.cells #[.int .u64 5, .int .u64 6, .int .u64 7, .int .u64 8] 59)) := (Below.refl _ _).alloc (Nat.le_refl _) _
  have CG := hide (from_kara _ _ _ 0 4 4 A2 [5, 6, 7, 8] rfl (by omega) kB (dig_four (by decide) (by decide) (by decide) (by decide)) hA2)
  have bl := hide (bstep (unhide bl) bB)
  have nv := nv.next bB
  have n1 := n1.next bB
  clear CF b6 kB bB hA2
  go_wp2_with fail
  refine (unhide CG).mono ?_
  rintro e w7 ⟨u2, rfl, n2, b7⟩
  have bl := hide (bstep (unhide bl) b7)
  have nv := nv.next b7
  have n1 := n1.next b7
  clear CG b7
  go_wp2_with fail
  refine (mul_any _ u1 u2 A1 A2 8 (by omega) (unhide m1) (unhide m2) n1 n2).mono ?_
  rintro e w8 ⟨u3, rfl, n3, b8⟩
  rw [← unhide HP] at n3
  have bl := hide (bstep (unhide bl) b8)
  have nv := nv.next b8
  clear b8 n1 n2
  go_wp2_with fail
  refine (same_new _ _ _ _ _ 8 (by omega) (unhide m3) n3 nv).mono ?_
  rintro e w9 ⟨rfl, b9⟩
  have bl := bstep (unhide bl) b9
  clear b9 n3 nv
  go_wp2
  go_ret
  exact ⟨rfl, bl⟩

end Go.Proofs.Ytiojfgcahopfmaa

/- KaraMuls: what the law's walk comes to, once the code's Kara is what the document asks. -/
namespace Go.Proofs.Ytiojfgcahopfmaa
open Go.RowKit

/-- What the closure of KaraMuls counts. -/
structure MSt (gk ge g : Nat) (T : Tab) (R C Wt Wb h q1 : Nat) (q2 : Int) (h1 : Nat) (i : Nat) (W : World) : Prop where
  eng : KEng W gk ge g 0 1 1 T
  right : One W R (.bool true) 4
  calls : One W C (.int .i64 (i : Int)) 3
  want : One W Wt (.slice (some ⟨Wb, 0, none⟩) 3 3) 29
  row : W.heap[Wb]? = some (.cells #[.int .i64 (h : Int), .int .i64 (h : Int), .int .i64 (q1 : Int), .int .i64 q2, .int .i64 (h1 : Int), .int .i64 (h1 : Int)] 28 (0, 0))
theorem muls_inn {gk ge g : Nat} {T : Tab} {R C Wt Wb N M h q1 : Nat} {q2 : Int} {h1 : Nat} (n0 : gk ≠ R ∧ gk ≠ C) (n1 : ge ≠ R ∧ ge ≠ C) (n2 : g ≠ R ∧ g ≠ C) (n3 : Wt ≠ R ∧ Wt ≠ C) (n4 : Wb ≠ R ∧ Wb ≠ C) (hN : N ≤ 40) (hM : M ≤ N) (hh : h = (N + 1) / 2) (hhM : h < M) (hq1 : q1 = N - h) (hq2 : q2 = (M : Int) - (h : Int)) (hh1 : h1 = h + 1) :
    Inn2 gk ge g 0 T N M h 12 #[] #[.pointer (some ⟨R, 0, none⟩), .pointer (some ⟨C, 0, none⟩), .pointer (some ⟨Wt, 0, none⟩)] (fun j => j = R ∨ j = C) (MSt gk ge g T R C Wt Wb h q1 q2 h1) := by
  refine ⟨fun _ _ => by kernel_rfl, fun i W W' s b => ⟨s.eng.next b, s.right.next b, s.calls.next b, s.want.next b, (b.block Wb (Array.getElem?_eq_some_iff.1 s.row).1).trans s.row⟩, fun i W s => ⟨0, 1, s.eng⟩, fun i W u v a c hi s hu hv => ?_⟩
  have hq2' : q2 = ((M - h : Nat) : Int) := by omega
  have hw : W.cell? ⟨Wb, i * 2, none⟩ = some (.int .i64 ((klen N M h i).1 : Int)) ∧ W.cell? ⟨Wb, i * 2 + 1, none⟩ = some (.int .i64 ((klen N M h i).2 : Int)) ∧ (klen N M h i).1 ≤ 60 ∧ (klen N M h i).2 ≤ 60 := by
    rw [cell_of_row W Wb (i * 2) _ _ (0, 0) s.row, cell_of_row W Wb (i * 2 + 1) _ _ (0, 0) s.row]
    match i, hi with
    | 0, _ => exact ⟨rfl, rfl, by show h ≤ 60; omega, by show h ≤ 60; omega⟩
    | 1, _ => exact ⟨by rw [hq1]; rfl, by rw [hq2']; rfl, by show N - h ≤ 60; omega, by show M - h ≤ 60; omega⟩
    | 2, _ => exact ⟨by rw [hh1]; rfl, by rw [hh1]; rfl, by show h + 1 ≤ 60; omega, by show h + 1 ≤ 60; omega⟩
  refine (mulsClos_any W u v a c _ _ i R C Wt Wb _ hu hv hw.2.2.1 hw.2.2.2 hi s.right s.calls s.want.cell hw.1 hw.2.1).mono ?_
  rintro e W' ⟨r, rfl, nr, hR, hC, ho⟩
  have z : ∀ k, k ≠ R ∧ k ≠ C → ¬ (k = R ∨ k = C) := fun k hk => by omega
  exact ⟨r, rfl, nr, ⟨s.eng.out ho (z _ n0) (z _ n1) (z _ n2), hR, hC, s.want.out ho (z _ n3), (ho.block Wb (Array.getElem?_eq_some_iff.1 s.row).1 (z _ n4)).trans s.row⟩, ho.mono fun k hk => Or.inl hk⟩

set_option maxRecDepth 100000 in
set_option maxHeartbeats 12800000 in
theorem karaMuls_any (SN : SpecKNew) (SK : SpecKara) (SO : SpecKaraNo) (T : Tab) (ga : Option Addr) (ba oa ca la : Nat) (xs : List Nat) (gb : Option Addr) (bb ob cb lb : Nat) (ys : List Nat) (w : World) (hx : xs.length = la) (hA : Rep w ga ba oa ca xs) (wx : ∀ j, xs.getD j 0 < 18446744073709551616) (hy : ys.length = lb) (hB : Rep w gb bb ob cb ys) (wy : ∀ j, ys.getD j 0 < 18446744073709551616) :
    Calls Try.prog 3 #[T.val, .slice ga la ca, .slice gb lb cb] w fun e w' => e = .returned (.bool true) ∧ Below w.heap.size w w' := by
  obtain ⟨n, hca⟩ : ∃ k, k = min la 40 := ⟨_, rfl⟩
  have Ca : Hid (∀ w, Calls Try.prog 8 #[.slice ga la ca, .int .i64 40] w fun e w' => e = .returned (.slice ga n ca) ∧ w' = w) := fun w => cut_any w ga la ca 40 n (by have := hA.room; omega) (by omega) hca
  obtain ⟨hla, rA⟩ := cut_rep hA 40 n (by rw [hx]; exact hca)
  have dx : WDig (xs.take n) := take_words wx n
  have hma : n ≤ 40 := by omega
  obtain ⟨m, hcb⟩ : ∃ k, k = min lb 40 := ⟨_, rfl⟩
  have Cb : Hid (∀ w, Calls Try.prog 8 #[.slice gb lb cb, .int .i64 40] w fun e w' => e = .returned (.slice gb m cb) ∧ w' = w) := fun w => cut_any w gb lb cb 40 m (by have := hB.room; omega) (by omega) hcb
  obtain ⟨hlb, rB⟩ := cut_rep hB 40 m (by rw [hy]; exact hcb)
  have dy : WDig (ys.take m) := take_words wy m
  have hmb : m ≤ 40 := by omega
  clear hca hA wx hx hcb hB wy hy
  generalize xs.take n = us at *
  generalize ys.take m = vs at *
  obtain ⟨A, hva⟩ : ∃ k, k = wval us := ⟨_, rfl⟩
  have ba' : A < 18446744073709551616 ^ 40 := by rw [hva]; exact pow_up (wval_lt_pow dx) (by omega)
  have Ba : Hid (A < 4294967296 ^ 80) := by have := ba'; rw [wpow] at this; exact this
  have CFa := hide (fun W (r : Rep W ga ba oa ca us) => from_kara W ga ba oa ca n A us hla (by omega) r dx hva)
  have HXL := hide hla
  have HEA := hide hva
  have La : Hid (0 < us.length → ba < w.heap.size) := fun h => rA.lt h
  clear hva hla
  obtain ⟨D, hvb⟩ : ∃ k, k = wval vs := ⟨_, rfl⟩
  have bb' : D < 18446744073709551616 ^ 40 := by rw [hvb]; exact pow_up (wval_lt_pow dy) (by omega)
  have Bb : Hid (D < 4294967296 ^ 80) := by have := bb'; rw [wpow] at this; exact this
  have CFb := hide (fun W (r : Rep W gb bb ob cb vs) => from_kara W gb bb ob cb m D vs hlb (by omega) r dy hvb)
  have HYL := hide hlb
  have HED := hide hvb
  have Lb : Hid (0 < vs.length → bb < w.heap.size) := fun h => rB.lt h
  clear hvb hlb
  have HPR : Hid (A * D < 18446744073709551616 ^ (40 + 40)) := by have := Nat.mul_lt_mul'' ba' bb'; rwa [← Nat.pow_add] at this
  clear ba' bb'
  obtain ⟨F, hF⟩ : ∃ F, F = 6148914691236517205 := ⟨_, rfl⟩
  have HF := hide hF
  clear hF
  have bl := Below.refl w.heap.size w
  have CN := hide (fun w ob => kNew_box SN T w ob)
  unfold Tab.val at CN ⊢
  have hmf : ∀ (fn : Fn) (first cap : Array Value) (w : World), (Instr.makeFunc fn first cap).run Try.prog w = .ok (.func fn first cap) w := fun _ _ _ _ => rfl
  go_enter Try.func3, Try.ntmps3
  go_wp2_with fail
  refine (unhide Ca _).mono ?_
  rintro e wca ⟨rfl, rfl⟩
  clear Ca
  go_wp2_with fail
  refine (unhide Cb _).mono ?_
  rintro e wcb ⟨rfl, rfl⟩
  clear Cb
  go_wp2_with fail
  refine (unhide CN _ _).mono ?_
  rintro e w1 ⟨gk, ge, g, rfl, K, hk, he, hg, b⟩
  have lk := K.lt
  have le : ge < w1.heap.size := World.block_lt_of_cell? _ _ K.eng.ptr
  have lg := K.eng.met.lt
  have rA := rA.next b
  have rB := rB.next b
  have bl := bstep bl b
  clear b CN
  obtain ⟨N, hN⟩ : ∃ N, N = max n m := ⟨_, rfl⟩
  obtain ⟨M, hM⟩ : ∃ M, M = min n m := ⟨_, rfl⟩
  have hNi : max (n : Int) (m : Int) = (N : Int) := by omega
  have hMi : min (n : Int) (m : Int) = (M : Int) := by omega
  obtain ⟨N1, hN1⟩ : ∃ N1, N1 = N + 1 := ⟨_, rfl⟩
  obtain ⟨h, hh⟩ : ∃ h, h = N1 / 2 := ⟨_, rfl⟩
  obtain ⟨h1, hh1⟩ : ∃ h1, h1 = h + 1 := ⟨_, rfl⟩
  obtain ⟨q1, hq1⟩ : ∃ q1, q1 = N - h := ⟨_, rfl⟩
  obtain ⟨q2, hq2⟩ : ∃ q2 : Int, q2 = (M : Int) - (h : Int) := ⟨_, rfl⟩
  have e1 : (N : Int) + 1 = (N1 : Int) := by omega
  have e1w : IntKind.i64.wrap (N1 : Int) = (N1 : Int) := by rw [IntKind.wrap_i64]; omega
  have e2 : (N1 : Int).tdiv 2 = (h : Int) := by rw [hh]; rfl
  have e2' : (N1 : Int) / 2 = (h : Int) := by rw [hh]; rfl
  have e2w : IntKind.i64.wrap (h : Int) = (h : Int) := by rw [IntKind.wrap_i64]; omega
  have e3 : (N : Int) - (h : Int) = (q1 : Int) := by omega
  have e3w : IntKind.i64.wrap (q1 : Int) = (q1 : Int) := by rw [IntKind.wrap_i64]; omega
  have e4 : (M : Int) - (h : Int) = q2 := hq2.symm
  have e4w : IntKind.i64.wrap q2 = q2 := by rw [IntKind.wrap_i64]; omega
  have e5 : (h : Int) + 1 = (h1 : Int) := by omega
  have e5w : IntKind.i64.wrap (h1 : Int) = (h1 : Int) := by rw [IntKind.wrap_i64]; omega
  have HNM : Hid (N = max n m ∧ M = min n m ∧ h = (N + 1) / 2 ∧ h1 = h + 1 ∧ q1 = N - h) := ⟨hN, hM, by rw [hh, hN1], hh1, hq1⟩
  have HQ2 := hide hq2
  -- want
  have bW : Below w1.heap.size w1 (w1.alloc (.cells #[.int .i64 (h : Int), .int .i64 (h : Int), .int .i64 (q1 : Int), .int .i64 q2, .int .i64 (h1 : Int), .int .i64 (h1 : Int)] 28)) := (Below.refl _ _).alloc (Nat.le_refl _) _
  have kW := heap_alloc_new w1 (.cells #[.int .i64 (h : Int), .int .i64 (h : Int), .int .i64 (q1 : Int), .int .i64 q2, .int .i64 (h1 : Int), .int .i64 (h1 : Int)] 28)
  obtain ⟨W2, hW2⟩ : ∃ W2, w1.alloc (.cells #[.int .i64 (h : Int), .int .i64 (h : Int), .int .i64 (q1 : Int), .int .i64 q2, .int .i64 (h1 : Int), .int .i64 (h1 : Int)] 28) = W2 := ⟨_, rfl⟩
  rw [hW2] at bW kW
  obtain ⟨Wb, hWb⟩ : ∃ Wb, w1.heap.size = Wb := ⟨_, rfl⟩
  rw [hWb] at kW lk le lg
  have hWl : Wb < W2.heap.size := (Array.getElem?_eq_some_iff.1 kW).1
  have bX : Below W2.heap.size W2 (W2.alloc (.cells #[.slice (some ⟨Wb, 0, none⟩) 3 3] 29)) := (Below.refl _ _).alloc (Nat.le_refl _) _
  have oW : One (W2.alloc (.cells #[.slice (some ⟨Wb, 0, none⟩) 3 3] 29)) W2.heap.size (.slice (some ⟨Wb, 0, none⟩) 3 3) 29 := heap_alloc_new W2 _
  obtain ⟨W3, hW3⟩ : ∃ W3, W2.alloc (.cells #[.slice (some ⟨Wb, 0, none⟩) 3 3] 29) = W3 := ⟨_, rfl⟩
  rw [hW3] at bX oW
  obtain ⟨Wt, hWt⟩ : ∃ Wt, W2.heap.size = Wt := ⟨_, rfl⟩
  rw [hWt] at oW hWl
  have LWX : Hid (Wt < W3.heap.size) := oW.lt
  have kW : W3.heap[Wb]? = _ := (bX.block Wb (by omega)).trans kW
  have rA := (rA.next bW).next bX
  have rB := (rB.next bW).next bX
  have K := (K.next bW).next bX
  have bl := bstep (bstep bl bW) bX
  clear hN hM hN1 hh hh1 hq1 hq2 bW bX
  go_wp2_with fail
  refine (lend_any _ ga ba oa ca n us (unhide HXL) (by omega) rA F (unhide HF)).mono ?_
  rintro e w4 ⟨rfl, o4, b⟩
  obtain ⟨r4, t4⟩ := lent_rep o4 (unhide HXL)
  have rA := rA.next b
  have rB := rB.next b
  have K := K.next b
  have oW := oW.next b
  have kW := (b.block Wb (Array.getElem?_eq_some_iff.1 kW).1).trans kW
  have bl := bstep bl b
  have LX0 : Hid (W3.heap.size < w4.heap.size ∧ Wt < w4.heap.size) := ⟨t4.lt (by simp), oW.lt⟩
  clear b o4 hW2 hW3 hWb hWt e1 e1w e2 e2' e2w e3 e3w e4 e4w e5 e5w
  go_wp2_with fail
  refine (lend_any _ gb bb ob cb m vs (unhide HYL) (by omega) rB F (unhide HF)).mono ?_
  rintro e w5 ⟨rfl, o5, b⟩
  obtain ⟨r5, t5⟩ := lent_rep o5 (unhide HYL)
  have rA := rA.next b
  have rB := rB.next b
  have K := K.next b
  have oW := oW.next b
  have r4 := r4.next b
  have t4 := t4.next b
  have kW := (b.block Wb (Array.getElem?_eq_some_iff.1 kW).1).trans kW
  have bl := bstep bl b
  have LY : Hid (w4.heap.size < w5.heap.size) := t5.lt (by simp)
  have LX : Hid (W3.heap.size < w5.heap.size) := Nat.lt_trans (unhide LX0).1 (unhide LY)
  have LWt : Hid (Wt < w5.heap.size) := Nat.lt_trans (unhide LX0).2 (unhide LY)
  have LXY : Hid (W3.heap.size ≤ w4.heap.size) := Nat.le_of_lt (unhide LX0).1
  clear b o5
  have hCw : w.heap.size ≤ w5.heap.size := bl.size
  have bC : Below w5.heap.size w5 (w5.alloc (.cells #[.int .i64 0] 3)) := (Below.refl _ _).alloc (Nat.le_refl _) _
  have oC : One (w5.alloc (.cells #[.int .i64 0] 3)) w5.heap.size (.int .i64 ((0 : Nat) : Int)) 3 := heap_alloc_new w5 _
  have s6 : (w5.alloc (.cells #[.int .i64 0] 3)).heap.size = w5.heap.size + 1 := by simp
  have bR : Below (w5.alloc (.cells #[.int .i64 0] 3)).heap.size (w5.alloc (.cells #[.int .i64 0] 3)) ((w5.alloc (.cells #[.int .i64 0] 3)).alloc (.cells #[.bool true] 4)) := (Below.refl _ _).alloc (Nat.le_refl _) _
  have oR : One ((w5.alloc (.cells #[.int .i64 0] 3)).alloc (.cells #[.bool true] 4)) (w5.alloc (.cells #[.int .i64 0] 3)).heap.size (.bool true) 4 := heap_alloc_new _ _
  rw [s6] at oR
  have oC := oC.next bR
  have b := bstep bC bR
  have rA := rA.next b
  have rB := rB.next b
  have K := K.next b
  have oW := oW.next b
  have r4 := r4.next b
  have t4 := t4.next b
  have r5 := r5.next b
  have t5 := t5.next b
  have kW := (b.block Wb (Array.getElem?_eq_some_iff.1 kW).1).trans kW
  have bl := bstep bl b
  have z5 : Wt < w5.heap.size ∧ W3.heap.size < w5.heap.size ∧ w4.heap.size < w5.heap.size ∧ W3.heap.size ≤ w4.heap.size ∧ Wt < W3.heap.size := by
    refine ⟨unhide LWt, unhide LX, unhide LY, unhide LXY, unhide LWX⟩
  clear bC bR b s6
  obtain ⟨W7, hW7⟩ : ∃ W7, (w5.alloc (.cells #[.int .i64 0] 3)).alloc (.cells #[.bool true] 4) = W7 := ⟨_, rfl⟩
  rw [hW7] at oR oC rA rB K oW r4 t4 r5 t5 kW bl
  obtain ⟨C, hC⟩ : ∃ C, w5.heap.size = C := ⟨_, rfl⟩
  obtain ⟨X, hX⟩ : ∃ X, W3.heap.size = X := ⟨_, rfl⟩
  obtain ⟨Y, hY⟩ : ∃ Y, w4.heap.size = Y := ⟨_, rfl⟩
  rw [hC] at oC oR z5 hCw
  rw [hX] at r4 t4 z5
  rw [hY] at r5 t5 z5
  have HR := hide oR.lt
  obtain ⟨S7, hS7⟩ : ∃ S7, W7.heap.size = S7 := ⟨_, rfl⟩
  rw [hS7] at HR
  have hsw : w.heap.size ≤ S7 := by rw [← hS7]; exact bl.size
  obtain ⟨nN, nM, nh, nh1, nq1⟩ := unhide HNM
  have hgw := hg
  by_cases hno : M ≤ h
  · have hle : (M : Int) ≤ (h : Int) := by omega
    have CK := hide (SO W7 gk ge g 0 0 0 T (some ⟨X, 0, none⟩) (some ⟨Y, 0, none⟩) (n + 4) n (m + 4) m h (.func (.func 12) #[] #[.pointer (some ⟨C + 1, 0, none⟩), .pointer (some ⟨C, 0, none⟩), .pointer (some ⟨Wt, 0, none⟩)]) K (by decide) (by decide) (by omega) (by omega) (by rw [nh, nN]) (by omega))
    have HC : Hid (∀ W, Out (· = g) W7 W → W.cell? ⟨C, 0, none⟩ = some (.int .i64 0)) := fun W ho => (oC.out ho (fun (e : C = g) => by omega)).cell
    have CW := hide (karaWakes_any SN SK)
    have BL := hide bl
    have HG := hide hg
    clear oR oC rA rB K oW r4 t4 r5 t5 kW bl SN SK SO nN nM nh nh1 nq1
    go_wp2_with fail
    refine (unhide CK).mono ?_
    rintro e w8 ⟨⟨gv, cv, rfl⟩, ho⟩
    have cC := unhide HC _ ho
    have b8 := (unhide BL).trans (ho.below (B := w.heap.size) (unhide BL).size (fun k (hk : k = g) => by rw [hk]; exact unhide HG))
    clear CK ho
    go_wp2_with fail
    refine (unhide CW _).mono ?_
    rintro e w9 ⟨rfl, b9⟩
    have bl := bstep b8 b9
    go_wp2
    go_ret
    exact ⟨rfl, bl⟩
  · have hle : ¬ (M : Int) ≤ (h : Int) := by omega
    have CK := hide (SK W7 gk ge g 0 0 0 T (some ⟨X, 0, none⟩) (some ⟨Y, 0, none⟩) X 0 (n + 4) n Y 0 (m + 4) m h us vs 12 #[] #[.pointer (some ⟨C + 1, 0, none⟩), .pointer (some ⟨C, 0, none⟩), .pointer (some ⟨Wt, 0, none⟩)] (fun j => j = C + 1 ∨ j = C) (MSt gk ge g T (C + 1) C Wt Wb h q1 q2 h1) K (by decide) (by decide) (unhide HXL) r4 dx (fun _ (e : X = C + 1 ∨ X = C) => by omega) (unhide HYL) r5 dy (fun _ (e : Y = C + 1 ∨ Y = C) => by omega) (by omega) (by omega) (by rw [nh, nN]) (by omega) (by show ¬ (gk = C + 1 ∨ gk = C); omega) (by show ¬ (ge = C + 1 ∨ ge = C); omega) (by show ¬ (g = C + 1 ∨ g = C); omega) (fun j (hj : j = C + 1 ∨ j = C) => by have := unhide HR; rw [hS7]; omega)
      (by rw [← nN, ← nM]; exact muls_inn (by omega) (by omega) (by omega) (by omega) (by omega) (by omega) (by omega) nh (by omega) nq1 (unhide HQ2) nh1)
      (fun W ho hK => ⟨hK, oR.out ho (fun (e : C + 1 = g) => by omega), oC.out ho (fun (e : C = g) => by omega), oW.out ho (fun (e : Wt = g) => by omega), (ho.block Wb (Array.getElem?_eq_some_iff.1 kW).1 (fun (e : Wb = g) => by omega)).trans kW⟩))
    rw [← unhide HEA, ← unhide HED, hS7] at CK
    have CW := hide (karaWakes_any SN SK)
    clear r4 r5 oW kW K nN nM nh nh1 nq1 SN SK SO
    go_wp2_with fail
    refine (unhide CK).mono ?_
    rintro e w8 ⟨v, W, rfl, nv, sW, hO, hKK, hD⟩
    have K := hKK 0 1 sW.eng
    have cC : w8.cell? ⟨C, 0, none⟩ = some (.int .i64 3) := (sW.calls.out hO (fun (e : C = g) => by omega)).cell
    have cR := (sW.right.out hO (fun (e : C + 1 = g) => by omega)).cell
    have nD : ∀ k, (k = C + 1 ∨ k = C) ∨ k = g → k < S7 := fun k hk => by have := unhide HR; omega
    have rA := hD.rep rA (fun h0 => by have := unhide La h0; show ¬ ((ba = C + 1 ∨ ba = C) ∨ ba = g); omega)
    have rB := hD.rep rB (fun h0 => by have := unhide Lb h0; show ¬ ((bb = C + 1 ∨ bb = C) ∨ bb = g); omega)
    have t4 := hD.rep t4 (fun _ => by show ¬ ((X = C + 1 ∨ X = C) ∨ X = g); omega)
    have t5 := hD.rep t5 (fun _ => by show ¬ ((Y = C + 1 ∨ Y = C) ∨ Y = g); omega)
    have bl := bl.trans (hD.below (B := w.heap.size) bl.size (fun k hk => by omega))
    have h78 : S7 ≤ w8.heap.size := by rw [← hS7]; exact hD.size
    clear CK sW hO hKK hD oR oC
    go_wp2_with fail
    refine (unhide CFa _ rA).mono ?_
    rintro e w9 ⟨v1, rfl, n1, b⟩
    have rA := rA.next b
    have rB := rB.next b
    have t4 := t4.next b
    have t5 := t5.next b
    have K := K.next b
    have nv := nv.next b
    have bl := bstep bl b
    clear b
    clear cC cR
    go_wp2_with fail
    refine (unhide CFb _ rB).mono ?_
    rintro e w10 ⟨v2, rfl, n2, b⟩
    have n1 := n1.next b
    have rA := rA.next b
    have rB := rB.next b
    have t4 := t4.next b
    have t5 := t5.next b
    have K := K.next b
    have nv := nv.next b
    have bl := bstep bl b
    clear b
    go_wp2_with fail
    refine (mul_any _ v1 v2 A D 80 (by omega) (unhide Ba) (unhide Bb) n1 n2).mono ?_
    rintro e w11 ⟨v3, rfl, n3, b⟩
    clear n1 n2
    have rA := rA.next b
    have rB := rB.next b
    have t4 := t4.next b
    have t5 := t5.next b
    have K := K.next b
    have nv := nv.next b
    have bl := bstep bl b
    clear b
    go_wp2_with fail
    refine (same_new _ _ _ S7 _ 80 (by omega) (unhide HPR) n3 nv).mono ?_
    rintro e w12 ⟨rfl, b⟩
    clear n3
    have rA := rA.next b
    have rB := rB.next b
    have t4 := t4.next b
    have t5 := t5.next b
    have K := K.next b
    have nv := nv.next b
    have bl := bstep bl b
    clear b
    have cK := K.ptr
    have cE := K.eng.ptr
    go_wp2_with fail
    refine (muls_any K.eng.met).mono ?_
    rintro e w13 ⟨rfl, hw⟩
    obtain rfl := hw.symm
    clear hw
    go_wp2_with fail
    refine (deep_any K.eng.met).mono ?_
    rintro e w13 ⟨rfl, hw⟩
    obtain rfl := hw.symm
    clear hw
    go_wp2_with fail
    refine (now_any K.eng.met).mono ?_
    rintro e w13 ⟨rfl, hw⟩
    obtain rfl := hw.symm
    clear hw cK cE
    go_wp2_with fail
    refine (spoil_new _ _ _ _ nv).mono ?_
    rintro e w14 ⟨rfl, gs, hgs, g9, _⟩
    have bl := below_grown bl g9 (Nat.le_trans hsw hgs) bl.size
    have rA := rA.but g9 (fun h0 => by have := unhide La h0; omega)
    have rB := rB.but g9 (fun h0 => by have := unhide Lb h0; omega)
    have t4 := t4.but g9 (fun _ => by have := unhide HR; omega)
    have t5 := t5.but g9 (fun _ => by have := unhide HR; omega)
    clear nv g9 K
    go_wp2_with fail
    refine (intact_any _ ga X ba oa ca n us (unhide HXL) (by omega) rA F (unhide HF) t4).mono ?_
    rintro e w15 ⟨rfl, b⟩
    have rB := rB.next b
    have t5 := t5.next b
    have bl := bstep bl b
    clear b
    go_wp2_with fail
    refine (intact_any _ gb Y bb ob cb m vs (unhide HYL) (by omega) rB F (unhide HF) t5).mono ?_
    rintro e w16 ⟨rfl, b⟩
    have bl := bstep bl b
    clear b
    go_wp2_with fail
    refine (unhide CW _).mono ?_
    rintro e w17 ⟨rfl, b⟩
    have bl := bstep bl b
    go_wp2
    go_ret
    exact ⟨rfl, bl⟩

end Go.Proofs.Ytiojfgcahopfmaa

/- KaraSquares: what the law's walk comes to, once the code's KaraSqr is what the document asks. -/
namespace Go.Proofs.Ytiojfgcahopfmaa
open Go.RowKit

/-- What the closure of KaraSquares counts. -/
structure QSt (gk ge g : Nat) (T : Tab) (R C Wt Wb h q1 h1 : Nat) (i : Nat) (W : World) : Prop where
  eng : KEng W gk ge g 0 1 1 T
  right : One W R (.bool true) 4
  calls : One W C (.int .i64 (i : Int)) 3
  want : One W Wt (.slice (some ⟨Wb, 0, none⟩) 3 3) 54
  row : W.heap[Wb]? = some (.cells #[.int .i64 (h : Int), .int .i64 (q1 : Int), .int .i64 (h1 : Int)] 3 (0, 0))
theorem sqrs_inn {gk ge g : Nat} {T : Tab} {R C Wt Wb N h q1 h1 : Nat} (n0 : gk ≠ R ∧ gk ≠ C) (n1 : ge ≠ R ∧ ge ≠ C) (n2 : g ≠ R ∧ g ≠ C) (n3 : Wt ≠ R ∧ Wt ≠ C) (n4 : Wb ≠ R ∧ Wb ≠ C) (hN : N ≤ 40) (hh : h = (N + 1) / 2) (hq1 : q1 = N - h) (hh1 : h1 = h + 1) :
    Inn1 gk ge g 0 T N h 24 #[] #[.pointer (some ⟨R, 0, none⟩), .pointer (some ⟨C, 0, none⟩), .pointer (some ⟨Wt, 0, none⟩)] (fun j => j = R ∨ j = C) (QSt gk ge g T R C Wt Wb h q1 h1) := by
  refine ⟨fun _ _ => by kernel_rfl, fun i W W' s b => ⟨s.eng.next b, s.right.next b, s.calls.next b, s.want.next b, (b.block Wb (Array.getElem?_eq_some_iff.1 s.row).1).trans s.row⟩, fun i W s => ⟨0, 1, s.eng⟩, fun i W u a hi s hu => ?_⟩
  have hw : W.cell? ⟨Wb, i, none⟩ = some (.int .i64 ((klen N N h i).1 : Int)) ∧ (klen N N h i).1 ≤ 60 := by
    rw [cell_of_row W Wb i _ _ (0, 0) s.row]
    match i, hi with
    | 0, _ => exact ⟨rfl, by show h ≤ 60; omega⟩
    | 1, _ => exact ⟨by rw [hq1]; rfl, by show N - h ≤ 60; omega⟩
    | 2, _ => exact ⟨by rw [hh1]; rfl, by show h + 1 ≤ 60; omega⟩
  refine (sqrsClos_any W u a _ i R C Wt Wb _ hu hw.2 hi s.right s.calls s.want.cell hw.1).mono ?_
  rintro e W' ⟨r, rfl, nr, hR, hC, ho⟩
  have z : ∀ k, k ≠ R ∧ k ≠ C → ¬ (k = R ∨ k = C) := fun k hk => by omega
  exact ⟨r, rfl, nr, ⟨s.eng.out ho (z _ n0) (z _ n1) (z _ n2), hR, hC, s.want.out ho (z _ n3), (ho.block Wb (Array.getElem?_eq_some_iff.1 s.row).1 (z _ n4)).trans s.row⟩, ho.mono fun k hk => Or.inl hk⟩

set_option maxRecDepth 100000 in
set_option maxHeartbeats 12800000 in
theorem karaSquares_any (SN : SpecKNew) (SK : SpecKara) (SQ : SpecKaraSqr) (SO : SpecKaraSqrNo) (T : Tab) (ga : Option Addr) (ba oa ca la : Nat) (xs : List Nat) (w : World) (hx : xs.length = la) (hA : Rep w ga ba oa ca xs) (wx : ∀ j, xs.getD j 0 < 18446744073709551616) :
    Calls Try.prog 4 #[T.val, .slice ga la ca] w fun e w' => e = .returned (.bool true) ∧ Below w.heap.size w w' := by
  obtain ⟨n, hca⟩ : ∃ k, k = min la 40 := ⟨_, rfl⟩
  have Ca : Hid (∀ w, Calls Try.prog 8 #[.slice ga la ca, .int .i64 40] w fun e w' => e = .returned (.slice ga n ca) ∧ w' = w) := fun w => cut_any w ga la ca 40 n (by have := hA.room; omega) (by omega) hca
  obtain ⟨hla, rA⟩ := cut_rep hA 40 n (by rw [hx]; exact hca)
  have dx : WDig (xs.take n) := take_words wx n
  have hma : n ≤ 40 := by omega
  clear hca hA wx hx
  generalize xs.take n = us at *
  obtain ⟨A, hva⟩ : ∃ k, k = wval us := ⟨_, rfl⟩
  have ba' : A < 18446744073709551616 ^ 40 := by rw [hva]; exact pow_up (wval_lt_pow dx) (by omega)
  have Ba : Hid (A < 4294967296 ^ 80) := by have := ba'; rw [wpow] at this; exact this
  have CFa := hide (fun W (r : Rep W ga ba oa ca us) => from_kara W ga ba oa ca n A us hla (by omega) r dx hva)
  have HXL := hide hla
  have HEA := hide hva
  have La : Hid (0 < us.length → ba < w.heap.size) := fun h => rA.lt h
  clear hva hla
  have HPR : Hid (A * A < 18446744073709551616 ^ (40 + 40)) := by have := Nat.mul_lt_mul'' ba' ba'; rwa [← Nat.pow_add] at this
  clear ba'
  obtain ⟨F, hF⟩ : ∃ F, F = 6148914691236517205 := ⟨_, rfl⟩
  have HF := hide hF
  clear hF
  have bl := Below.refl w.heap.size w
  have CN := hide (fun w ob => kNew_box SN T w ob)
  unfold Tab.val at CN ⊢
  have hmf : ∀ (fn : Fn) (first cap : Array Value) (w : World), (Instr.makeFunc fn first cap).run Try.prog w = .ok (.func fn first cap) w := fun _ _ _ _ => rfl
  go_enter Try.func4, Try.ntmps4
  go_wp2_with fail
  refine (unhide Ca _).mono ?_
  rintro e wca ⟨rfl, rfl⟩
  clear Ca
  go_wp2_with fail
  refine (unhide CN _ _).mono ?_
  rintro e w1 ⟨gk, ge, g, rfl, K, hk, he, hg, b⟩
  have lk := K.lt
  have le : ge < w1.heap.size := World.block_lt_of_cell? _ _ K.eng.ptr
  have lg := K.eng.met.lt
  have rA := rA.next b
  have bl := bstep bl b
  clear b CN
  obtain ⟨N1, hN1⟩ : ∃ N1, N1 = n + 1 := ⟨_, rfl⟩
  obtain ⟨h, hh⟩ : ∃ h, h = N1 / 2 := ⟨_, rfl⟩
  obtain ⟨h1, hh1⟩ : ∃ h1, h1 = h + 1 := ⟨_, rfl⟩
  obtain ⟨q1, hq1⟩ : ∃ q1, q1 = n - h := ⟨_, rfl⟩
  have e1 : (n : Int) + 1 = (N1 : Int) := by omega
  have e1w : IntKind.i64.wrap (N1 : Int) = (N1 : Int) := by rw [IntKind.wrap_i64]; omega
  have e2 : (N1 : Int).tdiv 2 = (h : Int) := by rw [hh]; rfl
  have e2' : (N1 : Int) / 2 = (h : Int) := by rw [hh]; rfl
  have e2w : IntKind.i64.wrap (h : Int) = (h : Int) := by rw [IntKind.wrap_i64]; omega
  have e3 : (n : Int) - (h : Int) = (q1 : Int) := by omega
  have e3w : IntKind.i64.wrap (q1 : Int) = (q1 : Int) := by rw [IntKind.wrap_i64]; omega
  have e5 : (h : Int) + 1 = (h1 : Int) := by omega
  have e5w : IntKind.i64.wrap (h1 : Int) = (h1 : Int) := by rw [IntKind.wrap_i64]; omega
  have HNM : Hid (h = (n + 1) / 2 ∧ h1 = h + 1 ∧ q1 = n - h) := ⟨by rw [hh, hN1], hh1, hq1⟩
  have bW : Below w1.heap.size w1 (w1.alloc (.cells #[.int .i64 (h : Int), .int .i64 (q1 : Int), .int .i64 (h1 : Int)] 3)) := (Below.refl _ _).alloc (Nat.le_refl _) _
  have kW := heap_alloc_new w1 (.cells #[.int .i64 (h : Int), .int .i64 (q1 : Int), .int .i64 (h1 : Int)] 3)
  obtain ⟨W2, hW2⟩ : ∃ W2, w1.alloc (.cells #[.int .i64 (h : Int), .int .i64 (q1 : Int), .int .i64 (h1 : Int)] 3) = W2 := ⟨_, rfl⟩
  rw [hW2] at bW kW
  obtain ⟨Wb, hWb⟩ : ∃ Wb, w1.heap.size = Wb := ⟨_, rfl⟩
  rw [hWb] at kW lk le lg
  have hWl : Wb < W2.heap.size := (Array.getElem?_eq_some_iff.1 kW).1
  have bX : Below W2.heap.size W2 (W2.alloc (.cells #[.slice (some ⟨Wb, 0, none⟩) 3 3] 54)) := (Below.refl _ _).alloc (Nat.le_refl _) _
  have oW : One (W2.alloc (.cells #[.slice (some ⟨Wb, 0, none⟩) 3 3] 54)) W2.heap.size (.slice (some ⟨Wb, 0, none⟩) 3 3) 54 := heap_alloc_new W2 _
  obtain ⟨W3, hW3⟩ : ∃ W3, W2.alloc (.cells #[.slice (some ⟨Wb, 0, none⟩) 3 3] 54) = W3 := ⟨_, rfl⟩
  rw [hW3] at bX oW
  obtain ⟨Wt, hWt⟩ : ∃ Wt, W2.heap.size = Wt := ⟨_, rfl⟩
  rw [hWt] at oW hWl
  have LWX : Hid (Wt < W3.heap.size) := oW.lt
  have kW : W3.heap[Wb]? = _ := (bX.block Wb (by omega)).trans kW
  have rA := (rA.next bW).next bX
  have K := (K.next bW).next bX
  have bl := bstep (bstep bl bW) bX
  clear hN1 hh hh1 hq1 bW bX
  go_wp2_with fail
  refine (lend_any _ ga ba oa ca n us (unhide HXL) (by omega) rA F (unhide HF)).mono ?_
  rintro e w4 ⟨rfl, o4, b⟩
  obtain ⟨r4, t4⟩ := lent_rep o4 (unhide HXL)
  have rA := rA.next b
  have K := K.next b
  have oW := oW.next b
  have kW := (b.block Wb (Array.getElem?_eq_some_iff.1 kW).1).trans kW
  have bl := bstep bl b
  have LX0 : Hid (W3.heap.size < w4.heap.size ∧ Wt < w4.heap.size) := ⟨t4.lt (by simp), oW.lt⟩
  clear b o4 hW2 hW3 hWb hWt e1 e1w e2 e2' e2w e3 e3w e5 e5w
  have hCw : w.heap.size ≤ w4.heap.size := bl.size
  have bC : Below w4.heap.size w4 (w4.alloc (.cells #[.int .i64 0] 3)) := (Below.refl _ _).alloc (Nat.le_refl _) _
  have oC : One (w4.alloc (.cells #[.int .i64 0] 3)) w4.heap.size (.int .i64 ((0 : Nat) : Int)) 3 := heap_alloc_new w4 _
  have s6 : (w4.alloc (.cells #[.int .i64 0] 3)).heap.size = w4.heap.size + 1 := by simp
  have bR : Below (w4.alloc (.cells #[.int .i64 0] 3)).heap.size (w4.alloc (.cells #[.int .i64 0] 3)) ((w4.alloc (.cells #[.int .i64 0] 3)).alloc (.cells #[.bool true] 4)) := (Below.refl _ _).alloc (Nat.le_refl _) _
  have oR : One ((w4.alloc (.cells #[.int .i64 0] 3)).alloc (.cells #[.bool true] 4)) (w4.alloc (.cells #[.int .i64 0] 3)).heap.size (.bool true) 4 := heap_alloc_new _ _
  rw [s6] at oR
  have oC := oC.next bR
  have b := bstep bC bR
  have rA := rA.next b
  have K := K.next b
  have oW := oW.next b
  have r4 := r4.next b
  have t4 := t4.next b
  have kW := (b.block Wb (Array.getElem?_eq_some_iff.1 kW).1).trans kW
  have bl := bstep bl b
  have z5 : Wt < w4.heap.size ∧ W3.heap.size < w4.heap.size ∧ Wt < W3.heap.size := ⟨(unhide LX0).2, (unhide LX0).1, unhide LWX⟩
  clear bC bR b s6
  obtain ⟨W7, hW7⟩ : ∃ W7, (w4.alloc (.cells #[.int .i64 0] 3)).alloc (.cells #[.bool true] 4) = W7 := ⟨_, rfl⟩
  rw [hW7] at oR oC rA K oW r4 t4 kW bl
  obtain ⟨C, hC⟩ : ∃ C, w4.heap.size = C := ⟨_, rfl⟩
  obtain ⟨X, hX⟩ : ∃ X, W3.heap.size = X := ⟨_, rfl⟩
  rw [hC] at oC oR z5 hCw
  rw [hX] at r4 t4 z5
  have HR := hide oR.lt
  obtain ⟨S7, hS7⟩ : ∃ S7, W7.heap.size = S7 := ⟨_, rfl⟩
  rw [hS7] at HR
  have hsw : w.heap.size ≤ S7 := by rw [← hS7]; exact bl.size
  obtain ⟨nh, nh1, nq1⟩ := unhide HNM
  have CW := hide (karaWakes_any SN SK)
  by_cases hno : n < 2
  · have hle : (n : Int) < 2 := by omega
    have CK := hide (SO W7 gk ge g 0 0 0 T (some ⟨X, 0, none⟩) (n + 4) n (.func (.func 24) #[] #[.pointer (some ⟨C + 1, 0, none⟩), .pointer (some ⟨C, 0, none⟩), .pointer (some ⟨Wt, 0, none⟩)]) K (by decide) (by decide) hno)
    have HC : Hid (∀ W, Out (· = g) W7 W → W.cell? ⟨C, 0, none⟩ = some (.int .i64 0)) := fun W ho => (oC.out ho (fun (e : C = g) => by omega)).cell
    have BL := hide bl
    have HG := hide hg
    clear oR oC rA K oW r4 t4 kW bl SN SK SO SQ nh nh1 nq1
    go_wp2_with fail
    refine (unhide CK).mono ?_
    rintro e w8 ⟨⟨gv, cv, rfl⟩, ho⟩
    have cC := unhide HC _ ho
    have b8 := (unhide BL).trans (ho.below (B := w.heap.size) (unhide BL).size (fun k (hk : k = g) => by rw [hk]; exact unhide HG))
    clear CK ho
    go_wp2_with fail
    refine (unhide CW _).mono ?_
    rintro e w9 ⟨rfl, b9⟩
    have bl := bstep b8 b9
    go_wp2
    go_ret
    exact ⟨rfl, bl⟩
  · have hle : ¬ (n : Int) < 2 := by omega
    have CK := hide (SQ W7 gk ge g 0 0 0 T (some ⟨X, 0, none⟩) X 0 (n + 4) n h us 24 #[] #[.pointer (some ⟨C + 1, 0, none⟩), .pointer (some ⟨C, 0, none⟩), .pointer (some ⟨Wt, 0, none⟩)] (fun j => j = C + 1 ∨ j = C) (QSt gk ge g T (C + 1) C Wt Wb h q1 h1) K (by decide) (by decide) (unhide HXL) r4 dx (fun _ (e : X = C + 1 ∨ X = C) => by omega) (by omega) nh (by omega) (by show ¬ (gk = C + 1 ∨ gk = C); omega) (by show ¬ (ge = C + 1 ∨ ge = C); omega) (by show ¬ (g = C + 1 ∨ g = C); omega) (fun j (hj : j = C + 1 ∨ j = C) => by have := unhide HR; rw [hS7]; omega)
      (sqrs_inn (by omega) (by omega) (by omega) (by omega) (by omega) (by omega) nh nq1 nh1)
      (fun W ho hK => ⟨hK, oR.out ho (fun (e : C + 1 = g) => by omega), oC.out ho (fun (e : C = g) => by omega), oW.out ho (fun (e : Wt = g) => by omega), (ho.block Wb (Array.getElem?_eq_some_iff.1 kW).1 (fun (e : Wb = g) => by omega)).trans kW⟩))
    rw [← unhide HEA, hS7] at CK
    clear r4 oW kW K nh nh1 nq1 SN SK SO SQ
    go_wp2_with fail
    refine (unhide CK).mono ?_
    rintro e w8 ⟨v, W, rfl, nv, sW, hO, hKK, hD⟩
    have K := hKK 0 1 sW.eng
    have cC : w8.cell? ⟨C, 0, none⟩ = some (.int .i64 3) := (sW.calls.out hO (fun (e : C = g) => by omega)).cell
    have cR := (sW.right.out hO (fun (e : C + 1 = g) => by omega)).cell
    have rA := hD.rep rA (fun h0 => by have := unhide La h0; show ¬ ((ba = C + 1 ∨ ba = C) ∨ ba = g); omega)
    have t4 := hD.rep t4 (fun _ => by show ¬ ((X = C + 1 ∨ X = C) ∨ X = g); omega)
    have bl := bl.trans (hD.below (B := w.heap.size) bl.size (fun k hk => by omega))
    clear CK sW hO hKK hD oR oC
    go_wp2_with fail
    refine (unhide CFa _ rA).mono ?_
    rintro e w9 ⟨v1, rfl, n1, b⟩
    have rA := rA.next b
    have t4 := t4.next b
    have K := K.next b
    have nv := nv.next b
    have bl := bstep bl b
    clear b
    go_wp2_with fail
    refine (unhide CFa _ rA).mono ?_
    rintro e w10 ⟨v2, rfl, n2, b⟩
    have n1 := n1.next b
    have rA := rA.next b
    have t4 := t4.next b
    have K := K.next b
    have nv := nv.next b
    have bl := bstep bl b
    clear b
    go_wp2_with fail
    refine (mul_any _ v1 v2 A A 80 (by omega) (unhide Ba) (unhide Ba) n1 n2).mono ?_
    rintro e w11 ⟨v3, rfl, n3, b⟩
    clear n1 n2
    have rA := rA.next b
    have t4 := t4.next b
    have K := K.next b
    have nv := nv.next b
    have bl := bstep bl b
    clear b
    go_wp2_with fail
    refine (same_new _ _ _ S7 _ 80 (by omega) (unhide HPR) n3 nv).mono ?_
    rintro e w12 ⟨rfl, b⟩
    clear n3
    have rA := rA.next b
    have t4 := t4.next b
    have K := K.next b
    have bl := bstep bl b
    clear b nv
    have cK := K.ptr
    have cE := K.eng.ptr
    go_wp2_with fail
    refine (muls_any K.eng.met).mono ?_
    rintro e w13 ⟨rfl, hw⟩
    obtain rfl := hw.symm
    clear hw cK cE K
    go_wp2_with fail
    refine (intact_any _ ga X ba oa ca n us (unhide HXL) (by omega) rA F (unhide HF) t4).mono ?_
    rintro e w15 ⟨rfl, b⟩
    have bl := bstep bl b
    clear b
    go_wp2_with fail
    refine (unhide CW _).mono ?_
    rintro e w17 ⟨rfl, b⟩
    have bl := bstep bl b
    go_wp2
    go_ret
    exact ⟨rfl, bl⟩

end Go.Proofs.Ytiojfgcahopfmaa

/- KaraBoth: what the law's walk comes to, once the code's Both is what the document asks. -/
namespace Go.Proofs.Ytiojfgcahopfmaa
open Go.RowKit

set_option maxRecDepth 100000 in
set_option maxHeartbeats 12800000 in
theorem karaBoth_any (SN : SpecKNew) (SK : SpecKara) (SB : SpecBoth) (T : Tab) (ga : Option Addr) (ba oa ca la : Nat) (xs : List Nat) (gb : Option Addr) (bb ob cb lb : Nat) (ys : List Nat) (w : World) (hx : xs.length = la) (hA : Rep w ga ba oa ca xs) (wx : ∀ j, xs.getD j 0 < 18446744073709551616) (hy : ys.length = lb) (hB : Rep w gb bb ob cb ys) (wy : ∀ j, ys.getD j 0 < 18446744073709551616) :
    Calls Try.prog 5 #[T.val, .slice ga la ca, .slice gb lb cb] w fun e w' => e = .returned (.bool true) ∧ Below w.heap.size w w' := by
  obtain ⟨n, hca⟩ : ∃ k, k = min la 60 := ⟨_, rfl⟩
  have Ca : Hid (∀ w, Calls Try.prog 8 #[.slice ga la ca, .int .i64 60] w fun e w' => e = .returned (.slice ga n ca) ∧ w' = w) := fun w => cut_any w ga la ca 60 n (by have := hA.room; omega) (by omega) hca
  obtain ⟨hla, rA⟩ := cut_rep hA 60 n (by rw [hx]; exact hca)
  have dx : WDig (xs.take n) := take_words wx n
  have hma : n ≤ 60 := by omega
  obtain ⟨m, hcb⟩ : ∃ k, k = min lb 60 := ⟨_, rfl⟩
  have Cb : Hid (∀ w, Calls Try.prog 8 #[.slice gb lb cb, .int .i64 60] w fun e w' => e = .returned (.slice gb m cb) ∧ w' = w) := fun w => cut_any w gb lb cb 60 m (by have := hB.room; omega) (by omega) hcb
  obtain ⟨hlb, rB⟩ := cut_rep hB 60 m (by rw [hy]; exact hcb)
  have dy : WDig (ys.take m) := take_words wy m
  have hmb : m ≤ 60 := by omega
  clear hca hA wx hx hcb hB wy hy
  generalize xs.take n = us at *
  generalize ys.take m = vs at *
  obtain ⟨A, hva⟩ : ∃ k, k = wval us := ⟨_, rfl⟩
  have ba' : A < 18446744073709551616 ^ 60 := by rw [hva]; exact pow_up (wval_lt_pow dx) (by omega)
  have Ba : Hid (A < 4294967296 ^ 120) := by have := ba'; rw [wpow] at this; exact this
  have CFa := hide (fun W (r : Rep W ga ba oa ca us) => from_kara W ga ba oa ca n A us hla (by omega) r dx hva)
  have HXL := hide hla
  have HEA := hide hva
  have La : Hid (0 < us.length → ba < w.heap.size) := fun h => rA.lt h
  clear hva hla
  obtain ⟨D, hvb⟩ : ∃ k, k = wval vs := ⟨_, rfl⟩
  have bb' : D < 18446744073709551616 ^ 60 := by rw [hvb]; exact pow_up (wval_lt_pow dy) (by omega)
  have Bb : Hid (D < 4294967296 ^ 120) := by have := bb'; rw [wpow] at this; exact this
  have CFb := hide (fun W (r : Rep W gb bb ob cb vs) => from_kara W gb bb ob cb m D vs hlb (by omega) r dy hvb)
  have HYL := hide hlb
  have HED := hide hvb
  have Lb : Hid (0 < vs.length → bb < w.heap.size) := fun h => rB.lt h
  clear hvb hlb
  have HPR : Hid (A * D < 18446744073709551616 ^ (60 + 60)) := by have := Nat.mul_lt_mul'' ba' bb'; rwa [← Nat.pow_add] at this
  clear ba' bb'
  obtain ⟨F, hF⟩ : ∃ F, F = 6148914691236517205 := ⟨_, rfl⟩
  have HF := hide hF
  clear hF
  have bl := Below.refl w.heap.size w
  have CN := hide (fun w ob => kNew_box SN T w ob)
  unfold Tab.val at CN ⊢
  have hmf : ∀ (fn : Fn) (first cap : Array Value) (w : World), (Instr.makeFunc fn first cap).run Try.prog w = .ok (.func fn first cap) w := fun _ _ _ _ => rfl
  go_enter Try.func5, Try.ntmps5
  go_wp2_with fail
  refine (unhide Ca _).mono ?_
  rintro e wca ⟨rfl, rfl⟩
  clear Ca
  go_wp2_with fail
  refine (unhide Cb _).mono ?_
  rintro e wcb ⟨rfl, rfl⟩
  clear Cb
  go_wp2_with fail
  refine (unhide CN _ _).mono ?_
  rintro e w1 ⟨gk, ge, g, rfl, K, hk, he, hg, b⟩
  have rA := rA.next b
  have rB := rB.next b
  have bl := bstep bl b
  have lg := K.eng.met.lt
  clear b CN
  go_wp2_with fail
  refine (lend_any _ ga ba oa ca n us (unhide HXL) (by omega) rA F (unhide HF)).mono ?_
  rintro e w4 ⟨rfl, o4, b⟩
  obtain ⟨r4, t4⟩ := lent_rep o4 (unhide HXL)
  have l4 : w1.heap.size < w4.heap.size := t4.lt (by simp)
  have rA := rA.next b
  have rB := rB.next b
  have K := K.next b
  have bl := bstep bl b
  clear b o4
  go_wp2_with fail
  refine (lend_any _ gb bb ob cb m vs (unhide HYL) (by omega) rB F (unhide HF)).mono ?_
  rintro e w5 ⟨rfl, o5, b⟩
  obtain ⟨r5, t5⟩ := lent_rep o5 (unhide HYL)
  have l5 : w4.heap.size < w5.heap.size := t5.lt (by simp)
  have rA := rA.next b
  have rB := rB.next b
  have K := K.next b
  have r4 := r4.next b
  have t4 := t4.next b
  have bl := bstep bl b
  clear b o5
  obtain ⟨X, hX⟩ : ∃ X, w1.heap.size = X := ⟨_, rfl⟩
  obtain ⟨Y, hY⟩ : ∃ Y, w4.heap.size = Y := ⟨_, rfl⟩
  obtain ⟨S5, hS5⟩ : ∃ S5, w5.heap.size = S5 := ⟨_, rfl⟩
  rw [hX] at r4 t4 l4 lg
  rw [hY] at r5 t5 l4 l5
  rw [hS5] at l5
  have hsw : w.heap.size ≤ S5 := by rw [← hS5]; exact bl.size
  have CB := hide (SB w5 gk ge g 0 0 0 T (some ⟨X, 0, none⟩) (some ⟨Y, 0, none⟩) X 0 (n + 4) n Y 0 (m + 4) m us vs K (by decide) (by decide) (by decide) (by decide) (unhide HXL) r4 dx (unhide HYL) r5 dy hma hmb)
  rw [← unhide HEA, ← unhide HED, hS5] at CB
  have CW := hide (karaWakes_any SN SK)
  clear r4 r5 K SN SK SB
  go_wp2_with fail
  refine (unhide CB).mono ?_
  rintro e w8 ⟨v, s', m', rfl, nv, K, hD, _⟩
  have rA := hD.rep rA (fun h0 => by have := unhide La h0; show ¬ ba = g; omega)
  have rB := hD.rep rB (fun h0 => by have := unhide Lb h0; show ¬ bb = g; omega)
  have t4 := hD.rep t4 (fun _ => by show ¬ X = g; omega)
  have t5 := hD.rep t5 (fun _ => by show ¬ Y = g; omega)
  have bl := bl.trans (hD.below (B := w.heap.size) bl.size (fun k (hk : k = g) => by omega))
  clear CB hD
  go_wp2_with fail
  refine (unhide CFa _ rA).mono ?_
  rintro e w9 ⟨v1, rfl, n1, b⟩
  have rA := rA.next b
  have rB := rB.next b
  have t4 := t4.next b
  have t5 := t5.next b
  have K := K.next b
  have nv := nv.next b
  have bl := bstep bl b
  clear b
  go_wp2_with fail
  refine (unhide CFb _ rB).mono ?_
  rintro e w10 ⟨v2, rfl, n2, b⟩
  have n1 := n1.next b
  have rA := rA.next b
  have rB := rB.next b
  have t4 := t4.next b
  have t5 := t5.next b
  have K := K.next b
  have nv := nv.next b
  have bl := bstep bl b
  clear b
  go_wp2_with fail
  refine (mul_any _ v1 v2 A D 120 (by omega) (unhide Ba) (unhide Bb) n1 n2).mono ?_
  rintro e w11 ⟨v3, rfl, n3, b⟩
  clear n1 n2
  have rA := rA.next b
  have rB := rB.next b
  have t4 := t4.next b
  have t5 := t5.next b
  have K := K.next b
  have nv := nv.next b
  have bl := bstep bl b
  clear b
  go_wp2_with fail
  refine (same_new _ _ _ S5 _ 120 (by omega) (unhide HPR) n3 nv).mono ?_
  rintro e w12 ⟨rfl, b⟩
  clear n3
  have rA := rA.next b
  have rB := rB.next b
  have t4 := t4.next b
  have t5 := t5.next b
  have K := K.next b
  have nv := nv.next b
  have bl := bstep bl b
  clear b
  have cK := K.ptr
  have cE := K.eng.ptr
  go_wp2_with fail
  refine (now_any K.eng.met).mono ?_
  rintro e w13 ⟨rfl, hw⟩
  obtain rfl := hw.symm
  clear hw cK cE
  go_wp2_with fail
  refine (spoil_new _ _ _ _ nv).mono ?_
  rintro e w14 ⟨rfl, gs, hgs, g9, _⟩
  have bl := below_grown bl g9 (Nat.le_trans hsw hgs) bl.size
  have rA := rA.but g9 (fun h0 => by have := unhide La h0; omega)
  have rB := rB.but g9 (fun h0 => by have := unhide Lb h0; omega)
  have t4 := t4.but g9 (fun _ => by omega)
  have t5 := t5.but g9 (fun _ => by omega)
  clear nv g9 K
  go_wp2_with fail
  refine (intact_any _ ga X ba oa ca n us (unhide HXL) (by omega) rA F (unhide HF) t4).mono ?_
  rintro e w15 ⟨rfl, b⟩
  have rB := rB.next b
  have t5 := t5.next b
  have bl := bstep bl b
  clear b
  go_wp2_with fail
  refine (intact_any _ gb Y bb ob cb m vs (unhide HYL) (by omega) rB F (unhide HF) t5).mono ?_
  rintro e w16 ⟨rfl, b⟩
  have bl := bstep bl b
  clear b
  go_wp2_with fail
  refine (unhide CW _).mono ?_
  rintro e w17 ⟨rfl, b⟩
  have bl := bstep bl b
  go_wp2
  go_ret
  exact ⟨rfl, bl⟩

end Go.Proofs.Ytiojfgcahopfmaa
