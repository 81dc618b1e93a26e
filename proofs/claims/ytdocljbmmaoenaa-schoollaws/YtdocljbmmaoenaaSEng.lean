/- An engine of school: New; Mul and Sqr. -/
import Derived.Test.YtdocljbmmaoenaaSSqs
import Derived.Test.YtdocljbmmaoenaaTNew
import Derived.Test.YtdocljbmmaoenaaThree
namespace Go.Proofs.Ytdocljbmmaoenaa
open Go.RowKit

/-- At block ge lies an engine; its tune lies at block g; its meter has spent s. -/
structure Eng (w : World) (ge g : Nat) (s : Int) : Prop where
  ptr : w.cell? ⟨ge, 0, none⟩ = some (.pointer (some ⟨g, 0, none⟩))
  met : Met w g 0 s 0 0
  ne : ge ≠ g
  ints : ∀ j v, w.cell? ⟨g, j, none⟩ = some v → ∃ z, v = .int .i64 z
theorem Eng.next {w w' : World} {ge g : Nat} {s : Int} (h : Eng w ge g s) (b : Below w.heap.size w w') : Eng w' ge g s :=
  ⟨(b.cell (World.block_lt_of_cell? _ _ h.ptr)).trans h.ptr, h.met.next b, h.ne, fun j v hv => h.ints j v ((b.cell (p := ⟨g, j, none⟩) h.met.lt).symm.trans hv)⟩
theorem Eng.step {w w' : World} {ge g : Nat} {s s' : Int} (h : Eng w ge g s) (m : Met w' g 0 s' 0 0) (t : Touch g 0 3 w w') : Eng w' ge g s' :=
  ⟨t.grown.cell h.ptr (by simpa using h.ne), m, h.ne, fun j v hv => by
    by_cases hj : 3 ≤ j
    · exact h.ints j v ((t.cell j (by omega)).symm.trans hv)
    · match j, hj with
      | 0, _ => exact ⟨_, Option.some.inj (hv.symm.trans m.c0)⟩
      | 1, _ => exact ⟨_, Option.some.inj (hv.symm.trans m.c1)⟩
      | 2, _ => exact ⟨_, Option.some.inj (hv.symm.trans m.c2)⟩
      | j + 3, hj => omega⟩
/-- No row of words lies in a tune. -/
theorem Eng.away {w : World} {ge g : Nat} {s : Int} (h : Eng w ge g s) {ga : Option Addr} {b o cap : Nat} {xs : List Nat} (r : Rep w ga b o cap xs) : 0 < xs.length → b ≠ g := fun h0 e => by
  subst e
  obtain ⟨z, hz⟩ := h.ints _ _ (r.cell 0 h0)
  injection hz with hk
  cases hk
/-- What an engine does leaves all rows of words, and all naturals. -/
theorem Eng.rep {w w' : World} {ge g : Nat} {s : Int} (h : Eng w ge g s) (G : w.grownBy w' (some g)) {ga : Option Addr} {b o cap : Nat} {xs : List Nat} (r : Rep w ga b o cap xs) : Rep w' ga b o cap xs := r.but G (h.away r)
theorem Eng.isN {w w' : World} {ge g : Nat} {s : Int} (h : Eng w ge g s) (G : w.grownBy w' (some g)) {v : Value} {n : Nat} (r : IsN w v n) : IsN w' v n := by
  obtain ⟨ga, b, o, cap, xs, rfl, hr, hc, hv⟩ := r
  exact ⟨ga, b, o, cap, xs, rfl, h.rep G hr, hc, hv⟩
theorem Tune.ints {w : World} {g : Nat} {T : Tab} (h : Tune w g T) : ∀ j v, w.cell? ⟨g, j, none⟩ = some v → ∃ z, v = .int .i64 z := fun j v hv => by
  rw [cell_of_row w g j _ _ (0, 0) h.row] at hv
  have hm := Array.mem_of_getElem? hv
  simp at hm
  rcases hm with h | h | h | h | h | h | h | h | h | h | h | h <;> exact ⟨_, h⟩

/-- A row of l words that says n, in no cell of block g. -/
def InG (g : Nat) (w : World) (v : Value) (n l : Nat) : Prop :=
  ∃ ga b o cap xs, v = .slice ga l cap ∧ xs.length = l ∧ Rep w ga b o cap xs ∧ WDig xs ∧ wval xs = n ∧ (0 < l → b ≠ g)
theorem InG.but {g : Nat} {w w' : World} {v : Value} {n l : Nat} (h : InG g w v n l) (hb : w.grownBy w' (some g)) : InG g w' v n l := by
  obtain ⟨ga, b, o, cap, xs, rfl, hl, hr, hd, hv, hn⟩ := h
  exact ⟨ga, b, o, cap, xs, rfl, hl, hr.but hb (by rw [hl]; exact hn), hd, hv, hn⟩
theorem InG.next {g : Nat} {w w' : World} {v : Value} {n l : Nat} (h : InG g w v n l) (hb : Below w.heap.size w w') : InG g w' v n l := by
  obtain ⟨ga, b, o, cap, xs, rfl, hl, hr, hd, hv, hn⟩ := h
  exact ⟨ga, b, o, cap, xs, rfl, hl, hr.next hb, hd, hv, hn⟩
/-- What limb or school answers lies in no cell of an older block. -/
theorem NewW.toG {B g : Nat} {w : World} {v : Value} {n L : Nat} (h : NewW B w v n) (hg : g < B) (hn : n < 18446744073709551616 ^ L) : ∃ l, l ≤ L ∧ InG g w v n l := by
  obtain ⟨ga, b, cap, xs, rfl, hr, hc, hv, hb⟩ := h.rep
  exact ⟨xs.length, wlen_le hc (by rw [hv]; exact hn), ga, b, 0, cap, xs, rfl, rfl, hr, hc.1, hv, fun h => by have := hb h; omega⟩

set_option maxHeartbeats 1600000 in
theorem schoolNew_any (T : Tab) (w : World) :
    Calls Try.prog 8 #[T.val] w fun e w' => ∃ ge g, e = .returned (.pointer (some ⟨ge, 0, none⟩)) ∧ Eng w' ge g 0 ∧ w.heap.size ≤ g ∧ w.heap.size ≤ ge ∧ Below w.heap.size w w' := by
  have CC := hide (fun w => new_any T w)
  unfold Tab.val at CC ⊢
  go_enter Try.func8, Try.ntmps8
  go_wp2_with fail
  refine (unhide CC _).mono ?_
  rintro e w1 ⟨g, rfl, tn, hg, b1⟩
  have hg' : w.heap.size ≤ g := Nat.le_trans (by simp) hg
  have b0 := hide (bstep ((Below.refl w.heap.size w).alloc (Nat.le_refl _) _) b1)
  have tl := tn.lt
  have HT := hide tn
  clear tn CC b1 hg
  go_wp2
  go_ret
  refine ⟨w1.heap.size, g, rfl, ⟨?_, ?_, by omega, ?_⟩, hg', (unhide b0).size, (unhide b0).alloc (unhide b0).size _⟩
  · exact cell_of_row _ w1.heap.size 0 _ _ (0, 0) (heap_alloc_new w1 _)
  · exact (unhide HT).met.next ((Below.refl _ _).alloc (Nat.le_refl _) _)
  · exact ((unhide HT).next ((Below.refl _ _).alloc (Nat.le_refl _) _)).ints

theorem touch_spend {w w' : World} {g : Nat} (h : Touch g 0 3 w w') : w.grownBy w' (some g) := h.grown
theorem mul_fits {la lb : Nat} (ha : la ≤ 1048576) (hb : lb ≤ 1048576) : la * lb ≤ 1099511627776 := Nat.mul_le_mul ha hb

set_option maxRecDepth 100000 in
set_option maxHeartbeats 6400000 in
theorem schoolMul_any {w : World} {ge g : Nat} {s : Int} (E : Eng w ge g s) (u v : Value) (m n la lb : Nat) (hu : InG g w u m la) (hv : InG g w v n lb) (ha : la ≤ 1048576) (hb : lb ≤ 1048576) (hs0 : 0 ≤ s) (hs : s ≤ 4611686018427387904) :
    Calls Try.prog 10 #[.pointer (some ⟨ge, 0, none⟩), u, v] w fun e w' => ∃ r, e = .returned r ∧ NewW w.heap.size w' r (m * n) ∧ Eng w' ge g (s + ((la * lb : Nat) : Int)) ∧ w.grownBy w' (some g) := by
  obtain ⟨ga, ba, oa, ca, xs, rfl, hx, rA, dx, rfl, na⟩ := hu
  obtain ⟨gb, bb, ob, cb, ys, rfl, hy, rB, dy, rfl, nb⟩ := hv
  have cE := E.ptr
  have hpm := mul_fits ha hb
  obtain ⟨P, hP⟩ : ∃ P, P = la * lb := ⟨_, rfl⟩
  have hPi : (la : Int) * (lb : Int) = (P : Int) := by rw [hP]; exact (Int.natCast_mul la lb).symm
  rw [← hP] at hpm ⊢
  have hwP : IntKind.i64.wrap (P : Int) = (P : Int) := by rw [IntKind.wrap_i64]; omega
  have CS := hide (spend_any (P : Int) (s + (P : Int)) E.met (by omega) (by omega) (by omega))
  obtain ⟨N, hN⟩ : ∃ N, N = la + lb := ⟨_, rfl⟩
  have hN' : (la : Int) + (lb : Int) = (N : Int) := by omega
  have hwN : IntKind.i64.wrap (N : Int) = (N : Int) := by rw [IntKind.wrap_i64]; omega
  have hmk := make_nat N N (N : Int) rfl rfl (by omega)
  have HE := hide E
  have HN := hide hN
  have hNb : N ≤ 2097152 := by omega
  have rA := rA.but (w' := w) (grown_refl _ _) (by rw [hx]; exact na)
  have NA : Hid (0 < xs.length → ba ≠ g) := by rw [hx]; exact na
  have NB : Hid (0 < ys.length → bb ≠ g) := by rw [hy]; exact nb
  clear hP E hN hs na nb
  go_enter Try.func10, Try.ntmps10
  go_wp2_with fail
  refine (unhide CS).mono ?_
  rintro e w1 ⟨rfl, M1, T1⟩
  have G1 := touch_spend T1
  have rA := rA.but G1 (unhide NA)
  have rB := rB.but G1 (unhide NB)
  have E1 := hide ((unhide HE).step M1 T1)
  have S1 := hide G1.size
  have G1 := hide G1
  have bA : Hid (0 < xs.length → ba < w1.heap.size) := fun h => rA.lt h
  have hk0 := hide (blk_noughts w1 N)
  have HB0 := hide ((Below.refl w1.heap.size w1).alloc (Nat.le_refl _) (.cells (zlist N).toArray 55))
  clear CS M1 T1 cE
  go_wp2
  have hst : Hid (MRow xs ys (List.replicate N 0) N 0) := m_start xs ys N
  go_loopw [30] (fun i wr => ∃ (k : Nat) (zs : List Nat), k ≤ lb ∧ i = .int .i64 (k : Int) ∧ Blk wr w1.heap.size zs ∧ Hid (MRow xs ys zs N k) ∧ Below w1.heap.size w1 wr)
    (fun i _ => lb - (intOf i).toNat)
  case atStart => exact ⟨0, _, Nat.zero_le _, rfl, unhide hk0, hst, unhide HB0⟩
  case round =>
    obtain ⟨k, z0, hk, rfl, hBlk, hAt, hnx⟩ := hrel
    have hzl : z0.length = N := hAt.out.1
    by_cases h1 : k < lb
    · obtain rfl := rB.head (by omega)
      obtain ⟨y, hyy⟩ : ∃ y : Nat, y = ys.getD k 0 := ⟨_, rfl⟩
      have hy64 : y < 18446744073709551616 := by rw [hyy]; exact dy k
      have cy : wr.cell? ⟨bb, ob + k, none⟩ = some (.int .u64 (y : Int)) := by rw [hyy]; exact (rB.next hnx).cell k (by omega)
      obtain ⟨M, hM⟩ : ∃ M, N = k + M := ⟨N - k, by have := unhide HN; omega⟩
      obtain ⟨t, ht⟩ : ∃ t, t = k + la := ⟨_, rfl⟩
      have CA := hide (fun W (hB : Blk W w1.heap.size z0) (hr : Rep W ga ba oa ca xs) => addTimes_any W w1.heap.size k M M ba oa ca la y ga z0 xs (by rw [hzl, hM]) hx (by have := unhide HN; omega) (by omega) hy64 hB hAt.out.2.1 hr dx (fun h => by have := unhide bA h; omega))
      have e4 : (k : Int) + (la : Int) = (t : Int) := by omega
      have hw3 : IntKind.i64.wrap (t : Int) = (t : Int) := by rw [IntKind.wrap_i64]; omega
      have i9 : 0 ≤ (t : Int) ∧ (t : Int) < (N : Int) := by have := unhide HN; omega
      have i10 : t < N := by omega
      have i1 : 0 ≤ (k : Int) ∧ (k : Int) ≤ (N : Int) := by have := unhide HN; omega
      have i3 : k ≤ N := by omega
      have i4 : N - k = M := by omega
      have i5 : ¬ N = k := by have := unhide HN; omega
      have HZN := hide hzl
      have HC : Hid (∀ c zs, SAt z0 zs xs y k la c → MRow xs ys (zs.set t c) N (k + 1)) := fun c zs h => by
        subst ht hx
        exact m_step hAt.out h hyy (by have := unhide HN; omega)
      have hsz := hnx.size
      clear hyy ht hM hzl hmk hk0 hst HB0
      go_wp2_with fail
      refine (unhide CA _ hBlk (rA.next hnx)).mono ?_
      rintro e w4 ⟨c, zs, rfl, hS, k4, g4⟩
      have c4 := k4.cell t (by rw [hS.1, unhide HZN]; omega)
      have f4 := k4.frozen t
      have hS := hide hS
      go_wp2
      exact ⟨⟨k + 1, zs.set t c, by omega, by go_num, k4.set t c, unhide HC _ _ hS.out, (below_grown hnx g4 (Nat.le_refl _) hsz).setCell (Nat.le_refl _) _⟩, by simp [intOf]; omega⟩
    · obtain rfl : k = lb := by omega
      have hin : InW wr (.slice (some ⟨w1.heap.size, 0, none⟩) N N) (wval z0) := by
        have hr := hBlk.rep 0 N N (by omega) (Nat.le_refl _)
        rw [List.drop_zero, List.take_of_length_le (by omega)] at hr
        exact ⟨_, _, _, _, z0, by rw [hzl], hr, hAt.out.2.1, rfl, by omega⟩
      have hval : wval z0 = wval xs * wval ys := by rw [hAt.out.2.2.1, wval_take_ge _ _ (by omega)]
      rw [hval] at hin
      have CNm := hide (norm_w _ _ _ hin)
      clear hin hval
      go_wp2_with fail
      refine (unhide CNm).mono ?_
      rintro e w5 ⟨r, rfl, hr, b5⟩
      have b6 := bstep hnx b5
      have hsz := Nat.le_trans (unhide S1) hnx.size
      go_wp2
      go_ret
      exact ⟨r, rfl, hr.mono hsz, (unhide E1).next b6, grown_below (unhide G1) b6⟩

end Go.Proofs.Ytdocljbmmaoenaa
