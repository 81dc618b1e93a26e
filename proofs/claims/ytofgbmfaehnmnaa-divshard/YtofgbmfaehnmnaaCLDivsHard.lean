/- DivsHard: what the law's walk comes to, once the code is what the document asks. Written by gen_hard.py. -/
import Derived.Test.YtofgbmfaehnmnaaXDivsHard
namespace Go.Proofs.Ytofgbmfaehnmnaa
open Go.RowKit
theorem within_five (z : Int) (w : World) : Calls Try.prog 22 #[.int .i64 (wrap64 z), .int .i64 5] w fun e w' => ∃ c : Nat, c < 5 ∧ e = .returned (.int .i64 (c : Int)) ∧ w' = w := by
  refine (within_any (wrap64 z) 5 w (by unfold wrap64; omega) (by unfold wrap64; omega) (by decide) (by decide)).mono ?_
  rintro e w' ⟨rfl, h⟩
  refine ⟨(wrap64 z % 5).toNat, by omega, ?_, h⟩
  rw [Int.toNat_of_nonneg (by omega)]
set_option maxRecDepth 100000 in
set_option maxHeartbeats 6400000 in
theorem divsHard_any (SN : SpecDNew) (SL : SpecLong) (SO : SpecLongNo) (T : Tab) (a d i0 j0 : Int) (top : Bool) (w : World) (h1 : -9223372036854775808 ≤ a) (h2 : a ≤ 9223372036854775807) (h3 : -9223372036854775808 ≤ d) (h4 : d ≤ 9223372036854775807) :
    Calls Try.prog 5 #[T.val, .int .i64 a, .int .i64 d, .int .i64 i0, .int .i64 j0, .bool top] w fun e w' => e = .returned (.bool true) ∧ Below w.heap.size w w' := by
  obtain ⟨i, hi⟩ : ∃ i : Nat, a % 20 = (i : Int) := ⟨(a % 20).toNat, by omega⟩
  obtain ⟨j, hj⟩ : ∃ j : Nat, d % 10 = (j : Int) := ⟨(d % 10).toNat, by omega⟩
  have CK1 := hide (fun w => within_any a 20 w h1 h2 (by decide) (by decide))
  have CK2 := hide (fun w => within_any d 10 w h3 h4 (by decide) (by decide))
  rw [hi] at CK1
  rw [hj] at CK2
  obtain ⟨n, hn⟩ : ∃ n, n = 1 + i := ⟨_, rfl⟩
  obtain ⟨m, hm⟩ : ∃ m, m = 1 + j := ⟨_, rfl⟩
  have en : 1 + (i : Int) = (n : Int) := by omega
  have em : 1 + (j : Int) = (m : Int) := by omega
  have wn : IntKind.i64.wrap (n : Int) = (n : Int) := by rw [IntKind.wrap_i64]; omega
  have wm : IntKind.i64.wrap (m : Int) = (m : Int) := by rw [IntKind.wrap_i64]; omega
  have bn : 1 ≤ n ∧ n ≤ 20 := by omega
  have bm : 1 ≤ m ∧ m ≤ 10 := by omega
  have hmk1 := make_su n n (n : Int) rfl rfl (by omega)
  have hmk2 := make_su m m (m : Int) rfl rfl (by omega)
  clear hi hj h1 h2 h3 h4 hn hm
  unfold Tab.val
  have bw0 : Below w.heap.size w (w.alloc (.cells #[.int .i64 T.b, .int .i64 T.t, .int .i64 T.n, .int .i64 T.d, .int .i64 T.r, .int .i64 T.l, .int .i64 T.x, .int .i64 T.p, .int .i64 T.k, .int .i64 T.s, .int .i64 T.e] 23)) := (Below.refl _ _).alloc (Nat.le_refl _) _
  have hTk := heap_alloc_new w (.cells #[.int .i64 T.b, .int .i64 T.t, .int .i64 T.n, .int .i64 T.d, .int .i64 T.r, .int .i64 T.l, .int .i64 T.x, .int .i64 T.p, .int .i64 T.k, .int .i64 T.s, .int .i64 T.e] 23)
  obtain ⟨W0, hW0⟩ : ∃ W0, w.alloc (.cells #[.int .i64 T.b, .int .i64 T.t, .int .i64 T.n, .int .i64 T.d, .int .i64 T.r, .int .i64 T.l, .int .i64 T.x, .int .i64 T.p, .int .i64 T.k, .int .i64 T.s, .int .i64 T.e] 23) = W0 := ⟨_, rfl⟩
  rw [hW0] at bw0 hTk
  obtain ⟨TB0, hTB⟩ : ∃ B, w.heap.size = B := ⟨_, rfl⟩
  rw [hTB] at hTk
  have hTl : TB0 < W0.heap.size := (Array.getElem?_eq_some_iff.1 hTk).1
  go_enter Try.func5, Try.ntmps5
  go_wp2_with fail
  refine (unhide CK1 _).mono ?_
  rintro e wx ⟨rfl, hw⟩
  obtain rfl := hw.symm
  clear hw CK1
  go_wp2_with fail
  refine (unhide CK2 _).mono ?_
  rintro e wx ⟨rfl, hw⟩
  obtain rfl := hw.symm
  clear hw CK2
  go_wp2
  go_big_region
  all_goals go_wp2
  all_goals clear hmk1 hmk2 en em wn wm hW0 hTB
  · have bW : Below W0.heap.size W0 ((W0.alloc (.cells (zlist n).toArray 72)).alloc (.cells (zlist m).toArray 72)).drew := (((Below.refl W0.heap.size W0).alloc (Nat.le_refl _) _).alloc (by simp) _).drew
    have zA : Blk ((W0.alloc (.cells (zlist n).toArray 72)).alloc (.cells (zlist m).toArray 72)).drew (W0.heap.size) (List.replicate n 0) := blk_first W0 n m
    have zB : Blk ((W0.alloc (.cells (zlist n).toArray 72)).alloc (.cells (zlist m).toArray 72)).drew (W0.heap.size + 1) (List.replicate m 0) := blk_second W0 n m
    have nAB : (W0.heap.size) ≠ (W0.heap.size + 1) := by omega
    have lA : W0.heap.size ≤ (W0.heap.size) := by omega
    have lB : W0.heap.size ≤ (W0.heap.size + 1) := by omega
    generalize ((W0.alloc (.cells (zlist n).toArray 72)).alloc (.cells (zlist m).toArray 72)).drew = W at *
    have zA := hide zA
    have zB := hide zB
    have bW := hide bW
    go_loopw [15] (fun iv wr => ∃ (k : Nat) (zs : List Nat), k ≤ n ∧ iv = .int .i64 (k : Int) ∧ zs.length = n ∧ WDig zs ∧ Blk wr (W0.heap.size) zs ∧ Blk wr (W0.heap.size + 1) (List.replicate m 0) ∧ Below W0.heap.size W0 wr) (fun iv _ => n - (intOf iv).toNat)
    case atStart => exact ⟨0, _, Nat.zero_le _, rfl, by simp, (wzeros n).1, unhide zA, unhide zB, unhide bW⟩
    case round =>
      clear zA zB bW
      obtain ⟨k, zs, hk, rfl, hzl, hd, hA, hB, hb⟩ := hrel
      by_cases h2 : k < n
      case pos =>
        have b1 : Below wr.heap.size wr (wr.alloc (.cells #[.int .u64 0, .int .u64 18446744073709551615, .int .u64 9223372036854775808, .int .u64 9223372036854775807, .int .u64 1] 72)) := (Below.refl _ _).alloc (Nat.le_refl _) _
        have kL := heap_alloc_new wr (.cells #[.int .u64 0, .int .u64 18446744073709551615, .int .u64 9223372036854775808, .int .u64 9223372036854775807, .int .u64 1] 72)
        have q0 : (wr.alloc (.cells #[.int .u64 0, .int .u64 18446744073709551615, .int .u64 9223372036854775808, .int .u64 9223372036854775807, .int .u64 1] 72)).cell? ⟨wr.heap.size, 0, none⟩ = some (.int .u64 0) := cell_of_row _ _ 0 _ _ (0, 0) kL
        have q1 : (wr.alloc (.cells #[.int .u64 0, .int .u64 18446744073709551615, .int .u64 9223372036854775808, .int .u64 9223372036854775807, .int .u64 1] 72)).cell? ⟨wr.heap.size, 1, none⟩ = some (.int .u64 18446744073709551615) := cell_of_row _ _ 1 _ _ (0, 0) kL
        have q2 : (wr.alloc (.cells #[.int .u64 0, .int .u64 18446744073709551615, .int .u64 9223372036854775808, .int .u64 9223372036854775807, .int .u64 1] 72)).cell? ⟨wr.heap.size, 2, none⟩ = some (.int .u64 9223372036854775808) := cell_of_row _ _ 2 _ _ (0, 0) kL
        have q3 : (wr.alloc (.cells #[.int .u64 0, .int .u64 18446744073709551615, .int .u64 9223372036854775808, .int .u64 9223372036854775807, .int .u64 1] 72)).cell? ⟨wr.heap.size, 3, none⟩ = some (.int .u64 9223372036854775807) := cell_of_row _ _ 3 _ _ (0, 0) kL
        have q4 : (wr.alloc (.cells #[.int .u64 0, .int .u64 18446744073709551615, .int .u64 9223372036854775808, .int .u64 9223372036854775807, .int .u64 1] 72)).cell? ⟨wr.heap.size, 4, none⟩ = some (.int .u64 1) := cell_of_row _ _ 4 _ _ (0, 0) kL
        have hA := hA.next b1
        have hB := hB.next b1
        have hb := bstep hb b1
        have chA := hA.cell k (by omega)
        have fhA := hA.frozen k
        clear b1 kL
        go_wp2_with fail
        refine (within_five _ _).mono ?_
        rintro e wx ⟨c, lc, rfl, hw⟩
        obtain rfl := hw.symm
        clear hw
        obtain rfl | rfl | rfl | rfl | rfl : c = 0 ∨ c = 1 ∨ c = 2 ∨ c = 3 ∨ c = 4 := by omega
        · have X7 := hide (hA.set k 0)
          have Y7 := hide (hB.but (grown_set _ (W0.heap.size) k (.int .u64 0)) (Ne.symm nAB))
          have b7 : Hid (Below W0.heap.size W0 ((wr.alloc (.cells #[.int .u64 0, .int .u64 18446744073709551615, .int .u64 9223372036854775808, .int .u64 9223372036854775807, .int .u64 1] 72)).setCell ⟨(W0.heap.size), k, none⟩ (.int .u64 0))) := hb.setCell lA _
          have d7 := hide (wDig_set (k := k) (d := 0) hd (by omega) (by decide))
          have l7 : Hid ((zs.set k 0).length = n) := by show _ = _; rw [List.length_set]; exact hzl
          clear hA hB hb hd hzl
          go_wp2
          go_roundw
          case rel => exact ⟨k + 1, _, by omega, by go_num, unhide l7, unhide d7, unhide X7, unhide Y7, unhide b7⟩
          case measure => simp [intOf]; omega
        · have X7 := hide (hA.set k 18446744073709551615)
          have Y7 := hide (hB.but (grown_set _ (W0.heap.size) k (.int .u64 18446744073709551615)) (Ne.symm nAB))
          have b7 : Hid (Below W0.heap.size W0 ((wr.alloc (.cells #[.int .u64 0, .int .u64 18446744073709551615, .int .u64 9223372036854775808, .int .u64 9223372036854775807, .int .u64 1] 72)).setCell ⟨(W0.heap.size), k, none⟩ (.int .u64 18446744073709551615))) := hb.setCell lA _
          have d7 := hide (wDig_set (k := k) (d := 18446744073709551615) hd (by omega) (by decide))
          have l7 : Hid ((zs.set k 18446744073709551615).length = n) := by show _ = _; rw [List.length_set]; exact hzl
          clear hA hB hb hd hzl
          go_wp2
          go_roundw
          case rel => exact ⟨k + 1, _, by omega, by go_num, unhide l7, unhide d7, unhide X7, unhide Y7, unhide b7⟩
          case measure => simp [intOf]; omega
        · have X7 := hide (hA.set k 9223372036854775808)
          have Y7 := hide (hB.but (grown_set _ (W0.heap.size) k (.int .u64 9223372036854775808)) (Ne.symm nAB))
          have b7 : Hid (Below W0.heap.size W0 ((wr.alloc (.cells #[.int .u64 0, .int .u64 18446744073709551615, .int .u64 9223372036854775808, .int .u64 9223372036854775807, .int .u64 1] 72)).setCell ⟨(W0.heap.size), k, none⟩ (.int .u64 9223372036854775808))) := hb.setCell lA _
          have d7 := hide (wDig_set (k := k) (d := 9223372036854775808) hd (by omega) (by decide))
          have l7 : Hid ((zs.set k 9223372036854775808).length = n) := by show _ = _; rw [List.length_set]; exact hzl
          clear hA hB hb hd hzl
          go_wp2
          go_roundw
          case rel => exact ⟨k + 1, _, by omega, by go_num, unhide l7, unhide d7, unhide X7, unhide Y7, unhide b7⟩
          case measure => simp [intOf]; omega
        · have X7 := hide (hA.set k 9223372036854775807)
          have Y7 := hide (hB.but (grown_set _ (W0.heap.size) k (.int .u64 9223372036854775807)) (Ne.symm nAB))
          have b7 : Hid (Below W0.heap.size W0 ((wr.alloc (.cells #[.int .u64 0, .int .u64 18446744073709551615, .int .u64 9223372036854775808, .int .u64 9223372036854775807, .int .u64 1] 72)).setCell ⟨(W0.heap.size), k, none⟩ (.int .u64 9223372036854775807))) := hb.setCell lA _
          have d7 := hide (wDig_set (k := k) (d := 9223372036854775807) hd (by omega) (by decide))
          have l7 : Hid ((zs.set k 9223372036854775807).length = n) := by show _ = _; rw [List.length_set]; exact hzl
          clear hA hB hb hd hzl
          go_wp2
          go_roundw
          case rel => exact ⟨k + 1, _, by omega, by go_num, unhide l7, unhide d7, unhide X7, unhide Y7, unhide b7⟩
          case measure => simp [intOf]; omega
        · have X7 := hide (hA.set k 1)
          have Y7 := hide (hB.but (grown_set _ (W0.heap.size) k (.int .u64 1)) (Ne.symm nAB))
          have b7 : Hid (Below W0.heap.size W0 ((wr.alloc (.cells #[.int .u64 0, .int .u64 18446744073709551615, .int .u64 9223372036854775808, .int .u64 9223372036854775807, .int .u64 1] 72)).setCell ⟨(W0.heap.size), k, none⟩ (.int .u64 1))) := hb.setCell lA _
          have d7 := hide (wDig_set (k := k) (d := 1) hd (by omega) (by decide))
          have l7 : Hid ((zs.set k 1).length = n) := by show _ = _; rw [List.length_set]; exact hzl
          clear hA hB hb hd hzl
          go_wp2
          go_roundw
          case rel => exact ⟨k + 1, _, by omega, by go_num, unhide l7, unhide d7, unhide X7, unhide Y7, unhide b7⟩
          case measure => simp [intOf]; omega
      case neg =>
        obtain rfl : k = n := by omega
        obtain ⟨us, hus⟩ : ∃ us, us = zs := ⟨_, rfl⟩
        subst hus
        replace hA := hide hA
        replace hB := hide hB
        replace hb := hide hb
        have hdA := hide hd
        have hlA := hide hzl
        clear h2 hd hzl
        go_wp2
        go_loopw [16] (fun iv wr => ∃ (k' : Nat) (zs : List Nat), k' ≤ m ∧ iv = .int .i64 (k' : Int) ∧ zs.length = m ∧ WDig zs ∧ Blk wr (W0.heap.size + 1) zs ∧ Blk wr (W0.heap.size) us ∧ Below W0.heap.size W0 wr) (fun iv _ => m - (intOf iv).toNat)
        case atStart => exact ⟨0, _, Nat.zero_le _, rfl, by simp, (wzeros m).1, unhide hB, unhide hA, unhide hb⟩
        case round =>
          clear hA hB hb
          obtain ⟨j', zs, hk, rfl, hzl, hd, hB, hA, hb⟩ := hrel
          by_cases h2 : j' < m
          case pos =>
            have b1 : Below wr.heap.size wr (wr.alloc (.cells #[.int .u64 0, .int .u64 18446744073709551615, .int .u64 1, .int .u64 9223372036854775808, .int .u64 9223372036854775807] 72)) := (Below.refl _ _).alloc (Nat.le_refl _) _
            have kL := heap_alloc_new wr (.cells #[.int .u64 0, .int .u64 18446744073709551615, .int .u64 1, .int .u64 9223372036854775808, .int .u64 9223372036854775807] 72)
            have q0 : (wr.alloc (.cells #[.int .u64 0, .int .u64 18446744073709551615, .int .u64 1, .int .u64 9223372036854775808, .int .u64 9223372036854775807] 72)).cell? ⟨wr.heap.size, 0, none⟩ = some (.int .u64 0) := cell_of_row _ _ 0 _ _ (0, 0) kL
            have q1 : (wr.alloc (.cells #[.int .u64 0, .int .u64 18446744073709551615, .int .u64 1, .int .u64 9223372036854775808, .int .u64 9223372036854775807] 72)).cell? ⟨wr.heap.size, 1, none⟩ = some (.int .u64 18446744073709551615) := cell_of_row _ _ 1 _ _ (0, 0) kL
            have q2 : (wr.alloc (.cells #[.int .u64 0, .int .u64 18446744073709551615, .int .u64 1, .int .u64 9223372036854775808, .int .u64 9223372036854775807] 72)).cell? ⟨wr.heap.size, 2, none⟩ = some (.int .u64 1) := cell_of_row _ _ 2 _ _ (0, 0) kL
            have q3 : (wr.alloc (.cells #[.int .u64 0, .int .u64 18446744073709551615, .int .u64 1, .int .u64 9223372036854775808, .int .u64 9223372036854775807] 72)).cell? ⟨wr.heap.size, 3, none⟩ = some (.int .u64 9223372036854775808) := cell_of_row _ _ 3 _ _ (0, 0) kL
            have q4 : (wr.alloc (.cells #[.int .u64 0, .int .u64 18446744073709551615, .int .u64 1, .int .u64 9223372036854775808, .int .u64 9223372036854775807] 72)).cell? ⟨wr.heap.size, 4, none⟩ = some (.int .u64 9223372036854775807) := cell_of_row _ _ 4 _ _ (0, 0) kL
            have hB := hB.next b1
            have hA := hA.next b1
            have hb := bstep hb b1
            have chB := hB.cell j' (by omega)
            have fhB := hB.frozen j'
            clear b1 kL
            go_wp2_with fail
            refine (within_five _ _).mono ?_
            rintro e wx ⟨c, lc, rfl, hw⟩
            obtain rfl := hw.symm
            clear hw
            obtain rfl | rfl | rfl | rfl | rfl : c = 0 ∨ c = 1 ∨ c = 2 ∨ c = 3 ∨ c = 4 := by omega
            · have X7 := hide (hB.set j' 0)
              have Y7 := hide (hA.but (grown_set _ (W0.heap.size + 1) j' (.int .u64 0)) nAB)
              have b7 : Hid (Below W0.heap.size W0 ((wr.alloc (.cells #[.int .u64 0, .int .u64 18446744073709551615, .int .u64 1, .int .u64 9223372036854775808, .int .u64 9223372036854775807] 72)).setCell ⟨(W0.heap.size + 1), j', none⟩ (.int .u64 0))) := hb.setCell lB _
              have d7 := hide (wDig_set (k := j') (d := 0) hd (by omega) (by decide))
              have l7 : Hid ((zs.set j' 0).length = m) := by show _ = _; rw [List.length_set]; exact hzl
              clear hB hA hb hd hzl
              go_wp2
              go_roundw
              case rel => exact ⟨j' + 1, _, by omega, by go_num, unhide l7, unhide d7, unhide X7, unhide Y7, unhide b7⟩
              case measure => simp [intOf]; omega
            · have X7 := hide (hB.set j' 18446744073709551615)
              have Y7 := hide (hA.but (grown_set _ (W0.heap.size + 1) j' (.int .u64 18446744073709551615)) nAB)
              have b7 : Hid (Below W0.heap.size W0 ((wr.alloc (.cells #[.int .u64 0, .int .u64 18446744073709551615, .int .u64 1, .int .u64 9223372036854775808, .int .u64 9223372036854775807] 72)).setCell ⟨(W0.heap.size + 1), j', none⟩ (.int .u64 18446744073709551615))) := hb.setCell lB _
              have d7 := hide (wDig_set (k := j') (d := 18446744073709551615) hd (by omega) (by decide))
              have l7 : Hid ((zs.set j' 18446744073709551615).length = m) := by show _ = _; rw [List.length_set]; exact hzl
              clear hB hA hb hd hzl
              go_wp2
              go_roundw
              case rel => exact ⟨j' + 1, _, by omega, by go_num, unhide l7, unhide d7, unhide X7, unhide Y7, unhide b7⟩
              case measure => simp [intOf]; omega
            · have X7 := hide (hB.set j' 1)
              have Y7 := hide (hA.but (grown_set _ (W0.heap.size + 1) j' (.int .u64 1)) nAB)
              have b7 : Hid (Below W0.heap.size W0 ((wr.alloc (.cells #[.int .u64 0, .int .u64 18446744073709551615, .int .u64 1, .int .u64 9223372036854775808, .int .u64 9223372036854775807] 72)).setCell ⟨(W0.heap.size + 1), j', none⟩ (.int .u64 1))) := hb.setCell lB _
              have d7 := hide (wDig_set (k := j') (d := 1) hd (by omega) (by decide))
              have l7 : Hid ((zs.set j' 1).length = m) := by show _ = _; rw [List.length_set]; exact hzl
              clear hB hA hb hd hzl
              go_wp2
              go_roundw
              case rel => exact ⟨j' + 1, _, by omega, by go_num, unhide l7, unhide d7, unhide X7, unhide Y7, unhide b7⟩
              case measure => simp [intOf]; omega
            · have X7 := hide (hB.set j' 9223372036854775808)
              have Y7 := hide (hA.but (grown_set _ (W0.heap.size + 1) j' (.int .u64 9223372036854775808)) nAB)
              have b7 : Hid (Below W0.heap.size W0 ((wr.alloc (.cells #[.int .u64 0, .int .u64 18446744073709551615, .int .u64 1, .int .u64 9223372036854775808, .int .u64 9223372036854775807] 72)).setCell ⟨(W0.heap.size + 1), j', none⟩ (.int .u64 9223372036854775808))) := hb.setCell lB _
              have d7 := hide (wDig_set (k := j') (d := 9223372036854775808) hd (by omega) (by decide))
              have l7 : Hid ((zs.set j' 9223372036854775808).length = m) := by show _ = _; rw [List.length_set]; exact hzl
              clear hB hA hb hd hzl
              go_wp2
              go_roundw
              case rel => exact ⟨j' + 1, _, by omega, by go_num, unhide l7, unhide d7, unhide X7, unhide Y7, unhide b7⟩
              case measure => simp [intOf]; omega
            · have X7 := hide (hB.set j' 9223372036854775807)
              have Y7 := hide (hA.but (grown_set _ (W0.heap.size + 1) j' (.int .u64 9223372036854775807)) nAB)
              have b7 : Hid (Below W0.heap.size W0 ((wr.alloc (.cells #[.int .u64 0, .int .u64 18446744073709551615, .int .u64 1, .int .u64 9223372036854775808, .int .u64 9223372036854775807] 72)).setCell ⟨(W0.heap.size + 1), j', none⟩ (.int .u64 9223372036854775807))) := hb.setCell lB _
              have d7 := hide (wDig_set (k := j') (d := 9223372036854775807) hd (by omega) (by decide))
              have l7 : Hid ((zs.set j' 9223372036854775807).length = m) := by show _ = _; rw [List.length_set]; exact hzl
              clear hB hA hb hd hzl
              go_wp2
              go_roundw
              case rel => exact ⟨j' + 1, _, by omega, by go_num, unhide l7, unhide d7, unhide X7, unhide Y7, unhide b7⟩
              case measure => simp [intOf]; omega
          case neg =>
            obtain rfl : j' = m := by omega
            obtain ⟨m', rfl⟩ : ∃ m', j' = m' + 1 := ⟨j' - 1, by omega⟩
            have cB := hB.cell m' (by omega)
            have fB := hB.frozen m'
            replace hdA := unhide hdA
            replace hlA := unhide hlA
            clear h2
            cases top
            case false =>
              have B7 := hB.set m' 9223372036854775808
              have A7 := hA.but (grown_set _ (W0.heap.size + 1) m' (.int .u64 9223372036854775808)) nAB
              have b7 : Below W0.heap.size W0 (wr.setCell ⟨(W0.heap.size + 1), m', none⟩ (.int .u64 9223372036854775808)) := hb.setCell lB _
              have d7 := wDig_set (d := 9223372036854775808) hd (k := m') (by omega) (by decide)
              have l7 : (zs.set m' 9223372036854775808).length = m' + 1 := by rw [List.length_set]; exact hzl
              have C1 := hide (divsLongs_any SN SL SO T _ (W0.heap.size) 0 k k us _ (W0.heap.size + 1) 0 (m' + 1) (m' + 1) _ _ hlA (A7.whole hlA) hdA l7 (B7.whole l7) d7)
              have CW := hide (fun W => divsWakes_any SN SL W)
              unfold Tab.val at C1
              have kT := (b7.block TB0 hTl).trans hTk
              have c0 : (wr.setCell ⟨(W0.heap.size + 1), m', none⟩ (.int .u64 9223372036854775808)).cell? ⟨TB0, 0, none⟩ = some (.int .i64 T.b) := cell_of_row _ TB0 0 _ _ (0, 0) kT
              have c1 : (wr.setCell ⟨(W0.heap.size + 1), m', none⟩ (.int .u64 9223372036854775808)).cell? ⟨TB0, 1, none⟩ = some (.int .i64 T.t) := cell_of_row _ TB0 1 _ _ (0, 0) kT
              have c2 : (wr.setCell ⟨(W0.heap.size + 1), m', none⟩ (.int .u64 9223372036854775808)).cell? ⟨TB0, 2, none⟩ = some (.int .i64 T.n) := cell_of_row _ TB0 2 _ _ (0, 0) kT
              have c3 : (wr.setCell ⟨(W0.heap.size + 1), m', none⟩ (.int .u64 9223372036854775808)).cell? ⟨TB0, 3, none⟩ = some (.int .i64 T.d) := cell_of_row _ TB0 3 _ _ (0, 0) kT
              have c4 : (wr.setCell ⟨(W0.heap.size + 1), m', none⟩ (.int .u64 9223372036854775808)).cell? ⟨TB0, 4, none⟩ = some (.int .i64 T.r) := cell_of_row _ TB0 4 _ _ (0, 0) kT
              have c5 : (wr.setCell ⟨(W0.heap.size + 1), m', none⟩ (.int .u64 9223372036854775808)).cell? ⟨TB0, 5, none⟩ = some (.int .i64 T.l) := cell_of_row _ TB0 5 _ _ (0, 0) kT
              have c6 : (wr.setCell ⟨(W0.heap.size + 1), m', none⟩ (.int .u64 9223372036854775808)).cell? ⟨TB0, 6, none⟩ = some (.int .i64 T.x) := cell_of_row _ TB0 6 _ _ (0, 0) kT
              have c7 : (wr.setCell ⟨(W0.heap.size + 1), m', none⟩ (.int .u64 9223372036854775808)).cell? ⟨TB0, 7, none⟩ = some (.int .i64 T.p) := cell_of_row _ TB0 7 _ _ (0, 0) kT
              have c8 : (wr.setCell ⟨(W0.heap.size + 1), m', none⟩ (.int .u64 9223372036854775808)).cell? ⟨TB0, 8, none⟩ = some (.int .i64 T.k) := cell_of_row _ TB0 8 _ _ (0, 0) kT
              have c9 : (wr.setCell ⟨(W0.heap.size + 1), m', none⟩ (.int .u64 9223372036854775808)).cell? ⟨TB0, 9, none⟩ = some (.int .i64 T.s) := cell_of_row _ TB0 9 _ _ (0, 0) kT
              have c10 : (wr.setCell ⟨(W0.heap.size + 1), m', none⟩ (.int .u64 9223372036854775808)).cell? ⟨TB0, 10, none⟩ = some (.int .i64 T.e) := cell_of_row _ TB0 10 _ _ (0, 0) kT
              clear kT hA hB A7 B7 d7 l7 SN SL SO hd hzl hdA hlA
              go_wp2_with fail
              refine (unhide C1).mono ?_
              rintro e w2 ⟨rfl, b2⟩
              clear C1 c0 c1 c2 c3 c4 c5 c6 c7 c8 c9 c10
              go_wp2_with fail
              refine (unhide CW _).mono ?_
              rintro e w5 ⟨rfl, b⟩
              have bl := bstep bw0 (bstep b7 (bstep b2 b))
              clear b b2 CW
              go_wp2
              go_ret
              exact ⟨rfl, bl⟩
            case true =>
              have B7 := hB.set m' 9223372036854775808
              have A7 := hA.but (grown_set _ (W0.heap.size + 1) m' (.int .u64 9223372036854775808)) nAB
              have b7 : Below W0.heap.size W0 (wr.setCell ⟨(W0.heap.size + 1), m', none⟩ (.int .u64 9223372036854775808)) := hb.setCell lB _
              have d7 := wDig_set (d := 9223372036854775808) hd (k := m') (by omega) (by decide)
              have l7 : (zs.set m' 9223372036854775808).length = m' + 1 := by rw [List.length_set]; exact hzl
              have cB2 := B7.cell m' (by omega)
              have fB2 := B7.frozen m'
              have B8 := B7.set m' 18446744073709551615
              have A8 := A7.but (grown_set _ (W0.heap.size + 1) m' (.int .u64 18446744073709551615)) nAB
              have b8 : Below W0.heap.size W0 ((wr.setCell ⟨(W0.heap.size + 1), m', none⟩ (.int .u64 9223372036854775808)).setCell ⟨(W0.heap.size + 1), m', none⟩ (.int .u64 18446744073709551615)) := b7.setCell lB _
              have d8 := wDig_set (d := 18446744073709551615) d7 (k := m') (by omega) (by decide)
              have l8 : ((zs.set m' 9223372036854775808).set m' 18446744073709551615).length = m' + 1 := by rw [List.length_set]; exact l7
              have C1 := hide (divsLongs_any SN SL SO T _ (W0.heap.size) 0 k k us _ (W0.heap.size + 1) 0 (m' + 1) (m' + 1) _ _ hlA (A8.whole hlA) hdA l8 (B8.whole l8) d8)
              have CW := hide (fun W => divsWakes_any SN SL W)
              unfold Tab.val at C1
              have kT := (b8.block TB0 hTl).trans hTk
              have c0 : ((wr.setCell ⟨(W0.heap.size + 1), m', none⟩ (.int .u64 9223372036854775808)).setCell ⟨(W0.heap.size + 1), m', none⟩ (.int .u64 18446744073709551615)).cell? ⟨TB0, 0, none⟩ = some (.int .i64 T.b) := cell_of_row _ TB0 0 _ _ (0, 0) kT
              have c1 : ((wr.setCell ⟨(W0.heap.size + 1), m', none⟩ (.int .u64 9223372036854775808)).setCell ⟨(W0.heap.size + 1), m', none⟩ (.int .u64 18446744073709551615)).cell? ⟨TB0, 1, none⟩ = some (.int .i64 T.t) := cell_of_row _ TB0 1 _ _ (0, 0) kT
              have c2 : ((wr.setCell ⟨(W0.heap.size + 1), m', none⟩ (.int .u64 9223372036854775808)).setCell ⟨(W0.heap.size + 1), m', none⟩ (.int .u64 18446744073709551615)).cell? ⟨TB0, 2, none⟩ = some (.int .i64 T.n) := cell_of_row _ TB0 2 _ _ (0, 0) kT
              have c3 : ((wr.setCell ⟨(W0.heap.size + 1), m', none⟩ (.int .u64 9223372036854775808)).setCell ⟨(W0.heap.size + 1), m', none⟩ (.int .u64 18446744073709551615)).cell? ⟨TB0, 3, none⟩ = some (.int .i64 T.d) := cell_of_row _ TB0 3 _ _ (0, 0) kT
              have c4 : ((wr.setCell ⟨(W0.heap.size + 1), m', none⟩ (.int .u64 9223372036854775808)).setCell ⟨(W0.heap.size + 1), m', none⟩ (.int .u64 18446744073709551615)).cell? ⟨TB0, 4, none⟩ = some (.int .i64 T.r) := cell_of_row _ TB0 4 _ _ (0, 0) kT
              have c5 : ((wr.setCell ⟨(W0.heap.size + 1), m', none⟩ (.int .u64 9223372036854775808)).setCell ⟨(W0.heap.size + 1), m', none⟩ (.int .u64 18446744073709551615)).cell? ⟨TB0, 5, none⟩ = some (.int .i64 T.l) := cell_of_row _ TB0 5 _ _ (0, 0) kT
              have c6 : ((wr.setCell ⟨(W0.heap.size + 1), m', none⟩ (.int .u64 9223372036854775808)).setCell ⟨(W0.heap.size + 1), m', none⟩ (.int .u64 18446744073709551615)).cell? ⟨TB0, 6, none⟩ = some (.int .i64 T.x) := cell_of_row _ TB0 6 _ _ (0, 0) kT
              have c7 : ((wr.setCell ⟨(W0.heap.size + 1), m', none⟩ (.int .u64 9223372036854775808)).setCell ⟨(W0.heap.size + 1), m', none⟩ (.int .u64 18446744073709551615)).cell? ⟨TB0, 7, none⟩ = some (.int .i64 T.p) := cell_of_row _ TB0 7 _ _ (0, 0) kT
              have c8 : ((wr.setCell ⟨(W0.heap.size + 1), m', none⟩ (.int .u64 9223372036854775808)).setCell ⟨(W0.heap.size + 1), m', none⟩ (.int .u64 18446744073709551615)).cell? ⟨TB0, 8, none⟩ = some (.int .i64 T.k) := cell_of_row _ TB0 8 _ _ (0, 0) kT
              have c9 : ((wr.setCell ⟨(W0.heap.size + 1), m', none⟩ (.int .u64 9223372036854775808)).setCell ⟨(W0.heap.size + 1), m', none⟩ (.int .u64 18446744073709551615)).cell? ⟨TB0, 9, none⟩ = some (.int .i64 T.s) := cell_of_row _ TB0 9 _ _ (0, 0) kT
              have c10 : ((wr.setCell ⟨(W0.heap.size + 1), m', none⟩ (.int .u64 9223372036854775808)).setCell ⟨(W0.heap.size + 1), m', none⟩ (.int .u64 18446744073709551615)).cell? ⟨TB0, 10, none⟩ = some (.int .i64 T.e) := cell_of_row _ TB0 10 _ _ (0, 0) kT
              clear kT hA hB A7 B7 d7 l7 SN SL SO hd hzl hdA hlA A8 B8 d8 l8
              go_wp2_with fail
              refine (unhide C1).mono ?_
              rintro e w2 ⟨rfl, b2⟩
              clear C1 c0 c1 c2 c3 c4 c5 c6 c7 c8 c9 c10
              go_wp2_with fail
              refine (unhide CW _).mono ?_
              rintro e w5 ⟨rfl, b⟩
              have bl := bstep bw0 (bstep b8 (bstep b2 b))
              clear b b2 CW
              go_wp2
              go_ret
              exact ⟨rfl, bl⟩
  · have bW : Below W0.heap.size W0 ((W0.alloc (.cells (zlist m).toArray 72)).alloc (.cells (zlist n).toArray 72)).drew := (((Below.refl W0.heap.size W0).alloc (Nat.le_refl _) _).alloc (by simp) _).drew
    have zA : Blk ((W0.alloc (.cells (zlist m).toArray 72)).alloc (.cells (zlist n).toArray 72)).drew (W0.heap.size + 1) (List.replicate n 0) := blk_second W0 m n
    have zB : Blk ((W0.alloc (.cells (zlist m).toArray 72)).alloc (.cells (zlist n).toArray 72)).drew (W0.heap.size) (List.replicate m 0) := blk_first W0 m n
    have nAB : (W0.heap.size + 1) ≠ (W0.heap.size) := by omega
    have lA : W0.heap.size ≤ (W0.heap.size + 1) := by omega
    have lB : W0.heap.size ≤ (W0.heap.size) := by omega
    generalize ((W0.alloc (.cells (zlist m).toArray 72)).alloc (.cells (zlist n).toArray 72)).drew = W at *
    have zA := hide zA
    have zB := hide zB
    have bW := hide bW
    go_loopw [15] (fun iv wr => ∃ (k : Nat) (zs : List Nat), k ≤ n ∧ iv = .int .i64 (k : Int) ∧ zs.length = n ∧ WDig zs ∧ Blk wr (W0.heap.size + 1) zs ∧ Blk wr (W0.heap.size) (List.replicate m 0) ∧ Below W0.heap.size W0 wr) (fun iv _ => n - (intOf iv).toNat)
    case atStart => exact ⟨0, _, Nat.zero_le _, rfl, by simp, (wzeros n).1, unhide zA, unhide zB, unhide bW⟩
    case round =>
      clear zA zB bW
      obtain ⟨k, zs, hk, rfl, hzl, hd, hA, hB, hb⟩ := hrel
      by_cases h2 : k < n
      case pos =>
        have b1 : Below wr.heap.size wr (wr.alloc (.cells #[.int .u64 0, .int .u64 18446744073709551615, .int .u64 9223372036854775808, .int .u64 9223372036854775807, .int .u64 1] 72)) := (Below.refl _ _).alloc (Nat.le_refl _) _
        have kL := heap_alloc_new wr (.cells #[.int .u64 0, .int .u64 18446744073709551615, .int .u64 9223372036854775808, .int .u64 9223372036854775807, .int .u64 1] 72)
        have q0 : (wr.alloc (.cells #[.int .u64 0, .int .u64 18446744073709551615, .int .u64 9223372036854775808, .int .u64 9223372036854775807, .int .u64 1] 72)).cell? ⟨wr.heap.size, 0, none⟩ = some (.int .u64 0) := cell_of_row _ _ 0 _ _ (0, 0) kL
        have q1 : (wr.alloc (.cells #[.int .u64 0, .int .u64 18446744073709551615, .int .u64 9223372036854775808, .int .u64 9223372036854775807, .int .u64 1] 72)).cell? ⟨wr.heap.size, 1, none⟩ = some (.int .u64 18446744073709551615) := cell_of_row _ _ 1 _ _ (0, 0) kL
        have q2 : (wr.alloc (.cells #[.int .u64 0, .int .u64 18446744073709551615, .int .u64 9223372036854775808, .int .u64 9223372036854775807, .int .u64 1] 72)).cell? ⟨wr.heap.size, 2, none⟩ = some (.int .u64 9223372036854775808) := cell_of_row _ _ 2 _ _ (0, 0) kL
        have q3 : (wr.alloc (.cells #[.int .u64 0, .int .u64 18446744073709551615, .int .u64 9223372036854775808, .int .u64 9223372036854775807, .int .u64 1] 72)).cell? ⟨wr.heap.size, 3, none⟩ = some (.int .u64 9223372036854775807) := cell_of_row _ _ 3 _ _ (0, 0) kL
        have q4 : (wr.alloc (.cells #[.int .u64 0, .int .u64 18446744073709551615, .int .u64 9223372036854775808, .int .u64 9223372036854775807, .int .u64 1] 72)).cell? ⟨wr.heap.size, 4, none⟩ = some (.int .u64 1) := cell_of_row _ _ 4 _ _ (0, 0) kL
        have hA := hA.next b1
        have hB := hB.next b1
        have hb := bstep hb b1
        have chA := hA.cell k (by omega)
        have fhA := hA.frozen k
        clear b1 kL
        go_wp2_with fail
        refine (within_five _ _).mono ?_
        rintro e wx ⟨c, lc, rfl, hw⟩
        obtain rfl := hw.symm
        clear hw
        obtain rfl | rfl | rfl | rfl | rfl : c = 0 ∨ c = 1 ∨ c = 2 ∨ c = 3 ∨ c = 4 := by omega
        · have X7 := hide (hA.set k 0)
          have Y7 := hide (hB.but (grown_set _ (W0.heap.size + 1) k (.int .u64 0)) (Ne.symm nAB))
          have b7 : Hid (Below W0.heap.size W0 ((wr.alloc (.cells #[.int .u64 0, .int .u64 18446744073709551615, .int .u64 9223372036854775808, .int .u64 9223372036854775807, .int .u64 1] 72)).setCell ⟨(W0.heap.size + 1), k, none⟩ (.int .u64 0))) := hb.setCell lA _
          have d7 := hide (wDig_set (k := k) (d := 0) hd (by omega) (by decide))
          have l7 : Hid ((zs.set k 0).length = n) := by show _ = _; rw [List.length_set]; exact hzl
          clear hA hB hb hd hzl
          go_wp2
          go_roundw
          case rel => exact ⟨k + 1, _, by omega, by go_num, unhide l7, unhide d7, unhide X7, unhide Y7, unhide b7⟩
          case measure => simp [intOf]; omega
        · have X7 := hide (hA.set k 18446744073709551615)
          have Y7 := hide (hB.but (grown_set _ (W0.heap.size + 1) k (.int .u64 18446744073709551615)) (Ne.symm nAB))
          have b7 : Hid (Below W0.heap.size W0 ((wr.alloc (.cells #[.int .u64 0, .int .u64 18446744073709551615, .int .u64 9223372036854775808, .int .u64 9223372036854775807, .int .u64 1] 72)).setCell ⟨(W0.heap.size + 1), k, none⟩ (.int .u64 18446744073709551615))) := hb.setCell lA _
          have d7 := hide (wDig_set (k := k) (d := 18446744073709551615) hd (by omega) (by decide))
          have l7 : Hid ((zs.set k 18446744073709551615).length = n) := by show _ = _; rw [List.length_set]; exact hzl
          clear hA hB hb hd hzl
          go_wp2
          go_roundw
          case rel => exact ⟨k + 1, _, by omega, by go_num, unhide l7, unhide d7, unhide X7, unhide Y7, unhide b7⟩
          case measure => simp [intOf]; omega
        · have X7 := hide (hA.set k 9223372036854775808)
          have Y7 := hide (hB.but (grown_set _ (W0.heap.size + 1) k (.int .u64 9223372036854775808)) (Ne.symm nAB))
          have b7 : Hid (Below W0.heap.size W0 ((wr.alloc (.cells #[.int .u64 0, .int .u64 18446744073709551615, .int .u64 9223372036854775808, .int .u64 9223372036854775807, .int .u64 1] 72)).setCell ⟨(W0.heap.size + 1), k, none⟩ (.int .u64 9223372036854775808))) := hb.setCell lA _
          have d7 := hide (wDig_set (k := k) (d := 9223372036854775808) hd (by omega) (by decide))
          have l7 : Hid ((zs.set k 9223372036854775808).length = n) := by show _ = _; rw [List.length_set]; exact hzl
          clear hA hB hb hd hzl
          go_wp2
          go_roundw
          case rel => exact ⟨k + 1, _, by omega, by go_num, unhide l7, unhide d7, unhide X7, unhide Y7, unhide b7⟩
          case measure => simp [intOf]; omega
        · have X7 := hide (hA.set k 9223372036854775807)
          have Y7 := hide (hB.but (grown_set _ (W0.heap.size + 1) k (.int .u64 9223372036854775807)) (Ne.symm nAB))
          have b7 : Hid (Below W0.heap.size W0 ((wr.alloc (.cells #[.int .u64 0, .int .u64 18446744073709551615, .int .u64 9223372036854775808, .int .u64 9223372036854775807, .int .u64 1] 72)).setCell ⟨(W0.heap.size + 1), k, none⟩ (.int .u64 9223372036854775807))) := hb.setCell lA _
          have d7 := hide (wDig_set (k := k) (d := 9223372036854775807) hd (by omega) (by decide))
          have l7 : Hid ((zs.set k 9223372036854775807).length = n) := by show _ = _; rw [List.length_set]; exact hzl
          clear hA hB hb hd hzl
          go_wp2
          go_roundw
          case rel => exact ⟨k + 1, _, by omega, by go_num, unhide l7, unhide d7, unhide X7, unhide Y7, unhide b7⟩
          case measure => simp [intOf]; omega
        · have X7 := hide (hA.set k 1)
          have Y7 := hide (hB.but (grown_set _ (W0.heap.size + 1) k (.int .u64 1)) (Ne.symm nAB))
          have b7 : Hid (Below W0.heap.size W0 ((wr.alloc (.cells #[.int .u64 0, .int .u64 18446744073709551615, .int .u64 9223372036854775808, .int .u64 9223372036854775807, .int .u64 1] 72)).setCell ⟨(W0.heap.size + 1), k, none⟩ (.int .u64 1))) := hb.setCell lA _
          have d7 := hide (wDig_set (k := k) (d := 1) hd (by omega) (by decide))
          have l7 : Hid ((zs.set k 1).length = n) := by show _ = _; rw [List.length_set]; exact hzl
          clear hA hB hb hd hzl
          go_wp2
          go_roundw
          case rel => exact ⟨k + 1, _, by omega, by go_num, unhide l7, unhide d7, unhide X7, unhide Y7, unhide b7⟩
          case measure => simp [intOf]; omega
      case neg =>
        obtain rfl : k = n := by omega
        obtain ⟨us, hus⟩ : ∃ us, us = zs := ⟨_, rfl⟩
        subst hus
        replace hA := hide hA
        replace hB := hide hB
        replace hb := hide hb
        have hdA := hide hd
        have hlA := hide hzl
        clear h2 hd hzl
        go_wp2
        go_loopw [16] (fun iv wr => ∃ (k' : Nat) (zs : List Nat), k' ≤ m ∧ iv = .int .i64 (k' : Int) ∧ zs.length = m ∧ WDig zs ∧ Blk wr (W0.heap.size) zs ∧ Blk wr (W0.heap.size + 1) us ∧ Below W0.heap.size W0 wr) (fun iv _ => m - (intOf iv).toNat)
        case atStart => exact ⟨0, _, Nat.zero_le _, rfl, by simp, (wzeros m).1, unhide hB, unhide hA, unhide hb⟩
        case round =>
          clear hA hB hb
          obtain ⟨j', zs, hk, rfl, hzl, hd, hB, hA, hb⟩ := hrel
          by_cases h2 : j' < m
          case pos =>
            have b1 : Below wr.heap.size wr (wr.alloc (.cells #[.int .u64 0, .int .u64 18446744073709551615, .int .u64 1, .int .u64 9223372036854775808, .int .u64 9223372036854775807] 72)) := (Below.refl _ _).alloc (Nat.le_refl _) _
            have kL := heap_alloc_new wr (.cells #[.int .u64 0, .int .u64 18446744073709551615, .int .u64 1, .int .u64 9223372036854775808, .int .u64 9223372036854775807] 72)
            have q0 : (wr.alloc (.cells #[.int .u64 0, .int .u64 18446744073709551615, .int .u64 1, .int .u64 9223372036854775808, .int .u64 9223372036854775807] 72)).cell? ⟨wr.heap.size, 0, none⟩ = some (.int .u64 0) := cell_of_row _ _ 0 _ _ (0, 0) kL
            have q1 : (wr.alloc (.cells #[.int .u64 0, .int .u64 18446744073709551615, .int .u64 1, .int .u64 9223372036854775808, .int .u64 9223372036854775807] 72)).cell? ⟨wr.heap.size, 1, none⟩ = some (.int .u64 18446744073709551615) := cell_of_row _ _ 1 _ _ (0, 0) kL
            have q2 : (wr.alloc (.cells #[.int .u64 0, .int .u64 18446744073709551615, .int .u64 1, .int .u64 9223372036854775808, .int .u64 9223372036854775807] 72)).cell? ⟨wr.heap.size, 2, none⟩ = some (.int .u64 1) := cell_of_row _ _ 2 _ _ (0, 0) kL
            have q3 : (wr.alloc (.cells #[.int .u64 0, .int .u64 18446744073709551615, .int .u64 1, .int .u64 9223372036854775808, .int .u64 9223372036854775807] 72)).cell? ⟨wr.heap.size, 3, none⟩ = some (.int .u64 9223372036854775808) := cell_of_row _ _ 3 _ _ (0, 0) kL
            have q4 : (wr.alloc (.cells #[.int .u64 0, .int .u64 18446744073709551615, .int .u64 1, .int .u64 9223372036854775808, .int .u64 9223372036854775807] 72)).cell? ⟨wr.heap.size, 4, none⟩ = some (.int .u64 9223372036854775807) := cell_of_row _ _ 4 _ _ (0, 0) kL
            have hB := hB.next b1
            have hA := hA.next b1
            have hb := bstep hb b1
            have chB := hB.cell j' (by omega)
            have fhB := hB.frozen j'
            clear b1 kL
            go_wp2_with fail
            refine (within_five _ _).mono ?_
            rintro e wx ⟨c, lc, rfl, hw⟩
            obtain rfl := hw.symm
            clear hw
            obtain rfl | rfl | rfl | rfl | rfl : c = 0 ∨ c = 1 ∨ c = 2 ∨ c = 3 ∨ c = 4 := by omega
            · have X7 := hide (hB.set j' 0)
              have Y7 := hide (hA.but (grown_set _ (W0.heap.size) j' (.int .u64 0)) nAB)
              have b7 : Hid (Below W0.heap.size W0 ((wr.alloc (.cells #[.int .u64 0, .int .u64 18446744073709551615, .int .u64 1, .int .u64 9223372036854775808, .int .u64 9223372036854775807] 72)).setCell ⟨(W0.heap.size), j', none⟩ (.int .u64 0))) := hb.setCell lB _
              have d7 := hide (wDig_set (k := j') (d := 0) hd (by omega) (by decide))
              have l7 : Hid ((zs.set j' 0).length = m) := by show _ = _; rw [List.length_set]; exact hzl
              clear hB hA hb hd hzl
              go_wp2
              go_roundw
              case rel => exact ⟨j' + 1, _, by omega, by go_num, unhide l7, unhide d7, unhide X7, unhide Y7, unhide b7⟩
              case measure => simp [intOf]; omega
            · have X7 := hide (hB.set j' 18446744073709551615)
              have Y7 := hide (hA.but (grown_set _ (W0.heap.size) j' (.int .u64 18446744073709551615)) nAB)
              have b7 : Hid (Below W0.heap.size W0 ((wr.alloc (.cells #[.int .u64 0, .int .u64 18446744073709551615, .int .u64 1, .int .u64 9223372036854775808, .int .u64 9223372036854775807] 72)).setCell ⟨(W0.heap.size), j', none⟩ (.int .u64 18446744073709551615))) := hb.setCell lB _
              have d7 := hide (wDig_set (k := j') (d := 18446744073709551615) hd (by omega) (by decide))
              have l7 : Hid ((zs.set j' 18446744073709551615).length = m) := by show _ = _; rw [List.length_set]; exact hzl
              clear hB hA hb hd hzl
              go_wp2
              go_roundw
              case rel => exact ⟨j' + 1, _, by omega, by go_num, unhide l7, unhide d7, unhide X7, unhide Y7, unhide b7⟩
              case measure => simp [intOf]; omega
            · have X7 := hide (hB.set j' 1)
              have Y7 := hide (hA.but (grown_set _ (W0.heap.size) j' (.int .u64 1)) nAB)
              have b7 : Hid (Below W0.heap.size W0 ((wr.alloc (.cells #[.int .u64 0, .int .u64 18446744073709551615, .int .u64 1, .int .u64 9223372036854775808, .int .u64 9223372036854775807] 72)).setCell ⟨(W0.heap.size), j', none⟩ (.int .u64 1))) := hb.setCell lB _
              have d7 := hide (wDig_set (k := j') (d := 1) hd (by omega) (by decide))
              have l7 : Hid ((zs.set j' 1).length = m) := by show _ = _; rw [List.length_set]; exact hzl
              clear hB hA hb hd hzl
              go_wp2
              go_roundw
              case rel => exact ⟨j' + 1, _, by omega, by go_num, unhide l7, unhide d7, unhide X7, unhide Y7, unhide b7⟩
              case measure => simp [intOf]; omega
            · have X7 := hide (hB.set j' 9223372036854775808)
              have Y7 := hide (hA.but (grown_set _ (W0.heap.size) j' (.int .u64 9223372036854775808)) nAB)
              have b7 : Hid (Below W0.heap.size W0 ((wr.alloc (.cells #[.int .u64 0, .int .u64 18446744073709551615, .int .u64 1, .int .u64 9223372036854775808, .int .u64 9223372036854775807] 72)).setCell ⟨(W0.heap.size), j', none⟩ (.int .u64 9223372036854775808))) := hb.setCell lB _
              have d7 := hide (wDig_set (k := j') (d := 9223372036854775808) hd (by omega) (by decide))
              have l7 : Hid ((zs.set j' 9223372036854775808).length = m) := by show _ = _; rw [List.length_set]; exact hzl
              clear hB hA hb hd hzl
              go_wp2
              go_roundw
              case rel => exact ⟨j' + 1, _, by omega, by go_num, unhide l7, unhide d7, unhide X7, unhide Y7, unhide b7⟩
              case measure => simp [intOf]; omega
            · have X7 := hide (hB.set j' 9223372036854775807)
              have Y7 := hide (hA.but (grown_set _ (W0.heap.size) j' (.int .u64 9223372036854775807)) nAB)
              have b7 : Hid (Below W0.heap.size W0 ((wr.alloc (.cells #[.int .u64 0, .int .u64 18446744073709551615, .int .u64 1, .int .u64 9223372036854775808, .int .u64 9223372036854775807] 72)).setCell ⟨(W0.heap.size), j', none⟩ (.int .u64 9223372036854775807))) := hb.setCell lB _
              have d7 := hide (wDig_set (k := j') (d := 9223372036854775807) hd (by omega) (by decide))
              have l7 : Hid ((zs.set j' 9223372036854775807).length = m) := by show _ = _; rw [List.length_set]; exact hzl
              clear hB hA hb hd hzl
              go_wp2
              go_roundw
              case rel => exact ⟨j' + 1, _, by omega, by go_num, unhide l7, unhide d7, unhide X7, unhide Y7, unhide b7⟩
              case measure => simp [intOf]; omega
          case neg =>
            obtain rfl : j' = m := by omega
            obtain ⟨m', rfl⟩ : ∃ m', j' = m' + 1 := ⟨j' - 1, by omega⟩
            have cB := hB.cell m' (by omega)
            have fB := hB.frozen m'
            replace hdA := unhide hdA
            replace hlA := unhide hlA
            clear h2
            cases top
            case false =>
              have B7 := hB.set m' 9223372036854775808
              have A7 := hA.but (grown_set _ (W0.heap.size) m' (.int .u64 9223372036854775808)) nAB
              have b7 : Below W0.heap.size W0 (wr.setCell ⟨(W0.heap.size), m', none⟩ (.int .u64 9223372036854775808)) := hb.setCell lB _
              have d7 := wDig_set (d := 9223372036854775808) hd (k := m') (by omega) (by decide)
              have l7 : (zs.set m' 9223372036854775808).length = m' + 1 := by rw [List.length_set]; exact hzl
              have C1 := hide (divsLongs_any SN SL SO T _ (W0.heap.size + 1) 0 k k us _ (W0.heap.size) 0 (m' + 1) (m' + 1) _ _ hlA (A7.whole hlA) hdA l7 (B7.whole l7) d7)
              have CW := hide (fun W => divsWakes_any SN SL W)
              unfold Tab.val at C1
              have kT := (b7.block TB0 hTl).trans hTk
              have c0 : (wr.setCell ⟨(W0.heap.size), m', none⟩ (.int .u64 9223372036854775808)).cell? ⟨TB0, 0, none⟩ = some (.int .i64 T.b) := cell_of_row _ TB0 0 _ _ (0, 0) kT
              have c1 : (wr.setCell ⟨(W0.heap.size), m', none⟩ (.int .u64 9223372036854775808)).cell? ⟨TB0, 1, none⟩ = some (.int .i64 T.t) := cell_of_row _ TB0 1 _ _ (0, 0) kT
              have c2 : (wr.setCell ⟨(W0.heap.size), m', none⟩ (.int .u64 9223372036854775808)).cell? ⟨TB0, 2, none⟩ = some (.int .i64 T.n) := cell_of_row _ TB0 2 _ _ (0, 0) kT
              have c3 : (wr.setCell ⟨(W0.heap.size), m', none⟩ (.int .u64 9223372036854775808)).cell? ⟨TB0, 3, none⟩ = some (.int .i64 T.d) := cell_of_row _ TB0 3 _ _ (0, 0) kT
              have c4 : (wr.setCell ⟨(W0.heap.size), m', none⟩ (.int .u64 9223372036854775808)).cell? ⟨TB0, 4, none⟩ = some (.int .i64 T.r) := cell_of_row _ TB0 4 _ _ (0, 0) kT
              have c5 : (wr.setCell ⟨(W0.heap.size), m', none⟩ (.int .u64 9223372036854775808)).cell? ⟨TB0, 5, none⟩ = some (.int .i64 T.l) := cell_of_row _ TB0 5 _ _ (0, 0) kT
              have c6 : (wr.setCell ⟨(W0.heap.size), m', none⟩ (.int .u64 9223372036854775808)).cell? ⟨TB0, 6, none⟩ = some (.int .i64 T.x) := cell_of_row _ TB0 6 _ _ (0, 0) kT
              have c7 : (wr.setCell ⟨(W0.heap.size), m', none⟩ (.int .u64 9223372036854775808)).cell? ⟨TB0, 7, none⟩ = some (.int .i64 T.p) := cell_of_row _ TB0 7 _ _ (0, 0) kT
              have c8 : (wr.setCell ⟨(W0.heap.size), m', none⟩ (.int .u64 9223372036854775808)).cell? ⟨TB0, 8, none⟩ = some (.int .i64 T.k) := cell_of_row _ TB0 8 _ _ (0, 0) kT
              have c9 : (wr.setCell ⟨(W0.heap.size), m', none⟩ (.int .u64 9223372036854775808)).cell? ⟨TB0, 9, none⟩ = some (.int .i64 T.s) := cell_of_row _ TB0 9 _ _ (0, 0) kT
              have c10 : (wr.setCell ⟨(W0.heap.size), m', none⟩ (.int .u64 9223372036854775808)).cell? ⟨TB0, 10, none⟩ = some (.int .i64 T.e) := cell_of_row _ TB0 10 _ _ (0, 0) kT
              clear kT hA hB A7 B7 d7 l7 SN SL SO hd hzl hdA hlA
              go_wp2_with fail
              refine (unhide C1).mono ?_
              rintro e w2 ⟨rfl, b2⟩
              clear C1 c0 c1 c2 c3 c4 c5 c6 c7 c8 c9 c10
              go_wp2_with fail
              refine (unhide CW _).mono ?_
              rintro e w5 ⟨rfl, b⟩
              have bl := bstep bw0 (bstep b7 (bstep b2 b))
              clear b b2 CW
              go_wp2
              go_ret
              exact ⟨rfl, bl⟩
            case true =>
              have B7 := hB.set m' 9223372036854775808
              have A7 := hA.but (grown_set _ (W0.heap.size) m' (.int .u64 9223372036854775808)) nAB
              have b7 : Below W0.heap.size W0 (wr.setCell ⟨(W0.heap.size), m', none⟩ (.int .u64 9223372036854775808)) := hb.setCell lB _
              have d7 := wDig_set (d := 9223372036854775808) hd (k := m') (by omega) (by decide)
              have l7 : (zs.set m' 9223372036854775808).length = m' + 1 := by rw [List.length_set]; exact hzl
              have cB2 := B7.cell m' (by omega)
              have fB2 := B7.frozen m'
              have B8 := B7.set m' 18446744073709551615
              have A8 := A7.but (grown_set _ (W0.heap.size) m' (.int .u64 18446744073709551615)) nAB
              have b8 : Below W0.heap.size W0 ((wr.setCell ⟨(W0.heap.size), m', none⟩ (.int .u64 9223372036854775808)).setCell ⟨(W0.heap.size), m', none⟩ (.int .u64 18446744073709551615)) := b7.setCell lB _
              have d8 := wDig_set (d := 18446744073709551615) d7 (k := m') (by omega) (by decide)
              have l8 : ((zs.set m' 9223372036854775808).set m' 18446744073709551615).length = m' + 1 := by rw [List.length_set]; exact l7
              have C1 := hide (divsLongs_any SN SL SO T _ (W0.heap.size + 1) 0 k k us _ (W0.heap.size) 0 (m' + 1) (m' + 1) _ _ hlA (A8.whole hlA) hdA l8 (B8.whole l8) d8)
              have CW := hide (fun W => divsWakes_any SN SL W)
              unfold Tab.val at C1
              have kT := (b8.block TB0 hTl).trans hTk
              have c0 : ((wr.setCell ⟨(W0.heap.size), m', none⟩ (.int .u64 9223372036854775808)).setCell ⟨(W0.heap.size), m', none⟩ (.int .u64 18446744073709551615)).cell? ⟨TB0, 0, none⟩ = some (.int .i64 T.b) := cell_of_row _ TB0 0 _ _ (0, 0) kT
              have c1 : ((wr.setCell ⟨(W0.heap.size), m', none⟩ (.int .u64 9223372036854775808)).setCell ⟨(W0.heap.size), m', none⟩ (.int .u64 18446744073709551615)).cell? ⟨TB0, 1, none⟩ = some (.int .i64 T.t) := cell_of_row _ TB0 1 _ _ (0, 0) kT
              have c2 : ((wr.setCell ⟨(W0.heap.size), m', none⟩ (.int .u64 9223372036854775808)).setCell ⟨(W0.heap.size), m', none⟩ (.int .u64 18446744073709551615)).cell? ⟨TB0, 2, none⟩ = some (.int .i64 T.n) := cell_of_row _ TB0 2 _ _ (0, 0) kT
              have c3 : ((wr.setCell ⟨(W0.heap.size), m', none⟩ (.int .u64 9223372036854775808)).setCell ⟨(W0.heap.size), m', none⟩ (.int .u64 18446744073709551615)).cell? ⟨TB0, 3, none⟩ = some (.int .i64 T.d) := cell_of_row _ TB0 3 _ _ (0, 0) kT
              have c4 : ((wr.setCell ⟨(W0.heap.size), m', none⟩ (.int .u64 9223372036854775808)).setCell ⟨(W0.heap.size), m', none⟩ (.int .u64 18446744073709551615)).cell? ⟨TB0, 4, none⟩ = some (.int .i64 T.r) := cell_of_row _ TB0 4 _ _ (0, 0) kT
              have c5 : ((wr.setCell ⟨(W0.heap.size), m', none⟩ (.int .u64 9223372036854775808)).setCell ⟨(W0.heap.size), m', none⟩ (.int .u64 18446744073709551615)).cell? ⟨TB0, 5, none⟩ = some (.int .i64 T.l) := cell_of_row _ TB0 5 _ _ (0, 0) kT
              have c6 : ((wr.setCell ⟨(W0.heap.size), m', none⟩ (.int .u64 9223372036854775808)).setCell ⟨(W0.heap.size), m', none⟩ (.int .u64 18446744073709551615)).cell? ⟨TB0, 6, none⟩ = some (.int .i64 T.x) := cell_of_row _ TB0 6 _ _ (0, 0) kT
              have c7 : ((wr.setCell ⟨(W0.heap.size), m', none⟩ (.int .u64 9223372036854775808)).setCell ⟨(W0.heap.size), m', none⟩ (.int .u64 18446744073709551615)).cell? ⟨TB0, 7, none⟩ = some (.int .i64 T.p) := cell_of_row _ TB0 7 _ _ (0, 0) kT
              have c8 : ((wr.setCell ⟨(W0.heap.size), m', none⟩ (.int .u64 9223372036854775808)).setCell ⟨(W0.heap.size), m', none⟩ (.int .u64 18446744073709551615)).cell? ⟨TB0, 8, none⟩ = some (.int .i64 T.k) := cell_of_row _ TB0 8 _ _ (0, 0) kT
              have c9 : ((wr.setCell ⟨(W0.heap.size), m', none⟩ (.int .u64 9223372036854775808)).setCell ⟨(W0.heap.size), m', none⟩ (.int .u64 18446744073709551615)).cell? ⟨TB0, 9, none⟩ = some (.int .i64 T.s) := cell_of_row _ TB0 9 _ _ (0, 0) kT
              have c10 : ((wr.setCell ⟨(W0.heap.size), m', none⟩ (.int .u64 9223372036854775808)).setCell ⟨(W0.heap.size), m', none⟩ (.int .u64 18446744073709551615)).cell? ⟨TB0, 10, none⟩ = some (.int .i64 T.e) := cell_of_row _ TB0 10 _ _ (0, 0) kT
              clear kT hA hB A7 B7 d7 l7 SN SL SO hd hzl hdA hlA A8 B8 d8 l8
              go_wp2_with fail
              refine (unhide C1).mono ?_
              rintro e w2 ⟨rfl, b2⟩
              clear C1 c0 c1 c2 c3 c4 c5 c6 c7 c8 c9 c10
              go_wp2_with fail
              refine (unhide CW _).mono ?_
              rintro e w5 ⟨rfl, b⟩
              have bl := bstep bw0 (bstep b8 (bstep b2 b))
              clear b b2 CW
              go_wp2
              go_ret
              exact ⟨rfl, bl⟩

end Go.Proofs.Ytofgbmfaehnmnaa
