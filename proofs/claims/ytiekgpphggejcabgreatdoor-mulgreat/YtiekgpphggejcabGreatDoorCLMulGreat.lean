/- MulGreat: what the law's walk comes to, once the code's calls are what the document asks. Written by gen_mgreat.py. -/
import Derived.Test.YtiekgpphggejcabGreatDoorXMulGreat
import Derived.Test.YtiekgpphggejcabGreatDoorB5
import Derived.Test.YtiekgpphggejcabGreatDoorB14
namespace Go.Proofs.YtiekgpphggejcabGreatDoor
open Go.RowKit

set_option maxRecDepth 100000 in
set_option maxHeartbeats 12800000 in
theorem mulGreat_any (SN : SpecMNew) (SM : SpecMMul) (SQ : SpecMSqr) (SP : SpecMProd) (T : Tab) (a d : Int) (w : World) (h1 : -9223372036854775808 ≤ a) (h2 : a ≤ 9223372036854775807) (h3 : -9223372036854775808 ≤ d) (h4 : d ≤ 9223372036854775807) (hT : TB w) :
    Calls Tryz.prog 4 #[T.val, .int .i64 a, .int .i64 d] w fun e w' => e = .returned (.bool true) ∧ Below w.heap.size w w' := by
  obtain ⟨i, hi⟩ : ∃ i : Nat, a % 90 = (i : Int) := ⟨(a % 90).toNat, by omega⟩
  obtain ⟨j, hj⟩ : ∃ j : Nat, d % 90 = (j : Int) := ⟨(d % 90).toNat, by omega⟩
  have CK1 := hide (fun w => within_any a 90 w h1 h2 (by decide) (by decide))
  have CK2 := hide (fun w => within_any d 90 w h3 h4 (by decide) (by decide))
  rw [hi] at CK1
  rw [hj] at CK2
  obtain ⟨n, hn⟩ : ∃ n, n = 1 + i := ⟨_, rfl⟩
  obtain ⟨m, hm⟩ : ∃ m, m = 1 + j := ⟨_, rfl⟩
  have en : 1 + (i : Int) = (n : Int) := by omega
  have em : 1 + (j : Int) = (m : Int) := by omega
  have wn : IntKind.i64.wrap (n : Int) = (n : Int) := by rw [IntKind.wrap_i64]; omega
  have wm : IntKind.i64.wrap (m : Int) = (m : Int) := by rw [IntKind.wrap_i64]; omega
  have bn : 1 ≤ n ∧ n ≤ 100 := by omega
  have bm : 1 ≤ m ∧ m ≤ 100 := by omega
  have hmk1 := make_su n n (n : Int) rfl rfl (by omega)
  have hmk2 := make_su m m (m : Int) rfl rfl (by omega)
  clear hi hj h1 h2 h3 h4 hn hm
  have HT := hide hT
  clear hT
  unfold Tab.val
  have bw0 : Below w.heap.size w (w.alloc (.cells #[.int .i64 T.b, .int .i64 T.t, .int .i64 T.n, .int .i64 T.d, .int .i64 T.r, .int .i64 T.l, .int .i64 T.x, .int .i64 T.p, .int .i64 T.k, .int .i64 T.s, .int .i64 T.e] 23)) := (Below.refl _ _).alloc (Nat.le_refl _) _
  have hTk := heap_alloc_new w (.cells #[.int .i64 T.b, .int .i64 T.t, .int .i64 T.n, .int .i64 T.d, .int .i64 T.r, .int .i64 T.l, .int .i64 T.x, .int .i64 T.p, .int .i64 T.k, .int .i64 T.s, .int .i64 T.e] 23)
  obtain ⟨W0, hW0⟩ : ∃ W0, w.alloc (.cells #[.int .i64 T.b, .int .i64 T.t, .int .i64 T.n, .int .i64 T.d, .int .i64 T.r, .int .i64 T.l, .int .i64 T.x, .int .i64 T.p, .int .i64 T.k, .int .i64 T.s, .int .i64 T.e] 23) = W0 := ⟨_, rfl⟩
  rw [hW0] at bw0 hTk
  obtain ⟨TB0, hTB⟩ : ∃ B, w.heap.size = B := ⟨_, rfl⟩
  rw [hTB] at hTk
  have hTl : TB0 < W0.heap.size := (Array.getElem?_eq_some_iff.1 hTk).1
  go_enter Tryz.func4, Tryz.ntmps4
  go_wp2_with fail
  refine (unhide CK1 _).mono ?_
  rintro e wx ⟨rfl, hw⟩
  obtain rfl := hw.symm
  clear hw CK1
  go_wp2_with fail
  refine (unhide CK2 _).mono ?_
  rintro e wx ⟨rfl, hw⟩
  obtain rfl := hw.symm
  clear hw CK2
  go_wp2
  go_big_region
  all_goals go_wp2
  all_goals clear hmk1 hmk2 en em wn wm hW0 hTB
  · have bW : Below W0.heap.size W0 ((W0.alloc (.cells (zlist n).toArray 41)).alloc (.cells (zlist m).toArray 41)).drew := (((Below.refl W0.heap.size W0).alloc (Nat.le_refl _) _).alloc (by simp) _).drew
    have zA : Blk ((W0.alloc (.cells (zlist n).toArray 41)).alloc (.cells (zlist m).toArray 41)).drew (W0.heap.size) (List.replicate n 0) := blk_first W0 n m
    have zB : Blk ((W0.alloc (.cells (zlist n).toArray 41)).alloc (.cells (zlist m).toArray 41)).drew (W0.heap.size + 1) (List.replicate m 0) := blk_second W0 n m
    have nAB : (W0.heap.size) ≠ (W0.heap.size + 1) := by omega
    have lA : W0.heap.size ≤ (W0.heap.size) := by omega
    have lB : W0.heap.size ≤ (W0.heap.size + 1) := by omega
    generalize ((W0.alloc (.cells (zlist n).toArray 41)).alloc (.cells (zlist m).toArray 41)).drew = W at *
    have zA := hide zA
    have zB := hide zB
    have bW := hide bW
    go_loopw [9] (fun iv wr => ∃ (k : Nat) (zs : List Nat), k ≤ n ∧ iv = .int .i64 (k : Int) ∧ Hid (MapRow (fun _ => 18446744073709551615) (List.replicate n 0) zs k) ∧ Blk wr (W0.heap.size) zs ∧ Blk wr (W0.heap.size + 1) (List.replicate m 0) ∧ Below W0.heap.size W0 wr) (fun iv _ => n - (intOf iv).toNat)
    case atStart => exact ⟨0, _, Nat.zero_le _, rfl, mapRow_start _ _, unhide zA, unhide zB, unhide bW⟩
    case round =>
      clear zA zB bW
      obtain ⟨k, zs, hk, rfl, hV, hA, hB, hb⟩ := hrel
      have hrep : (List.replicate n 0).length = n := by simp
      have hzl : zs.length = n := by rw [hV.out.1, hrep]
      by_cases h2 : k < n
      · have cA := hA.cell k (by omega)
        have fA := hA.frozen k
        have hstep : Hid (MapRow (fun _ => 18446744073709551615) (List.replicate n 0) (zs.set k 18446744073709551615) (k + 1)) := mapRow_step hV.out (by omega)
        have A7 := hide (hA.set k 18446744073709551615)
        have B7 := hide (hB.but (grown_set wr (W0.heap.size) k (.int .u64 18446744073709551615)) (Ne.symm nAB))
        have b7 : Hid (Below W0.heap.size W0 (wr.setCell ⟨(W0.heap.size), k, none⟩ (.int .u64 18446744073709551615))) := hb.setCell lA _
        have hmm : Hid (n - (k + 1) < n - k) := by show _ < _; omega
        clear hV hrep
        go_wp2
        go_roundw
        case rel => exact ⟨k + 1, _, by omega, by go_num, hstep, unhide A7, unhide B7, unhide b7⟩
        case measure => simp [intOf]; have := unhide hmm; omega
      · obtain rfl : k = n := by omega
        have hme := mapRow_end (f := fun _ => 18446744073709551615) (z0 := List.replicate k 0) (zs := zs) (by rw [hrep]; exact hV.out)
        rw [hrep, great_map] at hme
        subst hme
        have hA := hide hA
        have hB := hide hB
        have hb := hide hb
        clear hV hrep hzl h2
        go_wp2
        go_loopw [10] (fun iv wr => ∃ (k' : Nat) (zs : List Nat), k' ≤ m ∧ iv = .int .i64 (k' : Int) ∧ Hid (MapRow (fun _ => 18446744073709551615) (List.replicate m 0) zs k') ∧ Blk wr (W0.heap.size + 1) zs ∧ Blk wr (W0.heap.size) (List.replicate k 18446744073709551615) ∧ Below W0.heap.size W0 wr) (fun iv _ => m - (intOf iv).toNat)
        case atStart => exact ⟨0, _, Nat.zero_le _, rfl, mapRow_start _ _, unhide hB, unhide hA, unhide hb⟩
        case round =>
          clear hA hB hb
          obtain ⟨j', zs, hk, rfl, hV, hB, hA, hb⟩ := hrel
          have hrep : (List.replicate m 0).length = m := by simp
          have hzl : zs.length = m := by rw [hV.out.1, hrep]
          by_cases h2 : j' < m
          · have cB := hB.cell j' (by omega)
            have fB := hB.frozen j'
            have hstep : Hid (MapRow (fun _ => 18446744073709551615) (List.replicate m 0) (zs.set j' 18446744073709551615) (j' + 1)) := mapRow_step hV.out (by omega)
            have B7 := hide (hB.set j' 18446744073709551615)
            have A7 := hide (hA.but (grown_set wr (W0.heap.size + 1) j' (.int .u64 18446744073709551615)) nAB)
            have b7 : Hid (Below W0.heap.size W0 (wr.setCell ⟨(W0.heap.size + 1), j', none⟩ (.int .u64 18446744073709551615))) := hb.setCell lB _
            have hmm : Hid (m - (j' + 1) < m - j') := by show _ < _; omega
            clear hV hrep
            go_wp2
            go_roundw
            case rel => exact ⟨j' + 1, _, by omega, by go_num, hstep, unhide B7, unhide A7, unhide b7⟩
            case measure => simp [intOf]; have := unhide hmm; omega
          · obtain rfl : j' = m := by omega
            have hme := mapRow_end (f := fun _ => 18446744073709551615) (z0 := List.replicate j' 0) (zs := zs) (by rw [hrep]; exact hV.out)
            rw [hrep, great_map] at hme
            subst hme
            have dA := great_dig k
            have dB := great_dig j'
            have lenA : (List.replicate k 18446744073709551615).length = k := by simp
            have lenB : (List.replicate j' 18446744073709551615).length = j' := by simp
            generalize List.replicate k 18446744073709551615 = us at *
            generalize List.replicate j' 18446744073709551615 = vs at *
            have rA := hA.whole lenA
            have rB := hB.whole lenB
            have C1 := hide (fun W (b : Below wr.heap.size wr W) => mulMuls_any SN SM SP T _ (W0.heap.size) 0 k k us _ (W0.heap.size + 1) 0 j' j' vs W lenA (rA.next b) dA lenB (rB.next b) dB ((unhide HT).next (bstep bw0 (bstep hb b))))
            have C3 := hide (fun W (b : Below wr.heap.size wr W) => mulSquares_any SN SQ SP T _ (W0.heap.size) 0 k k us W lenA (rA.next b) dA ((unhide HT).next (bstep bw0 (bstep hb b))))
            have CW := hide (fun W h => mulWakes_any SN SP W h)
            unfold Tab.val at C1 C3
            have kT := (hb.block TB0 hTl).trans hTk
            have c0 : wr.cell? ⟨TB0, 0, none⟩ = some (.int .i64 T.b) := cell_of_row _ TB0 0 _ _ (0, 0) kT
            have c1 : wr.cell? ⟨TB0, 1, none⟩ = some (.int .i64 T.t) := cell_of_row _ TB0 1 _ _ (0, 0) kT
            have c2 : wr.cell? ⟨TB0, 2, none⟩ = some (.int .i64 T.n) := cell_of_row _ TB0 2 _ _ (0, 0) kT
            have c3 : wr.cell? ⟨TB0, 3, none⟩ = some (.int .i64 T.d) := cell_of_row _ TB0 3 _ _ (0, 0) kT
            have c4 : wr.cell? ⟨TB0, 4, none⟩ = some (.int .i64 T.r) := cell_of_row _ TB0 4 _ _ (0, 0) kT
            have c5 : wr.cell? ⟨TB0, 5, none⟩ = some (.int .i64 T.l) := cell_of_row _ TB0 5 _ _ (0, 0) kT
            have c6 : wr.cell? ⟨TB0, 6, none⟩ = some (.int .i64 T.x) := cell_of_row _ TB0 6 _ _ (0, 0) kT
            have c7 : wr.cell? ⟨TB0, 7, none⟩ = some (.int .i64 T.p) := cell_of_row _ TB0 7 _ _ (0, 0) kT
            have c8 : wr.cell? ⟨TB0, 8, none⟩ = some (.int .i64 T.k) := cell_of_row _ TB0 8 _ _ (0, 0) kT
            have c9 : wr.cell? ⟨TB0, 9, none⟩ = some (.int .i64 T.s) := cell_of_row _ TB0 9 _ _ (0, 0) kT
            have c10 : wr.cell? ⟨TB0, 10, none⟩ = some (.int .i64 T.e) := cell_of_row _ TB0 10 _ _ (0, 0) kT
            clear kT
            clear rA rB hA hB SN SM SQ SP hV hrep hzl
            go_wp2_with fail
            refine (unhide C1 _ (Below.refl _ _)).mono ?_
            rintro e w2 ⟨rfl, b2⟩
            have hb2 := bstep hb b2
            clear C1
            clear c0 c1 c2 c3 c4 c5 c6 c7 c8 c9 c10
            have kT := (hb2.block TB0 hTl).trans hTk
            have c0 : w2.cell? ⟨TB0, 0, none⟩ = some (.int .i64 T.b) := cell_of_row _ TB0 0 _ _ (0, 0) kT
            have c1 : w2.cell? ⟨TB0, 1, none⟩ = some (.int .i64 T.t) := cell_of_row _ TB0 1 _ _ (0, 0) kT
            have c2 : w2.cell? ⟨TB0, 2, none⟩ = some (.int .i64 T.n) := cell_of_row _ TB0 2 _ _ (0, 0) kT
            have c3 : w2.cell? ⟨TB0, 3, none⟩ = some (.int .i64 T.d) := cell_of_row _ TB0 3 _ _ (0, 0) kT
            have c4 : w2.cell? ⟨TB0, 4, none⟩ = some (.int .i64 T.r) := cell_of_row _ TB0 4 _ _ (0, 0) kT
            have c5 : w2.cell? ⟨TB0, 5, none⟩ = some (.int .i64 T.l) := cell_of_row _ TB0 5 _ _ (0, 0) kT
            have c6 : w2.cell? ⟨TB0, 6, none⟩ = some (.int .i64 T.x) := cell_of_row _ TB0 6 _ _ (0, 0) kT
            have c7 : w2.cell? ⟨TB0, 7, none⟩ = some (.int .i64 T.p) := cell_of_row _ TB0 7 _ _ (0, 0) kT
            have c8 : w2.cell? ⟨TB0, 8, none⟩ = some (.int .i64 T.k) := cell_of_row _ TB0 8 _ _ (0, 0) kT
            have c9 : w2.cell? ⟨TB0, 9, none⟩ = some (.int .i64 T.s) := cell_of_row _ TB0 9 _ _ (0, 0) kT
            have c10 : w2.cell? ⟨TB0, 10, none⟩ = some (.int .i64 T.e) := cell_of_row _ TB0 10 _ _ (0, 0) kT
            clear kT
            go_wp2_with fail
            refine (unhide C3 _ b2).mono ?_
            rintro e w4 ⟨rfl, b⟩
            have b4 := bstep b2 b
            clear C3 b b2
            clear c0 c1 c2 c3 c4 c5 c6 c7 c8 c9 c10
            go_wp2_with fail
            refine (unhide CW _ ((unhide HT).next (bstep bw0 (bstep hb b4)))).mono ?_
            rintro e w5 ⟨rfl, b⟩
            have bl := bstep bw0 (bstep hb (bstep b4 b))
            clear b b4 CW
            go_wp2
            go_ret
            exact ⟨rfl, bl⟩
  · have bW : Below W0.heap.size W0 ((W0.alloc (.cells (zlist m).toArray 41)).alloc (.cells (zlist n).toArray 41)).drew := (((Below.refl W0.heap.size W0).alloc (Nat.le_refl _) _).alloc (by simp) _).drew
    have zA : Blk ((W0.alloc (.cells (zlist m).toArray 41)).alloc (.cells (zlist n).toArray 41)).drew (W0.heap.size + 1) (List.replicate n 0) := blk_second W0 m n
    have zB : Blk ((W0.alloc (.cells (zlist m).toArray 41)).alloc (.cells (zlist n).toArray 41)).drew (W0.heap.size) (List.replicate m 0) := blk_first W0 m n
    have nAB : (W0.heap.size + 1) ≠ (W0.heap.size) := by omega
    have lA : W0.heap.size ≤ (W0.heap.size + 1) := by omega
    have lB : W0.heap.size ≤ (W0.heap.size) := by omega
    generalize ((W0.alloc (.cells (zlist m).toArray 41)).alloc (.cells (zlist n).toArray 41)).drew = W at *
    have zA := hide zA
    have zB := hide zB
    have bW := hide bW
    go_loopw [9] (fun iv wr => ∃ (k : Nat) (zs : List Nat), k ≤ n ∧ iv = .int .i64 (k : Int) ∧ Hid (MapRow (fun _ => 18446744073709551615) (List.replicate n 0) zs k) ∧ Blk wr (W0.heap.size + 1) zs ∧ Blk wr (W0.heap.size) (List.replicate m 0) ∧ Below W0.heap.size W0 wr) (fun iv _ => n - (intOf iv).toNat)
    case atStart => exact ⟨0, _, Nat.zero_le _, rfl, mapRow_start _ _, unhide zA, unhide zB, unhide bW⟩
    case round =>
      clear zA zB bW
      obtain ⟨k, zs, hk, rfl, hV, hA, hB, hb⟩ := hrel
      have hrep : (List.replicate n 0).length = n := by simp
      have hzl : zs.length = n := by rw [hV.out.1, hrep]
      by_cases h2 : k < n
      · have cA := hA.cell k (by omega)
        have fA := hA.frozen k
        have hstep : Hid (MapRow (fun _ => 18446744073709551615) (List.replicate n 0) (zs.set k 18446744073709551615) (k + 1)) := mapRow_step hV.out (by omega)
        have A7 := hide (hA.set k 18446744073709551615)
        have B7 := hide (hB.but (grown_set wr (W0.heap.size + 1) k (.int .u64 18446744073709551615)) (Ne.symm nAB))
        have b7 : Hid (Below W0.heap.size W0 (wr.setCell ⟨(W0.heap.size + 1), k, none⟩ (.int .u64 18446744073709551615))) := hb.setCell lA _
        have hmm : Hid (n - (k + 1) < n - k) := by show _ < _; omega
        clear hV hrep
        go_wp2
        go_roundw
        case rel => exact ⟨k + 1, _, by omega, by go_num, hstep, unhide A7, unhide B7, unhide b7⟩
        case measure => simp [intOf]; have := unhide hmm; omega
      · obtain rfl : k = n := by omega
        have hme := mapRow_end (f := fun _ => 18446744073709551615) (z0 := List.replicate k 0) (zs := zs) (by rw [hrep]; exact hV.out)
        rw [hrep, great_map] at hme
        subst hme
        have hA := hide hA
        have hB := hide hB
        have hb := hide hb
        clear hV hrep hzl h2
        go_wp2
        go_loopw [10] (fun iv wr => ∃ (k' : Nat) (zs : List Nat), k' ≤ m ∧ iv = .int .i64 (k' : Int) ∧ Hid (MapRow (fun _ => 18446744073709551615) (List.replicate m 0) zs k') ∧ Blk wr (W0.heap.size) zs ∧ Blk wr (W0.heap.size + 1) (List.replicate k 18446744073709551615) ∧ Below W0.heap.size W0 wr) (fun iv _ => m - (intOf iv).toNat)
        case atStart => exact ⟨0, _, Nat.zero_le _, rfl, mapRow_start _ _, unhide hB, unhide hA, unhide hb⟩
        case round =>
          clear hA hB hb
          obtain ⟨j', zs, hk, rfl, hV, hB, hA, hb⟩ := hrel
          have hrep : (List.replicate m 0).length = m := by simp
          have hzl : zs.length = m := by rw [hV.out.1, hrep]
          by_cases h2 : j' < m
          · have cB := hB.cell j' (by omega)
            have fB := hB.frozen j'
            have hstep : Hid (MapRow (fun _ => 18446744073709551615) (List.replicate m 0) (zs.set j' 18446744073709551615) (j' + 1)) := mapRow_step hV.out (by omega)
            have B7 := hide (hB.set j' 18446744073709551615)
            have A7 := hide (hA.but (grown_set wr (W0.heap.size) j' (.int .u64 18446744073709551615)) nAB)
            have b7 : Hid (Below W0.heap.size W0 (wr.setCell ⟨(W0.heap.size), j', none⟩ (.int .u64 18446744073709551615))) := hb.setCell lB _
            have hmm : Hid (m - (j' + 1) < m - j') := by show _ < _; omega
            clear hV hrep
            go_wp2
            go_roundw
            case rel => exact ⟨j' + 1, _, by omega, by go_num, hstep, unhide B7, unhide A7, unhide b7⟩
            case measure => simp [intOf]; have := unhide hmm; omega
          · obtain rfl : j' = m := by omega
            have hme := mapRow_end (f := fun _ => 18446744073709551615) (z0 := List.replicate j' 0) (zs := zs) (by rw [hrep]; exact hV.out)
            rw [hrep, great_map] at hme
            subst hme
            have dA := great_dig k
            have dB := great_dig j'
            have lenA : (List.replicate k 18446744073709551615).length = k := by simp
            have lenB : (List.replicate j' 18446744073709551615).length = j' := by simp
            generalize List.replicate k 18446744073709551615 = us at *
            generalize List.replicate j' 18446744073709551615 = vs at *
            have rA := hA.whole lenA
            have rB := hB.whole lenB
            have C1 := hide (fun W (b : Below wr.heap.size wr W) => mulMuls_any SN SM SP T _ (W0.heap.size + 1) 0 k k us _ (W0.heap.size) 0 j' j' vs W lenA (rA.next b) dA lenB (rB.next b) dB ((unhide HT).next (bstep bw0 (bstep hb b))))
            have C3 := hide (fun W (b : Below wr.heap.size wr W) => mulSquares_any SN SQ SP T _ (W0.heap.size + 1) 0 k k us W lenA (rA.next b) dA ((unhide HT).next (bstep bw0 (bstep hb b))))
            have CW := hide (fun W h => mulWakes_any SN SP W h)
            unfold Tab.val at C1 C3
            have kT := (hb.block TB0 hTl).trans hTk
            have c0 : wr.cell? ⟨TB0, 0, none⟩ = some (.int .i64 T.b) := cell_of_row _ TB0 0 _ _ (0, 0) kT
            have c1 : wr.cell? ⟨TB0, 1, none⟩ = some (.int .i64 T.t) := cell_of_row _ TB0 1 _ _ (0, 0) kT
            have c2 : wr.cell? ⟨TB0, 2, none⟩ = some (.int .i64 T.n) := cell_of_row _ TB0 2 _ _ (0, 0) kT
            have c3 : wr.cell? ⟨TB0, 3, none⟩ = some (.int .i64 T.d) := cell_of_row _ TB0 3 _ _ (0, 0) kT
            have c4 : wr.cell? ⟨TB0, 4, none⟩ = some (.int .i64 T.r) := cell_of_row _ TB0 4 _ _ (0, 0) kT
            have c5 : wr.cell? ⟨TB0, 5, none⟩ = some (.int .i64 T.l) := cell_of_row _ TB0 5 _ _ (0, 0) kT
            have c6 : wr.cell? ⟨TB0, 6, none⟩ = some (.int .i64 T.x) := cell_of_row _ TB0 6 _ _ (0, 0) kT
            have c7 : wr.cell? ⟨TB0, 7, none⟩ = some (.int .i64 T.p) := cell_of_row _ TB0 7 _ _ (0, 0) kT
            have c8 : wr.cell? ⟨TB0, 8, none⟩ = some (.int .i64 T.k) := cell_of_row _ TB0 8 _ _ (0, 0) kT
            have c9 : wr.cell? ⟨TB0, 9, none⟩ = some (.int .i64 T.s) := cell_of_row _ TB0 9 _ _ (0, 0) kT
            have c10 : wr.cell? ⟨TB0, 10, none⟩ = some (.int .i64 T.e) := cell_of_row _ TB0 10 _ _ (0, 0) kT
            clear kT
            clear rA rB hA hB SN SM SQ SP hV hrep hzl
            go_wp2_with fail
            refine (unhide C1 _ (Below.refl _ _)).mono ?_
            rintro e w2 ⟨rfl, b2⟩
            have hb2 := bstep hb b2
            clear C1
            clear c0 c1 c2 c3 c4 c5 c6 c7 c8 c9 c10
            have kT := (hb2.block TB0 hTl).trans hTk
            have c0 : w2.cell? ⟨TB0, 0, none⟩ = some (.int .i64 T.b) := cell_of_row _ TB0 0 _ _ (0, 0) kT
            have c1 : w2.cell? ⟨TB0, 1, none⟩ = some (.int .i64 T.t) := cell_of_row _ TB0 1 _ _ (0, 0) kT
            have c2 : w2.cell? ⟨TB0, 2, none⟩ = some (.int .i64 T.n) := cell_of_row _ TB0 2 _ _ (0, 0) kT
            have c3 : w2.cell? ⟨TB0, 3, none⟩ = some (.int .i64 T.d) := cell_of_row _ TB0 3 _ _ (0, 0) kT
            have c4 : w2.cell? ⟨TB0, 4, none⟩ = some (.int .i64 T.r) := cell_of_row _ TB0 4 _ _ (0, 0) kT
            have c5 : w2.cell? ⟨TB0, 5, none⟩ = some (.int .i64 T.l) := cell_of_row _ TB0 5 _ _ (0, 0) kT
            have c6 : w2.cell? ⟨TB0, 6, none⟩ = some (.int .i64 T.x) := cell_of_row _ TB0 6 _ _ (0, 0) kT
            have c7 : w2.cell? ⟨TB0, 7, none⟩ = some (.int .i64 T.p) := cell_of_row _ TB0 7 _ _ (0, 0) kT
            have c8 : w2.cell? ⟨TB0, 8, none⟩ = some (.int .i64 T.k) := cell_of_row _ TB0 8 _ _ (0, 0) kT
            have c9 : w2.cell? ⟨TB0, 9, none⟩ = some (.int .i64 T.s) := cell_of_row _ TB0 9 _ _ (0, 0) kT
            have c10 : w2.cell? ⟨TB0, 10, none⟩ = some (.int .i64 T.e) := cell_of_row _ TB0 10 _ _ (0, 0) kT
            clear kT
            go_wp2_with fail
            refine (unhide C3 _ b2).mono ?_
            rintro e w4 ⟨rfl, b⟩
            have b4 := bstep b2 b
            clear C3 b b2
            clear c0 c1 c2 c3 c4 c5 c6 c7 c8 c9 c10
            go_wp2_with fail
            refine (unhide CW _ ((unhide HT).next (bstep bw0 (bstep hb b4)))).mono ?_
            rintro e w5 ⟨rfl, b⟩
            have bl := bstep bw0 (bstep hb (bstep b4 b))
            clear b b4 CW
            go_wp2
            go_ret
            exact ⟨rfl, bl⟩

end Go.Proofs.YtiekgpphggejcabGreatDoor
