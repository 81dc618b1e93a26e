/- ToomGreat: what the law's walk comes to, once the code's calls are what the document asks. Written by gen_tgreat.py. -/
import Derived.Test.YteinonbijiokmaaM13
import Derived.Test.YteinonbijiokmaaM4
import Derived.Test.YteinonbijiokmaaM6
namespace Go.Proofs.Yteinonbijiokmaa
open Go.RowKit

theorem blk_three0 (w : World) (p q r : Nat) : Blk (((w.alloc (.cells (zlist p).toArray 28)).alloc (.cells (zlist q).toArray 28)).alloc (.cells (zlist r).toArray 28)).drew w.heap.size (List.replicate p 0) :=
  (Blk.next (Blk.next (blk_zeros w p) ((Below.refl _ _).alloc (Nat.le_refl _) (.cells (zlist q).toArray 28))) ((Below.refl _ _).alloc (Nat.le_refl _) (.cells (zlist r).toArray 28))).drewN 1
theorem blk_three1 (w : World) (p q r : Nat) : Blk (((w.alloc (.cells (zlist p).toArray 28)).alloc (.cells (zlist q).toArray 28)).alloc (.cells (zlist r).toArray 28)).drew (w.heap.size + 1) (List.replicate q 0) := by
  have h := blk_zeros (w.alloc (.cells (zlist p).toArray 28)) q
  have e : (w.alloc (.cells (zlist p).toArray 28)).heap.size = w.heap.size + 1 := by simp
  rw [e] at h
  exact (h.next ((Below.refl _ _).alloc (Nat.le_refl _) (.cells (zlist r).toArray 28))).drewN 1
theorem blk_three2 (w : World) (p q r : Nat) : Blk (((w.alloc (.cells (zlist p).toArray 28)).alloc (.cells (zlist q).toArray 28)).alloc (.cells (zlist r).toArray 28)).drew (w.heap.size + 1 + 1) (List.replicate r 0) := by
  have h := blk_zeros ((w.alloc (.cells (zlist p).toArray 28)).alloc (.cells (zlist q).toArray 28)) r
  have e : ((w.alloc (.cells (zlist p).toArray 28)).alloc (.cells (zlist q).toArray 28)).heap.size = w.heap.size + 1 + 1 := by simp
  rw [e] at h
  exact h.drewN 1
theorem lone_dig (n p : Nat) : WDig ((List.replicate n 0).set p 9223372036854775808) := fun j => by
  rw [List.getD_eq_getElem?_getD, List.getElem?_set]
  split
  · split
    · exact Nat.lt_of_sub_eq_succ rfl
    · exact Nat.zero_lt_succ _
  · rw [List.getElem?_replicate]
    split
    · exact Nat.zero_lt_succ _
    · exact Nat.zero_lt_succ _

set_option maxRecDepth 100000 in
set_option maxHeartbeats 12800000 in
theorem toomGreat_any (SN : SpecTNew) (S3 : SpecThird) (S4 : SpecThirdNo) (SK : SpecToomT) (SO : SpecToomNo) (SQ : SpecToomS) (SP : SpecToomSqrNo) (T : Tab) (a d c : Int) (w : World) (h1 : -9223372036854775808 ≤ a) (h2 : a ≤ 9223372036854775807) (h3 : -9223372036854775808 ≤ d) (h4 : d ≤ 9223372036854775807) (h5 : -9223372036854775808 ≤ c) (h6 : c ≤ 9223372036854775807) :
    Calls Try.prog 7 #[T.val, .int .i64 a, .int .i64 d, .int .i64 c] w fun e w' => e = .returned (.bool true) ∧ Below w.heap.size w w' := by
  obtain ⟨i, hi⟩ : ∃ i : Nat, a % 40 = (i : Int) := ⟨(a % 40).toNat, by omega⟩
  obtain ⟨j, hj⟩ : ∃ j : Nat, d % 40 = (j : Int) := ⟨(d % 40).toNat, by omega⟩
  have CK1 := hide (fun w => within_any a 40 w h1 h2 (by decide) (by decide))
  have CK2 := hide (fun w => within_any d 40 w h3 h4 (by decide) (by decide))
  rw [hi] at CK1
  rw [hj] at CK2
  obtain ⟨n, hn⟩ : ∃ n, n = 3 + i := ⟨_, rfl⟩
  obtain ⟨m, hm⟩ : ∃ m, m = 3 + j := ⟨_, rfl⟩
  have en : 3 + (i : Int) = (n : Int) := by omega
  have em : 3 + (j : Int) = (m : Int) := by omega
  have wn : IntKind.i64.wrap (n : Int) = (n : Int) := by rw [IntKind.wrap_i64]; omega
  have wm : IntKind.i64.wrap (m : Int) = (m : Int) := by rw [IntKind.wrap_i64]; omega
  have bn : 1 ≤ n ∧ n ≤ 60 := by omega
  have bm : 1 ≤ m ∧ m ≤ 60 := by omega
  have hmk1 := make_su n n (n : Int) rfl rfl (by omega)
  have hmk2 := make_su m m (m : Int) rfl rfl (by omega)
  have CC := hide (fun w => within_any c n w h5 h6 (by omega) (by omega))
  obtain ⟨p, hp⟩ : ∃ p : Nat, c % (n : Int) = (p : Int) := ⟨(c % (n : Int)).toNat, by have := Int.emod_nonneg c (show (n : Int) ≠ 0 by omega); omega⟩
  have hpn : p < n := by have := Int.emod_lt_of_pos c (show (0 : Int) < (n : Int) by omega); omega
  rw [hp] at CC
  clear hi hj h1 h2 h3 h4 h5 h6 hn hm hp
  unfold Tab.val
  have bw0 : Below w.heap.size w (w.alloc (.cells #[.int .i64 T.b, .int .i64 T.t, .int .i64 T.n, .int .i64 T.d, .int .i64 T.r, .int .i64 T.l, .int .i64 T.x, .int .i64 T.p, .int .i64 T.k, .int .i64 T.s, .int .i64 T.e] 55)) := (Below.refl _ _).alloc (Nat.le_refl _) _
  have hTk := heap_alloc_new w (.cells #[.int .i64 T.b, .int .i64 T.t, .int .i64 T.n, .int .i64 T.d, .int .i64 T.r, .int .i64 T.l, .int .i64 T.x, .int .i64 T.p, .int .i64 T.k, .int .i64 T.s, .int .i64 T.e] 55)
  obtain ⟨W0, hW0⟩ : ∃ W0, w.alloc (.cells #[.int .i64 T.b, .int .i64 T.t, .int .i64 T.n, .int .i64 T.d, .int .i64 T.r, .int .i64 T.l, .int .i64 T.x, .int .i64 T.p, .int .i64 T.k, .int .i64 T.s, .int .i64 T.e] 55) = W0 := ⟨_, rfl⟩
  rw [hW0] at bw0 hTk
  obtain ⟨TB0, hTB⟩ : ∃ B, w.heap.size = B := ⟨_, rfl⟩
  rw [hTB] at hTk
  have hTl : TB0 < W0.heap.size := (Array.getElem?_eq_some_iff.1 hTk).1
  go_enter Try.func7, Try.ntmps7
  go_wp2_with fail
  refine (unhide CK1 _).mono ?_
  rintro e wx ⟨rfl, hw⟩
  obtain rfl := hw.symm
  clear hw CK1
  go_wp2_with fail
  refine (unhide CK2 _).mono ?_
  rintro e wx ⟨rfl, hw⟩
  obtain rfl := hw.symm
  clear hw CK2
  go_wp2
  go_big_region
  all_goals go_wp2
  all_goals clear hmk1 hmk2 en em wn wm hW0 hTB
  · have bW : Below W0.heap.size W0 (((W0.alloc (.cells (zlist n).toArray 28)).alloc (.cells (zlist m).toArray 28)).alloc (.cells (zlist n).toArray 28)).drew := ((((Below.refl W0.heap.size W0).alloc (Nat.le_refl _) _).alloc (by simp) _).alloc (by simp; omega) _).drew
    have zA : Blk (((W0.alloc (.cells (zlist n).toArray 28)).alloc (.cells (zlist m).toArray 28)).alloc (.cells (zlist n).toArray 28)).drew (W0.heap.size) (List.replicate n 0) := blk_three0 W0 n m n
    have zB : Blk (((W0.alloc (.cells (zlist n).toArray 28)).alloc (.cells (zlist m).toArray 28)).alloc (.cells (zlist n).toArray 28)).drew (W0.heap.size + 1) (List.replicate m 0) := blk_three1 W0 n m n
    have zC : Blk (((W0.alloc (.cells (zlist n).toArray 28)).alloc (.cells (zlist m).toArray 28)).alloc (.cells (zlist n).toArray 28)).drew (W0.heap.size + 1 + 1) (List.replicate n 0) := blk_three2 W0 n m n
    have nAB : (W0.heap.size) ≠ (W0.heap.size + 1) ∧ (W0.heap.size) ≠ (W0.heap.size + 1 + 1) ∧ (W0.heap.size + 1) ≠ (W0.heap.size + 1 + 1) := by omega
    have lA : W0.heap.size ≤ (W0.heap.size) ∧ W0.heap.size ≤ (W0.heap.size + 1) ∧ W0.heap.size ≤ (W0.heap.size + 1 + 1) := by omega
    generalize (((W0.alloc (.cells (zlist n).toArray 28)).alloc (.cells (zlist m).toArray 28)).alloc (.cells (zlist n).toArray 28)).drew = W at *
    have zA := hide zA
    have zB := hide zB
    have zC := hide zC
    have bW := hide bW
    go_loopw [12] (fun iv wr => ∃ (k : Nat) (zs : List Nat), k ≤ n ∧ iv = .int .i64 (k : Int) ∧ Hid (MapRow (fun _ => 18446744073709551615) (List.replicate n 0) zs k) ∧ Blk wr (W0.heap.size) zs ∧ Blk wr (W0.heap.size + 1) (List.replicate m 0) ∧ Blk wr (W0.heap.size + 1 + 1) (List.replicate n 0) ∧ Below W0.heap.size W0 wr) (fun iv _ => n - (intOf iv).toNat)
    case atStart => exact ⟨0, _, Nat.zero_le _, rfl, mapRow_start _ _, unhide zA, unhide zB, unhide zC, unhide bW⟩
    case round =>
      clear zA zB zC bW
      obtain ⟨k, zs, hk, rfl, hV, hA, hB, hC, hb⟩ := hrel
      have hrep : (List.replicate n 0).length = n := by simp
      have hzl : zs.length = n := by rw [hV.out.1, hrep]
      by_cases h2 : k < n
      · have cA := hA.cell k (by omega)
        have fA := hA.frozen k
        have hstep : Hid (MapRow (fun _ => 18446744073709551615) (List.replicate n 0) (zs.set k 18446744073709551615) (k + 1)) := mapRow_step hV.out (by omega)
        have A7 := hide (hA.set k 18446744073709551615)
        have B7 := hide (hB.but (grown_set wr (W0.heap.size) k (.int .u64 18446744073709551615)) (Ne.symm nAB.1))
        have C7 := hide (hC.but (grown_set wr (W0.heap.size) k (.int .u64 18446744073709551615)) (Ne.symm nAB.2.1))
        have b7 : Hid (Below W0.heap.size W0 (wr.setCell ⟨(W0.heap.size), k, none⟩ (.int .u64 18446744073709551615))) := hb.setCell lA.1 _
        have hmm : Hid (n - (k + 1) < n - k) := by show _ < _; omega
        clear hV hrep
        go_wp2
        go_roundw
        case rel => exact ⟨k + 1, _, by omega, by go_num, hstep, unhide A7, unhide B7, unhide C7, unhide b7⟩
        case measure => simp [intOf]; have := unhide hmm; omega
      · obtain rfl : k = n := by omega
        have hme := mapRow_end (f := fun _ => 18446744073709551615) (z0 := List.replicate k 0) (zs := zs) (by rw [hrep]; exact hV.out)
        rw [hrep, great_map] at hme
        subst hme
        have hA := hide hA
        have hB := hide hB
        have hC := hide hC
        have hb := hide hb
        clear hV hrep hzl h2
        go_wp2
        go_loopw [13] (fun iv wr => ∃ (k' : Nat) (zs : List Nat), k' ≤ m ∧ iv = .int .i64 (k' : Int) ∧ Hid (MapRow (fun _ => 18446744073709551615) (List.replicate m 0) zs k') ∧ Blk wr (W0.heap.size + 1) zs ∧ Blk wr (W0.heap.size) (List.replicate k 18446744073709551615) ∧ Blk wr (W0.heap.size + 1 + 1) (List.replicate k 0) ∧ Below W0.heap.size W0 wr) (fun iv _ => m - (intOf iv).toNat)
        case atStart => exact ⟨0, _, Nat.zero_le _, rfl, mapRow_start _ _, unhide hB, unhide hA, unhide hC, unhide hb⟩
        case round =>
          clear hA hB hC hb
          obtain ⟨j', zs, hk, rfl, hV, hB, hA, hC, hb⟩ := hrel
          have hrep : (List.replicate m 0).length = m := by simp
          have hzl : zs.length = m := by rw [hV.out.1, hrep]
          by_cases h2 : j' < m
          · have cB := hB.cell j' (by omega)
            have fB := hB.frozen j'
            have hstep : Hid (MapRow (fun _ => 18446744073709551615) (List.replicate m 0) (zs.set j' 18446744073709551615) (j' + 1)) := mapRow_step hV.out (by omega)
            have B7 := hide (hB.set j' 18446744073709551615)
            have A7 := hide (hA.but (grown_set wr (W0.heap.size + 1) j' (.int .u64 18446744073709551615)) nAB.1)
            have C7 := hide (hC.but (grown_set wr (W0.heap.size + 1) j' (.int .u64 18446744073709551615)) (Ne.symm nAB.2.2))
            have b7 : Hid (Below W0.heap.size W0 (wr.setCell ⟨(W0.heap.size + 1), j', none⟩ (.int .u64 18446744073709551615))) := hb.setCell lA.2.1 _
            have hmm : Hid (m - (j' + 1) < m - j') := by show _ < _; omega
            clear hV hrep
            go_wp2
            go_roundw
            case rel => exact ⟨j' + 1, _, by omega, by go_num, hstep, unhide B7, unhide A7, unhide C7, unhide b7⟩
            case measure => simp [intOf]; have := unhide hmm; omega
          · obtain rfl : j' = m := by omega
            have hme := mapRow_end (f := fun _ => 18446744073709551615) (z0 := List.replicate j' 0) (zs := zs) (by rw [hrep]; exact hV.out)
            rw [hrep, great_map] at hme
            subst hme
            have cC := hC.cell p (by simp; omega)
            have fC := hC.frozen p
            have hC2 := hC.set p 9223372036854775808
            have hA2 := hA.but (grown_set wr (W0.heap.size + 1 + 1) p (.int .u64 9223372036854775808)) nAB.2.1
            have hB2 := hB.but (grown_set wr (W0.heap.size + 1 + 1) p (.int .u64 9223372036854775808)) nAB.2.2
            have hb2 : Below W0.heap.size W0 (wr.setCell ⟨(W0.heap.size + 1 + 1), p, none⟩ (.int .u64 9223372036854775808)) := hb.setCell lA.2.2 _
            obtain ⟨W3, hW3⟩ : ∃ W3, wr.setCell ⟨(W0.heap.size + 1 + 1), p, none⟩ (.int .u64 9223372036854775808) = W3 := ⟨_, rfl⟩
            have hW3' : wr.setCell ⟨(W0.heap.size + 1 + 1), p, none⟩ (.int .u64 ((9223372036854775808 : Nat) : Int)) = W3 := hW3
            rw [hW3'] at hC2
            rw [hW3] at hA2 hB2 hb2
            have dA := great_dig k
            have dB := great_dig j'
            have dC := lone_dig k p
            have lenA : (List.replicate k 18446744073709551615).length = k := by simp
            have lenB : (List.replicate j' 18446744073709551615).length = j' := by simp
            have lenC : ((List.replicate k 0).set p 9223372036854775808).length = k := by simp
            generalize List.replicate k 18446744073709551615 = us at *
            generalize List.replicate j' 18446744073709551615 = vs at *
            generalize (List.replicate k 0).set p 9223372036854775808 = ts at *
            have rA := hA2.whole lenA
            have rB := hB2.whole lenB
            have rC := hC2.whole lenC
            have C1 := hide (fun W (b : Below W3.heap.size W3 W) => toomMuls_any SN S3 S4 SK SO T _ (W0.heap.size) 0 k k us _ (W0.heap.size + 1) 0 j' j' vs W lenA (rA.next b) dA lenB (rB.next b) dB)
            have C2 := hide (fun W (b : Below W3.heap.size W3 W) => toomMuls_any SN S3 S4 SK SO T _ (W0.heap.size + 1 + 1) 0 k k ts _ (W0.heap.size + 1) 0 j' j' vs W lenC (rC.next b) dC lenB (rB.next b) dB)
            have C3 := hide (fun W (b : Below W3.heap.size W3 W) => toomMuls_any SN S3 S4 SK SO T _ (W0.heap.size + 1 + 1) 0 k k ts _ (W0.heap.size) 0 k k us W lenC (rC.next b) dC lenA (rA.next b) dA)
            have C4 := hide (fun W (b : Below W3.heap.size W3 W) => toomSquares_any SN S3 S4 SQ SP T _ (W0.heap.size) 0 k k us W lenA (rA.next b) dA)
            have C5 := hide (fun W (b : Below W3.heap.size W3 W) => toomSquares_any SN S3 S4 SQ SP T _ (W0.heap.size + 1 + 1) 0 k k ts W lenC (rC.next b) dC)
            have CW := hide (toomWakes_any SN S3 S4)
            unfold Tab.val at C1 C2 C3 C4 C5
            have hb := hide hb2
            clear rA rB rC hA hB hC hA2 hB2 hC2 hb2 SN S3 S4 SK SO SQ SP hV hrep hzl hW3'
            go_wp2_with fail
            refine (unhide CC _).mono ?_
            rintro e wx ⟨rfl, hw⟩
            obtain rfl := hw.symm
            clear hw CC
            have hb := unhide hb
            have kT := (hb.block TB0 hTl).trans hTk
            have c0 : W3.cell? ⟨TB0, 0, none⟩ = some (.int .i64 T.b) := cell_of_row _ TB0 0 _ _ (0, 0) kT
            have c1 : W3.cell? ⟨TB0, 1, none⟩ = some (.int .i64 T.t) := cell_of_row _ TB0 1 _ _ (0, 0) kT
            have c2 : W3.cell? ⟨TB0, 2, none⟩ = some (.int .i64 T.n) := cell_of_row _ TB0 2 _ _ (0, 0) kT
            have c3 : W3.cell? ⟨TB0, 3, none⟩ = some (.int .i64 T.d) := cell_of_row _ TB0 3 _ _ (0, 0) kT
            have c4 : W3.cell? ⟨TB0, 4, none⟩ = some (.int .i64 T.r) := cell_of_row _ TB0 4 _ _ (0, 0) kT
            have c5 : W3.cell? ⟨TB0, 5, none⟩ = some (.int .i64 T.l) := cell_of_row _ TB0 5 _ _ (0, 0) kT
            have c6 : W3.cell? ⟨TB0, 6, none⟩ = some (.int .i64 T.x) := cell_of_row _ TB0 6 _ _ (0, 0) kT
            have c7 : W3.cell? ⟨TB0, 7, none⟩ = some (.int .i64 T.p) := cell_of_row _ TB0 7 _ _ (0, 0) kT
            have c8 : W3.cell? ⟨TB0, 8, none⟩ = some (.int .i64 T.k) := cell_of_row _ TB0 8 _ _ (0, 0) kT
            have c9 : W3.cell? ⟨TB0, 9, none⟩ = some (.int .i64 T.s) := cell_of_row _ TB0 9 _ _ (0, 0) kT
            have c10 : W3.cell? ⟨TB0, 10, none⟩ = some (.int .i64 T.e) := cell_of_row _ TB0 10 _ _ (0, 0) kT
            clear kT
            go_wp2_with fail
            refine (unhide C1 _ (Below.refl _ _)).mono ?_
            rintro e w2 ⟨rfl, b2⟩
            have hb2 := bstep hb b2
            clear C1 cC fC hW3
            clear c0 c1 c2 c3 c4 c5 c6 c7 c8 c9 c10
            have kT := (hb2.block TB0 hTl).trans hTk
            have c0 : w2.cell? ⟨TB0, 0, none⟩ = some (.int .i64 T.b) := cell_of_row _ TB0 0 _ _ (0, 0) kT
            have c1 : w2.cell? ⟨TB0, 1, none⟩ = some (.int .i64 T.t) := cell_of_row _ TB0 1 _ _ (0, 0) kT
            have c2 : w2.cell? ⟨TB0, 2, none⟩ = some (.int .i64 T.n) := cell_of_row _ TB0 2 _ _ (0, 0) kT
            have c3 : w2.cell? ⟨TB0, 3, none⟩ = some (.int .i64 T.d) := cell_of_row _ TB0 3 _ _ (0, 0) kT
            have c4 : w2.cell? ⟨TB0, 4, none⟩ = some (.int .i64 T.r) := cell_of_row _ TB0 4 _ _ (0, 0) kT
            have c5 : w2.cell? ⟨TB0, 5, none⟩ = some (.int .i64 T.l) := cell_of_row _ TB0 5 _ _ (0, 0) kT
            have c6 : w2.cell? ⟨TB0, 6, none⟩ = some (.int .i64 T.x) := cell_of_row _ TB0 6 _ _ (0, 0) kT
            have c7 : w2.cell? ⟨TB0, 7, none⟩ = some (.int .i64 T.p) := cell_of_row _ TB0 7 _ _ (0, 0) kT
            have c8 : w2.cell? ⟨TB0, 8, none⟩ = some (.int .i64 T.k) := cell_of_row _ TB0 8 _ _ (0, 0) kT
            have c9 : w2.cell? ⟨TB0, 9, none⟩ = some (.int .i64 T.s) := cell_of_row _ TB0 9 _ _ (0, 0) kT
            have c10 : w2.cell? ⟨TB0, 10, none⟩ = some (.int .i64 T.e) := cell_of_row _ TB0 10 _ _ (0, 0) kT
            clear kT
            go_wp2_with fail
            refine (unhide C2 _ b2).mono ?_
            rintro e w3 ⟨rfl, b⟩
            have b3 := bstep b2 b
            have hb3 := bstep hb b3
            clear C2 b b2 hb2
            clear c0 c1 c2 c3 c4 c5 c6 c7 c8 c9 c10
            have kT := (hb3.block TB0 hTl).trans hTk
            have c0 : w3.cell? ⟨TB0, 0, none⟩ = some (.int .i64 T.b) := cell_of_row _ TB0 0 _ _ (0, 0) kT
            have c1 : w3.cell? ⟨TB0, 1, none⟩ = some (.int .i64 T.t) := cell_of_row _ TB0 1 _ _ (0, 0) kT
            have c2 : w3.cell? ⟨TB0, 2, none⟩ = some (.int .i64 T.n) := cell_of_row _ TB0 2 _ _ (0, 0) kT
            have c3 : w3.cell? ⟨TB0, 3, none⟩ = some (.int .i64 T.d) := cell_of_row _ TB0 3 _ _ (0, 0) kT
            have c4 : w3.cell? ⟨TB0, 4, none⟩ = some (.int .i64 T.r) := cell_of_row _ TB0 4 _ _ (0, 0) kT
            have c5 : w3.cell? ⟨TB0, 5, none⟩ = some (.int .i64 T.l) := cell_of_row _ TB0 5 _ _ (0, 0) kT
            have c6 : w3.cell? ⟨TB0, 6, none⟩ = some (.int .i64 T.x) := cell_of_row _ TB0 6 _ _ (0, 0) kT
            have c7 : w3.cell? ⟨TB0, 7, none⟩ = some (.int .i64 T.p) := cell_of_row _ TB0 7 _ _ (0, 0) kT
            have c8 : w3.cell? ⟨TB0, 8, none⟩ = some (.int .i64 T.k) := cell_of_row _ TB0 8 _ _ (0, 0) kT
            have c9 : w3.cell? ⟨TB0, 9, none⟩ = some (.int .i64 T.s) := cell_of_row _ TB0 9 _ _ (0, 0) kT
            have c10 : w3.cell? ⟨TB0, 10, none⟩ = some (.int .i64 T.e) := cell_of_row _ TB0 10 _ _ (0, 0) kT
            clear kT
            go_wp2_with fail
            refine (unhide C3 _ b3).mono ?_
            rintro e w4 ⟨rfl, b⟩
            have b4 := bstep b3 b
            have hb4 := bstep hb b4
            clear C3 b b3 hb3
            clear c0 c1 c2 c3 c4 c5 c6 c7 c8 c9 c10
            have kT := (hb4.block TB0 hTl).trans hTk
            have c0 : w4.cell? ⟨TB0, 0, none⟩ = some (.int .i64 T.b) := cell_of_row _ TB0 0 _ _ (0, 0) kT
            have c1 : w4.cell? ⟨TB0, 1, none⟩ = some (.int .i64 T.t) := cell_of_row _ TB0 1 _ _ (0, 0) kT
            have c2 : w4.cell? ⟨TB0, 2, none⟩ = some (.int .i64 T.n) := cell_of_row _ TB0 2 _ _ (0, 0) kT
            have c3 : w4.cell? ⟨TB0, 3, none⟩ = some (.int .i64 T.d) := cell_of_row _ TB0 3 _ _ (0, 0) kT
            have c4 : w4.cell? ⟨TB0, 4, none⟩ = some (.int .i64 T.r) := cell_of_row _ TB0 4 _ _ (0, 0) kT
            have c5 : w4.cell? ⟨TB0, 5, none⟩ = some (.int .i64 T.l) := cell_of_row _ TB0 5 _ _ (0, 0) kT
            have c6 : w4.cell? ⟨TB0, 6, none⟩ = some (.int .i64 T.x) := cell_of_row _ TB0 6 _ _ (0, 0) kT
            have c7 : w4.cell? ⟨TB0, 7, none⟩ = some (.int .i64 T.p) := cell_of_row _ TB0 7 _ _ (0, 0) kT
            have c8 : w4.cell? ⟨TB0, 8, none⟩ = some (.int .i64 T.k) := cell_of_row _ TB0 8 _ _ (0, 0) kT
            have c9 : w4.cell? ⟨TB0, 9, none⟩ = some (.int .i64 T.s) := cell_of_row _ TB0 9 _ _ (0, 0) kT
            have c10 : w4.cell? ⟨TB0, 10, none⟩ = some (.int .i64 T.e) := cell_of_row _ TB0 10 _ _ (0, 0) kT
            clear kT
            go_wp2_with fail
            refine (unhide C4 _ b4).mono ?_
            rintro e w5 ⟨rfl, b⟩
            have b5 := bstep b4 b
            have hb5 := bstep hb b5
            clear C4 b b4 hb4
            clear c0 c1 c2 c3 c4 c5 c6 c7 c8 c9 c10
            have kT := (hb5.block TB0 hTl).trans hTk
            have c0 : w5.cell? ⟨TB0, 0, none⟩ = some (.int .i64 T.b) := cell_of_row _ TB0 0 _ _ (0, 0) kT
            have c1 : w5.cell? ⟨TB0, 1, none⟩ = some (.int .i64 T.t) := cell_of_row _ TB0 1 _ _ (0, 0) kT
            have c2 : w5.cell? ⟨TB0, 2, none⟩ = some (.int .i64 T.n) := cell_of_row _ TB0 2 _ _ (0, 0) kT
            have c3 : w5.cell? ⟨TB0, 3, none⟩ = some (.int .i64 T.d) := cell_of_row _ TB0 3 _ _ (0, 0) kT
            have c4 : w5.cell? ⟨TB0, 4, none⟩ = some (.int .i64 T.r) := cell_of_row _ TB0 4 _ _ (0, 0) kT
            have c5 : w5.cell? ⟨TB0, 5, none⟩ = some (.int .i64 T.l) := cell_of_row _ TB0 5 _ _ (0, 0) kT
            have c6 : w5.cell? ⟨TB0, 6, none⟩ = some (.int .i64 T.x) := cell_of_row _ TB0 6 _ _ (0, 0) kT
            have c7 : w5.cell? ⟨TB0, 7, none⟩ = some (.int .i64 T.p) := cell_of_row _ TB0 7 _ _ (0, 0) kT
            have c8 : w5.cell? ⟨TB0, 8, none⟩ = some (.int .i64 T.k) := cell_of_row _ TB0 8 _ _ (0, 0) kT
            have c9 : w5.cell? ⟨TB0, 9, none⟩ = some (.int .i64 T.s) := cell_of_row _ TB0 9 _ _ (0, 0) kT
            have c10 : w5.cell? ⟨TB0, 10, none⟩ = some (.int .i64 T.e) := cell_of_row _ TB0 10 _ _ (0, 0) kT
            clear kT
            go_wp2_with fail
            refine (unhide C5 _ b5).mono ?_
            rintro e w6 ⟨rfl, b⟩
            have b6 := bstep b5 b
            have hb6 := bstep hb b6
            clear C5 b b5 hb5
            clear c0 c1 c2 c3 c4 c5 c6 c7 c8 c9 c10
            go_wp2_with fail
            refine (unhide CW _).mono ?_
            rintro e w7 ⟨rfl, b⟩
            have bl := bstep bw0 (bstep hb6 b)
            clear b CW
            go_wp2
            go_ret
            exact ⟨rfl, bl⟩
  · have bW : Below W0.heap.size W0 (((W0.alloc (.cells (zlist n).toArray 28)).alloc (.cells (zlist n).toArray 28)).alloc (.cells (zlist m).toArray 28)).drew := ((((Below.refl W0.heap.size W0).alloc (Nat.le_refl _) _).alloc (by simp) _).alloc (by simp; omega) _).drew
    have zA : Blk (((W0.alloc (.cells (zlist n).toArray 28)).alloc (.cells (zlist n).toArray 28)).alloc (.cells (zlist m).toArray 28)).drew (W0.heap.size) (List.replicate n 0) := blk_three0 W0 n n m
    have zB : Blk (((W0.alloc (.cells (zlist n).toArray 28)).alloc (.cells (zlist n).toArray 28)).alloc (.cells (zlist m).toArray 28)).drew (W0.heap.size + 1 + 1) (List.replicate m 0) := blk_three2 W0 n n m
    have zC : Blk (((W0.alloc (.cells (zlist n).toArray 28)).alloc (.cells (zlist n).toArray 28)).alloc (.cells (zlist m).toArray 28)).drew (W0.heap.size + 1) (List.replicate n 0) := blk_three1 W0 n n m
    have nAB : (W0.heap.size) ≠ (W0.heap.size + 1 + 1) ∧ (W0.heap.size) ≠ (W0.heap.size + 1) ∧ (W0.heap.size + 1 + 1) ≠ (W0.heap.size + 1) := by omega
    have lA : W0.heap.size ≤ (W0.heap.size) ∧ W0.heap.size ≤ (W0.heap.size + 1 + 1) ∧ W0.heap.size ≤ (W0.heap.size + 1) := by omega
    generalize (((W0.alloc (.cells (zlist n).toArray 28)).alloc (.cells (zlist n).toArray 28)).alloc (.cells (zlist m).toArray 28)).drew = W at *
    have zA := hide zA
    have zB := hide zB
    have zC := hide zC
    have bW := hide bW
    go_loopw [12] (fun iv wr => ∃ (k : Nat) (zs : List Nat), k ≤ n ∧ iv = .int .i64 (k : Int) ∧ Hid (MapRow (fun _ => 18446744073709551615) (List.replicate n 0) zs k) ∧ Blk wr (W0.heap.size) zs ∧ Blk wr (W0.heap.size + 1 + 1) (List.replicate m 0) ∧ Blk wr (W0.heap.size + 1) (List.replicate n 0) ∧ Below W0.heap.size W0 wr) (fun iv _ => n - (intOf iv).toNat)
    case atStart => exact ⟨0, _, Nat.zero_le _, rfl, mapRow_start _ _, unhide zA, unhide zB, unhide zC, unhide bW⟩
    case round =>
      clear zA zB zC bW
      obtain ⟨k, zs, hk, rfl, hV, hA, hB, hC, hb⟩ := hrel
      have hrep : (List.replicate n 0).length = n := by simp
      have hzl : zs.length = n := by rw [hV.out.1, hrep]
      by_cases h2 : k < n
      · have cA := hA.cell k (by omega)
        have fA := hA.frozen k
        have hstep : Hid (MapRow (fun _ => 18446744073709551615) (List.replicate n 0) (zs.set k 18446744073709551615) (k + 1)) := mapRow_step hV.out (by omega)
        have A7 := hide (hA.set k 18446744073709551615)
        have B7 := hide (hB.but (grown_set wr (W0.heap.size) k (.int .u64 18446744073709551615)) (Ne.symm nAB.1))
        have C7 := hide (hC.but (grown_set wr (W0.heap.size) k (.int .u64 18446744073709551615)) (Ne.symm nAB.2.1))
        have b7 : Hid (Below W0.heap.size W0 (wr.setCell ⟨(W0.heap.size), k, none⟩ (.int .u64 18446744073709551615))) := hb.setCell lA.1 _
        have hmm : Hid (n - (k + 1) < n - k) := by show _ < _; omega
        clear hV hrep
        go_wp2
        go_roundw
        case rel => exact ⟨k + 1, _, by omega, by go_num, hstep, unhide A7, unhide B7, unhide C7, unhide b7⟩
        case measure => simp [intOf]; have := unhide hmm; omega
      · obtain rfl : k = n := by omega
        have hme := mapRow_end (f := fun _ => 18446744073709551615) (z0 := List.replicate k 0) (zs := zs) (by rw [hrep]; exact hV.out)
        rw [hrep, great_map] at hme
        subst hme
        have hA := hide hA
        have hB := hide hB
        have hC := hide hC
        have hb := hide hb
        clear hV hrep hzl h2
        go_wp2
        go_loopw [13] (fun iv wr => ∃ (k' : Nat) (zs : List Nat), k' ≤ m ∧ iv = .int .i64 (k' : Int) ∧ Hid (MapRow (fun _ => 18446744073709551615) (List.replicate m 0) zs k') ∧ Blk wr (W0.heap.size + 1 + 1) zs ∧ Blk wr (W0.heap.size) (List.replicate k 18446744073709551615) ∧ Blk wr (W0.heap.size + 1) (List.replicate k 0) ∧ Below W0.heap.size W0 wr) (fun iv _ => m - (intOf iv).toNat)
        case atStart => exact ⟨0, _, Nat.zero_le _, rfl, mapRow_start _ _, unhide hB, unhide hA, unhide hC, unhide hb⟩
        case round =>
          clear hA hB hC hb
          obtain ⟨j', zs, hk, rfl, hV, hB, hA, hC, hb⟩ := hrel
          have hrep : (List.replicate m 0).length = m := by simp
          have hzl : zs.length = m := by rw [hV.out.1, hrep]
          by_cases h2 : j' < m
          · have cB := hB.cell j' (by omega)
            have fB := hB.frozen j'
            have hstep : Hid (MapRow (fun _ => 18446744073709551615) (List.replicate m 0) (zs.set j' 18446744073709551615) (j' + 1)) := mapRow_step hV.out (by omega)
            have B7 := hide (hB.set j' 18446744073709551615)
            have A7 := hide (hA.but (grown_set wr (W0.heap.size + 1 + 1) j' (.int .u64 18446744073709551615)) nAB.1)
            have C7 := hide (hC.but (grown_set wr (W0.heap.size + 1 + 1) j' (.int .u64 18446744073709551615)) (Ne.symm nAB.2.2))
            have b7 : Hid (Below W0.heap.size W0 (wr.setCell ⟨(W0.heap.size + 1 + 1), j', none⟩ (.int .u64 18446744073709551615))) := hb.setCell lA.2.1 _
            have hmm : Hid (m - (j' + 1) < m - j') := by show _ < _; omega
            clear hV hrep
            go_wp2
            go_roundw
            case rel => exact ⟨j' + 1, _, by omega, by go_num, hstep, unhide B7, unhide A7, unhide C7, unhide b7⟩
            case measure => simp [intOf]; have := unhide hmm; omega
          · obtain rfl : j' = m := by omega
            have hme := mapRow_end (f := fun _ => 18446744073709551615) (z0 := List.replicate j' 0) (zs := zs) (by rw [hrep]; exact hV.out)
            rw [hrep, great_map] at hme
            subst hme
            have cC := hC.cell p (by simp; omega)
            have fC := hC.frozen p
            have hC2 := hC.set p 9223372036854775808
            have hA2 := hA.but (grown_set wr (W0.heap.size + 1) p (.int .u64 9223372036854775808)) nAB.2.1
            have hB2 := hB.but (grown_set wr (W0.heap.size + 1) p (.int .u64 9223372036854775808)) nAB.2.2
            have hb2 : Below W0.heap.size W0 (wr.setCell ⟨(W0.heap.size + 1), p, none⟩ (.int .u64 9223372036854775808)) := hb.setCell lA.2.2 _
            obtain ⟨W3, hW3⟩ : ∃ W3, wr.setCell ⟨(W0.heap.size + 1), p, none⟩ (.int .u64 9223372036854775808) = W3 := ⟨_, rfl⟩
            have hW3' : wr.setCell ⟨(W0.heap.size + 1), p, none⟩ (.int .u64 ((9223372036854775808 : Nat) : Int)) = W3 := hW3
            rw [hW3'] at hC2
            rw [hW3] at hA2 hB2 hb2
            have dA := great_dig k
            have dB := great_dig j'
            have dC := lone_dig k p
            have lenA : (List.replicate k 18446744073709551615).length = k := by simp
            have lenB : (List.replicate j' 18446744073709551615).length = j' := by simp
            have lenC : ((List.replicate k 0).set p 9223372036854775808).length = k := by simp
            generalize List.replicate k 18446744073709551615 = us at *
            generalize List.replicate j' 18446744073709551615 = vs at *
            generalize (List.replicate k 0).set p 9223372036854775808 = ts at *
            have rA := hA2.whole lenA
            have rB := hB2.whole lenB
            have rC := hC2.whole lenC
            have C1 := hide (fun W (b : Below W3.heap.size W3 W) => toomMuls_any SN S3 S4 SK SO T _ (W0.heap.size) 0 k k us _ (W0.heap.size + 1 + 1) 0 j' j' vs W lenA (rA.next b) dA lenB (rB.next b) dB)
            have C2 := hide (fun W (b : Below W3.heap.size W3 W) => toomMuls_any SN S3 S4 SK SO T _ (W0.heap.size + 1) 0 k k ts _ (W0.heap.size + 1 + 1) 0 j' j' vs W lenC (rC.next b) dC lenB (rB.next b) dB)
            have C3 := hide (fun W (b : Below W3.heap.size W3 W) => toomMuls_any SN S3 S4 SK SO T _ (W0.heap.size + 1) 0 k k ts _ (W0.heap.size) 0 k k us W lenC (rC.next b) dC lenA (rA.next b) dA)
            have C4 := hide (fun W (b : Below W3.heap.size W3 W) => toomSquares_any SN S3 S4 SQ SP T _ (W0.heap.size) 0 k k us W lenA (rA.next b) dA)
            have C5 := hide (fun W (b : Below W3.heap.size W3 W) => toomSquares_any SN S3 S4 SQ SP T _ (W0.heap.size + 1) 0 k k ts W lenC (rC.next b) dC)
            have CW := hide (toomWakes_any SN S3 S4)
            unfold Tab.val at C1 C2 C3 C4 C5
            have hb := hide hb2
            clear rA rB rC hA hB hC hA2 hB2 hC2 hb2 SN S3 S4 SK SO SQ SP hV hrep hzl hW3'
            go_wp2_with fail
            refine (unhide CC _).mono ?_
            rintro e wx ⟨rfl, hw⟩
            obtain rfl := hw.symm
            clear hw CC
            have hb := unhide hb
            have kT := (hb.block TB0 hTl).trans hTk
            have c0 : W3.cell? ⟨TB0, 0, none⟩ = some (.int .i64 T.b) := cell_of_row _ TB0 0 _ _ (0, 0) kT
            have c1 : W3.cell? ⟨TB0, 1, none⟩ = some (.int .i64 T.t) := cell_of_row _ TB0 1 _ _ (0, 0) kT
            have c2 : W3.cell? ⟨TB0, 2, none⟩ = some (.int .i64 T.n) := cell_of_row _ TB0 2 _ _ (0, 0) kT
            have c3 : W3.cell? ⟨TB0, 3, none⟩ = some (.int .i64 T.d) := cell_of_row _ TB0 3 _ _ (0, 0) kT
            have c4 : W3.cell? ⟨TB0, 4, none⟩ = some (.int .i64 T.r) := cell_of_row _ TB0 4 _ _ (0, 0) kT
            have c5 : W3.cell? ⟨TB0, 5, none⟩ = some (.int .i64 T.l) := cell_of_row _ TB0 5 _ _ (0, 0) kT
            have c6 : W3.cell? ⟨TB0, 6, none⟩ = some (.int .i64 T.x) := cell_of_row _ TB0 6 _ _ (0, 0) kT
            have c7 : W3.cell? ⟨TB0, 7, none⟩ = some (.int .i64 T.p) := cell_of_row _ TB0 7 _ _ (0, 0) kT
            have c8 : W3.cell? ⟨TB0, 8, none⟩ = some (.int .i64 T.k) := cell_of_row _ TB0 8 _ _ (0, 0) kT
            have c9 : W3.cell? ⟨TB0, 9, none⟩ = some (.int .i64 T.s) := cell_of_row _ TB0 9 _ _ (0, 0) kT
            have c10 : W3.cell? ⟨TB0, 10, none⟩ = some (.int .i64 T.e) := cell_of_row _ TB0 10 _ _ (0, 0) kT
            clear kT
            go_wp2_with fail
            refine (unhide C1 _ (Below.refl _ _)).mono ?_
            rintro e w2 ⟨rfl, b2⟩
            have hb2 := bstep hb b2
            clear C1 cC fC hW3
            clear c0 c1 c2 c3 c4 c5 c6 c7 c8 c9 c10
            have kT := (hb2.block TB0 hTl).trans hTk
            have c0 : w2.cell? ⟨TB0, 0, none⟩ = some (.int .i64 T.b) := cell_of_row _ TB0 0 _ _ (0, 0) kT
            have c1 : w2.cell? ⟨TB0, 1, none⟩ = some (.int .i64 T.t) := cell_of_row _ TB0 1 _ _ (0, 0) kT
            have c2 : w2.cell? ⟨TB0, 2, none⟩ = some (.int .i64 T.n) := cell_of_row _ TB0 2 _ _ (0, 0) kT
            have c3 : w2.cell? ⟨TB0, 3, none⟩ = some (.int .i64 T.d) := cell_of_row _ TB0 3 _ _ (0, 0) kT
            have c4 : w2.cell? ⟨TB0, 4, none⟩ = some (.int .i64 T.r) := cell_of_row _ TB0 4 _ _ (0, 0) kT
            have c5 : w2.cell? ⟨TB0, 5, none⟩ = some (.int .i64 T.l) := cell_of_row _ TB0 5 _ _ (0, 0) kT
            have c6 : w2.cell? ⟨TB0, 6, none⟩ = some (.int .i64 T.x) := cell_of_row _ TB0 6 _ _ (0, 0) kT
            have c7 : w2.cell? ⟨TB0, 7, none⟩ = some (.int .i64 T.p) := cell_of_row _ TB0 7 _ _ (0, 0) kT
            have c8 : w2.cell? ⟨TB0, 8, none⟩ = some (.int .i64 T.k) := cell_of_row _ TB0 8 _ _ (0, 0) kT
            have c9 : w2.cell? ⟨TB0, 9, none⟩ = some (.int .i64 T.s) := cell_of_row _ TB0 9 _ _ (0, 0) kT
            have c10 : w2.cell? ⟨TB0, 10, none⟩ = some (.int .i64 T.e) := cell_of_row _ TB0 10 _ _ (0, 0) kT
            clear kT
            go_wp2_with fail
            refine (unhide C2 _ b2).mono ?_
            rintro e w3 ⟨rfl, b⟩
            have b3 := bstep b2 b
            have hb3 := bstep hb b3
            clear C2 b b2 hb2
            clear c0 c1 c2 c3 c4 c5 c6 c7 c8 c9 c10
            have kT := (hb3.block TB0 hTl).trans hTk
            have c0 : w3.cell? ⟨TB0, 0, none⟩ = some (.int .i64 T.b) := cell_of_row _ TB0 0 _ _ (0, 0) kT
            have c1 : w3.cell? ⟨TB0, 1, none⟩ = some (.int .i64 T.t) := cell_of_row _ TB0 1 _ _ (0, 0) kT
            have c2 : w3.cell? ⟨TB0, 2, none⟩ = some (.int .i64 T.n) := cell_of_row _ TB0 2 _ _ (0, 0) kT
            have c3 : w3.cell? ⟨TB0, 3, none⟩ = some (.int .i64 T.d) := cell_of_row _ TB0 3 _ _ (0, 0) kT
            have c4 : w3.cell? ⟨TB0, 4, none⟩ = some (.int .i64 T.r) := cell_of_row _ TB0 4 _ _ (0, 0) kT
            have c5 : w3.cell? ⟨TB0, 5, none⟩ = some (.int .i64 T.l) := cell_of_row _ TB0 5 _ _ (0, 0) kT
            have c6 : w3.cell? ⟨TB0, 6, none⟩ = some (.int .i64 T.x) := cell_of_row _ TB0 6 _ _ (0, 0) kT
            have c7 : w3.cell? ⟨TB0, 7, none⟩ = some (.int .i64 T.p) := cell_of_row _ TB0 7 _ _ (0, 0) kT
            have c8 : w3.cell? ⟨TB0, 8, none⟩ = some (.int .i64 T.k) := cell_of_row _ TB0 8 _ _ (0, 0) kT
            have c9 : w3.cell? ⟨TB0, 9, none⟩ = some (.int .i64 T.s) := cell_of_row _ TB0 9 _ _ (0, 0) kT
            have c10 : w3.cell? ⟨TB0, 10, none⟩ = some (.int .i64 T.e) := cell_of_row _ TB0 10 _ _ (0, 0) kT
            clear kT
            go_wp2_with fail
            refine (unhide C3 _ b3).mono ?_
            rintro e w4 ⟨rfl, b⟩
            have b4 := bstep b3 b
            have hb4 := bstep hb b4
            clear C3 b b3 hb3
            clear c0 c1 c2 c3 c4 c5 c6 c7 c8 c9 c10
            have kT := (hb4.block TB0 hTl).trans hTk
            have c0 : w4.cell? ⟨TB0, 0, none⟩ = some (.int .i64 T.b) := cell_of_row _ TB0 0 _ _ (0, 0) kT
            have c1 : w4.cell? ⟨TB0, 1, none⟩ = some (.int .i64 T.t) := cell_of_row _ TB0 1 _ _ (0, 0) kT
            have c2 : w4.cell? ⟨TB0, 2, none⟩ = some (.int .i64 T.n) := cell_of_row _ TB0 2 _ _ (0, 0) kT
            have c3 : w4.cell? ⟨TB0, 3, none⟩ = some (.int .i64 T.d) := cell_of_row _ TB0 3 _ _ (0, 0) kT
            have c4 : w4.cell? ⟨TB0, 4, none⟩ = some (.int .i64 T.r) := cell_of_row _ TB0 4 _ _ (0, 0) kT
            have c5 : w4.cell? ⟨TB0, 5, none⟩ = some (.int .i64 T.l) := cell_of_row _ TB0 5 _ _ (0, 0) kT
            have c6 : w4.cell? ⟨TB0, 6, none⟩ = some (.int .i64 T.x) := cell_of_row _ TB0 6 _ _ (0, 0) kT
            have c7 : w4.cell? ⟨TB0, 7, none⟩ = some (.int .i64 T.p) := cell_of_row _ TB0 7 _ _ (0, 0) kT
            have c8 : w4.cell? ⟨TB0, 8, none⟩ = some (.int .i64 T.k) := cell_of_row _ TB0 8 _ _ (0, 0) kT
            have c9 : w4.cell? ⟨TB0, 9, none⟩ = some (.int .i64 T.s) := cell_of_row _ TB0 9 _ _ (0, 0) kT
            have c10 : w4.cell? ⟨TB0, 10, none⟩ = some (.int .i64 T.e) := cell_of_row _ TB0 10 _ _ (0, 0) kT
            clear kT
            go_wp2_with fail
            refine (unhide C4 _ b4).mono ?_
            rintro e w5 ⟨rfl, b⟩
            have b5 := bstep b4 b
            have hb5 := bstep hb b5
            clear C4 b b4 hb4
            clear c0 c1 c2 c3 c4 c5 c6 c7 c8 c9 c10
            have kT := (hb5.block TB0 hTl).trans hTk
            have c0 : w5.cell? ⟨TB0, 0, none⟩ = some (.int .i64 T.b) := cell_of_row _ TB0 0 _ _ (0, 0) kT
            have c1 : w5.cell? ⟨TB0, 1, none⟩ = some (.int .i64 T.t) := cell_of_row _ TB0 1 _ _ (0, 0) kT
            have c2 : w5.cell? ⟨TB0, 2, none⟩ = some (.int .i64 T.n) := cell_of_row _ TB0 2 _ _ (0, 0) kT
            have c3 : w5.cell? ⟨TB0, 3, none⟩ = some (.int .i64 T.d) := cell_of_row _ TB0 3 _ _ (0, 0) kT
            have c4 : w5.cell? ⟨TB0, 4, none⟩ = some (.int .i64 T.r) := cell_of_row _ TB0 4 _ _ (0, 0) kT
            have c5 : w5.cell? ⟨TB0, 5, none⟩ = some (.int .i64 T.l) := cell_of_row _ TB0 5 _ _ (0, 0) kT
            have c6 : w5.cell? ⟨TB0, 6, none⟩ = some (.int .i64 T.x) := cell_of_row _ TB0 6 _ _ (0, 0) kT
            have c7 : w5.cell? ⟨TB0, 7, none⟩ = some (.int .i64 T.p) := cell_of_row _ TB0 7 _ _ (0, 0) kT
            have c8 : w5.cell? ⟨TB0, 8, none⟩ = some (.int .i64 T.k) := cell_of_row _ TB0 8 _ _ (0, 0) kT
            have c9 : w5.cell? ⟨TB0, 9, none⟩ = some (.int .i64 T.s) := cell_of_row _ TB0 9 _ _ (0, 0) kT
            have c10 : w5.cell? ⟨TB0, 10, none⟩ = some (.int .i64 T.e) := cell_of_row _ TB0 10 _ _ (0, 0) kT
            clear kT
            go_wp2_with fail
            refine (unhide C5 _ b5).mono ?_
            rintro e w6 ⟨rfl, b⟩
            have b6 := bstep b5 b
            have hb6 := bstep hb b6
            clear C5 b b5 hb5
            clear c0 c1 c2 c3 c4 c5 c6 c7 c8 c9 c10
            go_wp2_with fail
            refine (unhide CW _).mono ?_
            rintro e w7 ⟨rfl, b⟩
            have bl := bstep bw0 (bstep hb6 b)
            clear b CW
            go_wp2
            go_ret
            exact ⟨rfl, bl⟩
  · have bW : Below W0.heap.size W0 (((W0.alloc (.cells (zlist m).toArray 28)).alloc (.cells (zlist n).toArray 28)).alloc (.cells (zlist n).toArray 28)).drew := ((((Below.refl W0.heap.size W0).alloc (Nat.le_refl _) _).alloc (by simp) _).alloc (by simp; omega) _).drew
    have zA : Blk (((W0.alloc (.cells (zlist m).toArray 28)).alloc (.cells (zlist n).toArray 28)).alloc (.cells (zlist n).toArray 28)).drew (W0.heap.size + 1) (List.replicate n 0) := blk_three1 W0 m n n
    have zB : Blk (((W0.alloc (.cells (zlist m).toArray 28)).alloc (.cells (zlist n).toArray 28)).alloc (.cells (zlist n).toArray 28)).drew (W0.heap.size) (List.replicate m 0) := blk_three0 W0 m n n
    have zC : Blk (((W0.alloc (.cells (zlist m).toArray 28)).alloc (.cells (zlist n).toArray 28)).alloc (.cells (zlist n).toArray 28)).drew (W0.heap.size + 1 + 1) (List.replicate n 0) := blk_three2 W0 m n n
    have nAB : (W0.heap.size + 1) ≠ (W0.heap.size) ∧ (W0.heap.size + 1) ≠ (W0.heap.size + 1 + 1) ∧ (W0.heap.size) ≠ (W0.heap.size + 1 + 1) := by omega
    have lA : W0.heap.size ≤ (W0.heap.size + 1) ∧ W0.heap.size ≤ (W0.heap.size) ∧ W0.heap.size ≤ (W0.heap.size + 1 + 1) := by omega
    generalize (((W0.alloc (.cells (zlist m).toArray 28)).alloc (.cells (zlist n).toArray 28)).alloc (.cells (zlist n).toArray 28)).drew = W at *
    have zA := hide zA
    have zB := hide zB
    have zC := hide zC
    have bW := hide bW
    go_loopw [12] (fun iv wr => ∃ (k : Nat) (zs : List Nat), k ≤ n ∧ iv = .int .i64 (k : Int) ∧ Hid (MapRow (fun _ => 18446744073709551615) (List.replicate n 0) zs k) ∧ Blk wr (W0.heap.size + 1) zs ∧ Blk wr (W0.heap.size) (List.replicate m 0) ∧ Blk wr (W0.heap.size + 1 + 1) (List.replicate n 0) ∧ Below W0.heap.size W0 wr) (fun iv _ => n - (intOf iv).toNat)
    case atStart => exact ⟨0, _, Nat.zero_le _, rfl, mapRow_start _ _, unhide zA, unhide zB, unhide zC, unhide bW⟩
    case round =>
      clear zA zB zC bW
      obtain ⟨k, zs, hk, rfl, hV, hA, hB, hC, hb⟩ := hrel
      have hrep : (List.replicate n 0).length = n := by simp
      have hzl : zs.length = n := by rw [hV.out.1, hrep]
      by_cases h2 : k < n
      · have cA := hA.cell k (by omega)
        have fA := hA.frozen k
        have hstep : Hid (MapRow (fun _ => 18446744073709551615) (List.replicate n 0) (zs.set k 18446744073709551615) (k + 1)) := mapRow_step hV.out (by omega)
        have A7 := hide (hA.set k 18446744073709551615)
        have B7 := hide (hB.but (grown_set wr (W0.heap.size + 1) k (.int .u64 18446744073709551615)) (Ne.symm nAB.1))
        have C7 := hide (hC.but (grown_set wr (W0.heap.size + 1) k (.int .u64 18446744073709551615)) (Ne.symm nAB.2.1))
        have b7 : Hid (Below W0.heap.size W0 (wr.setCell ⟨(W0.heap.size + 1), k, none⟩ (.int .u64 18446744073709551615))) := hb.setCell lA.1 _
        have hmm : Hid (n - (k + 1) < n - k) := by show _ < _; omega
        clear hV hrep
        go_wp2
        go_roundw
        case rel => exact ⟨k + 1, _, by omega, by go_num, hstep, unhide A7, unhide B7, unhide C7, unhide b7⟩
        case measure => simp [intOf]; have := unhide hmm; omega
      · obtain rfl : k = n := by omega
        have hme := mapRow_end (f := fun _ => 18446744073709551615) (z0 := List.replicate k 0) (zs := zs) (by rw [hrep]; exact hV.out)
        rw [hrep, great_map] at hme
        subst hme
        have hA := hide hA
        have hB := hide hB
        have hC := hide hC
        have hb := hide hb
        clear hV hrep hzl h2
        go_wp2
        go_loopw [13] (fun iv wr => ∃ (k' : Nat) (zs : List Nat), k' ≤ m ∧ iv = .int .i64 (k' : Int) ∧ Hid (MapRow (fun _ => 18446744073709551615) (List.replicate m 0) zs k') ∧ Blk wr (W0.heap.size) zs ∧ Blk wr (W0.heap.size + 1) (List.replicate k 18446744073709551615) ∧ Blk wr (W0.heap.size + 1 + 1) (List.replicate k 0) ∧ Below W0.heap.size W0 wr) (fun iv _ => m - (intOf iv).toNat)
        case atStart => exact ⟨0, _, Nat.zero_le _, rfl, mapRow_start _ _, unhide hB, unhide hA, unhide hC, unhide hb⟩
        case round =>
          clear hA hB hC hb
          obtain ⟨j', zs, hk, rfl, hV, hB, hA, hC, hb⟩ := hrel
          have hrep : (List.replicate m 0).length = m := by simp
          have hzl : zs.length = m := by rw [hV.out.1, hrep]
          by_cases h2 : j' < m
          · have cB := hB.cell j' (by omega)
            have fB := hB.frozen j'
            have hstep : Hid (MapRow (fun _ => 18446744073709551615) (List.replicate m 0) (zs.set j' 18446744073709551615) (j' + 1)) := mapRow_step hV.out (by omega)
            have B7 := hide (hB.set j' 18446744073709551615)
            have A7 := hide (hA.but (grown_set wr (W0.heap.size) j' (.int .u64 18446744073709551615)) nAB.1)
            have C7 := hide (hC.but (grown_set wr (W0.heap.size) j' (.int .u64 18446744073709551615)) (Ne.symm nAB.2.2))
            have b7 : Hid (Below W0.heap.size W0 (wr.setCell ⟨(W0.heap.size), j', none⟩ (.int .u64 18446744073709551615))) := hb.setCell lA.2.1 _
            have hmm : Hid (m - (j' + 1) < m - j') := by show _ < _; omega
            clear hV hrep
            go_wp2
            go_roundw
            case rel => exact ⟨j' + 1, _, by omega, by go_num, hstep, unhide B7, unhide A7, unhide C7, unhide b7⟩
            case measure => simp [intOf]; have := unhide hmm; omega
          · obtain rfl : j' = m := by omega
            have hme := mapRow_end (f := fun _ => 18446744073709551615) (z0 := List.replicate j' 0) (zs := zs) (by rw [hrep]; exact hV.out)
            rw [hrep, great_map] at hme
            subst hme
            have cC := hC.cell p (by simp; omega)
            have fC := hC.frozen p
            have hC2 := hC.set p 9223372036854775808
            have hA2 := hA.but (grown_set wr (W0.heap.size + 1 + 1) p (.int .u64 9223372036854775808)) nAB.2.1
            have hB2 := hB.but (grown_set wr (W0.heap.size + 1 + 1) p (.int .u64 9223372036854775808)) nAB.2.2
            have hb2 : Below W0.heap.size W0 (wr.setCell ⟨(W0.heap.size + 1 + 1), p, none⟩ (.int .u64 9223372036854775808)) := hb.setCell lA.2.2 _
            obtain ⟨W3, hW3⟩ : ∃ W3, wr.setCell ⟨(W0.heap.size + 1 + 1), p, none⟩ (.int .u64 9223372036854775808) = W3 := ⟨_, rfl⟩
            have hW3' : wr.setCell ⟨(W0.heap.size + 1 + 1), p, none⟩ (.int .u64 ((9223372036854775808 : Nat) : Int)) = W3 := hW3
            rw [hW3'] at hC2
            rw [hW3] at hA2 hB2 hb2
            have dA := great_dig k
            have dB := great_dig j'
            have dC := lone_dig k p
            have lenA : (List.replicate k 18446744073709551615).length = k := by simp
            have lenB : (List.replicate j' 18446744073709551615).length = j' := by simp
            have lenC : ((List.replicate k 0).set p 9223372036854775808).length = k := by simp
            generalize List.replicate k 18446744073709551615 = us at *
            generalize List.replicate j' 18446744073709551615 = vs at *
            generalize (List.replicate k 0).set p 9223372036854775808 = ts at *
            have rA := hA2.whole lenA
            have rB := hB2.whole lenB
            have rC := hC2.whole lenC
            have C1 := hide (fun W (b : Below W3.heap.size W3 W) => toomMuls_any SN S3 S4 SK SO T _ (W0.heap.size + 1) 0 k k us _ (W0.heap.size) 0 j' j' vs W lenA (rA.next b) dA lenB (rB.next b) dB)
            have C2 := hide (fun W (b : Below W3.heap.size W3 W) => toomMuls_any SN S3 S4 SK SO T _ (W0.heap.size + 1 + 1) 0 k k ts _ (W0.heap.size) 0 j' j' vs W lenC (rC.next b) dC lenB (rB.next b) dB)
            have C3 := hide (fun W (b : Below W3.heap.size W3 W) => toomMuls_any SN S3 S4 SK SO T _ (W0.heap.size + 1 + 1) 0 k k ts _ (W0.heap.size + 1) 0 k k us W lenC (rC.next b) dC lenA (rA.next b) dA)
            have C4 := hide (fun W (b : Below W3.heap.size W3 W) => toomSquares_any SN S3 S4 SQ SP T _ (W0.heap.size + 1) 0 k k us W lenA (rA.next b) dA)
            have C5 := hide (fun W (b : Below W3.heap.size W3 W) => toomSquares_any SN S3 S4 SQ SP T _ (W0.heap.size + 1 + 1) 0 k k ts W lenC (rC.next b) dC)
            have CW := hide (toomWakes_any SN S3 S4)
            unfold Tab.val at C1 C2 C3 C4 C5
            have hb := hide hb2
            clear rA rB rC hA hB hC hA2 hB2 hC2 hb2 SN S3 S4 SK SO SQ SP hV hrep hzl hW3'
            go_wp2_with fail
            refine (unhide CC _).mono ?_
            rintro e wx ⟨rfl, hw⟩
            obtain rfl := hw.symm
            clear hw CC
            have hb := unhide hb
            have kT := (hb.block TB0 hTl).trans hTk
            have c0 : W3.cell? ⟨TB0, 0, none⟩ = some (.int .i64 T.b) := cell_of_row _ TB0 0 _ _ (0, 0) kT
            have c1 : W3.cell? ⟨TB0, 1, none⟩ = some (.int .i64 T.t) := cell_of_row _ TB0 1 _ _ (0, 0) kT
            have c2 : W3.cell? ⟨TB0, 2, none⟩ = some (.int .i64 T.n) := cell_of_row _ TB0 2 _ _ (0, 0) kT
            have c3 : W3.cell? ⟨TB0, 3, none⟩ = some (.int .i64 T.d) := cell_of_row _ TB0 3 _ _ (0, 0) kT
            have c4 : W3.cell? ⟨TB0, 4, none⟩ = some (.int .i64 T.r) := cell_of_row _ TB0 4 _ _ (0, 0) kT
            have c5 : W3.cell? ⟨TB0, 5, none⟩ = some (.int .i64 T.l) := cell_of_row _ TB0 5 _ _ (0, 0) kT
            have c6 : W3.cell? ⟨TB0, 6, none⟩ = some (.int .i64 T.x) := cell_of_row _ TB0 6 _ _ (0, 0) kT
            have c7 : W3.cell? ⟨TB0, 7, none⟩ = some (.int .i64 T.p) := cell_of_row _ TB0 7 _ _ (0, 0) kT
            have c8 : W3.cell? ⟨TB0, 8, none⟩ = some (.int .i64 T.k) := cell_of_row _ TB0 8 _ _ (0, 0) kT
            have c9 : W3.cell? ⟨TB0, 9, none⟩ = some (.int .i64 T.s) := cell_of_row _ TB0 9 _ _ (0, 0) kT
            have c10 : W3.cell? ⟨TB0, 10, none⟩ = some (.int .i64 T.e) := cell_of_row _ TB0 10 _ _ (0, 0) kT
            clear kT
            go_wp2_with fail
            refine (unhide C1 _ (Below.refl _ _)).mono ?_
            rintro e w2 ⟨rfl, b2⟩
            have hb2 := bstep hb b2
            clear C1 cC fC hW3
            clear c0 c1 c2 c3 c4 c5 c6 c7 c8 c9 c10
            have kT := (hb2.block TB0 hTl).trans hTk
            have c0 : w2.cell? ⟨TB0, 0, none⟩ = some (.int .i64 T.b) := cell_of_row _ TB0 0 _ _ (0, 0) kT
            have c1 : w2.cell? ⟨TB0, 1, none⟩ = some (.int .i64 T.t) := cell_of_row _ TB0 1 _ _ (0, 0) kT
            have c2 : w2.cell? ⟨TB0, 2, none⟩ = some (.int .i64 T.n) := cell_of_row _ TB0 2 _ _ (0, 0) kT
            have c3 : w2.cell? ⟨TB0, 3, none⟩ = some (.int .i64 T.d) := cell_of_row _ TB0 3 _ _ (0, 0) kT
            have c4 : w2.cell? ⟨TB0, 4, none⟩ = some (.int .i64 T.r) := cell_of_row _ TB0 4 _ _ (0, 0) kT
            have c5 : w2.cell? ⟨TB0, 5, none⟩ = some (.int .i64 T.l) := cell_of_row _ TB0 5 _ _ (0, 0) kT
            have c6 : w2.cell? ⟨TB0, 6, none⟩ = some (.int .i64 T.x) := cell_of_row _ TB0 6 _ _ (0, 0) kT
            have c7 : w2.cell? ⟨TB0, 7, none⟩ = some (.int .i64 T.p) := cell_of_row _ TB0 7 _ _ (0, 0) kT
            have c8 : w2.cell? ⟨TB0, 8, none⟩ = some (.int .i64 T.k) := cell_of_row _ TB0 8 _ _ (0, 0) kT
            have c9 : w2.cell? ⟨TB0, 9, none⟩ = some (.int .i64 T.s) := cell_of_row _ TB0 9 _ _ (0, 0) kT
            have c10 : w2.cell? ⟨TB0, 10, none⟩ = some (.int .i64 T.e) := cell_of_row _ TB0 10 _ _ (0, 0) kT
            clear kT
            go_wp2_with fail
            refine (unhide C2 _ b2).mono ?_
            rintro e w3 ⟨rfl, b⟩
            have b3 := bstep b2 b
            have hb3 := bstep hb b3
            clear C2 b b2 hb2
            clear c0 c1 c2 c3 c4 c5 c6 c7 c8 c9 c10
            have kT := (hb3.block TB0 hTl).trans hTk
            have c0 : w3.cell? ⟨TB0, 0, none⟩ = some (.int .i64 T.b) := cell_of_row _ TB0 0 _ _ (0, 0) kT
            have c1 : w3.cell? ⟨TB0, 1, none⟩ = some (.int .i64 T.t) := cell_of_row _ TB0 1 _ _ (0, 0) kT
            have c2 : w3.cell? ⟨TB0, 2, none⟩ = some (.int .i64 T.n) := cell_of_row _ TB0 2 _ _ (0, 0) kT
            have c3 : w3.cell? ⟨TB0, 3, none⟩ = some (.int .i64 T.d) := cell_of_row _ TB0 3 _ _ (0, 0) kT
            have c4 : w3.cell? ⟨TB0, 4, none⟩ = some (.int .i64 T.r) := cell_of_row _ TB0 4 _ _ (0, 0) kT
            have c5 : w3.cell? ⟨TB0, 5, none⟩ = some (.int .i64 T.l) := cell_of_row _ TB0 5 _ _ (0, 0) kT
            have c6 : w3.cell? ⟨TB0, 6, none⟩ = some (.int .i64 T.x) := cell_of_row _ TB0 6 _ _ (0, 0) kT
            have c7 : w3.cell? ⟨TB0, 7, none⟩ = some (.int .i64 T.p) := cell_of_row _ TB0 7 _ _ (0, 0) kT
            have c8 : w3.cell? ⟨TB0, 8, none⟩ = some (.int .i64 T.k) := cell_of_row _ TB0 8 _ _ (0, 0) kT
            have c9 : w3.cell? ⟨TB0, 9, none⟩ = some (.int .i64 T.s) := cell_of_row _ TB0 9 _ _ (0, 0) kT
            have c10 : w3.cell? ⟨TB0, 10, none⟩ = some (.int .i64 T.e) := cell_of_row _ TB0 10 _ _ (0, 0) kT
            clear kT
            go_wp2_with fail
            refine (unhide C3 _ b3).mono ?_
            rintro e w4 ⟨rfl, b⟩
            have b4 := bstep b3 b
            have hb4 := bstep hb b4
            clear C3 b b3 hb3
            clear c0 c1 c2 c3 c4 c5 c6 c7 c8 c9 c10
            have kT := (hb4.block TB0 hTl).trans hTk
            have c0 : w4.cell? ⟨TB0, 0, none⟩ = some (.int .i64 T.b) := cell_of_row _ TB0 0 _ _ (0, 0) kT
            have c1 : w4.cell? ⟨TB0, 1, none⟩ = some (.int .i64 T.t) := cell_of_row _ TB0 1 _ _ (0, 0) kT
            have c2 : w4.cell? ⟨TB0, 2, none⟩ = some (.int .i64 T.n) := cell_of_row _ TB0 2 _ _ (0, 0) kT
            have c3 : w4.cell? ⟨TB0, 3, none⟩ = some (.int .i64 T.d) := cell_of_row _ TB0 3 _ _ (0, 0) kT
            have c4 : w4.cell? ⟨TB0, 4, none⟩ = some (.int .i64 T.r) := cell_of_row _ TB0 4 _ _ (0, 0) kT
            have c5 : w4.cell? ⟨TB0, 5, none⟩ = some (.int .i64 T.l) := cell_of_row _ TB0 5 _ _ (0, 0) kT
            have c6 : w4.cell? ⟨TB0, 6, none⟩ = some (.int .i64 T.x) := cell_of_row _ TB0 6 _ _ (0, 0) kT
            have c7 : w4.cell? ⟨TB0, 7, none⟩ = some (.int .i64 T.p) := cell_of_row _ TB0 7 _ _ (0, 0) kT
            have c8 : w4.cell? ⟨TB0, 8, none⟩ = some (.int .i64 T.k) := cell_of_row _ TB0 8 _ _ (0, 0) kT
            have c9 : w4.cell? ⟨TB0, 9, none⟩ = some (.int .i64 T.s) := cell_of_row _ TB0 9 _ _ (0, 0) kT
            have c10 : w4.cell? ⟨TB0, 10, none⟩ = some (.int .i64 T.e) := cell_of_row _ TB0 10 _ _ (0, 0) kT
            clear kT
            go_wp2_with fail
            refine (unhide C4 _ b4).mono ?_
            rintro e w5 ⟨rfl, b⟩
            have b5 := bstep b4 b
            have hb5 := bstep hb b5
            clear C4 b b4 hb4
            clear c0 c1 c2 c3 c4 c5 c6 c7 c8 c9 c10
            have kT := (hb5.block TB0 hTl).trans hTk
            have c0 : w5.cell? ⟨TB0, 0, none⟩ = some (.int .i64 T.b) := cell_of_row _ TB0 0 _ _ (0, 0) kT
            have c1 : w5.cell? ⟨TB0, 1, none⟩ = some (.int .i64 T.t) := cell_of_row _ TB0 1 _ _ (0, 0) kT
            have c2 : w5.cell? ⟨TB0, 2, none⟩ = some (.int .i64 T.n) := cell_of_row _ TB0 2 _ _ (0, 0) kT
            have c3 : w5.cell? ⟨TB0, 3, none⟩ = some (.int .i64 T.d) := cell_of_row _ TB0 3 _ _ (0, 0) kT
            have c4 : w5.cell? ⟨TB0, 4, none⟩ = some (.int .i64 T.r) := cell_of_row _ TB0 4 _ _ (0, 0) kT
            have c5 : w5.cell? ⟨TB0, 5, none⟩ = some (.int .i64 T.l) := cell_of_row _ TB0 5 _ _ (0, 0) kT
            have c6 : w5.cell? ⟨TB0, 6, none⟩ = some (.int .i64 T.x) := cell_of_row _ TB0 6 _ _ (0, 0) kT
            have c7 : w5.cell? ⟨TB0, 7, none⟩ = some (.int .i64 T.p) := cell_of_row _ TB0 7 _ _ (0, 0) kT
            have c8 : w5.cell? ⟨TB0, 8, none⟩ = some (.int .i64 T.k) := cell_of_row _ TB0 8 _ _ (0, 0) kT
            have c9 : w5.cell? ⟨TB0, 9, none⟩ = some (.int .i64 T.s) := cell_of_row _ TB0 9 _ _ (0, 0) kT
            have c10 : w5.cell? ⟨TB0, 10, none⟩ = some (.int .i64 T.e) := cell_of_row _ TB0 10 _ _ (0, 0) kT
            clear kT
            go_wp2_with fail
            refine (unhide C5 _ b5).mono ?_
            rintro e w6 ⟨rfl, b⟩
            have b6 := bstep b5 b
            have hb6 := bstep hb b6
            clear C5 b b5 hb5
            clear c0 c1 c2 c3 c4 c5 c6 c7 c8 c9 c10
            go_wp2_with fail
            refine (unhide CW _).mono ?_
            rintro e w7 ⟨rfl, b⟩
            have bl := bstep bw0 (bstep hb6 b)
            clear b CW
            go_wp2
            go_ret
            exact ⟨rfl, bl⟩
  · have bW : Below W0.heap.size W0 (((W0.alloc (.cells (zlist m).toArray 28)).alloc (.cells (zlist n).toArray 28)).alloc (.cells (zlist n).toArray 28)).drew := ((((Below.refl W0.heap.size W0).alloc (Nat.le_refl _) _).alloc (by simp) _).alloc (by simp; omega) _).drew
    have zA : Blk (((W0.alloc (.cells (zlist m).toArray 28)).alloc (.cells (zlist n).toArray 28)).alloc (.cells (zlist n).toArray 28)).drew (W0.heap.size + 1 + 1) (List.replicate n 0) := blk_three2 W0 m n n
    have zB : Blk (((W0.alloc (.cells (zlist m).toArray 28)).alloc (.cells (zlist n).toArray 28)).alloc (.cells (zlist n).toArray 28)).drew (W0.heap.size) (List.replicate m 0) := blk_three0 W0 m n n
    have zC : Blk (((W0.alloc (.cells (zlist m).toArray 28)).alloc (.cells (zlist n).toArray 28)).alloc (.cells (zlist n).toArray 28)).drew (W0.heap.size + 1) (List.replicate n 0) := blk_three1 W0 m n n
    have nAB : (W0.heap.size + 1 + 1) ≠ (W0.heap.size) ∧ (W0.heap.size + 1 + 1) ≠ (W0.heap.size + 1) ∧ (W0.heap.size) ≠ (W0.heap.size + 1) := by omega
    have lA : W0.heap.size ≤ (W0.heap.size + 1 + 1) ∧ W0.heap.size ≤ (W0.heap.size) ∧ W0.heap.size ≤ (W0.heap.size + 1) := by omega
    generalize (((W0.alloc (.cells (zlist m).toArray 28)).alloc (.cells (zlist n).toArray 28)).alloc (.cells (zlist n).toArray 28)).drew = W at *
    have zA := hide zA
    have zB := hide zB
    have zC := hide zC
    have bW := hide bW
    go_loopw [12] (fun iv wr => ∃ (k : Nat) (zs : List Nat), k ≤ n ∧ iv = .int .i64 (k : Int) ∧ Hid (MapRow (fun _ => 18446744073709551615) (List.replicate n 0) zs k) ∧ Blk wr (W0.heap.size + 1 + 1) zs ∧ Blk wr (W0.heap.size) (List.replicate m 0) ∧ Blk wr (W0.heap.size + 1) (List.replicate n 0) ∧ Below W0.heap.size W0 wr) (fun iv _ => n - (intOf iv).toNat)
    case atStart => exact ⟨0, _, Nat.zero_le _, rfl, mapRow_start _ _, unhide zA, unhide zB, unhide zC, unhide bW⟩
    case round =>
      clear zA zB zC bW
      obtain ⟨k, zs, hk, rfl, hV, hA, hB, hC, hb⟩ := hrel
      have hrep : (List.replicate n 0).length = n := by simp
      have hzl : zs.length = n := by rw [hV.out.1, hrep]
      by_cases h2 : k < n
      · have cA := hA.cell k (by omega)
        have fA := hA.frozen k
        have hstep : Hid (MapRow (fun _ => 18446744073709551615) (List.replicate n 0) (zs.set k 18446744073709551615) (k + 1)) := mapRow_step hV.out (by omega)
        have A7 := hide (hA.set k 18446744073709551615)
        have B7 := hide (hB.but (grown_set wr (W0.heap.size + 1 + 1) k (.int .u64 18446744073709551615)) (Ne.symm nAB.1))
        have C7 := hide (hC.but (grown_set wr (W0.heap.size + 1 + 1) k (.int .u64 18446744073709551615)) (Ne.symm nAB.2.1))
        have b7 : Hid (Below W0.heap.size W0 (wr.setCell ⟨(W0.heap.size + 1 + 1), k, none⟩ (.int .u64 18446744073709551615))) := hb.setCell lA.1 _
        have hmm : Hid (n - (k + 1) < n - k) := by show _ < _; omega
        clear hV hrep
        go_wp2
        go_roundw
        case rel => exact ⟨k + 1, _, by omega, by go_num, hstep, unhide A7, unhide B7, unhide C7, unhide b7⟩
        case measure => simp [intOf]; have := unhide hmm; omega
      · obtain rfl : k = n := by omega
        have hme := mapRow_end (f := fun _ => 18446744073709551615) (z0 := List.replicate k 0) (zs := zs) (by rw [hrep]; exact hV.out)
        rw [hrep, great_map] at hme
        subst hme
        have hA := hide hA
        have hB := hide hB
        have hC := hide hC
        have hb := hide hb
        clear hV hrep hzl h2
        go_wp2
        go_loopw [13] (fun iv wr => ∃ (k' : Nat) (zs : List Nat), k' ≤ m ∧ iv = .int .i64 (k' : Int) ∧ Hid (MapRow (fun _ => 18446744073709551615) (List.replicate m 0) zs k') ∧ Blk wr (W0.heap.size) zs ∧ Blk wr (W0.heap.size + 1 + 1) (List.replicate k 18446744073709551615) ∧ Blk wr (W0.heap.size + 1) (List.replicate k 0) ∧ Below W0.heap.size W0 wr) (fun iv _ => m - (intOf iv).toNat)
        case atStart => exact ⟨0, _, Nat.zero_le _, rfl, mapRow_start _ _, unhide hB, unhide hA, unhide hC, unhide hb⟩
        case round =>
          clear hA hB hC hb
          obtain ⟨j', zs, hk, rfl, hV, hB, hA, hC, hb⟩ := hrel
          have hrep : (List.replicate m 0).length = m := by simp
          have hzl : zs.length = m := by rw [hV.out.1, hrep]
          by_cases h2 : j' < m
          · have cB := hB.cell j' (by omega)
            have fB := hB.frozen j'
            have hstep : Hid (MapRow (fun _ => 18446744073709551615) (List.replicate m 0) (zs.set j' 18446744073709551615) (j' + 1)) := mapRow_step hV.out (by omega)
            have B7 := hide (hB.set j' 18446744073709551615)
            have A7 := hide (hA.but (grown_set wr (W0.heap.size) j' (.int .u64 18446744073709551615)) nAB.1)
            have C7 := hide (hC.but (grown_set wr (W0.heap.size) j' (.int .u64 18446744073709551615)) (Ne.symm nAB.2.2))
            have b7 : Hid (Below W0.heap.size W0 (wr.setCell ⟨(W0.heap.size), j', none⟩ (.int .u64 18446744073709551615))) := hb.setCell lA.2.1 _
            have hmm : Hid (m - (j' + 1) < m - j') := by show _ < _; omega
            clear hV hrep
            go_wp2
            go_roundw
            case rel => exact ⟨j' + 1, _, by omega, by go_num, hstep, unhide B7, unhide A7, unhide C7, unhide b7⟩
            case measure => simp [intOf]; have := unhide hmm; omega
          · obtain rfl : j' = m := by omega
            have hme := mapRow_end (f := fun _ => 18446744073709551615) (z0 := List.replicate j' 0) (zs := zs) (by rw [hrep]; exact hV.out)
            rw [hrep, great_map] at hme
            subst hme
            have cC := hC.cell p (by simp; omega)
            have fC := hC.frozen p
            have hC2 := hC.set p 9223372036854775808
            have hA2 := hA.but (grown_set wr (W0.heap.size + 1) p (.int .u64 9223372036854775808)) nAB.2.1
            have hB2 := hB.but (grown_set wr (W0.heap.size + 1) p (.int .u64 9223372036854775808)) nAB.2.2
            have hb2 : Below W0.heap.size W0 (wr.setCell ⟨(W0.heap.size + 1), p, none⟩ (.int .u64 9223372036854775808)) := hb.setCell lA.2.2 _
            obtain ⟨W3, hW3⟩ : ∃ W3, wr.setCell ⟨(W0.heap.size + 1), p, none⟩ (.int .u64 9223372036854775808) = W3 := ⟨_, rfl⟩
            have hW3' : wr.setCell ⟨(W0.heap.size + 1), p, none⟩ (.int .u64 ((9223372036854775808 : Nat) : Int)) = W3 := hW3
            rw [hW3'] at hC2
            rw [hW3] at hA2 hB2 hb2
            have dA := great_dig k
            have dB := great_dig j'
            have dC := lone_dig k p
            have lenA : (List.replicate k 18446744073709551615).length = k := by simp
            have lenB : (List.replicate j' 18446744073709551615).length = j' := by simp
            have lenC : ((List.replicate k 0).set p 9223372036854775808).length = k := by simp
            generalize List.replicate k 18446744073709551615 = us at *
            generalize List.replicate j' 18446744073709551615 = vs at *
            generalize (List.replicate k 0).set p 9223372036854775808 = ts at *
            have rA := hA2.whole lenA
            have rB := hB2.whole lenB
            have rC := hC2.whole lenC
            have C1 := hide (fun W (b : Below W3.heap.size W3 W) => toomMuls_any SN S3 S4 SK SO T _ (W0.heap.size + 1 + 1) 0 k k us _ (W0.heap.size) 0 j' j' vs W lenA (rA.next b) dA lenB (rB.next b) dB)
            have C2 := hide (fun W (b : Below W3.heap.size W3 W) => toomMuls_any SN S3 S4 SK SO T _ (W0.heap.size + 1) 0 k k ts _ (W0.heap.size) 0 j' j' vs W lenC (rC.next b) dC lenB (rB.next b) dB)
            have C3 := hide (fun W (b : Below W3.heap.size W3 W) => toomMuls_any SN S3 S4 SK SO T _ (W0.heap.size + 1) 0 k k ts _ (W0.heap.size + 1 + 1) 0 k k us W lenC (rC.next b) dC lenA (rA.next b) dA)
            have C4 := hide (fun W (b : Below W3.heap.size W3 W) => toomSquares_any SN S3 S4 SQ SP T _ (W0.heap.size + 1 + 1) 0 k k us W lenA (rA.next b) dA)
            have C5 := hide (fun W (b : Below W3.heap.size W3 W) => toomSquares_any SN S3 S4 SQ SP T _ (W0.heap.size + 1) 0 k k ts W lenC (rC.next b) dC)
            have CW := hide (toomWakes_any SN S3 S4)
            unfold Tab.val at C1 C2 C3 C4 C5
            have hb := hide hb2
            clear rA rB rC hA hB hC hA2 hB2 hC2 hb2 SN S3 S4 SK SO SQ SP hV hrep hzl hW3'
            go_wp2_with fail
            refine (unhide CC _).mono ?_
            rintro e wx ⟨rfl, hw⟩
            obtain rfl := hw.symm
            clear hw CC
            have hb := unhide hb
            have kT := (hb.block TB0 hTl).trans hTk
            have c0 : W3.cell? ⟨TB0, 0, none⟩ = some (.int .i64 T.b) := cell_of_row _ TB0 0 _ _ (0, 0) kT
            have c1 : W3.cell? ⟨TB0, 1, none⟩ = some (.int .i64 T.t) := cell_of_row _ TB0 1 _ _ (0, 0) kT
            have c2 : W3.cell? ⟨TB0, 2, none⟩ = some (.int .i64 T.n) := cell_of_row _ TB0 2 _ _ (0, 0) kT
            have c3 : W3.cell? ⟨TB0, 3, none⟩ = some (.int .i64 T.d) := cell_of_row _ TB0 3 _ _ (0, 0) kT
            have c4 : W3.cell? ⟨TB0, 4, none⟩ = some (.int .i64 T.r) := cell_of_row _ TB0 4 _ _ (0, 0) kT
            have c5 : W3.cell? ⟨TB0, 5, none⟩ = some (.int .i64 T.l) := cell_of_row _ TB0 5 _ _ (0, 0) kT
            have c6 : W3.cell? ⟨TB0, 6, none⟩ = some (.int .i64 T.x) := cell_of_row _ TB0 6 _ _ (0, 0) kT
            have c7 : W3.cell? ⟨TB0, 7, none⟩ = some (.int .i64 T.p) := cell_of_row _ TB0 7 _ _ (0, 0) kT
            have c8 : W3.cell? ⟨TB0, 8, none⟩ = some (.int .i64 T.k) := cell_of_row _ TB0 8 _ _ (0, 0) kT
            have c9 : W3.cell? ⟨TB0, 9, none⟩ = some (.int .i64 T.s) := cell_of_row _ TB0 9 _ _ (0, 0) kT
            have c10 : W3.cell? ⟨TB0, 10, none⟩ = some (.int .i64 T.e) := cell_of_row _ TB0 10 _ _ (0, 0) kT
            clear kT
            go_wp2_with fail
            refine (unhide C1 _ (Below.refl _ _)).mono ?_
            rintro e w2 ⟨rfl, b2⟩
            have hb2 := bstep hb b2
            clear C1 cC fC hW3
            clear c0 c1 c2 c3 c4 c5 c6 c7 c8 c9 c10
            have kT := (hb2.block TB0 hTl).trans hTk
            have c0 : w2.cell? ⟨TB0, 0, none⟩ = some (.int .i64 T.b) := cell_of_row _ TB0 0 _ _ (0, 0) kT
            have c1 : w2.cell? ⟨TB0, 1, none⟩ = some (.int .i64 T.t) := cell_of_row _ TB0 1 _ _ (0, 0) kT
            have c2 : w2.cell? ⟨TB0, 2, none⟩ = some (.int .i64 T.n) := cell_of_row _ TB0 2 _ _ (0, 0) kT
            have c3 : w2.cell? ⟨TB0, 3, none⟩ = some (.int .i64 T.d) := cell_of_row _ TB0 3 _ _ (0, 0) kT
            have c4 : w2.cell? ⟨TB0, 4, none⟩ = some (.int .i64 T.r) := cell_of_row _ TB0 4 _ _ (0, 0) kT
            have c5 : w2.cell? ⟨TB0, 5, none⟩ = some (.int .i64 T.l) := cell_of_row _ TB0 5 _ _ (0, 0) kT
            have c6 : w2.cell? ⟨TB0, 6, none⟩ = some (.int .i64 T.x) := cell_of_row _ TB0 6 _ _ (0, 0) kT
            have c7 : w2.cell? ⟨TB0, 7, none⟩ = some (.int .i64 T.p) := cell_of_row _ TB0 7 _ _ (0, 0) kT
            have c8 : w2.cell? ⟨TB0, 8, none⟩ = some (.int .i64 T.k) := cell_of_row _ TB0 8 _ _ (0, 0) kT
            have c9 : w2.cell? ⟨TB0, 9, none⟩ = some (.int .i64 T.s) := cell_of_row _ TB0 9 _ _ (0, 0) kT
            have c10 : w2.cell? ⟨TB0, 10, none⟩ = some (.int .i64 T.e) := cell_of_row _ TB0 10 _ _ (0, 0) kT
            clear kT
            go_wp2_with fail
            refine (unhide C2 _ b2).mono ?_
            rintro e w3 ⟨rfl, b⟩
            have b3 := bstep b2 b
            have hb3 := bstep hb b3
            clear C2 b b2 hb2
            clear c0 c1 c2 c3 c4 c5 c6 c7 c8 c9 c10
            have kT := (hb3.block TB0 hTl).trans hTk
            have c0 : w3.cell? ⟨TB0, 0, none⟩ = some (.int .i64 T.b) := cell_of_row _ TB0 0 _ _ (0, 0) kT
            have c1 : w3.cell? ⟨TB0, 1, none⟩ = some (.int .i64 T.t) := cell_of_row _ TB0 1 _ _ (0, 0) kT
            have c2 : w3.cell? ⟨TB0, 2, none⟩ = some (.int .i64 T.n) := cell_of_row _ TB0 2 _ _ (0, 0) kT
            have c3 : w3.cell? ⟨TB0, 3, none⟩ = some (.int .i64 T.d) := cell_of_row _ TB0 3 _ _ (0, 0) kT
            have c4 : w3.cell? ⟨TB0, 4, none⟩ = some (.int .i64 T.r) := cell_of_row _ TB0 4 _ _ (0, 0) kT
            have c5 : w3.cell? ⟨TB0, 5, none⟩ = some (.int .i64 T.l) := cell_of_row _ TB0 5 _ _ (0, 0) kT
            have c6 : w3.cell? ⟨TB0, 6, none⟩ = some (.int .i64 T.x) := cell_of_row _ TB0 6 _ _ (0, 0) kT
            have c7 : w3.cell? ⟨TB0, 7, none⟩ = some (.int .i64 T.p) := cell_of_row _ TB0 7 _ _ (0, 0) kT
            have c8 : w3.cell? ⟨TB0, 8, none⟩ = some (.int .i64 T.k) := cell_of_row _ TB0 8 _ _ (0, 0) kT
            have c9 : w3.cell? ⟨TB0, 9, none⟩ = some (.int .i64 T.s) := cell_of_row _ TB0 9 _ _ (0, 0) kT
            have c10 : w3.cell? ⟨TB0, 10, none⟩ = some (.int .i64 T.e) := cell_of_row _ TB0 10 _ _ (0, 0) kT
            clear kT
            go_wp2_with fail
            refine (unhide C3 _ b3).mono ?_
            rintro e w4 ⟨rfl, b⟩
            have b4 := bstep b3 b
            have hb4 := bstep hb b4
            clear C3 b b3 hb3
            clear c0 c1 c2 c3 c4 c5 c6 c7 c8 c9 c10
            have kT := (hb4.block TB0 hTl).trans hTk
            have c0 : w4.cell? ⟨TB0, 0, none⟩ = some (.int .i64 T.b) := cell_of_row _ TB0 0 _ _ (0, 0) kT
            have c1 : w4.cell? ⟨TB0, 1, none⟩ = some (.int .i64 T.t) := cell_of_row _ TB0 1 _ _ (0, 0) kT
            have c2 : w4.cell? ⟨TB0, 2, none⟩ = some (.int .i64 T.n) := cell_of_row _ TB0 2 _ _ (0, 0) kT
            have c3 : w4.cell? ⟨TB0, 3, none⟩ = some (.int .i64 T.d) := cell_of_row _ TB0 3 _ _ (0, 0) kT
            have c4 : w4.cell? ⟨TB0, 4, none⟩ = some (.int .i64 T.r) := cell_of_row _ TB0 4 _ _ (0, 0) kT
            have c5 : w4.cell? ⟨TB0, 5, none⟩ = some (.int .i64 T.l) := cell_of_row _ TB0 5 _ _ (0, 0) kT
            have c6 : w4.cell? ⟨TB0, 6, none⟩ = some (.int .i64 T.x) := cell_of_row _ TB0 6 _ _ (0, 0) kT
            have c7 : w4.cell? ⟨TB0, 7, none⟩ = some (.int .i64 T.p) := cell_of_row _ TB0 7 _ _ (0, 0) kT
            have c8 : w4.cell? ⟨TB0, 8, none⟩ = some (.int .i64 T.k) := cell_of_row _ TB0 8 _ _ (0, 0) kT
            have c9 : w4.cell? ⟨TB0, 9, none⟩ = some (.int .i64 T.s) := cell_of_row _ TB0 9 _ _ (0, 0) kT
            have c10 : w4.cell? ⟨TB0, 10, none⟩ = some (.int .i64 T.e) := cell_of_row _ TB0 10 _ _ (0, 0) kT
            clear kT
            go_wp2_with fail
            refine (unhide C4 _ b4).mono ?_
            rintro e w5 ⟨rfl, b⟩
            have b5 := bstep b4 b
            have hb5 := bstep hb b5
            clear C4 b b4 hb4
            clear c0 c1 c2 c3 c4 c5 c6 c7 c8 c9 c10
            have kT := (hb5.block TB0 hTl).trans hTk
            have c0 : w5.cell? ⟨TB0, 0, none⟩ = some (.int .i64 T.b) := cell_of_row _ TB0 0 _ _ (0, 0) kT
            have c1 : w5.cell? ⟨TB0, 1, none⟩ = some (.int .i64 T.t) := cell_of_row _ TB0 1 _ _ (0, 0) kT
            have c2 : w5.cell? ⟨TB0, 2, none⟩ = some (.int .i64 T.n) := cell_of_row _ TB0 2 _ _ (0, 0) kT
            have c3 : w5.cell? ⟨TB0, 3, none⟩ = some (.int .i64 T.d) := cell_of_row _ TB0 3 _ _ (0, 0) kT
            have c4 : w5.cell? ⟨TB0, 4, none⟩ = some (.int .i64 T.r) := cell_of_row _ TB0 4 _ _ (0, 0) kT
            have c5 : w5.cell? ⟨TB0, 5, none⟩ = some (.int .i64 T.l) := cell_of_row _ TB0 5 _ _ (0, 0) kT
            have c6 : w5.cell? ⟨TB0, 6, none⟩ = some (.int .i64 T.x) := cell_of_row _ TB0 6 _ _ (0, 0) kT
            have c7 : w5.cell? ⟨TB0, 7, none⟩ = some (.int .i64 T.p) := cell_of_row _ TB0 7 _ _ (0, 0) kT
            have c8 : w5.cell? ⟨TB0, 8, none⟩ = some (.int .i64 T.k) := cell_of_row _ TB0 8 _ _ (0, 0) kT
            have c9 : w5.cell? ⟨TB0, 9, none⟩ = some (.int .i64 T.s) := cell_of_row _ TB0 9 _ _ (0, 0) kT
            have c10 : w5.cell? ⟨TB0, 10, none⟩ = some (.int .i64 T.e) := cell_of_row _ TB0 10 _ _ (0, 0) kT
            clear kT
            go_wp2_with fail
            refine (unhide C5 _ b5).mono ?_
            rintro e w6 ⟨rfl, b⟩
            have b6 := bstep b5 b
            have hb6 := bstep hb b6
            clear C5 b b5 hb5
            clear c0 c1 c2 c3 c4 c5 c6 c7 c8 c9 c10
            go_wp2_with fail
            refine (unhide CW _).mono ?_
            rintro e w7 ⟨rfl, b⟩
            have bl := bstep bw0 (bstep hb6 b)
            clear b CW
            go_wp2
            go_ret
            exact ⟨rfl, bl⟩
  · have bW : Below W0.heap.size W0 (((W0.alloc (.cells (zlist n).toArray 28)).alloc (.cells (zlist n).toArray 28)).alloc (.cells (zlist m).toArray 28)).drew := ((((Below.refl W0.heap.size W0).alloc (Nat.le_refl _) _).alloc (by simp) _).alloc (by simp; omega) _).drew
    have zA : Blk (((W0.alloc (.cells (zlist n).toArray 28)).alloc (.cells (zlist n).toArray 28)).alloc (.cells (zlist m).toArray 28)).drew (W0.heap.size + 1) (List.replicate n 0) := blk_three1 W0 n n m
    have zB : Blk (((W0.alloc (.cells (zlist n).toArray 28)).alloc (.cells (zlist n).toArray 28)).alloc (.cells (zlist m).toArray 28)).drew (W0.heap.size + 1 + 1) (List.replicate m 0) := blk_three2 W0 n n m
    have zC : Blk (((W0.alloc (.cells (zlist n).toArray 28)).alloc (.cells (zlist n).toArray 28)).alloc (.cells (zlist m).toArray 28)).drew (W0.heap.size) (List.replicate n 0) := blk_three0 W0 n n m
    have nAB : (W0.heap.size + 1) ≠ (W0.heap.size + 1 + 1) ∧ (W0.heap.size + 1) ≠ (W0.heap.size) ∧ (W0.heap.size + 1 + 1) ≠ (W0.heap.size) := by omega
    have lA : W0.heap.size ≤ (W0.heap.size + 1) ∧ W0.heap.size ≤ (W0.heap.size + 1 + 1) ∧ W0.heap.size ≤ (W0.heap.size) := by omega
    generalize (((W0.alloc (.cells (zlist n).toArray 28)).alloc (.cells (zlist n).toArray 28)).alloc (.cells (zlist m).toArray 28)).drew = W at *
    have zA := hide zA
    have zB := hide zB
    have zC := hide zC
    have bW := hide bW
    go_loopw [12] (fun iv wr => ∃ (k : Nat) (zs : List Nat), k ≤ n ∧ iv = .int .i64 (k : Int) ∧ Hid (MapRow (fun _ => 18446744073709551615) (List.replicate n 0) zs k) ∧ Blk wr (W0.heap.size + 1) zs ∧ Blk wr (W0.heap.size + 1 + 1) (List.replicate m 0) ∧ Blk wr (W0.heap.size) (List.replicate n 0) ∧ Below W0.heap.size W0 wr) (fun iv _ => n - (intOf iv).toNat)
    case atStart => exact ⟨0, _, Nat.zero_le _, rfl, mapRow_start _ _, unhide zA, unhide zB, unhide zC, unhide bW⟩
    case round =>
      clear zA zB zC bW
      obtain ⟨k, zs, hk, rfl, hV, hA, hB, hC, hb⟩ := hrel
      have hrep : (List.replicate n 0).length = n := by simp
      have hzl : zs.length = n := by rw [hV.out.1, hrep]
      by_cases h2 : k < n
      · have cA := hA.cell k (by omega)
        have fA := hA.frozen k
        have hstep : Hid (MapRow (fun _ => 18446744073709551615) (List.replicate n 0) (zs.set k 18446744073709551615) (k + 1)) := mapRow_step hV.out (by omega)
        have A7 := hide (hA.set k 18446744073709551615)
        have B7 := hide (hB.but (grown_set wr (W0.heap.size + 1) k (.int .u64 18446744073709551615)) (Ne.symm nAB.1))
        have C7 := hide (hC.but (grown_set wr (W0.heap.size + 1) k (.int .u64 18446744073709551615)) (Ne.symm nAB.2.1))
        have b7 : Hid (Below W0.heap.size W0 (wr.setCell ⟨(W0.heap.size + 1), k, none⟩ (.int .u64 18446744073709551615))) := hb.setCell lA.1 _
        have hmm : Hid (n - (k + 1) < n - k) := by show _ < _; omega
        clear hV hrep
        go_wp2
        go_roundw
        case rel => exact ⟨k + 1, _, by omega, by go_num, hstep, unhide A7, unhide B7, unhide C7, unhide b7⟩
        case measure => simp [intOf]; have := unhide hmm; omega
      · obtain rfl : k = n := by omega
        have hme := mapRow_end (f := fun _ => 18446744073709551615) (z0 := List.replicate k 0) (zs := zs) (by rw [hrep]; exact hV.out)
        rw [hrep, great_map] at hme
        subst hme
        have hA := hide hA
        have hB := hide hB
        have hC := hide hC
        have hb := hide hb
        clear hV hrep hzl h2
        go_wp2
        go_loopw [13] (fun iv wr => ∃ (k' : Nat) (zs : List Nat), k' ≤ m ∧ iv = .int .i64 (k' : Int) ∧ Hid (MapRow (fun _ => 18446744073709551615) (List.replicate m 0) zs k') ∧ Blk wr (W0.heap.size + 1 + 1) zs ∧ Blk wr (W0.heap.size + 1) (List.replicate k 18446744073709551615) ∧ Blk wr (W0.heap.size) (List.replicate k 0) ∧ Below W0.heap.size W0 wr) (fun iv _ => m - (intOf iv).toNat)
        case atStart => exact ⟨0, _, Nat.zero_le _, rfl, mapRow_start _ _, unhide hB, unhide hA, unhide hC, unhide hb⟩
        case round =>
          clear hA hB hC hb
          obtain ⟨j', zs, hk, rfl, hV, hB, hA, hC, hb⟩ := hrel
          have hrep : (List.replicate m 0).length = m := by simp
          have hzl : zs.length = m := by rw [hV.out.1, hrep]
          by_cases h2 : j' < m
          · have cB := hB.cell j' (by omega)
            have fB := hB.frozen j'
            have hstep : Hid (MapRow (fun _ => 18446744073709551615) (List.replicate m 0) (zs.set j' 18446744073709551615) (j' + 1)) := mapRow_step hV.out (by omega)
            have B7 := hide (hB.set j' 18446744073709551615)
            have A7 := hide (hA.but (grown_set wr (W0.heap.size + 1 + 1) j' (.int .u64 18446744073709551615)) nAB.1)
            have C7 := hide (hC.but (grown_set wr (W0.heap.size + 1 + 1) j' (.int .u64 18446744073709551615)) (Ne.symm nAB.2.2))
            have b7 : Hid (Below W0.heap.size W0 (wr.setCell ⟨(W0.heap.size + 1 + 1), j', none⟩ (.int .u64 18446744073709551615))) := hb.setCell lA.2.1 _
            have hmm : Hid (m - (j' + 1) < m - j') := by show _ < _; omega
            clear hV hrep
            go_wp2
            go_roundw
            case rel => exact ⟨j' + 1, _, by omega, by go_num, hstep, unhide B7, unhide A7, unhide C7, unhide b7⟩
            case measure => simp [intOf]; have := unhide hmm; omega
          · obtain rfl : j' = m := by omega
            have hme := mapRow_end (f := fun _ => 18446744073709551615) (z0 := List.replicate j' 0) (zs := zs) (by rw [hrep]; exact hV.out)
            rw [hrep, great_map] at hme
            subst hme
            have cC := hC.cell p (by simp; omega)
            have fC := hC.frozen p
            have hC2 := hC.set p 9223372036854775808
            have hA2 := hA.but (grown_set wr (W0.heap.size) p (.int .u64 9223372036854775808)) nAB.2.1
            have hB2 := hB.but (grown_set wr (W0.heap.size) p (.int .u64 9223372036854775808)) nAB.2.2
            have hb2 : Below W0.heap.size W0 (wr.setCell ⟨(W0.heap.size), p, none⟩ (.int .u64 9223372036854775808)) := hb.setCell lA.2.2 _
            obtain ⟨W3, hW3⟩ : ∃ W3, wr.setCell ⟨(W0.heap.size), p, none⟩ (.int .u64 9223372036854775808) = W3 := ⟨_, rfl⟩
            have hW3' : wr.setCell ⟨(W0.heap.size), p, none⟩ (.int .u64 ((9223372036854775808 : Nat) : Int)) = W3 := hW3
            rw [hW3'] at hC2
            rw [hW3] at hA2 hB2 hb2
            have dA := great_dig k
            have dB := great_dig j'
            have dC := lone_dig k p
            have lenA : (List.replicate k 18446744073709551615).length = k := by simp
            have lenB : (List.replicate j' 18446744073709551615).length = j' := by simp
            have lenC : ((List.replicate k 0).set p 9223372036854775808).length = k := by simp
            generalize List.replicate k 18446744073709551615 = us at *
            generalize List.replicate j' 18446744073709551615 = vs at *
            generalize (List.replicate k 0).set p 9223372036854775808 = ts at *
            have rA := hA2.whole lenA
            have rB := hB2.whole lenB
            have rC := hC2.whole lenC
            have C1 := hide (fun W (b : Below W3.heap.size W3 W) => toomMuls_any SN S3 S4 SK SO T _ (W0.heap.size + 1) 0 k k us _ (W0.heap.size + 1 + 1) 0 j' j' vs W lenA (rA.next b) dA lenB (rB.next b) dB)
            have C2 := hide (fun W (b : Below W3.heap.size W3 W) => toomMuls_any SN S3 S4 SK SO T _ (W0.heap.size) 0 k k ts _ (W0.heap.size + 1 + 1) 0 j' j' vs W lenC (rC.next b) dC lenB (rB.next b) dB)
            have C3 := hide (fun W (b : Below W3.heap.size W3 W) => toomMuls_any SN S3 S4 SK SO T _ (W0.heap.size) 0 k k ts _ (W0.heap.size + 1) 0 k k us W lenC (rC.next b) dC lenA (rA.next b) dA)
            have C4 := hide (fun W (b : Below W3.heap.size W3 W) => toomSquares_any SN S3 S4 SQ SP T _ (W0.heap.size + 1) 0 k k us W lenA (rA.next b) dA)
            have C5 := hide (fun W (b : Below W3.heap.size W3 W) => toomSquares_any SN S3 S4 SQ SP T _ (W0.heap.size) 0 k k ts W lenC (rC.next b) dC)
            have CW := hide (toomWakes_any SN S3 S4)
            unfold Tab.val at C1 C2 C3 C4 C5
            have hb := hide hb2
            clear rA rB rC hA hB hC hA2 hB2 hC2 hb2 SN S3 S4 SK SO SQ SP hV hrep hzl hW3'
            go_wp2_with fail
            refine (unhide CC _).mono ?_
            rintro e wx ⟨rfl, hw⟩
            obtain rfl := hw.symm
            clear hw CC
            have hb := unhide hb
            have kT := (hb.block TB0 hTl).trans hTk
            have c0 : W3.cell? ⟨TB0, 0, none⟩ = some (.int .i64 T.b) := cell_of_row _ TB0 0 _ _ (0, 0) kT
            have c1 : W3.cell? ⟨TB0, 1, none⟩ = some (.int .i64 T.t) := cell_of_row _ TB0 1 _ _ (0, 0) kT
            have c2 : W3.cell? ⟨TB0, 2, none⟩ = some (.int .i64 T.n) := cell_of_row _ TB0 2 _ _ (0, 0) kT
            have c3 : W3.cell? ⟨TB0, 3, none⟩ = some (.int .i64 T.d) := cell_of_row _ TB0 3 _ _ (0, 0) kT
            have c4 : W3.cell? ⟨TB0, 4, none⟩ = some (.int .i64 T.r) := cell_of_row _ TB0 4 _ _ (0, 0) kT
            have c5 : W3.cell? ⟨TB0, 5, none⟩ = some (.int .i64 T.l) := cell_of_row _ TB0 5 _ _ (0, 0) kT
            have c6 : W3.cell? ⟨TB0, 6, none⟩ = some (.int .i64 T.x) := cell_of_row _ TB0 6 _ _ (0, 0) kT
            have c7 : W3.cell? ⟨TB0, 7, none⟩ = some (.int .i64 T.p) := cell_of_row _ TB0 7 _ _ (0, 0) kT
            have c8 : W3.cell? ⟨TB0, 8, none⟩ = some (.int .i64 T.k) := cell_of_row _ TB0 8 _ _ (0, 0) kT
            have c9 : W3.cell? ⟨TB0, 9, none⟩ = some (.int .i64 T.s) := cell_of_row _ TB0 9 _ _ (0, 0) kT
            have c10 : W3.cell? ⟨TB0, 10, none⟩ = some (.int .i64 T.e) := cell_of_row _ TB0 10 _ _ (0, 0) kT
            clear kT
            go_wp2_with fail
            refine (unhide C1 _ (Below.refl _ _)).mono ?_
            rintro e w2 ⟨rfl, b2⟩
            have hb2 := bstep hb b2
            clear C1 cC fC hW3
            clear c0 c1 c2 c3 c4 c5 c6 c7 c8 c9 c10
            have kT := (hb2.block TB0 hTl).trans hTk
            have c0 : w2.cell? ⟨TB0, 0, none⟩ = some (.int .i64 T.b) := cell_of_row _ TB0 0 _ _ (0, 0) kT
            have c1 : w2.cell? ⟨TB0, 1, none⟩ = some (.int .i64 T.t) := cell_of_row _ TB0 1 _ _ (0, 0) kT
            have c2 : w2.cell? ⟨TB0, 2, none⟩ = some (.int .i64 T.n) := cell_of_row _ TB0 2 _ _ (0, 0) kT
            have c3 : w2.cell? ⟨TB0, 3, none⟩ = some (.int .i64 T.d) := cell_of_row _ TB0 3 _ _ (0, 0) kT
            have c4 : w2.cell? ⟨TB0, 4, none⟩ = some (.int .i64 T.r) := cell_of_row _ TB0 4 _ _ (0, 0) kT
            have c5 : w2.cell? ⟨TB0, 5, none⟩ = some (.int .i64 T.l) := cell_of_row _ TB0 5 _ _ (0, 0) kT
            have c6 : w2.cell? ⟨TB0, 6, none⟩ = some (.int .i64 T.x) := cell_of_row _ TB0 6 _ _ (0, 0) kT
            have c7 : w2.cell? ⟨TB0, 7, none⟩ = some (.int .i64 T.p) := cell_of_row _ TB0 7 _ _ (0, 0) kT
            have c8 : w2.cell? ⟨TB0, 8, none⟩ = some (.int .i64 T.k) := cell_of_row _ TB0 8 _ _ (0, 0) kT
            have c9 : w2.cell? ⟨TB0, 9, none⟩ = some (.int .i64 T.s) := cell_of_row _ TB0 9 _ _ (0, 0) kT
            have c10 : w2.cell? ⟨TB0, 10, none⟩ = some (.int .i64 T.e) := cell_of_row _ TB0 10 _ _ (0, 0) kT
            clear kT
            go_wp2_with fail
            refine (unhide C2 _ b2).mono ?_
            rintro e w3 ⟨rfl, b⟩
            have b3 := bstep b2 b
            have hb3 := bstep hb b3
            clear C2 b b2 hb2
            clear c0 c1 c2 c3 c4 c5 c6 c7 c8 c9 c10
            have kT := (hb3.block TB0 hTl).trans hTk
            have c0 : w3.cell? ⟨TB0, 0, none⟩ = some (.int .i64 T.b) := cell_of_row _ TB0 0 _ _ (0, 0) kT
            have c1 : w3.cell? ⟨TB0, 1, none⟩ = some (.int .i64 T.t) := cell_of_row _ TB0 1 _ _ (0, 0) kT
            have c2 : w3.cell? ⟨TB0, 2, none⟩ = some (.int .i64 T.n) := cell_of_row _ TB0 2 _ _ (0, 0) kT
            have c3 : w3.cell? ⟨TB0, 3, none⟩ = some (.int .i64 T.d) := cell_of_row _ TB0 3 _ _ (0, 0) kT
            have c4 : w3.cell? ⟨TB0, 4, none⟩ = some (.int .i64 T.r) := cell_of_row _ TB0 4 _ _ (0, 0) kT
            have c5 : w3.cell? ⟨TB0, 5, none⟩ = some (.int .i64 T.l) := cell_of_row _ TB0 5 _ _ (0, 0) kT
            have c6 : w3.cell? ⟨TB0, 6, none⟩ = some (.int .i64 T.x) := cell_of_row _ TB0 6 _ _ (0, 0) kT
            have c7 : w3.cell? ⟨TB0, 7, none⟩ = some (.int .i64 T.p) := cell_of_row _ TB0 7 _ _ (0, 0) kT
            have c8 : w3.cell? ⟨TB0, 8, none⟩ = some (.int .i64 T.k) := cell_of_row _ TB0 8 _ _ (0, 0) kT
            have c9 : w3.cell? ⟨TB0, 9, none⟩ = some (.int .i64 T.s) := cell_of_row _ TB0 9 _ _ (0, 0) kT
            have c10 : w3.cell? ⟨TB0, 10, none⟩ = some (.int .i64 T.e) := cell_of_row _ TB0 10 _ _ (0, 0) kT
            clear kT
            go_wp2_with fail
            refine (unhide C3 _ b3).mono ?_
            rintro e w4 ⟨rfl, b⟩
            have b4 := bstep b3 b
            have hb4 := bstep hb b4
            clear C3 b b3 hb3
            clear c0 c1 c2 c3 c4 c5 c6 c7 c8 c9 c10
            have kT := (hb4.block TB0 hTl).trans hTk
            have c0 : w4.cell? ⟨TB0, 0, none⟩ = some (.int .i64 T.b) := cell_of_row _ TB0 0 _ _ (0, 0) kT
            have c1 : w4.cell? ⟨TB0, 1, none⟩ = some (.int .i64 T.t) := cell_of_row _ TB0 1 _ _ (0, 0) kT
            have c2 : w4.cell? ⟨TB0, 2, none⟩ = some (.int .i64 T.n) := cell_of_row _ TB0 2 _ _ (0, 0) kT
            have c3 : w4.cell? ⟨TB0, 3, none⟩ = some (.int .i64 T.d) := cell_of_row _ TB0 3 _ _ (0, 0) kT
            have c4 : w4.cell? ⟨TB0, 4, none⟩ = some (.int .i64 T.r) := cell_of_row _ TB0 4 _ _ (0, 0) kT
            have c5 : w4.cell? ⟨TB0, 5, none⟩ = some (.int .i64 T.l) := cell_of_row _ TB0 5 _ _ (0, 0) kT
            have c6 : w4.cell? ⟨TB0, 6, none⟩ = some (.int .i64 T.x) := cell_of_row _ TB0 6 _ _ (0, 0) kT
            have c7 : w4.cell? ⟨TB0, 7, none⟩ = some (.int .i64 T.p) := cell_of_row _ TB0 7 _ _ (0, 0) kT
            have c8 : w4.cell? ⟨TB0, 8, none⟩ = some (.int .i64 T.k) := cell_of_row _ TB0 8 _ _ (0, 0) kT
            have c9 : w4.cell? ⟨TB0, 9, none⟩ = some (.int .i64 T.s) := cell_of_row _ TB0 9 _ _ (0, 0) kT
            have c10 : w4.cell? ⟨TB0, 10, none⟩ = some (.int .i64 T.e) := cell_of_row _ TB0 10 _ _ (0, 0) kT
            clear kT
            go_wp2_with fail
            refine (unhide C4 _ b4).mono ?_
            rintro e w5 ⟨rfl, b⟩
            have b5 := bstep b4 b
            have hb5 := bstep hb b5
            clear C4 b b4 hb4
            clear c0 c1 c2 c3 c4 c5 c6 c7 c8 c9 c10
            have kT := (hb5.block TB0 hTl).trans hTk
            have c0 : w5.cell? ⟨TB0, 0, none⟩ = some (.int .i64 T.b) := cell_of_row _ TB0 0 _ _ (0, 0) kT
            have c1 : w5.cell? ⟨TB0, 1, none⟩ = some (.int .i64 T.t) := cell_of_row _ TB0 1 _ _ (0, 0) kT
            have c2 : w5.cell? ⟨TB0, 2, none⟩ = some (.int .i64 T.n) := cell_of_row _ TB0 2 _ _ (0, 0) kT
            have c3 : w5.cell? ⟨TB0, 3, none⟩ = some (.int .i64 T.d) := cell_of_row _ TB0 3 _ _ (0, 0) kT
            have c4 : w5.cell? ⟨TB0, 4, none⟩ = some (.int .i64 T.r) := cell_of_row _ TB0 4 _ _ (0, 0) kT
            have c5 : w5.cell? ⟨TB0, 5, none⟩ = some (.int .i64 T.l) := cell_of_row _ TB0 5 _ _ (0, 0) kT
            have c6 : w5.cell? ⟨TB0, 6, none⟩ = some (.int .i64 T.x) := cell_of_row _ TB0 6 _ _ (0, 0) kT
            have c7 : w5.cell? ⟨TB0, 7, none⟩ = some (.int .i64 T.p) := cell_of_row _ TB0 7 _ _ (0, 0) kT
            have c8 : w5.cell? ⟨TB0, 8, none⟩ = some (.int .i64 T.k) := cell_of_row _ TB0 8 _ _ (0, 0) kT
            have c9 : w5.cell? ⟨TB0, 9, none⟩ = some (.int .i64 T.s) := cell_of_row _ TB0 9 _ _ (0, 0) kT
            have c10 : w5.cell? ⟨TB0, 10, none⟩ = some (.int .i64 T.e) := cell_of_row _ TB0 10 _ _ (0, 0) kT
            clear kT
            go_wp2_with fail
            refine (unhide C5 _ b5).mono ?_
            rintro e w6 ⟨rfl, b⟩
            have b6 := bstep b5 b
            have hb6 := bstep hb b6
            clear C5 b b5 hb5
            clear c0 c1 c2 c3 c4 c5 c6 c7 c8 c9 c10
            go_wp2_with fail
            refine (unhide CW _).mono ?_
            rintro e w7 ⟨rfl, b⟩
            have bl := bstep bw0 (bstep hb6 b)
            clear b CW
            go_wp2
            go_ret
            exact ⟨rfl, bl⟩
  · have bW : Below W0.heap.size W0 (((W0.alloc (.cells (zlist n).toArray 28)).alloc (.cells (zlist m).toArray 28)).alloc (.cells (zlist n).toArray 28)).drew := ((((Below.refl W0.heap.size W0).alloc (Nat.le_refl _) _).alloc (by simp) _).alloc (by simp; omega) _).drew
    have zA : Blk (((W0.alloc (.cells (zlist n).toArray 28)).alloc (.cells (zlist m).toArray 28)).alloc (.cells (zlist n).toArray 28)).drew (W0.heap.size + 1 + 1) (List.replicate n 0) := blk_three2 W0 n m n
    have zB : Blk (((W0.alloc (.cells (zlist n).toArray 28)).alloc (.cells (zlist m).toArray 28)).alloc (.cells (zlist n).toArray 28)).drew (W0.heap.size + 1) (List.replicate m 0) := blk_three1 W0 n m n
    have zC : Blk (((W0.alloc (.cells (zlist n).toArray 28)).alloc (.cells (zlist m).toArray 28)).alloc (.cells (zlist n).toArray 28)).drew (W0.heap.size) (List.replicate n 0) := blk_three0 W0 n m n
    have nAB : (W0.heap.size + 1 + 1) ≠ (W0.heap.size + 1) ∧ (W0.heap.size + 1 + 1) ≠ (W0.heap.size) ∧ (W0.heap.size + 1) ≠ (W0.heap.size) := by omega
    have lA : W0.heap.size ≤ (W0.heap.size + 1 + 1) ∧ W0.heap.size ≤ (W0.heap.size + 1) ∧ W0.heap.size ≤ (W0.heap.size) := by omega
    generalize (((W0.alloc (.cells (zlist n).toArray 28)).alloc (.cells (zlist m).toArray 28)).alloc (.cells (zlist n).toArray 28)).drew = W at *
    have zA := hide zA
    have zB := hide zB
    have zC := hide zC
    have bW := hide bW
    go_loopw [12] (fun iv wr => ∃ (k : Nat) (zs : List Nat), k ≤ n ∧ iv = .int .i64 (k : Int) ∧ Hid (MapRow (fun _ => 18446744073709551615) (List.replicate n 0) zs k) ∧ Blk wr (W0.heap.size + 1 + 1) zs ∧ Blk wr (W0.heap.size + 1) (List.replicate m 0) ∧ Blk wr (W0.heap.size) (List.replicate n 0) ∧ Below W0.heap.size W0 wr) (fun iv _ => n - (intOf iv).toNat)
    case atStart => exact ⟨0, _, Nat.zero_le _, rfl, mapRow_start _ _, unhide zA, unhide zB, unhide zC, unhide bW⟩
    case round =>
      clear zA zB zC bW
      obtain ⟨k, zs, hk, rfl, hV, hA, hB, hC, hb⟩ := hrel
      have hrep : (List.replicate n 0).length = n := by simp
      have hzl : zs.length = n := by rw [hV.out.1, hrep]
      by_cases h2 : k < n
      · have cA := hA.cell k (by omega)
        have fA := hA.frozen k
        have hstep : Hid (MapRow (fun _ => 18446744073709551615) (List.replicate n 0) (zs.set k 18446744073709551615) (k + 1)) := mapRow_step hV.out (by omega)
        have A7 := hide (hA.set k 18446744073709551615)
        have B7 := hide (hB.but (grown_set wr (W0.heap.size + 1 + 1) k (.int .u64 18446744073709551615)) (Ne.symm nAB.1))
        have C7 := hide (hC.but (grown_set wr (W0.heap.size + 1 + 1) k (.int .u64 18446744073709551615)) (Ne.symm nAB.2.1))
        have b7 : Hid (Below W0.heap.size W0 (wr.setCell ⟨(W0.heap.size + 1 + 1), k, none⟩ (.int .u64 18446744073709551615))) := hb.setCell lA.1 _
        have hmm : Hid (n - (k + 1) < n - k) := by show _ < _; omega
        clear hV hrep
        go_wp2
        go_roundw
        case rel => exact ⟨k + 1, _, by omega, by go_num, hstep, unhide A7, unhide B7, unhide C7, unhide b7⟩
        case measure => simp [intOf]; have := unhide hmm; omega
      · obtain rfl : k = n := by omega
        have hme := mapRow_end (f := fun _ => 18446744073709551615) (z0 := List.replicate k 0) (zs := zs) (by rw [hrep]; exact hV.out)
        rw [hrep, great_map] at hme
        subst hme
        have hA := hide hA
        have hB := hide hB
        have hC := hide hC
        have hb := hide hb
        clear hV hrep hzl h2
        go_wp2
        go_loopw [13] (fun iv wr => ∃ (k' : Nat) (zs : List Nat), k' ≤ m ∧ iv = .int .i64 (k' : Int) ∧ Hid (MapRow (fun _ => 18446744073709551615) (List.replicate m 0) zs k') ∧ Blk wr (W0.heap.size + 1) zs ∧ Blk wr (W0.heap.size + 1 + 1) (List.replicate k 18446744073709551615) ∧ Blk wr (W0.heap.size) (List.replicate k 0) ∧ Below W0.heap.size W0 wr) (fun iv _ => m - (intOf iv).toNat)
        case atStart => exact ⟨0, _, Nat.zero_le _, rfl, mapRow_start _ _, unhide hB, unhide hA, unhide hC, unhide hb⟩
        case round =>
          clear hA hB hC hb
          obtain ⟨j', zs, hk, rfl, hV, hB, hA, hC, hb⟩ := hrel
          have hrep : (List.replicate m 0).length = m := by simp
          have hzl : zs.length = m := by rw [hV.out.1, hrep]
          by_cases h2 : j' < m
          · have cB := hB.cell j' (by omega)
            have fB := hB.frozen j'
            have hstep : Hid (MapRow (fun _ => 18446744073709551615) (List.replicate m 0) (zs.set j' 18446744073709551615) (j' + 1)) := mapRow_step hV.out (by omega)
            have B7 := hide (hB.set j' 18446744073709551615)
            have A7 := hide (hA.but (grown_set wr (W0.heap.size + 1) j' (.int .u64 18446744073709551615)) nAB.1)
            have C7 := hide (hC.but (grown_set wr (W0.heap.size + 1) j' (.int .u64 18446744073709551615)) (Ne.symm nAB.2.2))
            have b7 : Hid (Below W0.heap.size W0 (wr.setCell ⟨(W0.heap.size + 1), j', none⟩ (.int .u64 18446744073709551615))) := hb.setCell lA.2.1 _
            have hmm : Hid (m - (j' + 1) < m - j') := by show _ < _; omega
            clear hV hrep
            go_wp2
            go_roundw
            case rel => exact ⟨j' + 1, _, by omega, by go_num, hstep, unhide B7, unhide A7, unhide C7, unhide b7⟩
            case measure => simp [intOf]; have := unhide hmm; omega
          · obtain rfl : j' = m := by omega
            have hme := mapRow_end (f := fun _ => 18446744073709551615) (z0 := List.replicate j' 0) (zs := zs) (by rw [hrep]; exact hV.out)
            rw [hrep, great_map] at hme
            subst hme
            have cC := hC.cell p (by simp; omega)
            have fC := hC.frozen p
            have hC2 := hC.set p 9223372036854775808
            have hA2 := hA.but (grown_set wr (W0.heap.size) p (.int .u64 9223372036854775808)) nAB.2.1
            have hB2 := hB.but (grown_set wr (W0.heap.size) p (.int .u64 9223372036854775808)) nAB.2.2
            have hb2 : Below W0.heap.size W0 (wr.setCell ⟨(W0.heap.size), p, none⟩ (.int .u64 9223372036854775808)) := hb.setCell lA.2.2 _
            obtain ⟨W3, hW3⟩ : ∃ W3, wr.setCell ⟨(W0.heap.size), p, none⟩ (.int .u64 9223372036854775808) = W3 := ⟨_, rfl⟩
            have hW3' : wr.setCell ⟨(W0.heap.size), p, none⟩ (.int .u64 ((9223372036854775808 : Nat) : Int)) = W3 := hW3
            rw [hW3'] at hC2
            rw [hW3] at hA2 hB2 hb2
            have dA := great_dig k
            have dB := great_dig j'
            have dC := lone_dig k p
            have lenA : (List.replicate k 18446744073709551615).length = k := by simp
            have lenB : (List.replicate j' 18446744073709551615).length = j' := by simp
            have lenC : ((List.replicate k 0).set p 9223372036854775808).length = k := by simp
            generalize List.replicate k 18446744073709551615 = us at *
            generalize List.replicate j' 18446744073709551615 = vs at *
            generalize (List.replicate k 0).set p 9223372036854775808 = ts at *
            have rA := hA2.whole lenA
            have rB := hB2.whole lenB
            have rC := hC2.whole lenC
            have C1 := hide (fun W (b : Below W3.heap.size W3 W) => toomMuls_any SN S3 S4 SK SO T _ (W0.heap.size + 1 + 1) 0 k k us _ (W0.heap.size + 1) 0 j' j' vs W lenA (rA.next b) dA lenB (rB.next b) dB)
            have C2 := hide (fun W (b : Below W3.heap.size W3 W) => toomMuls_any SN S3 S4 SK SO T _ (W0.heap.size) 0 k k ts _ (W0.heap.size + 1) 0 j' j' vs W lenC (rC.next b) dC lenB (rB.next b) dB)
            have C3 := hide (fun W (b : Below W3.heap.size W3 W) => toomMuls_any SN S3 S4 SK SO T _ (W0.heap.size) 0 k k ts _ (W0.heap.size + 1 + 1) 0 k k us W lenC (rC.next b) dC lenA (rA.next b) dA)
            have C4 := hide (fun W (b : Below W3.heap.size W3 W) => toomSquares_any SN S3 S4 SQ SP T _ (W0.heap.size + 1 + 1) 0 k k us W lenA (rA.next b) dA)
            have C5 := hide (fun W (b : Below W3.heap.size W3 W) => toomSquares_any SN S3 S4 SQ SP T _ (W0.heap.size) 0 k k ts W lenC (rC.next b) dC)
            have CW := hide (toomWakes_any SN S3 S4)
            unfold Tab.val at C1 C2 C3 C4 C5
            have hb := hide hb2
            clear rA rB rC hA hB hC hA2 hB2 hC2 hb2 SN S3 S4 SK SO SQ SP hV hrep hzl hW3'
            go_wp2_with fail
            refine (unhide CC _).mono ?_
            rintro e wx ⟨rfl, hw⟩
            obtain rfl := hw.symm
            clear hw CC
            have hb := unhide hb
            have kT := (hb.block TB0 hTl).trans hTk
            have c0 : W3.cell? ⟨TB0, 0, none⟩ = some (.int .i64 T.b) := cell_of_row _ TB0 0 _ _ (0, 0) kT
            have c1 : W3.cell? ⟨TB0, 1, none⟩ = some (.int .i64 T.t) := cell_of_row _ TB0 1 _ _ (0, 0) kT
            have c2 : W3.cell? ⟨TB0, 2, none⟩ = some (.int .i64 T.n) := cell_of_row _ TB0 2 _ _ (0, 0) kT
            have c3 : W3.cell? ⟨TB0, 3, none⟩ = some (.int .i64 T.d) := cell_of_row _ TB0 3 _ _ (0, 0) kT
            have c4 : W3.cell? ⟨TB0, 4, none⟩ = some (.int .i64 T.r) := cell_of_row _ TB0 4 _ _ (0, 0) kT
            have c5 : W3.cell? ⟨TB0, 5, none⟩ = some (.int .i64 T.l) := cell_of_row _ TB0 5 _ _ (0, 0) kT
            have c6 : W3.cell? ⟨TB0, 6, none⟩ = some (.int .i64 T.x) := cell_of_row _ TB0 6 _ _ (0, 0) kT
            have c7 : W3.cell? ⟨TB0, 7, none⟩ = some (.int .i64 T.p) := cell_of_row _ TB0 7 _ _ (0, 0) kT
            have c8 : W3.cell? ⟨TB0, 8, none⟩ = some (.int .i64 T.k) := cell_of_row _ TB0 8 _ _ (0, 0) kT
            have c9 : W3.cell? ⟨TB0, 9, none⟩ = some (.int .i64 T.s) := cell_of_row _ TB0 9 _ _ (0, 0) kT
            have c10 : W3.cell? ⟨TB0, 10, none⟩ = some (.int .i64 T.e) := cell_of_row _ TB0 10 _ _ (0, 0) kT
            clear kT
            go_wp2_with fail
            refine (unhide C1 _ (Below.refl _ _)).mono ?_
            rintro e w2 ⟨rfl, b2⟩
            have hb2 := bstep hb b2
            clear C1 cC fC hW3
            clear c0 c1 c2 c3 c4 c5 c6 c7 c8 c9 c10
            have kT := (hb2.block TB0 hTl).trans hTk
            have c0 : w2.cell? ⟨TB0, 0, none⟩ = some (.int .i64 T.b) := cell_of_row _ TB0 0 _ _ (0, 0) kT
            have c1 : w2.cell? ⟨TB0, 1, none⟩ = some (.int .i64 T.t) := cell_of_row _ TB0 1 _ _ (0, 0) kT
            have c2 : w2.cell? ⟨TB0, 2, none⟩ = some (.int .i64 T.n) := cell_of_row _ TB0 2 _ _ (0, 0) kT
            have c3 : w2.cell? ⟨TB0, 3, none⟩ = some (.int .i64 T.d) := cell_of_row _ TB0 3 _ _ (0, 0) kT
            have c4 : w2.cell? ⟨TB0, 4, none⟩ = some (.int .i64 T.r) := cell_of_row _ TB0 4 _ _ (0, 0) kT
            have c5 : w2.cell? ⟨TB0, 5, none⟩ = some (.int .i64 T.l) := cell_of_row _ TB0 5 _ _ (0, 0) kT
            have c6 : w2.cell? ⟨TB0, 6, none⟩ = some (.int .i64 T.x) := cell_of_row _ TB0 6 _ _ (0, 0) kT
            have c7 : w2.cell? ⟨TB0, 7, none⟩ = some (.int .i64 T.p) := cell_of_row _ TB0 7 _ _ (0, 0) kT
            have c8 : w2.cell? ⟨TB0, 8, none⟩ = some (.int .i64 T.k) := cell_of_row _ TB0 8 _ _ (0, 0) kT
            have c9 : w2.cell? ⟨TB0, 9, none⟩ = some (.int .i64 T.s) := cell_of_row _ TB0 9 _ _ (0, 0) kT
            have c10 : w2.cell? ⟨TB0, 10, none⟩ = some (.int .i64 T.e) := cell_of_row _ TB0 10 _ _ (0, 0) kT
            clear kT
            go_wp2_with fail
            refine (unhide C2 _ b2).mono ?_
            rintro e w3 ⟨rfl, b⟩
            have b3 := bstep b2 b
            have hb3 := bstep hb b3
            clear C2 b b2 hb2
            clear c0 c1 c2 c3 c4 c5 c6 c7 c8 c9 c10
            have kT := (hb3.block TB0 hTl).trans hTk
            have c0 : w3.cell? ⟨TB0, 0, none⟩ = some (.int .i64 T.b) := cell_of_row _ TB0 0 _ _ (0, 0) kT
            have c1 : w3.cell? ⟨TB0, 1, none⟩ = some (.int .i64 T.t) := cell_of_row _ TB0 1 _ _ (0, 0) kT
            have c2 : w3.cell? ⟨TB0, 2, none⟩ = some (.int .i64 T.n) := cell_of_row _ TB0 2 _ _ (0, 0) kT
            have c3 : w3.cell? ⟨TB0, 3, none⟩ = some (.int .i64 T.d) := cell_of_row _ TB0 3 _ _ (0, 0) kT
            have c4 : w3.cell? ⟨TB0, 4, none⟩ = some (.int .i64 T.r) := cell_of_row _ TB0 4 _ _ (0, 0) kT
            have c5 : w3.cell? ⟨TB0, 5, none⟩ = some (.int .i64 T.l) := cell_of_row _ TB0 5 _ _ (0, 0) kT
            have c6 : w3.cell? ⟨TB0, 6, none⟩ = some (.int .i64 T.x) := cell_of_row _ TB0 6 _ _ (0, 0) kT
            have c7 : w3.cell? ⟨TB0, 7, none⟩ = some (.int .i64 T.p) := cell_of_row _ TB0 7 _ _ (0, 0) kT
            have c8 : w3.cell? ⟨TB0, 8, none⟩ = some (.int .i64 T.k) := cell_of_row _ TB0 8 _ _ (0, 0) kT
            have c9 : w3.cell? ⟨TB0, 9, none⟩ = some (.int .i64 T.s) := cell_of_row _ TB0 9 _ _ (0, 0) kT
            have c10 : w3.cell? ⟨TB0, 10, none⟩ = some (.int .i64 T.e) := cell_of_row _ TB0 10 _ _ (0, 0) kT
            clear kT
            go_wp2_with fail
            refine (unhide C3 _ b3).mono ?_
            rintro e w4 ⟨rfl, b⟩
            have b4 := bstep b3 b
            have hb4 := bstep hb b4
            clear C3 b b3 hb3
            clear c0 c1 c2 c3 c4 c5 c6 c7 c8 c9 c10
            have kT := (hb4.block TB0 hTl).trans hTk
            have c0 : w4.cell? ⟨TB0, 0, none⟩ = some (.int .i64 T.b) := cell_of_row _ TB0 0 _ _ (0, 0) kT
            have c1 : w4.cell? ⟨TB0, 1, none⟩ = some (.int .i64 T.t) := cell_of_row _ TB0 1 _ _ (0, 0) kT
            have c2 : w4.cell? ⟨TB0, 2, none⟩ = some (.int .i64 T.n) := cell_of_row _ TB0 2 _ _ (0, 0) kT
            have c3 : w4.cell? ⟨TB0, 3, none⟩ = some (.int .i64 T.d) := cell_of_row _ TB0 3 _ _ (0, 0) kT
            have c4 : w4.cell? ⟨TB0, 4, none⟩ = some (.int .i64 T.r) := cell_of_row _ TB0 4 _ _ (0, 0) kT
            have c5 : w4.cell? ⟨TB0, 5, none⟩ = some (.int .i64 T.l) := cell_of_row _ TB0 5 _ _ (0, 0) kT
            have c6 : w4.cell? ⟨TB0, 6, none⟩ = some (.int .i64 T.x) := cell_of_row _ TB0 6 _ _ (0, 0) kT
            have c7 : w4.cell? ⟨TB0, 7, none⟩ = some (.int .i64 T.p) := cell_of_row _ TB0 7 _ _ (0, 0) kT
            have c8 : w4.cell? ⟨TB0, 8, none⟩ = some (.int .i64 T.k) := cell_of_row _ TB0 8 _ _ (0, 0) kT
            have c9 : w4.cell? ⟨TB0, 9, none⟩ = some (.int .i64 T.s) := cell_of_row _ TB0 9 _ _ (0, 0) kT
            have c10 : w4.cell? ⟨TB0, 10, none⟩ = some (.int .i64 T.e) := cell_of_row _ TB0 10 _ _ (0, 0) kT
            clear kT
            go_wp2_with fail
            refine (unhide C4 _ b4).mono ?_
            rintro e w5 ⟨rfl, b⟩
            have b5 := bstep b4 b
            have hb5 := bstep hb b5
            clear C4 b b4 hb4
            clear c0 c1 c2 c3 c4 c5 c6 c7 c8 c9 c10
            have kT := (hb5.block TB0 hTl).trans hTk
            have c0 : w5.cell? ⟨TB0, 0, none⟩ = some (.int .i64 T.b) := cell_of_row _ TB0 0 _ _ (0, 0) kT
            have c1 : w5.cell? ⟨TB0, 1, none⟩ = some (.int .i64 T.t) := cell_of_row _ TB0 1 _ _ (0, 0) kT
            have c2 : w5.cell? ⟨TB0, 2, none⟩ = some (.int .i64 T.n) := cell_of_row _ TB0 2 _ _ (0, 0) kT
            have c3 : w5.cell? ⟨TB0, 3, none⟩ = some (.int .i64 T.d) := cell_of_row _ TB0 3 _ _ (0, 0) kT
            have c4 : w5.cell? ⟨TB0, 4, none⟩ = some (.int .i64 T.r) := cell_of_row _ TB0 4 _ _ (0, 0) kT
            have c5 : w5.cell? ⟨TB0, 5, none⟩ = some (.int .i64 T.l) := cell_of_row _ TB0 5 _ _ (0, 0) kT
            have c6 : w5.cell? ⟨TB0, 6, none⟩ = some (.int .i64 T.x) := cell_of_row _ TB0 6 _ _ (0, 0) kT
            have c7 : w5.cell? ⟨TB0, 7, none⟩ = some (.int .i64 T.p) := cell_of_row _ TB0 7 _ _ (0, 0) kT
            have c8 : w5.cell? ⟨TB0, 8, none⟩ = some (.int .i64 T.k) := cell_of_row _ TB0 8 _ _ (0, 0) kT
            have c9 : w5.cell? ⟨TB0, 9, none⟩ = some (.int .i64 T.s) := cell_of_row _ TB0 9 _ _ (0, 0) kT
            have c10 : w5.cell? ⟨TB0, 10, none⟩ = some (.int .i64 T.e) := cell_of_row _ TB0 10 _ _ (0, 0) kT
            clear kT
            go_wp2_with fail
            refine (unhide C5 _ b5).mono ?_
            rintro e w6 ⟨rfl, b⟩
            have b6 := bstep b5 b
            have hb6 := bstep hb b6
            clear C5 b b5 hb5
            clear c0 c1 c2 c3 c4 c5 c6 c7 c8 c9 c10
            go_wp2_with fail
            refine (unhide CW _).mono ?_
            rintro e w7 ⟨rfl, b⟩
            have bl := bstep bw0 (bstep hb6 b)
            clear b CW
            go_wp2
            go_ret
            exact ⟨rfl, bl⟩

end Go.Proofs.Yteinonbijiokmaa
