/- ConvGreat: what the law's walk comes to, once the code's Mul and Sqr are what the document asks. -/
import Derived.Test.YtpifgkhgnilpdaaDoorM16
import Derived.Test.YtpifgkhgnilpdaaDoorM6
import Derived.Test.YtpifgkhgnilpdaaDoorM4
namespace Go.Proofs.YtpifgkhgnilpdaaDoor
open Go.RowKit

theorem tf_sixty {n m : Nat} (h : n + m ≤ 120) : tf n m 3 ≤ 100000 :=
  Nat.le_trans (tfL_mono (lg_mono h) (Nat.le_refl 3)) (by decide +kernel)
theorem great_map (N : Nat) : (List.range N).map (fun _ => 18446744073709551615) = List.replicate N 18446744073709551615 := by
  rw [List.map_const', List.length_range]
theorem great_dig (n : Nat) : WDig (List.replicate n 18446744073709551615) := fun j => by
  rw [List.getD_eq_getElem?_getD, List.getElem?_replicate]
  split
  · exact Nat.lt_of_sub_eq_succ rfl
  · exact Nat.zero_lt_succ _

theorem blk_first (w : World) (n m : Nat) : Blk ((w.alloc (.cells (zlist n).toArray 37)).alloc (.cells (zlist m).toArray 37)).drew w.heap.size (List.replicate n 0) :=
  (Blk.next (blk_zeros w n) ((Below.refl _ _).alloc (Nat.le_refl _) (.cells (zlist m).toArray 37))).drewN 1
theorem blk_second (w : World) (n m : Nat) : Blk ((w.alloc (.cells (zlist n).toArray 37)).alloc (.cells (zlist m).toArray 37)).drew (w.heap.size + 1) (List.replicate m 0) := by
  have h := blk_zeros (w.alloc (.cells (zlist n).toArray 37)) m
  have e : (w.alloc (.cells (zlist n).toArray 37)).heap.size = w.heap.size + 1 := by simp
  rw [e] at h
  exact h.drewN 1

set_option maxRecDepth 100000 in
set_option maxHeartbeats 6400000 in
theorem convGreat_any (SM : SpecMul) (SQ : SpecSqr) (SW : SpecWakes) (a d : Int) (w : World) (h1 : -9223372036854775808 ≤ a) (h2 : a ≤ 9223372036854775807) (h3 : -9223372036854775808 ≤ d) (h4 : d ≤ 9223372036854775807) (hT : TB w) :
    Calls Tryd.prog 6 #[.int .i64 a, .int .i64 d] w fun e w' => e = .returned (.bool true) ∧ Below w.heap.size w w' := by
  obtain ⟨i, hi⟩ : ∃ i : Nat, a % 60 = (i : Int) := ⟨(a % 60).toNat, by omega⟩
  obtain ⟨j, hj⟩ : ∃ j : Nat, d % 60 = (j : Int) := ⟨(d % 60).toNat, by omega⟩
  have CK1 := hide (fun w => within_any a 60 w h1 h2 (by decide) (by decide))
  have CK2 := hide (fun w => within_any d 60 w h3 h4 (by decide) (by decide))
  rw [hi] at CK1
  rw [hj] at CK2
  obtain ⟨n, hn⟩ : ∃ n, n = 1 + i := ⟨_, rfl⟩
  obtain ⟨m, hm⟩ : ∃ m, m = 1 + j := ⟨_, rfl⟩
  have en : 1 + (i : Int) = (n : Int) := by omega
  have em : 1 + (j : Int) = (m : Int) := by omega
  have wn : IntKind.i64.wrap (n : Int) = (n : Int) := by rw [IntKind.wrap_i64]; omega
  have wm : IntKind.i64.wrap (m : Int) = (m : Int) := by rw [IntKind.wrap_i64]; omega
  have bn : 1 ≤ n ∧ n ≤ 60 := by omega
  have bm : 1 ≤ m ∧ m ≤ 60 := by omega
  have hmk1 := make_su n n (n : Int) rfl rfl (by omega)
  have hmk2 := make_su m m (m : Int) rfl rfl (by omega)
  have CW := hide SW
  have CM := hide SM
  have CQ := hide SQ
  have HTB := hide (fun w' (b : Below w.heap.size w w') => hT.next b)
  clear hi hj h1 h2 h3 h4 hn hm SM SQ SW hT
  go_enter Tryd.func6, Tryd.ntmps6
  go_wp2_with fail
  refine (unhide CK1 _).mono ?_
  rintro e wx ⟨rfl, hw⟩
  obtain rfl := hw.symm
  clear hw CK1
  go_wp2_with fail
  refine (unhide CK2 _).mono ?_
  rintro e wx ⟨rfl, hw⟩
  obtain rfl := hw.symm
  clear hw CK2
  go_wp2
  go_big_region
  all_goals go_wp2
  all_goals clear hmk1 hmk2 en em wn wm
  · have bW : Below w.heap.size w ((w.alloc (.cells (zlist n).toArray 37)).alloc (.cells (zlist m).toArray 37)).drew := (((Below.refl w.heap.size w).alloc (Nat.le_refl _) _).alloc (by simp) _).drew
    have zA : Blk ((w.alloc (.cells (zlist n).toArray 37)).alloc (.cells (zlist m).toArray 37)).drew (w.heap.size) (List.replicate n 0) := blk_first w n m
    have zB : Blk ((w.alloc (.cells (zlist n).toArray 37)).alloc (.cells (zlist m).toArray 37)).drew (w.heap.size + 1) (List.replicate m 0) := blk_second w n m
    have nAB : (w.heap.size) ≠ (w.heap.size + 1) := by omega
    have lA : w.heap.size ≤ (w.heap.size) := by omega
    have lB : w.heap.size ≤ (w.heap.size + 1) := by omega
    generalize ((w.alloc (.cells (zlist n).toArray 37)).alloc (.cells (zlist m).toArray 37)).drew = W at *
    have zA := hide zA
    have zB := hide zB
    have bW := hide bW
    go_loopw [7] (fun iv wr => ∃ (k : Nat) (zs : List Nat), k ≤ n ∧ iv = .int .i64 (k : Int) ∧ Hid (MapRow (fun _ => 18446744073709551615) (List.replicate n 0) zs k) ∧ Blk wr (w.heap.size) zs ∧ Blk wr (w.heap.size + 1) (List.replicate m 0) ∧ Below w.heap.size w wr) (fun iv _ => n - (intOf iv).toNat)
    case atStart => exact ⟨0, _, Nat.zero_le _, rfl, mapRow_start _ _, unhide zA, unhide zB, unhide bW⟩
    case round =>
      clear zA zB bW
      obtain ⟨k, zs, hk, rfl, hV, hA, hB, hb⟩ := hrel
      have hrep : (List.replicate n 0).length = n := by simp
      have hzl : zs.length = n := by rw [hV.out.1, hrep]
      by_cases h2 : k < n
      · have cA := hA.cell k (by omega)
        have fA := hA.frozen k
        have hstep : Hid (MapRow (fun _ => 18446744073709551615) (List.replicate n 0) (zs.set k 18446744073709551615) (k + 1)) := mapRow_step hV.out (by omega)
        have A7 := hide (hA.set k 18446744073709551615)
        have B7 := hide (hB.but (grown_set wr (w.heap.size) k (.int .u64 18446744073709551615)) (Ne.symm nAB))
        have b7 : Hid (Below w.heap.size w (wr.setCell ⟨(w.heap.size), k, none⟩ (.int .u64 18446744073709551615))) := hb.setCell lA _
        have hmm : Hid (n - (k + 1) < n - k) := by show _ < _; omega
        clear hV hrep
        go_wp2
        go_roundw
        case rel => exact ⟨k + 1, _, by omega, by go_num, hstep, unhide A7, unhide B7, unhide b7⟩
        case measure => simp [intOf]; have := unhide hmm; omega
      · obtain rfl : k = n := by omega
        have hme := mapRow_end (f := fun _ => 18446744073709551615) (z0 := List.replicate k 0) (zs := zs) (by rw [hrep]; exact hV.out)
        rw [hrep, great_map] at hme
        subst hme
        have hA := hide hA
        have hB := hide hB
        have hb := hide hb
        clear hV hrep hzl h2
        go_wp2
        go_loopw [8] (fun iv wr => ∃ (k' : Nat) (zs : List Nat), k' ≤ m ∧ iv = .int .i64 (k' : Int) ∧ Hid (MapRow (fun _ => 18446744073709551615) (List.replicate m 0) zs k') ∧ Blk wr (w.heap.size + 1) zs ∧ Blk wr (w.heap.size) (List.replicate k 18446744073709551615) ∧ Below w.heap.size w wr) (fun iv _ => m - (intOf iv).toNat)
        case atStart => exact ⟨0, _, Nat.zero_le _, rfl, mapRow_start _ _, unhide hB, unhide hA, unhide hb⟩
        case round =>
          clear hA hB hb
          obtain ⟨j', zs, hk, rfl, hV, hB, hA, hb⟩ := hrel
          have hrep : (List.replicate m 0).length = m := by simp
          have hzl : zs.length = m := by rw [hV.out.1, hrep]
          by_cases h2 : j' < m
          · have cB := hB.cell j' (by omega)
            have fB := hB.frozen j'
            have hstep : Hid (MapRow (fun _ => 18446744073709551615) (List.replicate m 0) (zs.set j' 18446744073709551615) (j' + 1)) := mapRow_step hV.out (by omega)
            have B7 := hide (hB.set j' 18446744073709551615)
            have A7 := hide (hA.but (grown_set wr (w.heap.size + 1) j' (.int .u64 18446744073709551615)) nAB)
            have b7 : Hid (Below w.heap.size w (wr.setCell ⟨(w.heap.size + 1), j', none⟩ (.int .u64 18446744073709551615))) := hb.setCell lB _
            have hmm : Hid (m - (j' + 1) < m - j') := by show _ < _; omega
            clear hV hrep
            go_wp2
            go_roundw
            case rel => exact ⟨j' + 1, _, by omega, by go_num, hstep, unhide B7, unhide A7, unhide b7⟩
            case measure => simp [intOf]; have := unhide hmm; omega
          · obtain rfl : j' = m := by omega
            have hme := mapRow_end (f := fun _ => 18446744073709551615) (z0 := List.replicate j' 0) (zs := zs) (by rw [hrep]; exact hV.out)
            rw [hrep, great_map] at hme
            subst hme
            have dA := great_dig k
            have dB := great_dig j'
            have lenA : (List.replicate k 18446744073709551615).length = k := by simp
            have lenB : (List.replicate j' 18446744073709551615).length = j' := by simp
            generalize List.replicate k 18446744073709551615 = us at *
            generalize List.replicate j' 18446744073709551615 = vs at *
            have ow := own_new wr 26
            obtain ⟨W1, hW1⟩ : ∃ W1, wr.alloc (.cells #[.int .i64 0, .int .i64 0, .int .i64 0] 26) = W1 := ⟨_, rfl⟩
            obtain ⟨G, hG⟩ : ∃ G, wr.heap.size = G := ⟨_, rfl⟩
            have xAl := hA.lt
            have gW : G < W1.heap.size := by rw [← hG, ← hW1]; simp
            have xBl := hB.lt
            rw [hW1] at ow
            rw [hG] at ow xAl xBl
            have hA1 := hA.next ow.old
            have hB1 := hB.next ow.old
            have hb1 := bstep hb ow.old
            have CM := hide (unhide CM W1 G 0 0 0 0 _ _ (w.heap.size) 0 k k (w.heap.size + 1) 0 j' j' us vs (unhide HTB _ hb1) ow.met (by omega) (by omega) lenA (hA1.whole lenA) dA (by omega) lenB (hB1.whole lenB) dB (by omega) (by omega) (by omega) (by omega) (by omega))
            rw [Int.zero_add] at CM
            have hts : tf k j' 3 ≤ 100000 := tf_sixty (by omega)
            obtain ⟨A, hva⟩ : ∃ A, A = wval us := ⟨_, rfl⟩
            obtain ⟨D, hvb⟩ : ∃ D, D = wval vs := ⟨_, rfl⟩
            have ba' : A < 18446744073709551616 ^ 60 := by rw [hva]; exact pow_up (wval_lt_pow dA) (by omega)
            have bb' : D < 18446744073709551616 ^ 60 := by rw [hvb]; exact pow_up (wval_lt_pow dB) (by omega)
            have Ba : Hid (A < 4294967296 ^ 120) := by have := ba'; rw [wpow] at this; exact this
            have Bb : Hid (D < 4294967296 ^ 120) := by have := bb'; rw [wpow] at this; exact this
            have CFa := hide (fun W (r : Rep W (some ⟨(w.heap.size), 0, none⟩) (w.heap.size) 0 k us) => from_row W _ (w.heap.size) 0 k k A us lenA (by omega) r dA hva)
            have CFb := hide (fun W (r : Rep W (some ⟨(w.heap.size + 1), 0, none⟩) (w.heap.size + 1) 0 j' vs) => from_row W _ (w.heap.size + 1) 0 j' j' D vs lenB (by omega) r dB hvb)
            have HP1 := hide (prodw_lt ba' bb')
            have HP2 := hide (prodw_lt ba' ba')
            rw [← hva, ← hvb] at CM
            generalize tf k j' 3 = C at *
            have HVA := hide hva
            have A1 := hide hA1
            have B1 := hide hB1
            have b1 := hide hb1
            have hgw : Hid (w.heap.size ≤ G) := by rw [← hG]; exact hb.size
            clear hV hrep hzl h2 hA hB hb ow hA1 hB1 hb1 hva hvb ba' bb'
            go_wp2_with fail
            refine (unhide CM).mono ?_
            rintro e w4 ⟨v, rfl, nv, M4, T4⟩
            clear hW1 hG CM
            have hA4 := (unhide A1).but T4.grown (by omega)
            have hB4 := (unhide B1).but T4.grown (by omega)
            have b4 := Touch.below (unhide b1) T4 (unhide hgw) (unhide b1).size
            have CQ := hide (unhide CQ w4 G 0 (C : Int) 0 0 _ (w.heap.size) 0 k k us (unhide HTB _ b4) M4 (by omega) (by omega) lenA (hA4.whole lenA) dA (by omega) (by omega) (by omega))
            rw [← unhide HVA] at CQ
            generalize tf k k 2 = C2 at *
            clear A1 B1 b1 T4 M4
            go_wp2_with fail
            refine (unhide CQ).mono ?_
            rintro e w5 ⟨v', rfl, nv', M5, T5⟩
            have hA5 := hA4.but T5.grown (by omega)
            have hB5 := hB4.but T5.grown (by omega)
            have b5 := Touch.below b4 T5 (unhide hgw) b4.size
            have nv := nv.off T5.grown (by have := gW; omega)
            clear hA4 hB4 b4 T5 M5 CQ
            go_wp2_with fail
            refine (unhide CFa _ (hA5.whole lenA)).mono ?_
            rintro e w6 ⟨v1, rfl, n1, b⟩
            have hA := hA5.next b
            have hB := hB5.next b
            have nv := nv.next b
            have nv' := nv'.next b
            have bl := bstep b5 b
            clear b hA5 hB5 b5
            go_wp2_with fail
            refine (unhide CFb _ (hB.whole lenB)).mono ?_
            rintro e w7 ⟨v2, rfl, n2, b⟩
            have hA := hA.next b
            have nv := nv.next b
            have nv' := nv'.next b
            have n1 := n1.next b
            have bl := bstep bl b
            clear b hB
            go_wp2_with fail
            refine (mul_any _ v1 v2 A D 120 (by omega) (unhide Ba) (unhide Bb) n1 n2).mono ?_
            rintro e w8 ⟨v3, rfl, n3, b⟩
            have hA := hA.next b
            have nv := nv.next b
            have nv' := nv'.next b
            have bl := bstep bl b
            clear b n1 n2
            go_wp2_with fail
            refine (same_new _ _ _ _ _ 120 (by omega) (unhide HP1) n3 nv).mono ?_
            rintro e w9 ⟨rfl, b⟩
            have hA := hA.next b
            have nv' := nv'.next b
            have bl := bstep bl b
            clear b n3 nv
            go_wp2_with fail
            refine (unhide CFa _ (hA.whole lenA)).mono ?_
            rintro e w10 ⟨v4, rfl, n4, b⟩
            have hA := hA.next b
            have nv' := nv'.next b
            have bl := bstep bl b
            clear b
            go_wp2_with fail
            refine (unhide CFa _ (hA.whole lenA)).mono ?_
            rintro e w11 ⟨v5, rfl, n5, b⟩
            have nv' := nv'.next b
            have n4 := n4.next b
            have bl := bstep bl b
            clear b hA
            go_wp2_with fail
            refine (mul_any _ v4 v5 A A 120 (by omega) (unhide Ba) (unhide Ba) n4 n5).mono ?_
            rintro e w12 ⟨v6, rfl, n6, b⟩
            have nv' := nv'.next b
            have bl := bstep bl b
            clear b n4 n5
            go_wp2_with fail
            refine (same_new _ _ _ _ _ 120 (by omega) (unhide HP2) n6 nv').mono ?_
            rintro e w13 ⟨rfl, b⟩
            have bl := bstep bl b
            clear b n6 nv'
            go_wp2_with fail
            refine (unhide CW _).mono ?_
            rintro e w14 ⟨rfl, b⟩
            have bl := bstep bl b
            clear b
            go_wp2
            go_ret
            exact ⟨rfl, bl⟩
  · have bW : Below w.heap.size w ((w.alloc (.cells (zlist m).toArray 37)).alloc (.cells (zlist n).toArray 37)).drew := (((Below.refl w.heap.size w).alloc (Nat.le_refl _) _).alloc (by simp) _).drew
    have zA : Blk ((w.alloc (.cells (zlist m).toArray 37)).alloc (.cells (zlist n).toArray 37)).drew (w.heap.size + 1) (List.replicate n 0) := blk_second w m n
    have zB : Blk ((w.alloc (.cells (zlist m).toArray 37)).alloc (.cells (zlist n).toArray 37)).drew (w.heap.size) (List.replicate m 0) := blk_first w m n
    have nAB : (w.heap.size + 1) ≠ (w.heap.size) := by omega
    have lA : w.heap.size ≤ (w.heap.size + 1) := by omega
    have lB : w.heap.size ≤ (w.heap.size) := by omega
    generalize ((w.alloc (.cells (zlist m).toArray 37)).alloc (.cells (zlist n).toArray 37)).drew = W at *
    have zA := hide zA
    have zB := hide zB
    have bW := hide bW
    go_loopw [7] (fun iv wr => ∃ (k : Nat) (zs : List Nat), k ≤ n ∧ iv = .int .i64 (k : Int) ∧ Hid (MapRow (fun _ => 18446744073709551615) (List.replicate n 0) zs k) ∧ Blk wr (w.heap.size + 1) zs ∧ Blk wr (w.heap.size) (List.replicate m 0) ∧ Below w.heap.size w wr) (fun iv _ => n - (intOf iv).toNat)
    case atStart => exact ⟨0, _, Nat.zero_le _, rfl, mapRow_start _ _, unhide zA, unhide zB, unhide bW⟩
    case round =>
      clear zA zB bW
      obtain ⟨k, zs, hk, rfl, hV, hA, hB, hb⟩ := hrel
      have hrep : (List.replicate n 0).length = n := by simp
      have hzl : zs.length = n := by rw [hV.out.1, hrep]
      by_cases h2 : k < n
      · have cA := hA.cell k (by omega)
        have fA := hA.frozen k
        have hstep : Hid (MapRow (fun _ => 18446744073709551615) (List.replicate n 0) (zs.set k 18446744073709551615) (k + 1)) := mapRow_step hV.out (by omega)
        have A7 := hide (hA.set k 18446744073709551615)
        have B7 := hide (hB.but (grown_set wr (w.heap.size + 1) k (.int .u64 18446744073709551615)) (Ne.symm nAB))
        have b7 : Hid (Below w.heap.size w (wr.setCell ⟨(w.heap.size + 1), k, none⟩ (.int .u64 18446744073709551615))) := hb.setCell lA _
        have hmm : Hid (n - (k + 1) < n - k) := by show _ < _; omega
        clear hV hrep
        go_wp2
        go_roundw
        case rel => exact ⟨k + 1, _, by omega, by go_num, hstep, unhide A7, unhide B7, unhide b7⟩
        case measure => simp [intOf]; have := unhide hmm; omega
      · obtain rfl : k = n := by omega
        have hme := mapRow_end (f := fun _ => 18446744073709551615) (z0 := List.replicate k 0) (zs := zs) (by rw [hrep]; exact hV.out)
        rw [hrep, great_map] at hme
        subst hme
        have hA := hide hA
        have hB := hide hB
        have hb := hide hb
        clear hV hrep hzl h2
        go_wp2
        go_loopw [8] (fun iv wr => ∃ (k' : Nat) (zs : List Nat), k' ≤ m ∧ iv = .int .i64 (k' : Int) ∧ Hid (MapRow (fun _ => 18446744073709551615) (List.replicate m 0) zs k') ∧ Blk wr (w.heap.size) zs ∧ Blk wr (w.heap.size + 1) (List.replicate k 18446744073709551615) ∧ Below w.heap.size w wr) (fun iv _ => m - (intOf iv).toNat)
        case atStart => exact ⟨0, _, Nat.zero_le _, rfl, mapRow_start _ _, unhide hB, unhide hA, unhide hb⟩
        case round =>
          clear hA hB hb
          obtain ⟨j', zs, hk, rfl, hV, hB, hA, hb⟩ := hrel
          have hrep : (List.replicate m 0).length = m := by simp
          have hzl : zs.length = m := by rw [hV.out.1, hrep]
          by_cases h2 : j' < m
          · have cB := hB.cell j' (by omega)
            have fB := hB.frozen j'
            have hstep : Hid (MapRow (fun _ => 18446744073709551615) (List.replicate m 0) (zs.set j' 18446744073709551615) (j' + 1)) := mapRow_step hV.out (by omega)
            have B7 := hide (hB.set j' 18446744073709551615)
            have A7 := hide (hA.but (grown_set wr (w.heap.size) j' (.int .u64 18446744073709551615)) nAB)
            have b7 : Hid (Below w.heap.size w (wr.setCell ⟨(w.heap.size), j', none⟩ (.int .u64 18446744073709551615))) := hb.setCell lB _
            have hmm : Hid (m - (j' + 1) < m - j') := by show _ < _; omega
            clear hV hrep
            go_wp2
            go_roundw
            case rel => exact ⟨j' + 1, _, by omega, by go_num, hstep, unhide B7, unhide A7, unhide b7⟩
            case measure => simp [intOf]; have := unhide hmm; omega
          · obtain rfl : j' = m := by omega
            have hme := mapRow_end (f := fun _ => 18446744073709551615) (z0 := List.replicate j' 0) (zs := zs) (by rw [hrep]; exact hV.out)
            rw [hrep, great_map] at hme
            subst hme
            have dA := great_dig k
            have dB := great_dig j'
            have lenA : (List.replicate k 18446744073709551615).length = k := by simp
            have lenB : (List.replicate j' 18446744073709551615).length = j' := by simp
            generalize List.replicate k 18446744073709551615 = us at *
            generalize List.replicate j' 18446744073709551615 = vs at *
            have ow := own_new wr 26
            obtain ⟨W1, hW1⟩ : ∃ W1, wr.alloc (.cells #[.int .i64 0, .int .i64 0, .int .i64 0] 26) = W1 := ⟨_, rfl⟩
            obtain ⟨G, hG⟩ : ∃ G, wr.heap.size = G := ⟨_, rfl⟩
            have xAl := hA.lt
            have gW : G < W1.heap.size := by rw [← hG, ← hW1]; simp
            have xBl := hB.lt
            rw [hW1] at ow
            rw [hG] at ow xAl xBl
            have hA1 := hA.next ow.old
            have hB1 := hB.next ow.old
            have hb1 := bstep hb ow.old
            have CM := hide (unhide CM W1 G 0 0 0 0 _ _ (w.heap.size + 1) 0 k k (w.heap.size) 0 j' j' us vs (unhide HTB _ hb1) ow.met (by omega) (by omega) lenA (hA1.whole lenA) dA (by omega) lenB (hB1.whole lenB) dB (by omega) (by omega) (by omega) (by omega) (by omega))
            rw [Int.zero_add] at CM
            have hts : tf k j' 3 ≤ 100000 := tf_sixty (by omega)
            obtain ⟨A, hva⟩ : ∃ A, A = wval us := ⟨_, rfl⟩
            obtain ⟨D, hvb⟩ : ∃ D, D = wval vs := ⟨_, rfl⟩
            have ba' : A < 18446744073709551616 ^ 60 := by rw [hva]; exact pow_up (wval_lt_pow dA) (by omega)
            have bb' : D < 18446744073709551616 ^ 60 := by rw [hvb]; exact pow_up (wval_lt_pow dB) (by omega)
            have Ba : Hid (A < 4294967296 ^ 120) := by have := ba'; rw [wpow] at this; exact this
            have Bb : Hid (D < 4294967296 ^ 120) := by have := bb'; rw [wpow] at this; exact this
            have CFa := hide (fun W (r : Rep W (some ⟨(w.heap.size + 1), 0, none⟩) (w.heap.size + 1) 0 k us) => from_row W _ (w.heap.size + 1) 0 k k A us lenA (by omega) r dA hva)
            have CFb := hide (fun W (r : Rep W (some ⟨(w.heap.size), 0, none⟩) (w.heap.size) 0 j' vs) => from_row W _ (w.heap.size) 0 j' j' D vs lenB (by omega) r dB hvb)
            have HP1 := hide (prodw_lt ba' bb')
            have HP2 := hide (prodw_lt ba' ba')
            rw [← hva, ← hvb] at CM
            generalize tf k j' 3 = C at *
            have HVA := hide hva
            have A1 := hide hA1
            have B1 := hide hB1
            have b1 := hide hb1
            have hgw : Hid (w.heap.size ≤ G) := by rw [← hG]; exact hb.size
            clear hV hrep hzl h2 hA hB hb ow hA1 hB1 hb1 hva hvb ba' bb'
            go_wp2_with fail
            refine (unhide CM).mono ?_
            rintro e w4 ⟨v, rfl, nv, M4, T4⟩
            clear hW1 hG CM
            have hA4 := (unhide A1).but T4.grown (by omega)
            have hB4 := (unhide B1).but T4.grown (by omega)
            have b4 := Touch.below (unhide b1) T4 (unhide hgw) (unhide b1).size
            have CQ := hide (unhide CQ w4 G 0 (C : Int) 0 0 _ (w.heap.size + 1) 0 k k us (unhide HTB _ b4) M4 (by omega) (by omega) lenA (hA4.whole lenA) dA (by omega) (by omega) (by omega))
            rw [← unhide HVA] at CQ
            generalize tf k k 2 = C2 at *
            clear A1 B1 b1 T4 M4
            go_wp2_with fail
            refine (unhide CQ).mono ?_
            rintro e w5 ⟨v', rfl, nv', M5, T5⟩
            have hA5 := hA4.but T5.grown (by omega)
            have hB5 := hB4.but T5.grown (by omega)
            have b5 := Touch.below b4 T5 (unhide hgw) b4.size
            have nv := nv.off T5.grown (by have := gW; omega)
            clear hA4 hB4 b4 T5 M5 CQ
            go_wp2_with fail
            refine (unhide CFa _ (hA5.whole lenA)).mono ?_
            rintro e w6 ⟨v1, rfl, n1, b⟩
            have hA := hA5.next b
            have hB := hB5.next b
            have nv := nv.next b
            have nv' := nv'.next b
            have bl := bstep b5 b
            clear b hA5 hB5 b5
            go_wp2_with fail
            refine (unhide CFb _ (hB.whole lenB)).mono ?_
            rintro e w7 ⟨v2, rfl, n2, b⟩
            have hA := hA.next b
            have nv := nv.next b
            have nv' := nv'.next b
            have n1 := n1.next b
            have bl := bstep bl b
            clear b hB
            go_wp2_with fail
            refine (mul_any _ v1 v2 A D 120 (by omega) (unhide Ba) (unhide Bb) n1 n2).mono ?_
            rintro e w8 ⟨v3, rfl, n3, b⟩
            have hA := hA.next b
            have nv := nv.next b
            have nv' := nv'.next b
            have bl := bstep bl b
            clear b n1 n2
            go_wp2_with fail
            refine (same_new _ _ _ _ _ 120 (by omega) (unhide HP1) n3 nv).mono ?_
            rintro e w9 ⟨rfl, b⟩
            have hA := hA.next b
            have nv' := nv'.next b
            have bl := bstep bl b
            clear b n3 nv
            go_wp2_with fail
            refine (unhide CFa _ (hA.whole lenA)).mono ?_
            rintro e w10 ⟨v4, rfl, n4, b⟩
            have hA := hA.next b
            have nv' := nv'.next b
            have bl := bstep bl b
            clear b
            go_wp2_with fail
            refine (unhide CFa _ (hA.whole lenA)).mono ?_
            rintro e w11 ⟨v5, rfl, n5, b⟩
            have nv' := nv'.next b
            have n4 := n4.next b
            have bl := bstep bl b
            clear b hA
            go_wp2_with fail
            refine (mul_any _ v4 v5 A A 120 (by omega) (unhide Ba) (unhide Ba) n4 n5).mono ?_
            rintro e w12 ⟨v6, rfl, n6, b⟩
            have nv' := nv'.next b
            have bl := bstep bl b
            clear b n4 n5
            go_wp2_with fail
            refine (same_new _ _ _ _ _ 120 (by omega) (unhide HP2) n6 nv').mono ?_
            rintro e w13 ⟨rfl, b⟩
            have bl := bstep bl b
            clear b n6 nv'
            go_wp2_with fail
            refine (unhide CW _).mono ?_
            rintro e w14 ⟨rfl, b⟩
            have bl := bstep bl b
            clear b
            go_wp2
            go_ret
            exact ⟨rfl, bl⟩

end Go.Proofs.YtpifgkhgnilpdaaDoor
