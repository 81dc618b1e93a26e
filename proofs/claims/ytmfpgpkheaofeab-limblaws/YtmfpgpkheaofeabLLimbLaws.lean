/- LimbLaws: what the law's walk comes to. -/
import Derived.Test.YtmfpgpkheaofeabLawKit
import Derived.Test.YtmfpgpkheaofeabThree
import Derived.Test.YtmfpgpkheaofeabLLow
import Derived.Test.YtmfpgpkheaofeabLSubMul
import Derived.Test.YtmfpgpkheaofeabWithin
namespace Go.Proofs.Ytmfpgpkheaofeab
open Go.RowKit

set_option maxRecDepth 100000 in
set_option maxHeartbeats 12800000 in
theorem limbLaws_any (gA : Option Addr) (bA oA cA lA : Nat) (xsA : List Nat) (gD : Option Addr) (bD oD cD lD : Nat) (xsD : List Nat) (w : World) (hxA : xsA.length = lA) (hRA : Rep w gA bA oA cA xsA) (wxA : ∀ j, xsA.getD j 0 < 18446744073709551616) (hxD : xsD.length = lD) (hRD : Rep w gD bD oD cD xsD) (wxD : ∀ j, xsD.getD j 0 < 18446744073709551616) (y : Nat) (hy : y < 18446744073709551616) (z : Int) (hz1 : -9223372036854775808 ≤ z) (hz2 : z ≤ 9223372036854775807) :
    Calls Try.prog 5 #[.slice gA lA cA, .slice gD lD cD, .int .u64 (y : Int), .int .i64 z] w fun e w' => e = .returned (.bool true) ∧ Below w.heap.size w w' := by
  obtain ⟨nA, hnA⟩ : ∃ n, n = min lA 40 := ⟨_, rfl⟩
  have CA : Hid (∀ w, Calls Try.prog 6 #[.slice gA lA cA, .int .i64 40] w fun e w' => e = .returned (.slice gA nA cA) ∧ w' = w) := fun w => cut_any w gA lA cA 40 nA (by have := hRA.room; omega) (by omega) hnA
  obtain ⟨hlA, rA⟩ := cut_rep hRA 40 nA (by rw [hxA]; exact hnA)
  have dA : WDig (xsA.take nA) := take_words wxA nA
  have hmA : nA ≤ 40 := by omega
  clear hnA hRA wxA hxA
  generalize xsA.take nA = usA at *
  obtain ⟨nD, hnD⟩ : ∃ n, n = min lD 40 := ⟨_, rfl⟩
  have CD : Hid (∀ w, Calls Try.prog 6 #[.slice gD lD cD, .int .i64 40] w fun e w' => e = .returned (.slice gD nD cD) ∧ w' = w) := fun w => cut_any w gD lD cD 40 nD (by have := hRD.room; omega) (by omega) hnD
  obtain ⟨hlD, rD⟩ := cut_rep hRD 40 nD (by rw [hxD]; exact hnD)
  have dD : WDig (xsD.take nD) := take_words wxD nD
  have hmD : nD ≤ 40 := by omega
  clear hnD hRD wxD hxD
  generalize xsD.take nD = usD at *
  obtain ⟨F, hF⟩ : ∃ F, F = 6148914691236517205 := ⟨_, rfl⟩
  have HF := hide hF
  clear hF
  obtain ⟨A, hA⟩ : ∃ V, V = wval usA := ⟨_, rfl⟩
  have hbA : A < 18446744073709551616 ^ 40 := by rw [hA]; exact pow_up (wval_lt_pow dA) (by omega)
  have HBA := hide hbA
  have HDA : Hid (A < 4294967296 ^ 80) := by have := hbA; rw [wpow] at this; exact this
  have CFA := hide (fun W (r : Rep W gA bA oA cA usA) => from_law W gA bA oA cA nA A usA hlA (by omega) r dA hA)
  have HLA := hide hlA
  have HEA := hide hA
  clear hA hbA hlA
  obtain ⟨D, hD⟩ : ∃ V, V = wval usD := ⟨_, rfl⟩
  have hbD : D < 18446744073709551616 ^ 40 := by rw [hD]; exact pow_up (wval_lt_pow dD) (by omega)
  have HBD := hide hbD
  have HDD : Hid (D < 4294967296 ^ 80) := by have := hbD; rw [wpow] at this; exact this
  have CFD := hide (fun W (r : Rep W gD bD oD cD usD) => from_law W gD bD oD cD nD D usD hlD (by omega) r dD hD)
  have HLD := hide hlD
  have HED := hide hD
  clear hD hbD hlD
  have bl := Below.refl w.heap.size w
  have HINA : Hid (∀ W, Rep W gA bA oA cA usA → InW W (.slice gA nA cA) A) := fun W r => ⟨_, _, _, _, usA, by rw [unhide HLA], r, dA, (unhide HEA).symm, by rw [unhide HLA]; omega⟩
  have HIND : Hid (∀ W, Rep W gD bD oD cD usD → InW W (.slice gD nD cD) D) := fun W r => ⟨_, _, _, _, usD, by rw [unhide HLD], r, dD, (unhide HED).symm, by rw [unhide HLD]; omega⟩
  obtain ⟨k, hk, hkz⟩ : ∃ k : Nat, k < 500 ∧ z % 500 = (k : Int) := ⟨(z % 500).toNat, by omega, by omega⟩
  have CWi := hide (fun w => within_any z 500 w hz1 hz2 (by omega) (by omega))
  rw [hkz] at CWi
  have hkm : (k : Int) = min (max (k : Int) 0) 1048576 := by omega
  have CU := hide (fun w u m => shl_w w u (k : Int) m k hkm)
  have CDn := hide (fun w u m => shr_w w u (k : Int) m k hkm)
  have CLo := hide (fun w u m => low_w w u (k : Int) m k hkm)
  obtain ⟨T, hT⟩ : ∃ T, T = D * y := ⟨_, rfl⟩
  have hTb : T < 18446744073709551616 ^ 41 := by rw [hT]; exact pow_times (unhide HBD) hy
  have HS41 := hide (pow_sum (unhide HBA) (unhide HBD))
  have HR41 : Hid (D + A < 18446744073709551616 ^ 41) := pow_sum (unhide HBD) (unhide HBA)
  have HS42 : Hid (A + D + A < 18446744073709551616 ^ 42) := pow_sum (unhide HS41) (pow_up (unhide HBA) (by omega))
  have HT42 : Hid (A + T < 18446744073709551616 ^ 42) := pow_sum (pow_up (unhide HBA) (by omega)) hTb
  have HU48 : Hid (A * 2 ^ k < 18446744073709551616 ^ 48) := shl_bound (q := 8) (unhide HBA) (by omega)
  have HV40 : Hid (A / 2 ^ k < 18446744073709551616 ^ 40) := Nat.lt_of_le_of_lt (Nat.div_le_self _ _) (unhide HBA)
  have HX40 : Hid (A / 2 ^ k * 2 ^ k < 18446744073709551616 ^ 40) := Nat.lt_of_le_of_lt (Nat.div_mul_le_self _ _) (unhide HBA)
  have HL40 : Hid (A % 2 ^ k < 18446744073709551616 ^ 40) := Nat.lt_of_le_of_lt (Nat.mod_le _ _) (unhide HBA)
  have HE1 : Hid (A * 2 ^ k / 2 ^ k = A) := Nat.mul_div_cancel _ (Nat.pow_pos (by omega))
  have HE2 : Hid (A / 2 ^ k * 2 ^ k + A % 2 ^ k = A) := Nat.div_add_mod' _ _
  have CAM : Hid (∀ w u v, InW w u A → InW w v D → Calls Try.prog 28 #[u, v, .int .u64 (y : Int)] w fun e w' => ∃ r, e = .returned r ∧ NewW w.heap.size w' r (A + T) ∧ Below w.heap.size w w') := fun w u v h1 h2 => by rw [hT]; exact addMul_w w u v A D y hy h1 h2
  have CSM : Hid (∀ w u v, InW w u (A + T) → InW w v D → Calls Try.prog 27 #[u, v, .int .u64 (y : Int)] w (SubDone w (A + T) T)) := fun w u v h1 h2 => by rw [hT]; exact subMul_w w u v (A + D * y) D y hy (by rw [← hT]; exact h1) h2
  clear hT hTb hkm hkz hz1 hz2
  go_enter Try.func5, Try.ntmps5
  go_wp2_with fail
  refine (unhide CA _).mono ?_
  rintro e w1 ⟨rfl, rfl⟩
  go_wp2_with fail
  refine (unhide CD _).mono ?_
  rintro e w2 ⟨rfl, rfl⟩
  clear CA CD
  have iA := unhide HINA _ rA
  have iD := unhide HIND _ rD
  go_wp2_with fail
  refine (add_w _ _ _ A D iA iD).mono ?_
  rintro e w3 ⟨s, rfl, ns, b⟩
  have rA := rA.next b
  have rD := rD.next b
  have iA := iA.next b
  have iD := iD.next b
  have bl := bstep bl b
  clear b
  have iS := ns.toIn (unhide HS41) (by omega)
  clear ns
  go_wp2_with fail
  refine (sub_w _ _ _ (A + D) D iS iD).mono ?_
  rintro e w4 ⟨b, h6⟩
  have rA := rA.next b
  have rD := rD.next b
  have iA := iA.next b
  have iD := iD.next b
  have iS := iS.next b
  have bl := bstep bl b
  clear b
  rcases h6 with ⟨_, d, rfl, nd⟩ | ⟨hlt, _⟩
  rotate_left
  · omega
  rw [Nat.add_sub_cancel] at nd
  have i1 := nd.toIn (unhide HBA) (by omega)
  clear nd
  go_wp2_with fail
  refine (cmp_w _ _ _ (A) (A) i1 iA).mono ?_
  rintro e w5 ⟨rfl, b⟩
  have rA := rA.next b
  have rD := rD.next b
  have iA := iA.next b
  have iD := iD.next b
  have iS := iS.next b
  have i1 := i1.next b
  have bl := bstep bl b
  clear b
  rw [cmpN_eq (rfl)]
  clear i1
  go_wp2_with fail
  refine (add_w _ _ _ D A iD iA).mono ?_
  rintro e w6 ⟨v2, rfl, n2, b⟩
  have rA := rA.next b
  have rD := rD.next b
  have iA := iA.next b
  have iD := iD.next b
  have iS := iS.next b
  have bl := bstep bl b
  clear b
  have i2 := n2.toIn (unhide HR41) (by omega)
  clear n2
  go_wp2_with fail
  refine (cmp_w _ _ _ (A + D) (D + A) iS i2).mono ?_
  rintro e w7 ⟨rfl, b⟩
  have rA := rA.next b
  have rD := rD.next b
  have iA := iA.next b
  have iD := iD.next b
  have iS := iS.next b
  have i2 := i2.next b
  have bl := bstep bl b
  clear b
  rw [cmpN_eq (Nat.add_comm _ _)]
  clear i2
  go_wp2_with fail
  refine (sum_three _ _ _ _ A D A iA iD iA).mono ?_
  rintro e w8 ⟨v3, rfl, n3, b⟩
  have rA := rA.next b
  have rD := rD.next b
  have iA := iA.next b
  have iD := iD.next b
  have iS := iS.next b
  have bl := bstep bl b
  clear b
  have i3 := n3.toIn (unhide HS42) (by omega)
  clear n3
  go_wp2_with fail
  refine (add_w _ _ _ (A + D) A iS iA).mono ?_
  rintro e w9 ⟨v4, rfl, n4, b⟩
  have rA := rA.next b
  have rD := rD.next b
  have iA := iA.next b
  have iD := iD.next b
  have iS := iS.next b
  have i3 := i3.next b
  have bl := bstep bl b
  clear b
  have i4 := n4.toIn (unhide HS42) (by omega)
  clear n4
  go_wp2_with fail
  refine (cmp_w _ _ _ (A + D + A) (A + D + A) i3 i4).mono ?_
  rintro e w10 ⟨rfl, b⟩
  have rA := rA.next b
  have rD := rD.next b
  have iA := iA.next b
  have iD := iD.next b
  have iS := iS.next b
  have i3 := i3.next b
  have i4 := i4.next b
  have bl := bstep bl b
  clear b
  rw [cmpN_eq (rfl)]
  clear i3 i4 iS
  go_wp2_with fail
  refine (unhide CAM _ _ _ iA iD).mono ?_
  rintro e w11 ⟨v5, rfl, n5, b⟩
  have rA := rA.next b
  have rD := rD.next b
  have iA := iA.next b
  have iD := iD.next b
  have bl := bstep bl b
  clear b
  have i5 := n5.toIn (unhide HT42) (by omega)
  clear n5
  go_wp2_with fail
  refine (unhide CSM _ _ _ i5 iD).mono ?_
  rintro e w12 ⟨b, h6⟩
  have rA := rA.next b
  have rD := rD.next b
  have iA := iA.next b
  have iD := iD.next b
  have i5 := i5.next b
  have bl := bstep bl b
  clear b
  rcases h6 with ⟨_, e6, rfl, ne6⟩ | ⟨hlt, _⟩
  rotate_left
  · omega
  rw [Nat.add_sub_cancel] at ne6
  have i6 := ne6.toIn (unhide HBA) (by omega)
  clear ne6
  go_wp2_with fail
  refine (unhide CWi _).mono ?_
  rintro e w13 ⟨rfl, rfl⟩
  go_wp2_with fail
  refine (cmp_w _ _ _ (A) (A) i6 iA).mono ?_
  rintro e w14 ⟨rfl, b⟩
  have rA := rA.next b
  have rD := rD.next b
  have iA := iA.next b
  have iD := iD.next b
  have i5 := i5.next b
  have i6 := i6.next b
  have bl := bstep bl b
  clear b
  rw [cmpN_eq (rfl)]
  clear i5 i6
  go_wp2_with fail
  refine (unhide CU _ _ A iA).mono ?_
  rintro e w15 ⟨v7, rfl, n7, b⟩
  have rA := rA.next b
  have rD := rD.next b
  have iA := iA.next b
  have iD := iD.next b
  have bl := bstep bl b
  clear b
  have i7 := n7.toIn (unhide HU48) (by omega)
  clear n7
  go_wp2_with fail
  refine (unhide CDn _ _ (A * 2 ^ k) i7).mono ?_
  rintro e w16 ⟨v8, rfl, n8, b⟩
  have rA := rA.next b
  have rD := rD.next b
  have iA := iA.next b
  have iD := iD.next b
  have i7 := i7.next b
  have bl := bstep bl b
  clear b
  rw [unhide HE1] at n8
  have i8 := n8.toIn (unhide HBA) (by omega)
  clear n8
  go_wp2_with fail
  refine (cmp_w _ _ _ (A) (A) i8 iA).mono ?_
  rintro e w17 ⟨rfl, b⟩
  have rA := rA.next b
  have rD := rD.next b
  have iA := iA.next b
  have iD := iD.next b
  have i7 := i7.next b
  have i8 := i8.next b
  have bl := bstep bl b
  clear b
  rw [cmpN_eq (rfl)]
  clear i7 i8
  go_wp2_with fail
  refine (unhide CDn _ _ A iA).mono ?_
  rintro e w18 ⟨v9, rfl, n9, b⟩
  have rA := rA.next b
  have rD := rD.next b
  have iA := iA.next b
  have iD := iD.next b
  have bl := bstep bl b
  clear b
  have i9 := n9.toIn (unhide HV40) (by omega)
  clear n9
  go_wp2_with fail
  refine (unhide CU _ _ (A / 2 ^ k) i9).mono ?_
  rintro e w19 ⟨v10, rfl, n10, b⟩
  have rA := rA.next b
  have rD := rD.next b
  have iA := iA.next b
  have iD := iD.next b
  have i9 := i9.next b
  have bl := bstep bl b
  clear b
  have i10 := n10.toIn (unhide HX40) (by omega)
  clear n10
  go_wp2_with fail
  refine (unhide CLo _ _ A iA).mono ?_
  rintro e w20 ⟨v11, rfl, n11, b⟩
  have rA := rA.next b
  have rD := rD.next b
  have iA := iA.next b
  have iD := iD.next b
  have i9 := i9.next b
  have i10 := i10.next b
  have bl := bstep bl b
  clear b
  have i11 := n11.toIn (unhide HL40) (by omega)
  clear n11
  go_wp2_with fail
  refine (add_w _ _ _ (A / 2 ^ k * 2 ^ k) (A % 2 ^ k) i10 i11).mono ?_
  rintro e w21 ⟨v12, rfl, n12, b⟩
  have rA := rA.next b
  have rD := rD.next b
  have iA := iA.next b
  have iD := iD.next b
  have i9 := i9.next b
  have i10 := i10.next b
  have i11 := i11.next b
  have bl := bstep bl b
  clear b
  rw [unhide HE2] at n12
  have i12 := n12.toIn (unhide HBA) (by omega)
  clear n12
  go_wp2_with fail
  refine (cmp_w _ _ _ (A) (A) i12 iA).mono ?_
  rintro e w22 ⟨rfl, b⟩
  have rA := rA.next b
  have rD := rD.next b
  have iA := iA.next b
  have iD := iD.next b
  have i9 := i9.next b
  have i10 := i10.next b
  have i11 := i11.next b
  have i12 := i12.next b
  have bl := bstep bl b
  clear b
  rw [cmpN_eq (rfl)]
  go_wp2_with fail
  refine (wakes_any _).mono ?_
  rintro e w23 ⟨rfl, b⟩
  have rA := rA.next b
  have rD := rD.next b
  have iA := iA.next b
  have iD := iD.next b
  have i9 := i9.next b
  have i10 := i10.next b
  have i11 := i11.next b
  have i12 := i12.next b
  have bl := bstep bl b
  clear b
  go_wp2
  go_ret
  exact ⟨rfl, bl⟩

end Go.Proofs.Ytmfpgpkheaofeab
