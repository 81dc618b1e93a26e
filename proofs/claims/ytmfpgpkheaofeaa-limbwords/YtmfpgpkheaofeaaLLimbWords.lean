/- LimbWords: what the law's walk comes to. -/
import Derived.Test.YtmfpgpkheaofeaaLawKit
import Derived.Test.YtmfpgpkheaofeaaLSubMul
namespace Go.Proofs.Ytmfpgpkheaofeaa
open Go.RowKit

set_option maxRecDepth 100000 in
set_option maxHeartbeats 12800000 in
theorem limbWords_any (gA : Option Addr) (bA oA cA lA : Nat) (xsA : List Nat) (gD : Option Addr) (bD oD cD lD : Nat) (xsD : List Nat) (w : World) (hxA : xsA.length = lA) (hRA : Rep w gA bA oA cA xsA) (wxA : ∀ j, xsA.getD j 0 < 18446744073709551616) (hxD : xsD.length = lD) (hRD : Rep w gD bD oD cD xsD) (wxD : ∀ j, xsD.getD j 0 < 18446744073709551616) (y : Nat) (hy : y < 18446744073709551616) :
    Calls Try.prog 7 #[.slice gA lA cA, .slice gD lD cD, .int .u64 (y : Int)] w fun e w' => e = .returned (.bool true) ∧ Below w.heap.size w w' := by
  obtain ⟨nA, hnA⟩ : ∃ n, n = min lA 50 := ⟨_, rfl⟩
  have CA : Hid (∀ w, Calls Try.prog 9 #[.slice gA lA cA, .int .i64 50] w fun e w' => e = .returned (.slice gA nA cA) ∧ w' = w) := fun w => cut_any w gA lA cA 50 nA (by have := hRA.room; omega) (by omega) hnA
  obtain ⟨hlA, rA⟩ := cut_rep hRA 50 nA (by rw [hxA]; exact hnA)
  have dA : WDig (xsA.take nA) := take_words wxA nA
  have hmA : nA ≤ 50 := by omega
  clear hnA hRA wxA hxA
  generalize xsA.take nA = usA at *
  obtain ⟨nD, hnD⟩ : ∃ n, n = min lD 50 := ⟨_, rfl⟩
  have CD : Hid (∀ w, Calls Try.prog 9 #[.slice gD lD cD, .int .i64 50] w fun e w' => e = .returned (.slice gD nD cD) ∧ w' = w) := fun w => cut_any w gD lD cD 50 nD (by have := hRD.room; omega) (by omega) hnD
  obtain ⟨hlD, rD⟩ := cut_rep hRD 50 nD (by rw [hxD]; exact hnD)
  have dD : WDig (xsD.take nD) := take_words wxD nD
  have hmD : nD ≤ 50 := by omega
  clear hnD hRD wxD hxD
  generalize xsD.take nD = usD at *
  obtain ⟨F, hF⟩ : ∃ F, F = 6148914691236517205 := ⟨_, rfl⟩
  have HF := hide hF
  clear hF
  obtain ⟨A, hA⟩ : ∃ V, V = wval usA := ⟨_, rfl⟩
  have hbA : A < 18446744073709551616 ^ 50 := by rw [hA]; exact pow_up (wval_lt_pow dA) (by omega)
  have HBA := hide hbA
  have HDA : Hid (A < 4294967296 ^ 100) := by have := hbA; rw [wpow] at this; exact this
  have CFA := hide (fun W (r : Rep W gA bA oA cA usA) => from_law W gA bA oA cA nA A usA hlA (by omega) r dA hA)
  have HLA := hide hlA
  have HEA := hide hA
  clear hA hbA hlA
  obtain ⟨D, hD⟩ : ∃ V, V = wval usD := ⟨_, rfl⟩
  have hbD : D < 18446744073709551616 ^ 50 := by rw [hD]; exact pow_up (wval_lt_pow dD) (by omega)
  have HBD := hide hbD
  have HDD : Hid (D < 4294967296 ^ 100) := by have := hbD; rw [wpow] at this; exact this
  have CFD := hide (fun W (r : Rep W gD bD oD cD usD) => from_law W gD bD oD cD nD D usD hlD (by omega) r dD hD)
  have HLD := hide hlD
  have HED := hide hD
  clear hD hbD hlD
  have bl := Below.refl w.heap.size w
  have CS := hide (fun w => small_any (y : Int) (by omega) (by omega) w)
  rw [Int.toNat_natCast] at CS
  have hy1 : y < 18446744073709551616 ^ 1 := by omega
  have hy80 : Hid (y < 4294967296 ^ 100) := by have := pow_up hy1 (q := 50) (by omega); rw [wpow] at this; exact this
  clear hy1
  obtain ⟨T, hT⟩ : ∃ T, T = D * y := ⟨_, rfl⟩
  have hTb : T < 18446744073709551616 ^ 51 := by rw [hT]; exact pow_times (unhide HBD) hy
  have HTb := hide hTb
  have HT102 : Hid (T < 4294967296 ^ 102) := by have := hTb; rw [wpow] at this; exact this
  have HA102 : Hid (A < 4294967296 ^ 102) := by have := pow_up (unhide HBA) (q := 51) (by omega); rw [wpow] at this; exact this
  have HS52 : Hid (A + T < 18446744073709551616 ^ 52) := pow_sum (pow_up (unhide HBA) (by omega)) hTb
  have CMul : Hid (∀ w u v, IsN w u D → IsN w v y → Calls Try.prog 39 #[u, v] w fun e w' => ∃ r, e = .returned r ∧ IsN w' r T ∧ Below w.heap.size w w') := fun w u v h1 h2 => by rw [hT]; exact mul_any w u v D y 100 (by omega) (unhide HDD) (unhide hy80) h1 h2
  have CW : Hid (∀ w v, InW w v D → Calls Try.prog 40 #[v, .int .u64 (y : Int)] w fun e w' => ∃ r, e = .returned r ∧ NewW w.heap.size w' r T ∧ Below w.heap.size w w') := fun w v h => by rw [hT]; exact mulWord_w w v D y hy h
  have CAM : Hid (∀ w u v, InW w u A → InW w v D → Calls Try.prog 41 #[u, v, .int .u64 (y : Int)] w fun e w' => ∃ r, e = .returned r ∧ NewW w.heap.size w' r (A + T) ∧ Below w.heap.size w w') := fun w u v h1 h2 => by rw [hT]; exact addMul_w w u v A D y hy h1 h2
  have CSM : Hid (∀ w u v, InW w u A → InW w v D → Calls Try.prog 42 #[u, v, .int .u64 (y : Int)] w (SubDone w A T)) := fun w u v h1 h2 => by rw [hT]; exact subMul_w w u v A D y hy h1 h2
  clear hT hTb
  go_enter Try.func7, Try.ntmps7
  go_wp2_with fail
  refine (unhide CA _).mono ?_
  rintro e w1 ⟨rfl, rfl⟩
  go_wp2_with fail
  refine (unhide CD _).mono ?_
  rintro e w2 ⟨rfl, rfl⟩
  clear CA CD
  go_wp2_with fail
  refine (lend_any _ gA bA oA cA nA usA (unhide HLA) (by omega) rA F (unhide HF)).mono ?_
  rintro e w3 ⟨rfl, oo, bb⟩
  obtain ⟨rrA, tA⟩ := lent_rep oo (unhide HLA)
  clear oo
  have rA := rA.next bb
  have rD := rD.next bb
  have bl := bstep bl bb
  clear bb
  obtain ⟨ggA, hgg⟩ : ∃ g, g = w2.heap.size := ⟨_, rfl⟩
  rw [← hgg] at rrA tA ⊢
  clear hgg
  have iA := lent_in rrA (unhide HLA) (by omega) dA A (unhide HEA)
  clear rrA
  go_wp2_with fail
  refine (lend_any _ gD bD oD cD nD usD (unhide HLD) (by omega) rD F (unhide HF)).mono ?_
  rintro e w4 ⟨rfl, oo, bb⟩
  obtain ⟨rrD, tD⟩ := lent_rep oo (unhide HLD)
  clear oo
  have rA := rA.next bb
  have rD := rD.next bb
  have tA := tA.next bb
  have iA := iA.next bb
  have bl := bstep bl bb
  clear bb
  obtain ⟨ggD, hgg⟩ : ∃ g, g = w3.heap.size := ⟨_, rfl⟩
  rw [← hgg] at rrD tD ⊢
  clear hgg
  have iD := lent_in rrD (unhide HLD) (by omega) dD D (unhide HED)
  clear rrD
  go_wp2_with fail
  refine (unhide CFD _ rD).mono ?_
  rintro e w5 ⟨v1, rfl, n1, b⟩
  have rA := rA.next b
  have rD := rD.next b
  have tA := tA.next b
  have iA := iA.next b
  have tD := tD.next b
  have iD := iD.next b
  have bl := bstep bl b
  clear b
  go_wp2_with fail
  refine (unhide CS _).mono ?_
  rintro e w6 ⟨v2, rfl, n2, b⟩
  have rA := rA.next b
  have rD := rD.next b
  have tA := tA.next b
  have iA := iA.next b
  have tD := tD.next b
  have iD := iD.next b
  have n1 := n1.next b
  have bl := bstep bl b
  clear b
  go_wp2_with fail
  refine (unhide CMul _ _ _ n1 n2).mono ?_
  rintro e w7 ⟨bw, rfl, nb, b⟩
  have rA := rA.next b
  have rD := rD.next b
  have tA := tA.next b
  have iA := iA.next b
  have tD := tD.next b
  have iD := iD.next b
  have n1 := n1.next b
  have n2 := n2.next b
  have bl := bstep bl b
  clear b
  clear n1 n2
  go_wp2_with fail
  refine (unhide CW _ _ iD).mono ?_
  rintro e w8 ⟨v3, rfl, n3, b⟩
  have rA := rA.next b
  have rD := rD.next b
  have tA := tA.next b
  have iA := iA.next b
  have tD := tD.next b
  have iD := iD.next b
  have nb := nb.next b
  have bl := bstep bl b
  clear b
  go_wp2_with fail
  refine (same_new _ _ _ _ _ 51 (by omega) (unhide HTb) nb n3).mono ?_
  rintro e w9 ⟨rfl, b⟩
  have rA := rA.next b
  have rD := rD.next b
  have tA := tA.next b
  have iA := iA.next b
  have tD := tD.next b
  have iD := iD.next b
  have nb := nb.next b
  have n3 := n3.next b
  have bl := bstep bl b
  clear b
  clear n3
  go_wp2_with fail
  refine (unhide CFA _ rA).mono ?_
  rintro e w10 ⟨v4, rfl, n4, b⟩
  have rA := rA.next b
  have rD := rD.next b
  have tA := tA.next b
  have iA := iA.next b
  have tD := tD.next b
  have iD := iD.next b
  have nb := nb.next b
  have bl := bstep bl b
  clear b
  go_wp2_with fail
  refine (add_any _ _ _ A T 102 (by omega) (unhide HA102) (unhide HT102) n4 nb).mono ?_
  rintro e w11 ⟨v5, rfl, n5, b⟩
  have rA := rA.next b
  have rD := rD.next b
  have tA := tA.next b
  have iA := iA.next b
  have tD := tD.next b
  have iD := iD.next b
  have nb := nb.next b
  have n4 := n4.next b
  have bl := bstep bl b
  clear b
  clear n4
  go_wp2_with fail
  refine (unhide CAM _ _ _ iA iD).mono ?_
  rintro e w12 ⟨v6, rfl, n6, b⟩
  have rA := rA.next b
  have rD := rD.next b
  have tA := tA.next b
  have iA := iA.next b
  have tD := tD.next b
  have iD := iD.next b
  have nb := nb.next b
  have n5 := n5.next b
  have bl := bstep bl b
  clear b
  go_wp2_with fail
  refine (same_new _ _ _ _ _ 52 (by omega) (unhide HS52) n5 n6).mono ?_
  rintro e w13 ⟨rfl, b⟩
  have rA := rA.next b
  have rD := rD.next b
  have tA := tA.next b
  have iA := iA.next b
  have tD := tD.next b
  have iD := iD.next b
  have nb := nb.next b
  have n5 := n5.next b
  have n6 := n6.next b
  have bl := bstep bl b
  clear b
  clear n5 n6
  go_wp2_with fail
  refine (unhide CSM _ _ _ iA iD).mono ?_
  rintro e w14 ⟨b, h6⟩
  have rA := rA.next b
  have rD := rD.next b
  have tA := tA.next b
  have iA := iA.next b
  have tD := tD.next b
  have iD := iD.next b
  have nb := nb.next b
  have bl := bstep bl b
  clear b
  rcases h6 with ⟨hle, d, rfl, nd⟩ | ⟨hlt, rfl⟩
  · skip
    have hc0 : (0 : Int) ≤ cmpN A T := by unfold cmpN; split <;> (try split) <;> omega
    have HAD : Hid (A - T < 18446744073709551616 ^ 50) := Nat.lt_of_le_of_lt (Nat.sub_le _ _) (unhide HBA)
    have HLE := hide hle
    obtain ⟨c, hc⟩ : ∃ c, c = cmpN A T := ⟨_, rfl⟩
    rw [← hc] at hc0
    have HC := hide hc
    clear hc hle
    go_wp2_with fail
    refine (unhide CFA _ rA).mono ?_
    rintro e w15 ⟨v7, rfl, n7, b⟩
    have rA := rA.next b
    have rD := rD.next b
    have tA := tA.next b
    have iA := iA.next b
    have tD := tD.next b
    have iD := iD.next b
    have nb := nb.next b
    have nd := nd.next b
    have bl := bstep bl b
    clear b
    go_wp2_with fail
    refine (cmp_any _ _ _ A T 102 (by omega) (unhide HA102) (unhide HT102) n7 nb).mono ?_
    rintro e w16 ⟨rfl, b⟩
    have rA := rA.next b
    have rD := rD.next b
    have tA := tA.next b
    have iA := iA.next b
    have tD := tD.next b
    have iD := iD.next b
    have nb := nb.next b
    have nd := nd.next b
    have n7 := n7.next b
    have bl := bstep bl b
    clear b
    rw [← unhide HC]
    clear n7
    go_wp2_with fail
    refine (unhide CFA _ rA).mono ?_
    rintro e w17 ⟨v8, rfl, n8, b⟩
    have rA := rA.next b
    have rD := rD.next b
    have tA := tA.next b
    have iA := iA.next b
    have tD := tD.next b
    have iD := iD.next b
    have nb := nb.next b
    have nd := nd.next b
    have bl := bstep bl b
    clear b
    go_wp2_with fail
    refine (sub_any _ _ _ A T 102 (by omega) (unhide HA102) (unhide HLE) n8 nb).mono ?_
    rintro e w18 ⟨v9, rfl, n9, b⟩
    have rA := rA.next b
    have rD := rD.next b
    have tA := tA.next b
    have iA := iA.next b
    have tD := tD.next b
    have iD := iD.next b
    have nb := nb.next b
    have nd := nd.next b
    have n8 := n8.next b
    have bl := bstep bl b
    clear b
    go_wp2_with fail
    refine (same_new _ _ _ _ _ 50 (by omega) (unhide HAD) n9 nd).mono ?_
    rintro e w19 ⟨rfl, b⟩
    have rA := rA.next b
    have rD := rD.next b
    have tA := tA.next b
    have iA := iA.next b
    have tD := tD.next b
    have iD := iD.next b
    have nb := nb.next b
    have nd := nd.next b
    have n8 := n8.next b
    have n9 := n9.next b
    have bl := bstep bl b
    clear b
    clear n8 n9
    go_wp2_with fail
    refine (intact_any _ gA ggA bA oA cA nA usA (unhide HLA) (by omega) rA F (unhide HF) tA).mono ?_
    rintro e w20 ⟨rfl, b⟩
    have rA := rA.next b
    have rD := rD.next b
    have tA := tA.next b
    have iA := iA.next b
    have tD := tD.next b
    have iD := iD.next b
    have nb := nb.next b
    have nd := nd.next b
    have bl := bstep bl b
    clear b
    go_wp2_with fail
    refine (intact_any _ gD ggD bD oD cD nD usD (unhide HLD) (by omega) rD F (unhide HF) tD).mono ?_
    rintro e w21 ⟨rfl, b⟩
    have rA := rA.next b
    have rD := rD.next b
    have tA := tA.next b
    have iA := iA.next b
    have tD := tD.next b
    have iD := iD.next b
    have nb := nb.next b
    have nd := nd.next b
    have bl := bstep bl b
    clear b
    go_wp2_with fail
    refine (wakes_any _).mono ?_
    rintro e w22 ⟨rfl, b⟩
    have rA := rA.next b
    have rD := rD.next b
    have tA := tA.next b
    have iA := iA.next b
    have tD := tD.next b
    have iD := iD.next b
    have nb := nb.next b
    have nd := nd.next b
    have bl := bstep bl b
    clear b
    go_wp2
    go_ret
    exact ⟨rfl, bl⟩
  · skip
    have hc0 : ¬ (0 : Int) ≤ cmpN A T := by rw [cmpN_lt hlt]; decide
    clear hlt
    obtain ⟨c, hc⟩ : ∃ c, c = cmpN A T := ⟨_, rfl⟩
    rw [← hc] at hc0
    have HC := hide hc
    clear hc
    go_wp2_with fail
    refine (unhide CFA _ rA).mono ?_
    rintro e w15 ⟨v7, rfl, n7, b⟩
    have rA := rA.next b
    have rD := rD.next b
    have tA := tA.next b
    have iA := iA.next b
    have tD := tD.next b
    have iD := iD.next b
    have nb := nb.next b
    have bl := bstep bl b
    clear b
    go_wp2_with fail
    refine (cmp_any _ _ _ A T 102 (by omega) (unhide HA102) (unhide HT102) n7 nb).mono ?_
    rintro e w16 ⟨rfl, b⟩
    have rA := rA.next b
    have rD := rD.next b
    have tA := tA.next b
    have iA := iA.next b
    have tD := tD.next b
    have iD := iD.next b
    have nb := nb.next b
    have n7 := n7.next b
    have bl := bstep bl b
    clear b
    rw [← unhide HC]
    clear n7
    go_wp2_with fail
    refine (intact_any _ gA ggA bA oA cA nA usA (unhide HLA) (by omega) rA F (unhide HF) tA).mono ?_
    rintro e w17 ⟨rfl, b⟩
    have rA := rA.next b
    have rD := rD.next b
    have tA := tA.next b
    have iA := iA.next b
    have tD := tD.next b
    have iD := iD.next b
    have nb := nb.next b
    have bl := bstep bl b
    clear b
    go_wp2_with fail
    refine (intact_any _ gD ggD bD oD cD nD usD (unhide HLD) (by omega) rD F (unhide HF) tD).mono ?_
    rintro e w18 ⟨rfl, b⟩
    have rA := rA.next b
    have rD := rD.next b
    have tA := tA.next b
    have iA := iA.next b
    have tD := tD.next b
    have iD := iD.next b
    have nb := nb.next b
    have bl := bstep bl b
    clear b
    go_wp2_with fail
    refine (wakes_any _).mono ?_
    rintro e w19 ⟨rfl, b⟩
    have rA := rA.next b
    have rD := rD.next b
    have tA := tA.next b
    have iA := iA.next b
    have tD := tD.next b
    have iD := iD.next b
    have nb := nb.next b
    have bl := bstep bl b
    clear b
    go_wp2
    go_ret
    exact ⟨rfl, bl⟩

end Go.Proofs.Ytmfpgpkheaofeaa
