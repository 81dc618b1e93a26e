/- LimbShifts: what the law's walk comes to. -/
import Derived.Test.YtmfpgpkheaofeaaLawKit
import Derived.Test.YtmfpgpkheaofeaaLLow
import Derived.Test.YtmfpgpkheaofeaaRShift
import Derived.Test.YtmfpgpkheaofeaaWithin
namespace Go.Proofs.Ytmfpgpkheaofeaa
open Go.RowKit

set_option maxRecDepth 100000 in
set_option maxHeartbeats 12800000 in
theorem limbShifts_any (gA : Option Addr) (bA oA cA lA : Nat) (xsA : List Nat) (w : World) (hxA : xsA.length = lA) (hRA : Rep w gA bA oA cA xsA) (wxA : ∀ j, xsA.getD j 0 < 18446744073709551616) (z : Int) (hz1 : -9223372036854775808 ≤ z) (hz2 : z ≤ 9223372036854775807) :
    Calls Try.prog 5 #[.slice gA lA cA, .int .i64 z] w fun e w' => e = .returned (.bool true) ∧ Below w.heap.size w w' := by
  obtain ⟨nA, hnA⟩ : ∃ n, n = min lA 40 := ⟨_, rfl⟩
  have CA : Hid (∀ w, Calls Try.prog 9 #[.slice gA lA cA, .int .i64 40] w fun e w' => e = .returned (.slice gA nA cA) ∧ w' = w) := fun w => cut_any w gA lA cA 40 nA (by have := hRA.room; omega) (by omega) hnA
  obtain ⟨hlA, rA⟩ := cut_rep hRA 40 nA (by rw [hxA]; exact hnA)
  have dA : WDig (xsA.take nA) := take_words wxA nA
  have hmA : nA ≤ 40 := by omega
  clear hnA hRA wxA hxA
  generalize xsA.take nA = usA at *
  obtain ⟨F, hF⟩ : ∃ F, F = 6148914691236517205 := ⟨_, rfl⟩
  have HF := hide hF
  clear hF
  obtain ⟨A, hA⟩ : ∃ V, V = wval usA := ⟨_, rfl⟩
  have hbA : A < 18446744073709551616 ^ 40 := by rw [hA]; exact pow_up (wval_lt_pow dA) (by omega)
  have HBA := hide hbA
  have HDA : Hid (A < 4294967296 ^ 80) := by have := hbA; rw [wpow] at this; exact this
  have CFA := hide (fun W (r : Rep W gA bA oA cA usA) => from_law W gA bA oA cA nA A usA hlA (by omega) r dA hA)
  have HLA := hide hlA
  have HEA := hide hA
  clear hA hbA hlA
  have bl := Below.refl w.heap.size w
  obtain ⟨zz, k, hk, hkz, hcase⟩ : ∃ (zz : Int) (k : Nat), k ≤ 6099 ∧ (k : Int) = min (max zz 0) 1048576 ∧ ((6000 < z ∧ 6000 + z % 100 = zz) ∨ (¬ 6000 < z ∧ zz = z)) := by
    by_cases h : 6000 < z
    · exact ⟨6000 + z % 100, (6000 + z % 100).toNat, by omega, by omega, Or.inl ⟨h, rfl⟩⟩
    · exact ⟨z, z.toNat, by omega, by omega, Or.inr ⟨h, rfl⟩⟩
  have hB : A * 2 ^ k < 18446744073709551616 ^ 136 := shl_bound (q := 96) (unhide HBA) (by omega)
  have HB1 := hide hB
  have HB2 : Hid (A / 2 ^ k < 18446744073709551616 ^ 40) := Nat.lt_of_le_of_lt (Nat.div_le_self _ _) (unhide HBA)
  have HB3 : Hid (A % 2 ^ k < 18446744073709551616 ^ 40) := Nat.lt_of_le_of_lt (Nat.mod_le _ _) (unhide HBA)
  have CWi := hide (fun w => within_any z 100 w hz1 hz2 (by omega) (by omega))
  have CCo := hide (fun w => count_lim zz 1048576 k w hkz)
  have CU := hide (fun w u => shl_w w u zz A k hkz)
  have CDn := hide (fun w u => shr_w w u zz A k hkz)
  have CLo := hide (fun w u => low_w w u zz A k hkz)
  have RU := hide (fun w u => shl_any w u A k 80 (by omega) (unhide HDA) (by omega))
  have RD := hide (fun w u => shr_any w u A k 80 (by omega) (unhide HDA) (by omega))
  have RL := hide (fun w u => low_any w u A k 80 (by omega) (unhide HDA) (by omega))
  generalize A * 2 ^ k = U at *
  generalize A / 2 ^ k = V at *
  generalize A % 2 ^ k = L at *
  clear hB hz1 hz2 hkz
  rcases hcase with ⟨hgt, hzz⟩ | ⟨hgt, rfl⟩
  · skip
    have HZ := hide hzz
    have hzb : 6000 ≤ zz ∧ zz ≤ 6099 := by omega
    clear hzz
    obtain ⟨zm, hzm⟩ : ∃ zm, zm = z % 100 := ⟨_, rfl⟩
    rw [← hzm] at CWi HZ
    have hze : 6000 + zm = zz := unhide HZ
    have hzi : 0 ≤ zm ∧ zm < 100 := by omega
    clear HZ hzm
    go_enter Try.func5, Try.ntmps5
    go_wp2_with fail
    refine (unhide CA _).mono ?_
    rintro e w1 ⟨rfl, rfl⟩
    clear CA
    go_wp2_with fail
    refine (lend_any _ gA bA oA cA nA usA (unhide HLA) (by omega) rA F (unhide HF)).mono ?_
    rintro e w2 ⟨rfl, oo, bb⟩
    obtain ⟨rrA, tA⟩ := lent_rep oo (unhide HLA)
    clear oo
    have rA := rA.next bb
    have bl := bstep bl bb
    clear bb
    obtain ⟨ggA, hgg⟩ : ∃ g, g = w1.heap.size := ⟨_, rfl⟩
    rw [← hgg] at rrA tA ⊢
    clear hgg
    have iA := lent_in rrA (unhide HLA) (by omega) dA A (unhide HEA)
    clear rrA
    go_wp2_with fail
    refine (unhide CWi _).mono ?_
    rintro e w3 ⟨rfl, rfl⟩
    go_wp2_with fail
    refine (unhide CCo _).mono ?_
    rintro e w4 ⟨rfl, rfl⟩
    obtain ⟨S1, hS1⟩ : ∃ S, S = w4.heap.size := ⟨_, rfl⟩
    have hbS : ggA < S1 := by rw [hS1]; exact tA.lt (by simp)
    have hAb : Hid (0 < usA.length → bA < S1) := fun h => by rw [hS1]; exact rA.lt h
    have hS0 : w1.heap.size ≤ S1 := by rw [hS1]; exact bl.size
    go_wp2_with fail
    refine (unhide CU _ _ iA).mono ?_
    rintro e w5 ⟨us1, rfl, nu, b⟩
    have nu : NewB S1 w5.heap.size w5 us1 U := by rw [hS1]; exact nu.born
    have rA := rA.next b
    have tA := tA.next b
    have iA := iA.next b
    have bl := bstep bl b
    obtain ⟨S2, hS2⟩ : ∃ S, S = w5.heap.size := ⟨_, rfl⟩
    rw [← hS2] at nu
    have hS1S2 : S1 ≤ S2 := by rw [hS1, hS2]; exact b.size
    clear b hS1
    go_wp2_with fail
    refine (unhide CDn _ _ iA).mono ?_
    rintro e w6 ⟨ds1, rfl, nd, b⟩
    have nd : NewB S2 w6.heap.size w6 ds1 V := by rw [hS2]; exact nd.born
    have rA := rA.next b
    have tA := tA.next b
    have iA := iA.next b
    have nu := nu.next b
    have bl := bstep bl b
    obtain ⟨S3, hS3⟩ : ∃ S, S = w6.heap.size := ⟨_, rfl⟩
    rw [← hS3] at nd
    have hS2S3 : S2 ≤ S3 := by rw [hS2, hS3]; exact b.size
    clear b hS2
    go_wp2_with fail
    refine (unhide CLo _ _ iA).mono ?_
    rintro e w7 ⟨ls1, rfl, nl, b⟩
    have nl : NewB S3 w7.heap.size w7 ls1 L := by rw [hS3]; exact nl.born
    have rA := rA.next b
    have tA := tA.next b
    have iA := iA.next b
    have nu := nu.next b
    have nd := nd.next b
    have bl := bstep bl b
    obtain ⟨S4, hS4⟩ : ∃ S, S = w7.heap.size := ⟨_, rfl⟩
    rw [← hS4] at nl
    have hS3S4 : S3 ≤ S4 := by rw [hS3, hS4]; exact b.size
    clear b hS3
    clear hS4
    go_wp2_with fail
    refine (unhide CFA _ rA).mono ?_
    rintro e w8 ⟨v1, rfl, n1, b⟩
    have rA := rA.next b
    have tA := tA.next b
    have iA := iA.next b
    have nu := nu.next b
    have nd := nd.next b
    have nl := nl.next b
    have bl := bstep bl b
    clear b
    go_wp2_with fail
    refine (unhide RU _ _ n1).mono ?_
    rintro e w9 ⟨v2, rfl, n2, b⟩
    have rA := rA.next b
    have tA := tA.next b
    have iA := iA.next b
    have nu := nu.next b
    have nd := nd.next b
    have nl := nl.next b
    have n1 := n1.next b
    have bl := bstep bl b
    clear b
    go_wp2_with fail
    refine (same_new _ _ _ _ _ 136 (by omega) (unhide HB1) n2 nu.toW).mono ?_
    rintro e w10 ⟨rfl, b⟩
    have rA := rA.next b
    have tA := tA.next b
    have iA := iA.next b
    have nu := nu.next b
    have nd := nd.next b
    have nl := nl.next b
    have n1 := n1.next b
    have n2 := n2.next b
    have bl := bstep bl b
    clear b
    clear n1 n2
    go_wp2_with fail
    refine (unhide CFA _ rA).mono ?_
    rintro e w11 ⟨v1, rfl, n1, b⟩
    have rA := rA.next b
    have tA := tA.next b
    have iA := iA.next b
    have nu := nu.next b
    have nd := nd.next b
    have nl := nl.next b
    have bl := bstep bl b
    clear b
    go_wp2_with fail
    refine (unhide RD _ _ n1).mono ?_
    rintro e w12 ⟨v2, rfl, n2, b⟩
    have rA := rA.next b
    have tA := tA.next b
    have iA := iA.next b
    have nu := nu.next b
    have nd := nd.next b
    have nl := nl.next b
    have n1 := n1.next b
    have bl := bstep bl b
    clear b
    go_wp2_with fail
    refine (same_new _ _ _ _ _ 40 (by omega) (unhide HB2) n2 nd.toW).mono ?_
    rintro e w13 ⟨rfl, b⟩
    have rA := rA.next b
    have tA := tA.next b
    have iA := iA.next b
    have nu := nu.next b
    have nd := nd.next b
    have nl := nl.next b
    have n1 := n1.next b
    have n2 := n2.next b
    have bl := bstep bl b
    clear b
    clear n1 n2
    go_wp2_with fail
    refine (unhide CFA _ rA).mono ?_
    rintro e w14 ⟨v1, rfl, n1, b⟩
    have rA := rA.next b
    have tA := tA.next b
    have iA := iA.next b
    have nu := nu.next b
    have nd := nd.next b
    have nl := nl.next b
    have bl := bstep bl b
    clear b
    go_wp2_with fail
    refine (unhide RL _ _ n1).mono ?_
    rintro e w15 ⟨v2, rfl, n2, b⟩
    have rA := rA.next b
    have tA := tA.next b
    have iA := iA.next b
    have nu := nu.next b
    have nd := nd.next b
    have nl := nl.next b
    have n1 := n1.next b
    have bl := bstep bl b
    clear b
    go_wp2_with fail
    refine (same_new _ _ _ _ _ 40 (by omega) (unhide HB3) n2 nl.toW).mono ?_
    rintro e w16 ⟨rfl, b⟩
    have rA := rA.next b
    have tA := tA.next b
    have iA := iA.next b
    have nu := nu.next b
    have nd := nd.next b
    have nl := nl.next b
    have n1 := n1.next b
    have n2 := n2.next b
    have bl := bstep bl b
    clear b
    clear n1 n2
    clear iA
    go_wp2_with fail
    refine (spoil_any _ us1 _ S1 S2 nu).mono ?_
    rintro e w17 ⟨rfl, sp⟩
    have rA := rA.spoilt sp (fun h => Or.inl (by have := unhide hAb h; omega))
    have tA := tA.spoilt sp (fun _ => Or.inl (by omega))
    have nd := nd.spoilt sp (Or.inl (by omega))
    have nl := nl.spoilt sp (Or.inl (by omega))
    have bl := below_spoilt bl sp (by omega) bl.size
    clear sp nu
    go_wp2_with fail
    refine (spoil_any _ ds1 _ S2 S3 nd).mono ?_
    rintro e w18 ⟨rfl, sp⟩
    have rA := rA.spoilt sp (fun h => Or.inl (by have := unhide hAb h; omega))
    have tA := tA.spoilt sp (fun _ => Or.inl (by omega))
    have nl := nl.spoilt sp (Or.inl (by omega))
    have bl := below_spoilt bl sp (by omega) bl.size
    clear sp nd
    go_wp2_with fail
    refine (spoil_any _ ls1 _ S3 S4 nl).mono ?_
    rintro e w19 ⟨rfl, sp⟩
    have rA := rA.spoilt sp (fun h => Or.inl (by have := unhide hAb h; omega))
    have tA := tA.spoilt sp (fun _ => Or.inl (by omega))
    have bl := below_spoilt bl sp (by omega) bl.size
    clear sp nl
    go_wp2_with fail
    refine (intact_any _ gA ggA bA oA cA nA usA (unhide HLA) (by omega) rA F (unhide HF) tA).mono ?_
    rintro e w20 ⟨rfl, b⟩
    have rA := rA.next b
    have tA := tA.next b
    have bl := bstep bl b
    clear b
    go_wp2_with fail
    refine (wakes_any _).mono ?_
    rintro e w21 ⟨rfl, b⟩
    have rA := rA.next b
    have tA := tA.next b
    have bl := bstep bl b
    clear b
    go_wp2
    go_ret
    exact ⟨rfl, bl⟩
  · skip
    go_enter Try.func5, Try.ntmps5
    go_wp2_with fail
    refine (unhide CA _).mono ?_
    rintro e w1 ⟨rfl, rfl⟩
    clear CA
    go_wp2_with fail
    refine (lend_any _ gA bA oA cA nA usA (unhide HLA) (by omega) rA F (unhide HF)).mono ?_
    rintro e w2 ⟨rfl, oo, bb⟩
    obtain ⟨rrA, tA⟩ := lent_rep oo (unhide HLA)
    clear oo
    have rA := rA.next bb
    have bl := bstep bl bb
    clear bb
    obtain ⟨ggA, hgg⟩ : ∃ g, g = w1.heap.size := ⟨_, rfl⟩
    rw [← hgg] at rrA tA ⊢
    clear hgg
    have iA := lent_in rrA (unhide HLA) (by omega) dA A (unhide HEA)
    clear rrA
    go_wp2_with fail
    refine (unhide CCo _).mono ?_
    rintro e w3 ⟨rfl, rfl⟩
    obtain ⟨S1, hS1⟩ : ∃ S, S = w3.heap.size := ⟨_, rfl⟩
    have hbS : ggA < S1 := by rw [hS1]; exact tA.lt (by simp)
    have hAb : Hid (0 < usA.length → bA < S1) := fun h => by rw [hS1]; exact rA.lt h
    have hS0 : w1.heap.size ≤ S1 := by rw [hS1]; exact bl.size
    go_wp2_with fail
    refine (unhide CU _ _ iA).mono ?_
    rintro e w4 ⟨us1, rfl, nu, b⟩
    have nu : NewB S1 w4.heap.size w4 us1 U := by rw [hS1]; exact nu.born
    have rA := rA.next b
    have tA := tA.next b
    have iA := iA.next b
    have bl := bstep bl b
    obtain ⟨S2, hS2⟩ : ∃ S, S = w4.heap.size := ⟨_, rfl⟩
    rw [← hS2] at nu
    have hS1S2 : S1 ≤ S2 := by rw [hS1, hS2]; exact b.size
    clear b hS1
    go_wp2_with fail
    refine (unhide CDn _ _ iA).mono ?_
    rintro e w5 ⟨ds1, rfl, nd, b⟩
    have nd : NewB S2 w5.heap.size w5 ds1 V := by rw [hS2]; exact nd.born
    have rA := rA.next b
    have tA := tA.next b
    have iA := iA.next b
    have nu := nu.next b
    have bl := bstep bl b
    obtain ⟨S3, hS3⟩ : ∃ S, S = w5.heap.size := ⟨_, rfl⟩
    rw [← hS3] at nd
    have hS2S3 : S2 ≤ S3 := by rw [hS2, hS3]; exact b.size
    clear b hS2
    go_wp2_with fail
    refine (unhide CLo _ _ iA).mono ?_
    rintro e w6 ⟨ls1, rfl, nl, b⟩
    have nl : NewB S3 w6.heap.size w6 ls1 L := by rw [hS3]; exact nl.born
    have rA := rA.next b
    have tA := tA.next b
    have iA := iA.next b
    have nu := nu.next b
    have nd := nd.next b
    have bl := bstep bl b
    obtain ⟨S4, hS4⟩ : ∃ S, S = w6.heap.size := ⟨_, rfl⟩
    rw [← hS4] at nl
    have hS3S4 : S3 ≤ S4 := by rw [hS3, hS4]; exact b.size
    clear b hS3
    clear hS4
    go_wp2_with fail
    refine (unhide CFA _ rA).mono ?_
    rintro e w7 ⟨v1, rfl, n1, b⟩
    have rA := rA.next b
    have tA := tA.next b
    have iA := iA.next b
    have nu := nu.next b
    have nd := nd.next b
    have nl := nl.next b
    have bl := bstep bl b
    clear b
    go_wp2_with fail
    refine (unhide RU _ _ n1).mono ?_
    rintro e w8 ⟨v2, rfl, n2, b⟩
    have rA := rA.next b
    have tA := tA.next b
    have iA := iA.next b
    have nu := nu.next b
    have nd := nd.next b
    have nl := nl.next b
    have n1 := n1.next b
    have bl := bstep bl b
    clear b
    go_wp2_with fail
    refine (same_new _ _ _ _ _ 136 (by omega) (unhide HB1) n2 nu.toW).mono ?_
    rintro e w9 ⟨rfl, b⟩
    have rA := rA.next b
    have tA := tA.next b
    have iA := iA.next b
    have nu := nu.next b
    have nd := nd.next b
    have nl := nl.next b
    have n1 := n1.next b
    have n2 := n2.next b
    have bl := bstep bl b
    clear b
    clear n1 n2
    go_wp2_with fail
    refine (unhide CFA _ rA).mono ?_
    rintro e w10 ⟨v1, rfl, n1, b⟩
    have rA := rA.next b
    have tA := tA.next b
    have iA := iA.next b
    have nu := nu.next b
    have nd := nd.next b
    have nl := nl.next b
    have bl := bstep bl b
    clear b
    go_wp2_with fail
    refine (unhide RD _ _ n1).mono ?_
    rintro e w11 ⟨v2, rfl, n2, b⟩
    have rA := rA.next b
    have tA := tA.next b
    have iA := iA.next b
    have nu := nu.next b
    have nd := nd.next b
    have nl := nl.next b
    have n1 := n1.next b
    have bl := bstep bl b
    clear b
    go_wp2_with fail
    refine (same_new _ _ _ _ _ 40 (by omega) (unhide HB2) n2 nd.toW).mono ?_
    rintro e w12 ⟨rfl, b⟩
    have rA := rA.next b
    have tA := tA.next b
    have iA := iA.next b
    have nu := nu.next b
    have nd := nd.next b
    have nl := nl.next b
    have n1 := n1.next b
    have n2 := n2.next b
    have bl := bstep bl b
    clear b
    clear n1 n2
    go_wp2_with fail
    refine (unhide CFA _ rA).mono ?_
    rintro e w13 ⟨v1, rfl, n1, b⟩
    have rA := rA.next b
    have tA := tA.next b
    have iA := iA.next b
    have nu := nu.next b
    have nd := nd.next b
    have nl := nl.next b
    have bl := bstep bl b
    clear b
    go_wp2_with fail
    refine (unhide RL _ _ n1).mono ?_
    rintro e w14 ⟨v2, rfl, n2, b⟩
    have rA := rA.next b
    have tA := tA.next b
    have iA := iA.next b
    have nu := nu.next b
    have nd := nd.next b
    have nl := nl.next b
    have n1 := n1.next b
    have bl := bstep bl b
    clear b
    go_wp2_with fail
    refine (same_new _ _ _ _ _ 40 (by omega) (unhide HB3) n2 nl.toW).mono ?_
    rintro e w15 ⟨rfl, b⟩
    have rA := rA.next b
    have tA := tA.next b
    have iA := iA.next b
    have nu := nu.next b
    have nd := nd.next b
    have nl := nl.next b
    have n1 := n1.next b
    have n2 := n2.next b
    have bl := bstep bl b
    clear b
    clear n1 n2
    clear iA
    go_wp2_with fail
    refine (spoil_any _ us1 _ S1 S2 nu).mono ?_
    rintro e w16 ⟨rfl, sp⟩
    have rA := rA.spoilt sp (fun h => Or.inl (by have := unhide hAb h; omega))
    have tA := tA.spoilt sp (fun _ => Or.inl (by omega))
    have nd := nd.spoilt sp (Or.inl (by omega))
    have nl := nl.spoilt sp (Or.inl (by omega))
    have bl := below_spoilt bl sp (by omega) bl.size
    clear sp nu
    go_wp2_with fail
    refine (spoil_any _ ds1 _ S2 S3 nd).mono ?_
    rintro e w17 ⟨rfl, sp⟩
    have rA := rA.spoilt sp (fun h => Or.inl (by have := unhide hAb h; omega))
    have tA := tA.spoilt sp (fun _ => Or.inl (by omega))
    have nl := nl.spoilt sp (Or.inl (by omega))
    have bl := below_spoilt bl sp (by omega) bl.size
    clear sp nd
    go_wp2_with fail
    refine (spoil_any _ ls1 _ S3 S4 nl).mono ?_
    rintro e w18 ⟨rfl, sp⟩
    have rA := rA.spoilt sp (fun h => Or.inl (by have := unhide hAb h; omega))
    have tA := tA.spoilt sp (fun _ => Or.inl (by omega))
    have bl := below_spoilt bl sp (by omega) bl.size
    clear sp nl
    go_wp2_with fail
    refine (intact_any _ gA ggA bA oA cA nA usA (unhide HLA) (by omega) rA F (unhide HF) tA).mono ?_
    rintro e w19 ⟨rfl, b⟩
    have rA := rA.next b
    have tA := tA.next b
    have bl := bstep bl b
    clear b
    go_wp2_with fail
    refine (wakes_any _).mono ?_
    rintro e w20 ⟨rfl, b⟩
    have rA := rA.next b
    have tA := tA.next b
    have bl := bstep bl b
    clear b
    go_wp2
    go_ret
    exact ⟨rfl, bl⟩

end Go.Proofs.Ytmfpgpkheaofeaa
