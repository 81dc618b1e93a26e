/- LimbSplits: what the law's walk comes to. -/
import Derived.Test.YtmfpgpkheaofeabLawKit
import Derived.Test.YtmfpgpkheaofeabThree
import Derived.Test.YtmfpgpkheaofeabSplit
import Derived.Test.YtmfpgpkheaofeabRShift
import Derived.Test.YtmfpgpkheaofeabWithin
namespace Go.Proofs.Ytmfpgpkheaofeab
open Go.RowKit

theorem NewB.form {B M : Nat} {w : World} {v : Value} {n : Nat} (h : NewB B M w v n) : ∃ ga l c, v = .slice ga l c := by
  obtain ⟨ga, b, cap, xs, hv, _⟩ := h.toW.rep
  exact ⟨_, _, _, hv⟩

set_option maxRecDepth 100000 in
set_option maxHeartbeats 12800000 in
theorem limbSplits_any (gA : Option Addr) (bA oA cA lA : Nat) (xsA : List Nat) (w : World) (hxA : xsA.length = lA) (hRA : Rep w gA bA oA cA xsA) (wxA : ∀ j, xsA.getD j 0 < 18446744073709551616) (z : Int) :
    Calls Try.prog 3 #[.slice gA lA cA, .int .i64 z] w fun e w' => e = .returned (.bool true) ∧ Below w.heap.size w w' := by
  obtain ⟨nA, hnA⟩ : ∃ n, n = min lA 50 := ⟨_, rfl⟩
  have CA : Hid (∀ w, Calls Try.prog 6 #[.slice gA lA cA, .int .i64 50] w fun e w' => e = .returned (.slice gA nA cA) ∧ w' = w) := fun w => cut_any w gA lA cA 50 nA (by have := hRA.room; omega) (by omega) hnA
  obtain ⟨hlA, rA⟩ := cut_rep hRA 50 nA (by rw [hxA]; exact hnA)
  have dA : WDig (xsA.take nA) := take_words wxA nA
  have hmA : nA ≤ 50 := by omega
  clear hnA hRA wxA hxA
  generalize xsA.take nA = usA at *
  obtain ⟨F, hF⟩ : ∃ F, F = 6148914691236517205 := ⟨_, rfl⟩
  have HF := hide hF
  clear hF
  obtain ⟨A, hA⟩ : ∃ V, V = wval usA := ⟨_, rfl⟩
  have hbA : A < 18446744073709551616 ^ 50 := by rw [hA]; exact pow_up (wval_lt_pow dA) (by omega)
  have HBA := hide hbA
  have HDA : Hid (A < 4294967296 ^ 100) := by have := hbA; rw [wpow] at this; exact this
  have CFA := hide (fun W (r : Rep W gA bA oA cA usA) => from_law W gA bA oA cA nA A usA hlA (by omega) r dA hA)
  have HLA := hide hlA
  have HEA := hide hA
  clear hA hbA hlA
  have bl := Below.refl w.heap.size w
  obtain ⟨k, hkz⟩ : ∃ k : Nat, (k : Int) = min (max z 0) 16384 := ⟨(min (max z 0) 16384).toNat, by omega⟩
  have hk : k ≤ 16384 := by omega
  obtain ⟨q, hq⟩ : ∃ q, q = 64 * k := ⟨_, rfl⟩
  have eq1 : (64 : Int) * (k : Int) = (q : Int) := by omega
  have hqb : q ≤ 1048576 := by omega
  have e2 : 18446744073709551616 ^ k = 2 ^ q := by rw [hq, Nat.pow_mul]
  have CCo := hide (fun w => count_lim z 16384 k w hkz)
  have CSp := hide (fun w u => split_w w u z A k hkz)
  have CJ := hide (fun w u v m n => join_two w u v m n k z hkz)
  have RD := hide (fun w u => shr_any w u A q 100 (by omega) (unhide HDA) (by omega))
  have RL := hide (fun w u => low_any w u A q 100 (by omega) (unhide HDA) (by omega))
  rw [e2] at CSp CJ
  have HLb : Hid (A % 2 ^ q < 18446744073709551616 ^ 50) := Nat.lt_of_le_of_lt (Nat.mod_le _ _) (unhide HBA)
  have HVb : Hid (A / 2 ^ q < 18446744073709551616 ^ 50) := Nat.lt_of_le_of_lt (Nat.div_le_self _ _) (unhide HBA)
  have HJe : Hid (A % 2 ^ q + 2 ^ q * (A / 2 ^ q) = A) := Nat.mod_add_div _ _
  have CJ2 : Hid (∀ w u v, InW w u (A % 2 ^ q) → InW w v (A / 2 ^ q) → Calls Try.prog 14 #[.int .i64 z, .slice (some ⟨w.heap.size, 0, none⟩) 2 2] (w.alloc (.cells #[u, v] 25)) fun e w' => ∃ r, e = .returned r ∧ NewW w.heap.size w' r A ∧ Below w.heap.size w w') := fun w u v h1 h2 => by
    have := unhide CJ w u v _ _ h1 h2
    rwa [unhide HJe] at this
  clear CJ e2 hq hkz HJe
  generalize A % 2 ^ q = LO at *
  generalize A / 2 ^ q = HI at *
  by_cases hk0 : k = 0
  · skip
    have hk1 : ¬ (0 : Int) < (k : Int) := by omega
    clear hk0
    go_enter Try.func3, Try.ntmps3
    go_wp2_with fail
    refine (unhide CA _).mono ?_
    rintro e w1 ⟨rfl, rfl⟩
    clear CA
    go_wp2_with fail
    refine (lend_any _ gA bA oA cA nA usA (unhide HLA) (by omega) rA F (unhide HF)).mono ?_
    rintro e w2 ⟨rfl, oo, bb⟩
    obtain ⟨rrA, tA⟩ := lent_rep oo (unhide HLA)
    clear oo
    have rA := rA.next bb
    have bl := bstep bl bb
    clear bb
    obtain ⟨ggA, hgg⟩ : ∃ g, g = w1.heap.size := ⟨_, rfl⟩
    rw [← hgg] at rrA tA ⊢
    clear hgg
    have iA := lent_in rrA (unhide HLA) (by omega) dA A (unhide HEA)
    clear rrA
    obtain ⟨S1, hS1⟩ : ∃ S, S = w2.heap.size := ⟨_, rfl⟩
    have hbS : ggA < S1 := by rw [hS1]; exact tA.lt (by simp)
    have hAb : Hid (0 < usA.length → bA < S1) := fun h => by rw [hS1]; exact rA.lt h
    have hS0 : w1.heap.size ≤ S1 := by rw [hS1]; exact bl.size
    go_wp2_with fail
    refine (unhide CSp _ _ iA).mono ?_
    rintro e w3 ⟨lo, hi, B1, M1, B2, M2, rfl, nlo, nhi, hB1, hB2, hM1, hM2, hdis, b⟩
    rw [← hS1] at hB1 hB2
    obtain ⟨gl, ll, cl, rfl⟩ := nlo.form
    obtain ⟨gh, lh, ch, rfl⟩ := nhi.form
    have rA := rA.next b
    have tA := tA.next b
    have iA := iA.next b
    have bl := bstep bl b
    clear b hM1 hM2 hS1
    go_wp2_with fail
    refine (unhide CCo _).mono ?_
    rintro e w4 ⟨rfl, rfl⟩
    go_wp2_with fail
    refine (unhide CFA _ rA).mono ?_
    rintro e w5 ⟨v1, rfl, n1, b⟩
    have rA := rA.next b
    have tA := tA.next b
    have iA := iA.next b
    have nlo := nlo.next b
    have nhi := nhi.next b
    have bl := bstep bl b
    clear b
    go_wp2_with fail
    refine (unhide RL _ _ n1).mono ?_
    rintro e w6 ⟨v2, rfl, n2, b⟩
    have rA := rA.next b
    have tA := tA.next b
    have iA := iA.next b
    have nlo := nlo.next b
    have nhi := nhi.next b
    have n1 := n1.next b
    have bl := bstep bl b
    clear b
    go_wp2_with fail
    refine (same_new _ _ _ _ _ 50 (by omega) (unhide HLb) n2 nlo.toW).mono ?_
    rintro e w7 ⟨rfl, b⟩
    have rA := rA.next b
    have tA := tA.next b
    have iA := iA.next b
    have nlo := nlo.next b
    have nhi := nhi.next b
    have n1 := n1.next b
    have n2 := n2.next b
    have bl := bstep bl b
    clear b
    clear n1 n2
    go_wp2_with fail
    refine (unhide CFA _ rA).mono ?_
    rintro e w8 ⟨v1, rfl, n1, b⟩
    have rA := rA.next b
    have tA := tA.next b
    have iA := iA.next b
    have nlo := nlo.next b
    have nhi := nhi.next b
    have bl := bstep bl b
    clear b
    go_wp2_with fail
    refine (unhide RD _ _ n1).mono ?_
    rintro e w9 ⟨v2, rfl, n2, b⟩
    have rA := rA.next b
    have tA := tA.next b
    have iA := iA.next b
    have nlo := nlo.next b
    have nhi := nhi.next b
    have n1 := n1.next b
    have bl := bstep bl b
    clear b
    go_wp2_with fail
    refine (same_new _ _ _ _ _ 50 (by omega) (unhide HVb) n2 nhi.toW).mono ?_
    rintro e w10 ⟨rfl, b⟩
    have rA := rA.next b
    have tA := tA.next b
    have iA := iA.next b
    have nlo := nlo.next b
    have nhi := nhi.next b
    have n1 := n1.next b
    have n2 := n2.next b
    have bl := bstep bl b
    clear b
    clear n1 n2
    go_wp2_with fail
    refine (unhide CJ2 _ _ _ (nlo.toW.toIn (unhide HLb) (by omega)) (nhi.toW.toIn (unhide HVb) (by omega))).mono ?_
    rintro e w11 ⟨j, rfl, nj, b⟩
    have rA := rA.next b
    have tA := tA.next b
    have iA := iA.next b
    have nlo := nlo.next b
    have nhi := nhi.next b
    have bl := bstep bl b
    clear b
    clear nj iA
    go_wp2_with fail
    refine (spoil_any _ _ _ B1 M1 nlo).mono ?_
    rintro e w12 ⟨rfl, sp⟩
    have rA := rA.spoilt sp (fun h => Or.inl (by have := unhide hAb h; omega))
    have tA := tA.spoilt sp (fun _ => Or.inl (by omega))
    have nhi := nhi.spoilt sp (by omega)
    have bl := below_spoilt bl sp (by omega) bl.size
    clear sp nlo
    go_wp2_with fail
    refine (spoil_any _ _ _ B2 M2 nhi).mono ?_
    rintro e w13 ⟨rfl, sp⟩
    have rA := rA.spoilt sp (fun h => Or.inl (by have := unhide hAb h; omega))
    have tA := tA.spoilt sp (fun _ => Or.inl (by omega))
    have bl := below_spoilt bl sp (by omega) bl.size
    clear sp nhi
    go_wp2_with fail
    refine (intact_any _ gA ggA bA oA cA nA usA (unhide HLA) (by omega) rA F (unhide HF) tA).mono ?_
    rintro e w14 ⟨rfl, b⟩
    have rA := rA.next b
    have tA := tA.next b
    have bl := bstep bl b
    clear b
    go_wp2_with fail
    refine (wakes_any _).mono ?_
    rintro e w15 ⟨rfl, b⟩
    have rA := rA.next b
    have tA := tA.next b
    have bl := bstep bl b
    clear b
    go_wp2
    go_ret
    exact ⟨rfl, bl⟩
  · skip
    have hk1 : (0 : Int) < (k : Int) := by omega
    clear hk0
    go_enter Try.func3, Try.ntmps3
    go_wp2_with fail
    refine (unhide CA _).mono ?_
    rintro e w1 ⟨rfl, rfl⟩
    clear CA
    go_wp2_with fail
    refine (lend_any _ gA bA oA cA nA usA (unhide HLA) (by omega) rA F (unhide HF)).mono ?_
    rintro e w2 ⟨rfl, oo, bb⟩
    obtain ⟨rrA, tA⟩ := lent_rep oo (unhide HLA)
    clear oo
    have rA := rA.next bb
    have bl := bstep bl bb
    clear bb
    obtain ⟨ggA, hgg⟩ : ∃ g, g = w1.heap.size := ⟨_, rfl⟩
    rw [← hgg] at rrA tA ⊢
    clear hgg
    have iA := lent_in rrA (unhide HLA) (by omega) dA A (unhide HEA)
    clear rrA
    obtain ⟨S1, hS1⟩ : ∃ S, S = w2.heap.size := ⟨_, rfl⟩
    have hbS : ggA < S1 := by rw [hS1]; exact tA.lt (by simp)
    have hAb : Hid (0 < usA.length → bA < S1) := fun h => by rw [hS1]; exact rA.lt h
    have hS0 : w1.heap.size ≤ S1 := by rw [hS1]; exact bl.size
    go_wp2_with fail
    refine (unhide CSp _ _ iA).mono ?_
    rintro e w3 ⟨lo, hi, B1, M1, B2, M2, rfl, nlo, nhi, hB1, hB2, hM1, hM2, hdis, b⟩
    rw [← hS1] at hB1 hB2
    obtain ⟨gl, ll, cl, rfl⟩ := nlo.form
    obtain ⟨gh, lh, ch, rfl⟩ := nhi.form
    have rA := rA.next b
    have tA := tA.next b
    have iA := iA.next b
    have bl := bstep bl b
    clear b hM1 hM2 hS1
    go_wp2_with fail
    refine (unhide CCo _).mono ?_
    rintro e w4 ⟨rfl, rfl⟩
    go_wp2_with fail
    refine (unhide CFA _ rA).mono ?_
    rintro e w5 ⟨v1, rfl, n1, b⟩
    have rA := rA.next b
    have tA := tA.next b
    have iA := iA.next b
    have nlo := nlo.next b
    have nhi := nhi.next b
    have bl := bstep bl b
    clear b
    go_wp2_with fail
    refine (unhide RL _ _ n1).mono ?_
    rintro e w6 ⟨v2, rfl, n2, b⟩
    have rA := rA.next b
    have tA := tA.next b
    have iA := iA.next b
    have nlo := nlo.next b
    have nhi := nhi.next b
    have n1 := n1.next b
    have bl := bstep bl b
    clear b
    go_wp2_with fail
    refine (same_new _ _ _ _ _ 50 (by omega) (unhide HLb) n2 nlo.toW).mono ?_
    rintro e w7 ⟨rfl, b⟩
    have rA := rA.next b
    have tA := tA.next b
    have iA := iA.next b
    have nlo := nlo.next b
    have nhi := nhi.next b
    have n1 := n1.next b
    have n2 := n2.next b
    have bl := bstep bl b
    clear b
    clear n1 n2
    go_wp2_with fail
    refine (unhide CFA _ rA).mono ?_
    rintro e w8 ⟨v1, rfl, n1, b⟩
    have rA := rA.next b
    have tA := tA.next b
    have iA := iA.next b
    have nlo := nlo.next b
    have nhi := nhi.next b
    have bl := bstep bl b
    clear b
    go_wp2_with fail
    refine (unhide RD _ _ n1).mono ?_
    rintro e w9 ⟨v2, rfl, n2, b⟩
    have rA := rA.next b
    have tA := tA.next b
    have iA := iA.next b
    have nlo := nlo.next b
    have nhi := nhi.next b
    have n1 := n1.next b
    have bl := bstep bl b
    clear b
    go_wp2_with fail
    refine (same_new _ _ _ _ _ 50 (by omega) (unhide HVb) n2 nhi.toW).mono ?_
    rintro e w10 ⟨rfl, b⟩
    have rA := rA.next b
    have tA := tA.next b
    have iA := iA.next b
    have nlo := nlo.next b
    have nhi := nhi.next b
    have n1 := n1.next b
    have n2 := n2.next b
    have bl := bstep bl b
    clear b
    clear n1 n2
    go_wp2_with fail
    refine (unhide CJ2 _ _ _ (nlo.toW.toIn (unhide HLb) (by omega)) (nhi.toW.toIn (unhide HVb) (by omega))).mono ?_
    rintro e w11 ⟨j, rfl, nj, b⟩
    have rA := rA.next b
    have tA := tA.next b
    have iA := iA.next b
    have nlo := nlo.next b
    have nhi := nhi.next b
    have bl := bstep bl b
    clear b
    go_wp2_with fail
    refine (cmp_w _ _ _ A A (nj.toIn (unhide HBA) (by omega)) iA).mono ?_
    rintro e w12 ⟨rfl, b⟩
    have rA := rA.next b
    have tA := tA.next b
    have iA := iA.next b
    have nlo := nlo.next b
    have nhi := nhi.next b
    have nj := nj.next b
    have bl := bstep bl b
    clear b
    rw [cmpN_eq rfl]
    clear nj iA
    go_wp2_with fail
    refine (spoil_any _ _ _ B1 M1 nlo).mono ?_
    rintro e w13 ⟨rfl, sp⟩
    have rA := rA.spoilt sp (fun h => Or.inl (by have := unhide hAb h; omega))
    have tA := tA.spoilt sp (fun _ => Or.inl (by omega))
    have nhi := nhi.spoilt sp (by omega)
    have bl := below_spoilt bl sp (by omega) bl.size
    clear sp nlo
    go_wp2_with fail
    refine (spoil_any _ _ _ B2 M2 nhi).mono ?_
    rintro e w14 ⟨rfl, sp⟩
    have rA := rA.spoilt sp (fun h => Or.inl (by have := unhide hAb h; omega))
    have tA := tA.spoilt sp (fun _ => Or.inl (by omega))
    have bl := below_spoilt bl sp (by omega) bl.size
    clear sp nhi
    go_wp2_with fail
    refine (intact_any _ gA ggA bA oA cA nA usA (unhide HLA) (by omega) rA F (unhide HF) tA).mono ?_
    rintro e w15 ⟨rfl, b⟩
    have rA := rA.next b
    have tA := tA.next b
    have bl := bstep bl b
    clear b
    go_wp2_with fail
    refine (wakes_any _).mono ?_
    rintro e w16 ⟨rfl, b⟩
    have rA := rA.next b
    have tA := tA.next b
    have bl := bstep bl b
    clear b
    go_wp2
    go_ret
    exact ⟨rfl, bl⟩

end Go.Proofs.Ytmfpgpkheaofeab
