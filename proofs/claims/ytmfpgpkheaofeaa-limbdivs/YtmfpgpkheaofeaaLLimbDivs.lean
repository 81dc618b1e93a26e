/- LimbDivs: what the law's walk comes to. -/
import Derived.Test.YtmfpgpkheaofeaaLawKit
import Derived.Test.YtmfpgpkheaofeaaLDiv
namespace Go.Proofs.Ytmfpgpkheaofeaa
open Go.RowKit

set_option maxRecDepth 100000 in
set_option maxHeartbeats 12800000 in
theorem limbDivs_any (gA : Option Addr) (bA oA cA lA : Nat) (xsA : List Nat) (w : World) (hxA : xsA.length = lA) (hRA : Rep w gA bA oA cA xsA) (wxA : ∀ j, xsA.getD j 0 < 18446744073709551616) (y : Nat) (hy : y < 18446744073709551616) :
    Calls Try.prog 8 #[.slice gA lA cA, .int .u64 (y : Int)] w fun e w' => e = .returned (.bool true) ∧ Below w.heap.size w w' := by
  obtain ⟨nA, hnA⟩ : ∃ n, n = min lA 40 := ⟨_, rfl⟩
  have CA : Hid (∀ w, Calls Try.prog 9 #[.slice gA lA cA, .int .i64 40] w fun e w' => e = .returned (.slice gA nA cA) ∧ w' = w) := fun w => cut_any w gA lA cA 40 nA (by have := hRA.room; omega) (by omega) hnA
  obtain ⟨hlA, rA⟩ := cut_rep hRA 40 nA (by rw [hxA]; exact hnA)
  have dA : WDig (xsA.take nA) := take_words wxA nA
  have hmA : nA ≤ 40 := by omega
  clear hnA hRA wxA hxA
  generalize xsA.take nA = usA at *
  obtain ⟨F, hF⟩ : ∃ F, F = 6148914691236517205 := ⟨_, rfl⟩
  have HF := hide hF
  clear hF
  obtain ⟨A, hA⟩ : ∃ V, V = wval usA := ⟨_, rfl⟩
  have hbA : A < 18446744073709551616 ^ 40 := by rw [hA]; exact pow_up (wval_lt_pow dA) (by omega)
  have HBA := hide hbA
  have HDA : Hid (A < 4294967296 ^ 80) := by have := hbA; rw [wpow] at this; exact this
  have CFA := hide (fun W (r : Rep W gA bA oA cA usA) => from_law W gA bA oA cA nA A usA hlA (by omega) r dA hA)
  have HLA := hide hlA
  have HEA := hide hA
  clear hA hbA hlA
  have bl := Below.refl w.heap.size w
  have CS := hide (fun w => small_any (y : Int) (by omega) (by omega) w)
  have hy1 : y < 18446744073709551616 ^ 1 := by omega
  have hy80 : Hid (y < 4294967296 ^ 80) := by have := pow_up hy1 (q := 40) (by omega); rw [wpow] at this; exact this
  clear hy1
  by_cases hy0 : y = 0
  · subst hy0
    go_enter Try.func8, Try.ntmps8
    go_wp2_with fail
    refine (unhide CA _).mono ?_
    rintro e w1 ⟨rfl, rfl⟩
    clear CA
    go_wp2_with fail
    refine (lend_any _ gA bA oA cA nA usA (unhide HLA) (by omega) rA F (unhide HF)).mono ?_
    rintro e w2 ⟨rfl, oo, bb⟩
    obtain ⟨rrA, tA⟩ := lent_rep oo (unhide HLA)
    clear oo
    have rA := rA.next bb
    have bl := bstep bl bb
    clear bb
    obtain ⟨ggA, hgg⟩ : ∃ g, g = w1.heap.size := ⟨_, rfl⟩
    rw [← hgg] at rrA tA ⊢
    clear hgg
    have iA := lent_in rrA (unhide HLA) (by omega) dA A (unhide HEA)
    clear rrA
    go_wp2_with fail
    refine (divWord_no _ _).mono ?_
    rintro e w3 ⟨rfl, rfl⟩
    go_wp2_with fail
    refine (wakes_any _).mono ?_
    rintro e w4 ⟨rfl, b⟩
    have rA := rA.next b
    have tA := tA.next b
    have iA := iA.next b
    have bl := bstep bl b
    clear b
    go_wp2
    go_ret
    exact ⟨rfl, bl⟩
  · have hpos : 0 < y := by omega
    have hyz : ((y : Int) == 0) = false := by rw [beq_eq_false_iff_ne]; omega
    obtain ⟨Q, hQ⟩ : ∃ Q, Q = A / y := ⟨_, rfl⟩
    obtain ⟨R, hR⟩ : ∃ R, R = A % y := ⟨_, rfl⟩
    have hRy : R < y := by rw [hR]; exact Nat.mod_lt _ hpos
    have HQb : Hid (Q < 18446744073709551616 ^ 40) := by show _ < _; rw [hQ]; exact Nat.lt_of_le_of_lt (Nat.div_le_self _ _) (unhide HBA)
    have HR80 : Hid (R < 4294967296 ^ 80) := Nat.lt_trans hRy (unhide hy80)
    have CR := hide (fun w => small_any (R : Int) (by omega) (by omega) w)
    have CD : Hid (∀ w u, InW w u A → Calls Try.prog 43 #[u, .int .u64 (y : Int)] w fun e w' => ∃ q, e = .returned (.tuple #[q, .int .u64 (R : Int), .int .i64 0]) ∧ NewW w.heap.size w' q Q ∧ Below w.heap.size w w') := fun w u h => by rw [hQ, hR]; exact divWord_w w u A y hpos hy h
    have CM : Hid (∀ w u v, IsN w u A → IsN w v y → Calls Try.prog 44 #[u, v] w fun e w' => ∃ q r, e = .returned (.tuple #[q, r]) ∧ IsN w' q Q ∧ IsN w' r R ∧ Below w.heap.size w w') := fun w u v h1 h2 => by rw [hQ, hR]; exact divmod_any w u v A y 80 (by omega) (unhide HDA) (unhide hy80) hpos h1 h2
    rw [Int.toNat_natCast] at CS CR
    clear hQ hR hy0 hpos hRy
    go_enter Try.func8, Try.ntmps8
    go_wp2_with fail
    refine (unhide CA _).mono ?_
    rintro e w1 ⟨rfl, rfl⟩
    clear CA
    go_wp2_with fail
    refine (lend_any _ gA bA oA cA nA usA (unhide HLA) (by omega) rA F (unhide HF)).mono ?_
    rintro e w2 ⟨rfl, oo, bb⟩
    obtain ⟨rrA, tA⟩ := lent_rep oo (unhide HLA)
    clear oo
    have rA := rA.next bb
    have bl := bstep bl bb
    clear bb
    obtain ⟨ggA, hgg⟩ : ∃ g, g = w1.heap.size := ⟨_, rfl⟩
    rw [← hgg] at rrA tA ⊢
    clear hgg
    have iA := lent_in rrA (unhide HLA) (by omega) dA A (unhide HEA)
    clear rrA
    go_wp2_with fail
    refine (unhide CD _ _ iA).mono ?_
    rintro e w3 ⟨q, rfl, nq, b⟩
    have rA := rA.next b
    have tA := tA.next b
    have iA := iA.next b
    have bl := bstep bl b
    clear b
    go_wp2_with fail
    refine (unhide CFA _ rA).mono ?_
    rintro e w4 ⟨v1, rfl, n1, b⟩
    have rA := rA.next b
    have tA := tA.next b
    have iA := iA.next b
    have nq := nq.next b
    have bl := bstep bl b
    clear b
    go_wp2_with fail
    refine (unhide CS _).mono ?_
    rintro e w5 ⟨v2, rfl, n2, b⟩
    have rA := rA.next b
    have tA := tA.next b
    have iA := iA.next b
    have nq := nq.next b
    have n1 := n1.next b
    have bl := bstep bl b
    clear b
    go_wp2_with fail
    refine (unhide CM _ _ _ n1 n2).mono ?_
    rintro e w6 ⟨v3, v4, rfl, n3, n4, b⟩
    have rA := rA.next b
    have tA := tA.next b
    have iA := iA.next b
    have nq := nq.next b
    have n1 := n1.next b
    have n2 := n2.next b
    have bl := bstep bl b
    clear b
    clear n1 n2
    go_wp2_with fail
    refine (same_new _ _ _ _ _ 40 (by omega) (unhide HQb) n3 nq).mono ?_
    rintro e w7 ⟨rfl, b⟩
    have rA := rA.next b
    have tA := tA.next b
    have iA := iA.next b
    have nq := nq.next b
    have n3 := n3.next b
    have n4 := n4.next b
    have bl := bstep bl b
    clear b
    go_wp2_with fail
    refine (unhide CR _).mono ?_
    rintro e w8 ⟨v5, rfl, n5, b⟩
    have rA := rA.next b
    have tA := tA.next b
    have iA := iA.next b
    have nq := nq.next b
    have n3 := n3.next b
    have n4 := n4.next b
    have bl := bstep bl b
    clear b
    go_wp2_with fail
    refine (cmp_any _ _ _ R R 80 (by omega) (unhide HR80) (unhide HR80) n4 n5).mono ?_
    rintro e w9 ⟨rfl, b⟩
    have rA := rA.next b
    have tA := tA.next b
    have iA := iA.next b
    have nq := nq.next b
    have n3 := n3.next b
    have n4 := n4.next b
    have n5 := n5.next b
    have bl := bstep bl b
    clear b
    rw [cmpN_eq rfl]
    go_wp2_with fail
    refine (intact_any _ gA ggA bA oA cA nA usA (unhide HLA) (by omega) rA F (unhide HF) tA).mono ?_
    rintro e w10 ⟨rfl, b⟩
    have rA := rA.next b
    have tA := tA.next b
    have iA := iA.next b
    have nq := nq.next b
    have n3 := n3.next b
    have n4 := n4.next b
    have n5 := n5.next b
    have bl := bstep bl b
    clear b
    go_wp2_with fail
    refine (wakes_any _).mono ?_
    rintro e w11 ⟨rfl, b⟩
    have rA := rA.next b
    have tA := tA.next b
    have iA := iA.next b
    have nq := nq.next b
    have n3 := n3.next b
    have n4 := n4.next b
    have n5 := n5.next b
    have bl := bstep bl b
    clear b
    go_wp2
    go_ret
    exact ⟨rfl, bl⟩

end Go.Proofs.Ytmfpgpkheaofeaa
