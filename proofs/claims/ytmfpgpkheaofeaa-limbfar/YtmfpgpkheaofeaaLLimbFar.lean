/- LimbFar: what the law's walk comes to. -/
import Derived.Test.YtmfpgpkheaofeaaLawKit
import Derived.Test.YtmfpgpkheaofeaaLLow
import Derived.Test.YtmfpgpkheaofeaaFar
namespace Go.Proofs.Ytmfpgpkheaofeaa
open Go.RowKit

theorem new_zero {B : Nat} {w : World} {v : Value} (h : NewW B w v 0) : ∃ ga cap, v = .slice ga 0 cap := by
  obtain ⟨ga, b, cap, xs, rfl, hr, hx, hv, _⟩ := h.rep
  have := (wval_zero hx).2 hv
  exact ⟨ga, cap, by rw [this]⟩

set_option maxRecDepth 100000 in
set_option maxHeartbeats 12800000 in
theorem limbFar_any (gA : Option Addr) (bA oA cA lA : Nat) (xsA : List Nat) (w : World) (hxA : xsA.length = lA) (hRA : Rep w gA bA oA cA xsA) (wxA : ∀ j, xsA.getD j 0 < 18446744073709551616) (z : Int) (hz2 : z ≤ 9223372036854775807) :
    Calls Try.prog 6 #[.slice gA lA cA, .int .i64 z] w fun e w' => e = .returned (.bool true) ∧ Below w.heap.size w w' := by
  obtain ⟨nA, hnA⟩ : ∃ n, n = min lA 3 := ⟨_, rfl⟩
  have CA : Hid (∀ w, Calls Try.prog 9 #[.slice gA lA cA, .int .i64 3] w fun e w' => e = .returned (.slice gA nA cA) ∧ w' = w) := fun w => cut_any w gA lA cA 3 nA (by have := hRA.room; omega) (by omega) hnA
  obtain ⟨hlA, rA⟩ := cut_rep hRA 3 nA (by rw [hxA]; exact hnA)
  have dA : WDig (xsA.take nA) := take_words wxA nA
  have hmA : nA ≤ 3 := by omega
  clear hnA hRA wxA hxA
  generalize xsA.take nA = usA at *
  obtain ⟨F, hF⟩ : ∃ F, F = 6148914691236517205 := ⟨_, rfl⟩
  have HF := hide hF
  clear hF
  obtain ⟨A, hA⟩ : ∃ V, V = wval usA := ⟨_, rfl⟩
  have hbA : A < 18446744073709551616 ^ 3 := by rw [hA]; exact pow_up (wval_lt_pow dA) (by omega)
  have HBA := hide hbA
  have HDA : Hid (A < 4294967296 ^ 6) := by have := hbA; rw [wpow] at this; exact this
  have CFA := hide (fun W (r : Rep W gA bA oA cA usA) => from_law W gA bA oA cA nA A usA hlA (by omega) r dA hA)
  have HLA := hide hlA
  have HEA := hide hA
  clear hA hbA hlA
  have bl := Below.refl w.heap.size w
  have hin : ∀ W, Rep W gA bA oA cA usA → InW W (.slice gA nA cA) A := fun W r => ⟨_, _, _, _, usA, by rw [unhide HLA], r, dA, (unhide HEA).symm, by rw [unhide HLA]; omega⟩
  have HIN := hide hin
  clear hin
  by_cases hz : z ≤ 1048576
  · skip
    go_enter Try.func6, Try.ntmps6
    go_wp2_with fail
    refine (unhide CA _).mono ?_
    rintro e w1 ⟨rfl, rfl⟩
    clear CA
    go_wp2_with fail
    refine (wakes_any _).mono ?_
    rintro e w2 ⟨rfl, b⟩
    have rA := rA.next b
    have bl := bstep bl b
    clear b
    go_wp2
    go_ret
    exact ⟨rfl, bl⟩
  · skip
    obtain ⟨k, hk⟩ : ∃ k : Nat, k = 1048576 := ⟨_, rfl⟩
    have hkz : (k : Int) = min (max z 0) 1048576 := by omega
    have CU := hide (fun w u => shl_w w u z A k hkz)
    have CDn := hide (fun w u m => shr_w w u z m k hkz)
    have CLo := hide (fun w u => low_w w u z A k hkz)
    obtain ⟨q, hq⟩ : ∃ q : Nat, q = 16384 := ⟨_, rfl⟩
    have hYb : A * 2 ^ k < 18446744073709551616 ^ (3 + q) := shl_bound (q := q) (unhide HBA) (by omega)
    have hq30 : 3 + q ≤ 1073741824 := by omega
    have HQ30 := hide hq30
    clear hq hq30
    have hAk : A < 2 ^ k := by
      have h1 : 18446744073709551616 ^ 3 ≤ 2 ^ k := by rw [show (18446744073709551616 : Nat) ^ 3 = 2 ^ 192 from by decide]; exact Nat.pow_le_pow_right (by omega) (by omega)
      exact Nat.lt_of_lt_of_le (unhide HBA) h1
    have eV : A / 2 ^ k = 0 := Nat.div_eq_of_lt hAk
    have eL : A % 2 ^ k = A := Nat.mod_eq_of_lt hAk
    have eY : A * 2 ^ k / 2 ^ k = A := Nat.mul_div_cancel _ (Nat.pow_pos (by omega))
    have HEV := hide eV
    have HEY := hide eY
    have HYb := hide hYb
    rw [eL] at CLo
    have HKE := hide hk
    clear hYb hAk eV eL eY hkz
    by_cases hA0 : A = 0
    · skip
      have HA0 := hide hA0
      clear hA0 hk
      go_enter Try.func6, Try.ntmps6
      go_wp2_with fail
      refine (unhide CA _).mono ?_
      rintro e w1 ⟨rfl, rfl⟩
      clear CA
      have iA := unhide HIN _ rA
      go_wp2_with fail
      refine (unhide CU _ _ iA).mono ?_
      rintro e w2 ⟨y, rfl, ny, b⟩
      have rA := rA.next b
      have iA := iA.next b
      have bl := bstep bl b
      clear b
      rw [unhide HA0, Nat.zero_mul] at ny
      obtain ⟨gy, cy, rfl⟩ := new_zero ny
      go_wp2_with fail
      refine (zero_in iA true (by simp [unhide HA0])).mono ?_
      rintro e w3 ⟨rfl, rfl⟩
      go_wp2_with fail
      refine (unhide CDn _ _ A iA).mono ?_
      rintro e w4 ⟨v, rfl, nv, b⟩
      have rA := rA.next b
      have iA := iA.next b
      have ny := ny.next b
      have bl := bstep bl b
      clear b
      rw [unhide HEV] at nv
      obtain ⟨gv, cv, rfl⟩ := new_zero nv
      go_wp2_with fail
      refine (wakes_any _).mono ?_
      rintro e w5 ⟨rfl, b⟩
      have rA := rA.next b
      have iA := iA.next b
      have ny := ny.next b
      have nv := nv.next b
      have bl := bstep bl b
      clear b
      go_wp2
      go_ret
      exact ⟨rfl, bl⟩
    · skip
      have CZ := hide (fun W (i : InW W (.slice gA nA cA) A) => zero_in i false (by simp [hA0]))
      have HApos : Hid (0 < A) := by show 0 < A; omega
      clear hA0 hk
      go_enter Try.func6, Try.ntmps6
      go_wp2_with fail
      refine (unhide CA _).mono ?_
      rintro e w1 ⟨rfl, rfl⟩
      clear CA
      have iA := unhide HIN _ rA
      go_wp2_with fail
      refine (unhide CU _ _ iA).mono ?_
      rintro e w2 ⟨y, rfl, ny, b⟩
      have rA := rA.next b
      have iA := iA.next b
      have bl := bstep bl b
      clear b
      go_wp2_with fail
      refine (unhide CZ _ iA).mono ?_
      rintro e w3 ⟨rfl, rfl⟩
      have iY := ny.toIn (unhide HYb) (unhide HQ30)
      obtain ⟨Ly, hLy, bY, CBY⟩ := natBits_in iY
      obtain ⟨Lx, hLx, bX, CBX⟩ := natBits_in iA
      have hL : Ly = Lx + k := hasBits_unique bY (hasBits_shl bX (unhide HApos))
      have hLe : ((Ly : Int) == (Lx : Int) + 1048576) = true := by rw [beq_iff_eq, hL, unhide HKE]; omega
      have CBX := hide CBX
      have CBY := hide CBY
      clear hL bX bY
      go_wp2_with fail
      refine (unhide CBY).mono ?_
      rintro e w4 ⟨rfl, rfl⟩
      go_wp2_with fail
      refine (unhide CBX).mono ?_
      rintro e w5 ⟨rfl, rfl⟩
      clear CBX CBY
      go_wp2_with fail
      refine (unhide CDn _ _ (A * 2 ^ k) iY).mono ?_
      rintro e w6 ⟨v1, rfl, n1, b⟩
      have rA := rA.next b
      have iA := iA.next b
      have ny := ny.next b
      have iY := iY.next b
      have bl := bstep bl b
      clear b
      rw [unhide HEY] at n1
      go_wp2_with fail
      refine (norm_w _ _ A iA).mono ?_
      rintro e w7 ⟨v2, rfl, n2, b⟩
      have rA := rA.next b
      have iA := iA.next b
      have ny := ny.next b
      have iY := iY.next b
      have n1 := n1.next b
      have bl := bstep bl b
      clear b
      go_wp2_with fail
      refine (cmp_w _ _ _ A A (n1.toIn (unhide HBA) (by omega)) (n2.toIn (unhide HBA) (by omega))).mono ?_
      rintro e w8 ⟨rfl, b⟩
      have rA := rA.next b
      have iA := iA.next b
      have ny := ny.next b
      have iY := iY.next b
      have n1 := n1.next b
      have n2 := n2.next b
      have bl := bstep bl b
      clear b
      rw [cmpN_eq rfl]
      clear n1 n2
      go_wp2_with fail
      refine (unhide CDn _ _ A iA).mono ?_
      rintro e w9 ⟨v3, rfl, n3, b⟩
      have rA := rA.next b
      have iA := iA.next b
      have ny := ny.next b
      have iY := iY.next b
      have bl := bstep bl b
      clear b
      rw [unhide HEV] at n3
      obtain ⟨g3, c3, rfl⟩ := new_zero n3
      go_wp2_with fail
      refine (unhide CLo _ _ iA).mono ?_
      rintro e w10 ⟨v4, rfl, n4, b⟩
      have rA := rA.next b
      have iA := iA.next b
      have ny := ny.next b
      have iY := iY.next b
      have n3 := n3.next b
      have bl := bstep bl b
      clear b
      go_wp2_with fail
      refine (cmp_w _ _ _ A A (n4.toIn (unhide HBA) (by omega)) iA).mono ?_
      rintro e w11 ⟨rfl, b⟩
      have rA := rA.next b
      have iA := iA.next b
      have ny := ny.next b
      have iY := iY.next b
      have n3 := n3.next b
      have n4 := n4.next b
      have bl := bstep bl b
      clear b
      rw [cmpN_eq rfl]
      go_wp2_with fail
      refine (wakes_any _).mono ?_
      rintro e w12 ⟨rfl, b⟩
      have rA := rA.next b
      have iA := iA.next b
      have ny := ny.next b
      have iY := iY.next b
      have n3 := n3.next b
      have n4 := n4.next b
      have bl := bstep bl b
      clear b
      go_wp2
      go_ret
      exact ⟨rfl, bl⟩

end Go.Proofs.Ytmfpgpkheaofeaa
