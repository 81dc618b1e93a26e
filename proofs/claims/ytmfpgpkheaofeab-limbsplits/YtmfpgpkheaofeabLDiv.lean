/- DivWord of limb: by one word. -/
import Derived.Test.YtmfpgpkheaofeabLAdd
import Derived.Test.YtmfpgpkheaofeabLawDivs
namespace Go.Proofs.Ytmfpgpkheaofeab
open Go.RowKit

set_option maxRecDepth 100000 in
set_option maxHeartbeats 1600000 in
theorem norm_blk (w : World) (u : Value) (m : Nat) (hu : InW w u m) :
    Calls Try.prog 33 #[u] w fun e w' => ∃ us, WCan us ∧ wval us = m ∧ us.length ≤ 1073741824 ∧ e = .returned (.slice (some ⟨w.heap.size, 0, none⟩) us.length us.length) ∧ Blk w' w.heap.size us ∧ Below w.heap.size w w' := by
  obtain ⟨ga, ba, oa, ca, us, rA, cA, vA, lA, CA⟩ := trim_in hu
  have CA := hide CA
  obtain ⟨la, hla⟩ : ∃ la, la = us.length := ⟨_, rfl⟩
  rw [← hla] at CA lA
  have HLA := hide hla
  clear hu hla
  go_enter Try.func33, Try.ntmps33
  go_wp2_with fail
  refine (unhide CA).mono ?_
  rintro e w1 ⟨rfl, rfl⟩
  clear CA
  go_wp2_with fail
  refine (copyOf_any _ ga ba oa ca la us (unhide HLA).symm (by omega) rA).mono ?_
  rintro e w3 ⟨rfl, k3, b3⟩
  go_wp2
  go_ret
  exact ⟨us, cA, vA, by rw [← unhide HLA]; exact lA, by rw [← unhide HLA]; exact ret_slice rfl, k3, b3⟩

/-- From place k on the words are divided; r is left. -/
def WDivAt (us zs : List Nat) (y k r : Nat) : Prop := zs.length = us.length ∧ WDig zs ∧ r < y ∧ (∀ j, j < k → zs.getD j 0 = us.getD j 0) ∧ wval (us.drop k) = wval (zs.drop k) * y + r

theorem drop_cons (xs : List Nat) (j : Nat) (h : j < xs.length) : xs.drop j = xs.getD j 0 :: xs.drop (j + 1) := by
  rw [List.drop_eq_getElem_cons h, getD_lt h]
theorem wdiv_start {us : List Nat} {y : Nat} (h : WDig us) (hy : 0 < y) : WDivAt us us y us.length 0 := ⟨rfl, h, hy, fun _ _ => rfl, by simp [wval]⟩
theorem wdiv_step {us zs : List Nat} {y j r c Q R : Nat} (h : WDivAt us zs y (j + 1) r) (hj : j < us.length) (hy : y < 18446744073709551616) (hc : c = zs.getD j 0) (hQ : Q = (18446744073709551616 * r + c) / y) (hR : R = (18446744073709551616 * r + c) % y) :
    WDivAt us (zs.set j Q) y j R ∧ Q < 18446744073709551616 := by
  obtain ⟨h1, h2, h3, h4, h5⟩ := h
  have hc64 : c < 18446744073709551616 := by rw [hc]; exact h2 j
  have hQ64 : Q < 18446744073709551616 := by
    rw [hQ, Nat.div_lt_iff_lt_mul (by omega)]
    have : 18446744073709551616 * (r + 1) ≤ 18446744073709551616 * y := Nat.mul_le_mul_left _ h3
    omega
  refine ⟨⟨by simpa using h1, wDig_set h2 (by omega) hQ64, by rw [hR]; exact Nat.mod_lt _ (by omega), fun i hi => ?_, ?_⟩, hQ64⟩
  · rw [getD_set _ _ _ _ (by omega), if_neg (by omega)]
    exact h4 i (by omega)
  · have e1 : (zs.set j Q).drop j = Q :: zs.drop (j + 1) := by
      rw [drop_cons _ j (by simpa using (by omega : j < zs.length)), getD_set _ _ _ _ (by omega), if_pos rfl]
      congr 1
      rw [List.drop_set, if_pos (by omega)]
    have e2 : us.drop j = c :: us.drop (j + 1) := by rw [drop_cons us j hj, hc, h4 j (by omega)]
    have e3 : Q * y + R = 18446744073709551616 * r + c := by rw [hQ, hR]; exact Nat.div_add_mod' _ _
    rw [e1, e2]
    simp only [wval]
    rw [h5, Nat.add_mul, Nat.mul_assoc]
    generalize wval (zs.drop (j + 1)) * y = T at *
    generalize Q * y = U at *
    omega
theorem wdiv_end {us zs : List Nat} {y r : Nat} (h : WDivAt us zs y 0 r) : wval zs = wval us / y ∧ r = wval us % y := by
  obtain ⟨_, _, h3, _, h5⟩ := h
  rw [List.drop_zero, List.drop_zero] at h5
  rw [h5, Nat.mul_comm]
  constructor
  · rw [Nat.mul_add_div (by omega), Nat.div_eq_of_lt h3, Nat.add_zero]
  · rw [Nat.mul_add_mod, Nat.mod_eq_of_lt h3]

end Go.Proofs.Ytmfpgpkheaofeab
