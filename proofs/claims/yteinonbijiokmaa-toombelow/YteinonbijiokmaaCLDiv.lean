/- DivWord of limb: by one word. -/
import Derived.Test.YteinonbijiokmaaM8
import Derived.Test.YteinonbijiokmaaCLawDivs
namespace Go.Proofs.Yteinonbijiokmaa
open Go.RowKit

set_option maxRecDepth 100000 in
set_option maxHeartbeats 1600000 in
theorem norm_blk (w : World) (u : Value) (m : Nat) (hu : InW w u m) :
    Calls Try.prog 70 #[u] w fun e w' => ∃ us, WCan us ∧ wval us = m ∧ us.length ≤ 1073741824 ∧ e = .returned (.slice (some ⟨w.heap.size, 0, none⟩) us.length us.length) ∧ Blk w' w.heap.size us ∧ Below w.heap.size w w' := by
  obtain ⟨ga, ba, oa, ca, us, rA, cA, vA, lA, CA⟩ := trim_in hu
  have CA := hide CA
  obtain ⟨la, hla⟩ : ∃ la, la = us.length := ⟨_, rfl⟩
  rw [← hla] at CA lA
  have HLA := hide hla
  clear hu hla
  go_enter Try.func70, Try.ntmps70
  go_wp2_with fail
  refine (unhide CA).mono ?_
  rintro e w1 ⟨rfl, rfl⟩
  clear CA
  go_wp2_with fail
  refine (copyOf_any _ ga ba oa ca la us (unhide HLA).symm (by omega) rA).mono ?_
  rintro e w3 ⟨rfl, k3, b3⟩
  go_wp2
  go_ret
  exact ⟨us, cA, vA, by rw [← unhide HLA]; exact lA, by rw [← unhide HLA]; exact ret_slice rfl, k3, b3⟩

/-- From place k on the words are divided; r is left. -/
def WDivAt (us zs : List Nat) (y k r : Nat) : Prop := zs.length = us.length ∧ WDig zs ∧ r < y ∧ (∀ j, j < k → zs.getD j 0 = us.getD j 0) ∧ wval (us.drop k) = wval (zs.drop k) * y + r

theorem drop_cons (xs : List Nat) (j : Nat) (h : j < xs.length) : xs.drop j = xs.getD j 0 :: xs.drop (j + 1) := by
  rw [List.drop_eq_getElem_cons h, getD_lt h]
theorem wdiv_start {us : List Nat} {y : Nat} (h : WDig us) (hy : 0 < y) : WDivAt us us y us.length 0 := ⟨rfl, h, hy, fun _ _ => rfl, by simp [wval]⟩
theorem wdiv_step {us zs : List Nat} {y j r c Q R : Nat} (h : WDivAt us zs y (j + 1) r) (hj : j < us.length) (hy : y < 18446744073709551616) (hc : c = zs.getD j 0) (hQ : Q = (18446744073709551616 * r + c) / y) (hR : R = (18446744073709551616 * r + c) % y) :
    WDivAt us (zs.set j Q) y j R ∧ Q < 18446744073709551616 := by
  obtain ⟨h1, h2, h3, h4, h5⟩ := h
  have hc64 : c < 18446744073709551616 := by rw [hc]; exact h2 j
  have hQ64 : Q < 18446744073709551616 := by
    rw [hQ, Nat.div_lt_iff_lt_mul (by omega)]
    have : 18446744073709551616 * (r + 1) ≤ 18446744073709551616 * y := Nat.mul_le_mul_left _ h3
    omega
  refine ⟨⟨by simpa using h1, wDig_set h2 (by omega) hQ64, by rw [hR]; exact Nat.mod_lt _ (by omega), fun i hi => ?_, ?_⟩, hQ64⟩
  · rw [getD_set _ _ _ _ (by omega), if_neg (by omega)]
    exact h4 i (by omega)
  · have e1 : (zs.set j Q).drop j = Q :: zs.drop (j + 1) := by
      rw [drop_cons _ j (by simpa using (by omega : j < zs.length)), getD_set _ _ _ _ (by omega), if_pos rfl]
      congr 1
      rw [List.drop_set, if_pos (by omega)]
    have e2 : us.drop j = c :: us.drop (j + 1) := by rw [drop_cons us j hj, hc, h4 j (by omega)]
    have e3 : Q * y + R = 18446744073709551616 * r + c := by rw [hQ, hR]; exact Nat.div_add_mod' _ _
    rw [e1, e2]
    simp only [wval]
    rw [h5, Nat.add_mul, Nat.mul_assoc]
    generalize wval (zs.drop (j + 1)) * y = T at *
    generalize Q * y = U at *
    omega
theorem wdiv_end {us zs : List Nat} {y r : Nat} (h : WDivAt us zs y 0 r) : wval zs = wval us / y ∧ r = wval us % y := by
  obtain ⟨_, _, h3, _, h5⟩ := h
  rw [List.drop_zero, List.drop_zero] at h5
  rw [h5, Nat.mul_comm]
  constructor
  · rw [Nat.mul_add_div (by omega), Nat.div_eq_of_lt h3, Nat.add_zero]
  · rw [Nat.mul_add_mod, Nat.mod_eq_of_lt h3]

set_option maxHeartbeats 800000 in
theorem divWord_no (w : World) (u : Value) : Calls Try.prog 50 #[u, .int .u64 0] w fun e w' => e = .returned (.tuple #[.slice none 0 0, .int .u64 0, .int .i64 2]) ∧ w' = w := by
  go_enter Try.func50, Try.ntmps50
  go_wp2
  go_ret3
  exact ⟨rfl, rfl⟩

set_option maxRecDepth 100000 in
set_option maxHeartbeats 3200000 in
theorem divWord_w (w : World) (u : Value) (m y : Nat) (hy0 : 0 < y) (hy : y < 18446744073709551616) (hu : InW w u m) :
    Calls Try.prog 50 #[u, .int .u64 (y : Int)] w fun e w' => ∃ q, e = .returned (.tuple #[q, .int .u64 ((m % y : Nat) : Int), .int .i64 0]) ∧ NewW w.heap.size w' q (m / y) ∧ Below w.heap.size w w' := by
  obtain ⟨R, hR⟩ : ∃ R, R = m % y := ⟨_, rfl⟩
  obtain ⟨Q, hQ⟩ : ∃ Q, Q = m / y := ⟨_, rfl⟩
  rw [← hR, ← hQ]
  have HR := hide hR
  have HQ := hide hQ
  have hyz : ((y : Int) == 0) = false := by rw [beq_eq_false_iff_ne]; omega
  clear hR hQ
  go_enter Try.func50, Try.ntmps50
  go_wp2_with fail
  refine (norm_blk _ _ m hu).mono ?_
  rintro e w1 ⟨us, cU, vU, lU, rfl, k1, b1⟩
  obtain ⟨la, hla⟩ : ∃ la, la = us.length := ⟨_, rfl⟩
  rw [← hla] at lU ⊢
  have HLA := hide hla
  have HVU := hide vU
  clear hla hu vU
  go_wp2
  go_loopw [8, 9] (fun rv i wr => ∃ (k r : Nat) (zs : List Nat), k ≤ la ∧ rv = .int .u64 (r : Int) ∧ i = .int .i64 ((k : Int) - 1) ∧ zs.length = la ∧ r < y ∧ Blk wr w.heap.size zs ∧ Hid (WDivAt us zs y k r) ∧ Below w.heap.size w wr)
    (fun _ i _ => (intOf i + 1).toNat)
  case atStart => exact ⟨la, 0, us, Nat.le_refl _, rfl, rfl, (unhide HLA).symm, hy0, k1, by rw [unhide HLA]; exact wdiv_start cU.1 hy0, b1⟩
  case round =>
    obtain ⟨k, r, zs, hk, rfl, rfl, hzl, hr, hBlk, hAt, hnx⟩ := hrel
    by_cases h0 : k = 0
    · subst h0
      obtain ⟨e1, e2⟩ := wdiv_end hAt.out
      rw [unhide HVU] at e1 e2
      have hq : wval zs = Q := by rw [unhide HQ]; exact e1
      have hr2 : (r : Int) = (R : Int) := by rw [unhide HR, e2]
      have hd := hAt.out.2.1
      have HQ2 := hide hq
      have HR2 := hide hr2
      clear e1 e2 hq hr2 hAt
      go_wp2_with fail
      refine (trim_blk (B := w.heap.size) hzl (by omega) (Nat.le_refl _) hBlk hd).mono ?_
      rintro e w6 ⟨q, rfl, hq, rfl⟩
      rw [unhide HQ2] at hq
      go_wp2
      go_ret3
      exact ⟨q, by rw [← unhide HR2]; rfl, hq, hnx⟩
    · obtain ⟨j, rfl⟩ : ∃ j, k = j + 1 := ⟨k - 1, by omega⟩
      have ej : ((j + 1 : Nat) : Int) - 1 = (j : Int) := by omega
      rw [ej]
      obtain ⟨c, hc⟩ : ∃ c : Nat, c = zs.getD j 0 := ⟨_, rfl⟩
      have cr : wr.cell? ⟨w.heap.size, j, none⟩ = some (.int .u64 (c : Int)) := by rw [hc]; exact hBlk.cell j (by omega)
      have hc64 : c < 18446744073709551616 := by rw [hc]; exact hAt.out.2.1 j
      obtain ⟨Qd, hQd⟩ : ∃ Qd, Qd = (18446744073709551616 * r + c) / y := ⟨_, rfl⟩
      obtain ⟨Rd, hRd⟩ : ∃ Rd, Rd = (18446744073709551616 * r + c) % y := ⟨_, rfl⟩
      obtain ⟨H2, hq64⟩ := wdiv_step hAt.out (by rw [← unhide HLA]; omega) hy hc hQd hRd
      have hR2 := H2.2.2.1
      have H2 := hide H2
      have CD := hide (fun w => word_div r c y Qd Rd w hr hc64 hy hQd hRd)
      clear hc hQd hRd hAt
      go_wp2_with fail
      refine (unhide CD _).mono ?_
      rintro e w5 ⟨rfl, b5⟩
      have cr := hBlk.next b5
      have cr2 := cr.cell j (by omega)
      have fr := cr.frozen j
      have hnx := hnx.trans (b5.mono hnx.size)
      clear b5
      go_wp2
      exact ⟨⟨j, Rd, zs.set j Qd, by omega, rfl, by go_num, by simpa using hzl, hR2, cr.set j Qd, H2, hnx.setCell (Nat.le_refl _) _⟩, by simp [intOf]⟩

end Go.Proofs.Yteinonbijiokmaa
