/- WordThrees: what the law's walk comes to. -/
import Derived.Test.YtahmnjpnokhbpabInv2W
import Derived.Test.YtahmnjpnokhbpabLawDivs
namespace Go.Proofs.Ytahmnjpnokhbpab
open Go.RowKit

theorem cmpN_ge' {m n : Nat} (h : ¬ m < n) : ¬ cmpN m n < 0 := by unfold cmpN; rw [if_neg h]; split <;> omega

set_option maxRecDepth 100000 in
set_option maxHeartbeats 3200000 in
theorem wordThrees_any (a2 a1 a0 d1 d0 : Nat) (w : World) (ha2 : a2 < 18446744073709551616) (ha1 : a1 < 18446744073709551616) (ha0 : a0 < 18446744073709551616) (hd1 : d1 < 18446744073709551616) (hd0 : d0 < 18446744073709551616) :
    Calls Try.prog 8 #[.int .u64 (a2 : Int), .int .u64 (a1 : Int), .int .u64 (a0 : Int), .int .u64 (d1 : Int), .int .u64 (d0 : Int)] w fun e w' => e = .returned (.bool true) ∧ Below w.heap.size w w' := by
  by_cases h : d1 < 9223372036854775808
  · have h' : (d1 : Int) < 9223372036854775808 := by omega
    have C2 : Hid (∀ w, Calls Try.prog 22 #[.int .u64 (a2 : Int), .int .u64 (a1 : Int), .int .u64 (a0 : Int), .int .u64 (d1 : Int), .int .u64 (d0 : Int), .int .u64 0] w fun e w' => e = .returned (.tuple #[.int .u64 0, .int .u64 0, .int .u64 0, .bool false]) ∧ w' = w) := fun w => word_div3_no a2 a1 a0 d1 d0 0 w (Or.inl h)
    go_enter Try.func8, Try.ntmps8
    go_wp2_with fail
    refine (word_Inverse2_no d1 d0 _ h).mono ?_
    rintro e w1 ⟨rfl, rfl⟩
    go_wp2_with fail
    refine (unhide C2 _).mono ?_
    rintro e w2 ⟨rfl, rfl⟩
    go_wp2_with fail
    refine (wakes_any _).mono ?_
    rintro e w3 ⟨rfl, b3⟩
    go_wp2
    go_ret
    exact ⟨rfl, b3⟩
  · have h63 : 9223372036854775808 ≤ d1 := by omega
    obtain ⟨D, hD⟩ : ∃ D, D = d1 * 18446744073709551616 + d0 := ⟨_, rfl⟩
    have hD' : 18446744073709551616 * d1 + d0 = D := by omega
    have hDlo : 170141183460469231731687303715884105728 ≤ D := by omega
    have hDhi : D < 340282366920938463463374607431768211456 := by omega
    obtain ⟨hv64, hve, _⟩ := inv2_facts D hDlo hDhi
    obtain ⟨v, hv⟩ : ∃ v, v = inv2 D := ⟨_, rfl⟩
    rw [← hv] at hv64 hve
    have C1 := hide (fun w => word_Inverse2 d1 d0 D v w h63 hd1 hd0 hD hv)
    have HE : Hid ((18446744073709551616 * (18446744073709551616 * 18446744073709551615 + 18446744073709551615) + 18446744073709551615) / D = 18446744073709551616 + v) := by
      show _ = _
      rw [show 18446744073709551616 * (18446744073709551616 * 18446744073709551615 + 18446744073709551615) + 18446744073709551615 = 340282366920938463463374607431768211456 * 18446744073709551616 - 1 from by omega, hve]
      omega
    have HD' := hide hD'
    have hpos : 0 < D := by omega
    have hD4 : D < 4294967296 ^ 6 := by omega
    clear hve hD'
    obtain ⟨A, hA⟩ : ∃ A, A = 18446744073709551616 * a2 + a1 := ⟨_, rfl⟩
    have hA4 : A < 4294967296 ^ 6 := by omega
    by_cases hlt : A < D
    · obtain ⟨N, hN⟩ : ∃ N, N = a2 * 340282366920938463463374607431768211456 + a1 * 18446744073709551616 + a0 := ⟨_, rfl⟩
      have hN' : 18446744073709551616 * (18446744073709551616 * a2 + a1) + a0 = N := by omega
      have hN6 : N < 4294967296 ^ 6 := by omega
      obtain ⟨Q, hQ⟩ : ∃ Q, Q = N / D := ⟨_, rfl⟩
      obtain ⟨R, hR⟩ : ∃ R, R = N % D := ⟨_, rfl⟩
      have hRD : R < D := by rw [hR]; exact Nat.mod_lt _ hpos
      have hRb : R < 340282366920938463463374607431768211456 := by omega
      have hQ64 : Q < 18446744073709551616 := by
        rw [hQ, Nat.div_lt_iff_lt_mul hpos]; omega
      have C2 := hide (fun w => word_div3 a2 a1 a0 d1 d0 v D N Q R w h63 hd1 hd0 hD (by omega) ha1 ha0 hv hN hQ hR)
      have hr1 := pair_lt hRb
      have hr0 : R % 18446744073709551616 < 18446744073709551616 := Nat.mod_lt _ (by omega)
      have hrr : 18446744073709551616 * (R / 18446744073709551616) + R % 18446744073709551616 = R := Nat.div_add_mod _ _
      have hR6 : R < 4294967296 ^ 6 := by omega
      have hcv := hide (cmpN_lt hlt)
      have hb' : decide ((d1 : Int) < 9223372036854775808) = false := by simp; omega
      generalize R / 18446744073709551616 = r1 at *
      generalize R % 18446744073709551616 = r0 at *
      have HRR := hide hrr
      have HQ := hide hQ
      have HR := hide hR
      have HN := hide hN'
      have HA := hide hA
      clear hv hQ hR hN hN' hrr hA h h63 hD hDlo hlt
      go_enter Try.func8, Try.ntmps8
      go_wp2_with fail
      refine (unhide C1 _).mono ?_
      rintro e w1 ⟨rfl, b1⟩
      go_wp2_with fail
      refine (two_any (d1 : Int) (d0 : Int) (by omega) (by omega) (by omega) (by omega) _).mono ?_
      rintro e w2 ⟨vd, rfl, nd, b2⟩
      rw [Int.toNat_natCast, Int.toNat_natCast, unhide HD'] at nd
      go_wp2_with fail
      refine (three_any 18446744073709551615 18446744073709551615 18446744073709551615 (by omega) (by omega) (by omega) (by omega) (by omega) (by omega) _).mono ?_
      rintro e w3 ⟨v3, rfl, n3, b3⟩
      have nd := nd.next b3
      go_wp2_with fail
      refine (divmod_any _ v3 vd (18446744073709551616 * (18446744073709551616 * 18446744073709551615 + 18446744073709551615) + 18446744073709551615) D 6 (by omega) (by omega) hD4 hpos n3 nd).mono ?_
      rintro e w4 ⟨vq, vr, rfl, nq, nr, b4⟩
      rw [unhide HE] at nq
      have nd := nd.next b4
      clear n3 nr
      go_wp2_with fail
      refine (two_any 1 (v : Int) (by omega) (by omega) (by omega) (by omega) _).mono ?_
      rintro e w5 ⟨v5, rfl, n5, b5⟩
      have n5' : IsN w5 v5 (18446744073709551616 + v) := n5
      clear n5
      go_wp2_with fail
      refine (cmp_any _ vq v5 _ _ 6 (by omega) (by omega) (by omega) (nq.next b5) n5').mono ?_
      rintro e w6 ⟨rfl, b6⟩
      rw [cmpN_eq rfl]
      have nd := (nd.next b5).next b6
      clear nq n5'
      go_wp2_with fail
      refine (unhide C2 _).mono ?_
      rintro e w7 ⟨rfl, rfl⟩
      go_wp2_with fail
      refine (two_any (a2 : Int) (a1 : Int) (by omega) (by omega) (by omega) (by omega) _).mono ?_
      rintro e w8 ⟨v8, rfl, n8, b8⟩
      rw [Int.toNat_natCast, Int.toNat_natCast, ← unhide HA] at n8
      have nd := nd.next b8
      go_wp2_with fail
      refine (cmp_any _ v8 vd A D 6 (by omega) hA4 hD4 n8 nd).mono ?_
      rintro e w9 ⟨rfl, b9⟩
      rw [unhide hcv]
      have nd := nd.next b9
      clear n8
      go_wp2_with fail
      refine (three_any (a2 : Int) (a1 : Int) (a0 : Int) (by omega) (by omega) (by omega) (by omega) (by omega) (by omega) _).mono ?_
      rintro e wa ⟨va, rfl, na, ba⟩
      rw [Int.toNat_natCast, Int.toNat_natCast, Int.toNat_natCast, unhide HN] at na
      go_wp2_with fail
      refine (divmod_any _ va vd N D 6 (by omega) hN6 hD4 hpos na (nd.next ba)).mono ?_
      rintro e wb ⟨vy, vz, rfl, ny, nz, bb⟩
      rw [← unhide HQ] at ny
      rw [← unhide HR] at nz
      clear na nd
      go_wp2_with fail
      refine (small_any (Q : Int) (by omega) (by omega) _).mono ?_
      rintro e wc ⟨vc, rfl, nc, bc⟩
      rw [Int.toNat_natCast] at nc
      go_wp2_with fail
      refine (cmp_any _ vy vc Q Q 6 (by omega) (by omega) (by omega) (ny.next bc) nc).mono ?_
      rintro e wd ⟨rfl, bd⟩
      rw [cmpN_eq rfl]
      clear ny nc
      go_wp2_with fail
      refine (two_any (r1 : Int) (r0 : Int) (by omega) (by omega) (by omega) (by omega) _).mono ?_
      rintro e we ⟨ve, rfl, ne, be⟩
      rw [Int.toNat_natCast, Int.toNat_natCast, unhide HRR] at ne
      go_wp2_with fail
      refine (cmp_any _ vz ve R R 6 (by omega) hR6 hR6 (((nz.next bc).next bd).next be) ne).mono ?_
      rintro e wf ⟨rfl, bf⟩
      rw [cmpN_eq rfl]
      go_wp2_with fail
      refine (wakes_any _).mono ?_
      rintro e wg ⟨rfl, bg⟩
      go_wp2
      go_ret
      exact ⟨rfl, bstep (bstep (bstep (bstep (bstep (bstep (bstep (bstep (bstep (bstep (bstep (bstep (bstep (bstep b1 b2) b3) b4) b5) b6) b8) b9) ba) bb) bc) bd) be) bf) bg⟩
    · have C2 := hide (fun w => word_div3_no a2 a1 a0 d1 d0 v w (Or.inr ⟨h63, by omega⟩))
      have hcv := cmpN_ge' hlt
      have hb' : decide ((d1 : Int) < 9223372036854775808) = false := by simp; omega
      have HA := hide hA
      generalize hcve : cmpN A D = cv at *
      have HCV := hide hcve
      have hcb : decide (0 ≤ cv) = true := by simp; omega
      have hcs : 0 ≤ cv := by omega
      clear hv hA h h63 hD hDlo hlt hcve hcv
      go_enter Try.func8, Try.ntmps8
      go_wp2_with fail
      refine (unhide C1 _).mono ?_
      rintro e w1 ⟨rfl, b1⟩
      go_wp2_with fail
      refine (two_any (d1 : Int) (d0 : Int) (by omega) (by omega) (by omega) (by omega) _).mono ?_
      rintro e w2 ⟨vd, rfl, nd, b2⟩
      rw [Int.toNat_natCast, Int.toNat_natCast, unhide HD'] at nd
      go_wp2_with fail
      refine (three_any 18446744073709551615 18446744073709551615 18446744073709551615 (by omega) (by omega) (by omega) (by omega) (by omega) (by omega) _).mono ?_
      rintro e w3 ⟨v3, rfl, n3, b3⟩
      have nd := nd.next b3
      go_wp2_with fail
      refine (divmod_any _ v3 vd (18446744073709551616 * (18446744073709551616 * 18446744073709551615 + 18446744073709551615) + 18446744073709551615) D 6 (by omega) (by omega) hD4 hpos n3 nd).mono ?_
      rintro e w4 ⟨vq, vr, rfl, nq, nr, b4⟩
      rw [unhide HE] at nq
      have nd := nd.next b4
      clear n3 nr
      go_wp2_with fail
      refine (two_any 1 (v : Int) (by omega) (by omega) (by omega) (by omega) _).mono ?_
      rintro e w5 ⟨v5, rfl, n5, b5⟩
      have n5' : IsN w5 v5 (18446744073709551616 + v) := n5
      clear n5
      go_wp2_with fail
      refine (cmp_any _ vq v5 _ _ 6 (by omega) (by omega) (by omega) (nq.next b5) n5').mono ?_
      rintro e w6 ⟨rfl, b6⟩
      rw [cmpN_eq rfl]
      have nd := (nd.next b5).next b6
      clear nq n5'
      go_wp2_with fail
      refine (unhide C2 _).mono ?_
      rintro e w7 ⟨rfl, rfl⟩
      go_wp2_with fail
      refine (two_any (a2 : Int) (a1 : Int) (by omega) (by omega) (by omega) (by omega) _).mono ?_
      rintro e w8 ⟨v8, rfl, n8, b8⟩
      rw [Int.toNat_natCast, Int.toNat_natCast, ← unhide HA] at n8
      go_wp2_with fail
      refine (cmp_any _ v8 vd A D 6 (by omega) hA4 hD4 n8 (nd.next b8)).mono ?_
      rintro e w9 ⟨rfl, b9⟩
      rw [unhide HCV]
      clear n8 nd
      go_wp2_with fail
      refine (wakes_any _).mono ?_
      rintro e wa ⟨rfl, ba⟩
      go_wp2
      go_ret
      exact ⟨rfl, bstep (bstep (bstep (bstep (bstep (bstep (bstep (bstep b1 b2) b3) b4) b5) b6) b8) b9) ba⟩

end Go.Proofs.Ytahmnjpnokhbpab
