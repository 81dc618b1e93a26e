/- WordInverses: what the law's walk comes to. -/
import Derived.Test.YtahmnjpnokhbpabDivBy
namespace Go.Proofs.Ytahmnjpnokhbpab
open Go.RowKit

set_option maxRecDepth 100000 in
set_option maxHeartbeats 1600000 in
theorem wordInverses_any (hi lo d : Nat) (w : World) (hh : hi < 18446744073709551616) (hl : lo < 18446744073709551616) (hd : d < 18446744073709551616) :
    Calls Try.prog 7 #[.int .u64 (hi : Int), .int .u64 (lo : Int), .int .u64 (d : Int)] w fun e w' => e = .returned (.bool true) ∧ Below w.heap.size w w' := by
  by_cases h : d < 9223372036854775808
  · have h' : (d : Int) < 9223372036854775808 := by omega
    have C2 : Hid (∀ w, Calls Try.prog 19 #[.int .u64 (hi : Int), .int .u64 (lo : Int), .int .u64 (d : Int), .int .u64 0] w fun e w' => e = .returned (.tuple #[.int .u64 0, .int .u64 0, .bool false]) ∧ w' = w) := fun w => word_divby_no hi lo d 0 w (Or.inl h)
    go_enter Try.func7, Try.ntmps7
    go_wp2_with fail
    refine (word_Inverse_no d _ h).mono ?_
    rintro e w1 ⟨rfl, rfl⟩
    go_wp2_with fail
    refine (unhide C2 _).mono ?_
    rintro e w2 ⟨rfl, rfl⟩
    go_wp2_with fail
    refine (wakes_any _).mono ?_
    rintro e w3 ⟨rfl, b3⟩
    go_wp2
    go_ret
    exact ⟨rfl, b3⟩
  · have h' : ¬ (d : Int) < 9223372036854775808 := by omega
    have h1 : 9223372036854775808 ≤ d := by omega
    have C1 := hide (fun w => word_Inverse d w h1 hd)
    have hve := inv1_eq d h1 hd
    have hv64 := inv1_lt d h1 hd
    obtain ⟨v, hv⟩ : ∃ v, v = inv1 d := ⟨_, rfl⟩
    rw [← hv] at C1 hve hv64
    have HE := hide hve
    clear hve
    by_cases h2 : d ≤ hi
    · have h3 : (d : Int) ≤ (hi : Int) := by omega
      have C2 := hide (fun w => word_divby_no hi lo d v w (Or.inr ⟨h1, h2⟩))
      clear hv h h1 h2
      go_enter Try.func7, Try.ntmps7
      go_wp2_with fail
      refine (unhide C1 _).mono ?_
      rintro e w1 ⟨rfl, b1⟩
      have hb' : decide ((d : Int) < 9223372036854775808) = false := by simp; omega
      have HP := hide (show 0 < d by omega)
      clear h'
      go_wp2_with fail
      refine (two_any 18446744073709551615 18446744073709551615 (by omega) (by omega) (by omega) (by omega) _).mono ?_
      rintro e w2 ⟨v2, rfl, n2, b2⟩
      go_wp2_with fail
      refine (small_any (d : Int) (by omega) (by omega) _).mono ?_
      rintro e w3 ⟨v3, rfl, n3, b3⟩
      rw [Int.toNat_natCast] at n3
      go_wp2_with fail
      refine (divmod_any _ v2 v3 (18446744073709551616 * 18446744073709551615 + 18446744073709551615) d 4 (by omega) (by omega) (by omega) (unhide HP) (n2.next b3) n3).mono ?_
      rintro e w4 ⟨vq, vr, rfl, nq, nr, b4⟩
      rw [unhide HE] at nq
      clear n2 n3 nr
      go_wp2_with fail
      refine (two_any 1 (v : Int) (by omega) (by omega) (by omega) (by omega) _).mono ?_
      rintro e w5 ⟨v5, rfl, n5, b5⟩
      have n5' : IsN w5 v5 (18446744073709551616 + v) := n5
      clear n5
      go_wp2_with fail
      refine (cmp_any _ vq v5 _ _ 4 (by omega) (by omega) (by omega) (nq.next b5) n5').mono ?_
      rintro e w6 ⟨rfl, b6⟩
      rw [cmpN_eq rfl]
      clear nq n5'
      go_wp2_with fail
      refine (unhide C2 _).mono ?_
      rintro e w7 ⟨rfl, rfl⟩
      go_wp2_with fail
      refine (wakes_any _).mono ?_
      rintro e w8 ⟨rfl, b8⟩
      go_wp2
      go_ret
      exact ⟨rfl, bstep (bstep (bstep (bstep (bstep (bstep b1 b2) b3) b4) b5) b6) b8⟩
    · have h3 : ¬ (d : Int) ≤ (hi : Int) := by omega
      obtain ⟨Q, hQ⟩ : ∃ Q, Q = (18446744073709551616 * hi + lo) / d := ⟨_, rfl⟩
      obtain ⟨R, hR⟩ : ∃ R, R = (18446744073709551616 * hi + lo) % d := ⟨_, rfl⟩
      have hQ64 : Q < 18446744073709551616 := by rw [hQ]; exact quot_small (by omega) hl
      have hR64 : R < 18446744073709551616 := by rw [hR]; exact Nat.lt_trans (Nat.mod_lt _ (by omega)) hd
      have C2 := hide (fun w => word_divby hi lo d v Q R w h1 hd (by omega) hl hv hQ hR)
      have C3 := hide (fun w => divided_any hi lo d Q R w hh hl hd (by omega) hQ hR hQ64 hR64)
      clear hv hQ hR h h1 h2
      go_enter Try.func7, Try.ntmps7
      go_wp2_with fail
      refine (unhide C1 _).mono ?_
      rintro e w1 ⟨rfl, b1⟩
      have hb' : decide ((d : Int) < 9223372036854775808) = false := by simp; omega
      have HP := hide (show 0 < d by omega)
      clear h'
      go_wp2_with fail
      refine (two_any 18446744073709551615 18446744073709551615 (by omega) (by omega) (by omega) (by omega) _).mono ?_
      rintro e w2 ⟨v2, rfl, n2, b2⟩
      go_wp2_with fail
      refine (small_any (d : Int) (by omega) (by omega) _).mono ?_
      rintro e w3 ⟨v3, rfl, n3, b3⟩
      rw [Int.toNat_natCast] at n3
      go_wp2_with fail
      refine (divmod_any _ v2 v3 (18446744073709551616 * 18446744073709551615 + 18446744073709551615) d 4 (by omega) (by omega) (by omega) (unhide HP) (n2.next b3) n3).mono ?_
      rintro e w4 ⟨vq, vr, rfl, nq, nr, b4⟩
      rw [unhide HE] at nq
      clear n2 n3 nr
      go_wp2_with fail
      refine (two_any 1 (v : Int) (by omega) (by omega) (by omega) (by omega) _).mono ?_
      rintro e w5 ⟨v5, rfl, n5, b5⟩
      have n5' : IsN w5 v5 (18446744073709551616 + v) := n5
      clear n5
      go_wp2_with fail
      refine (cmp_any _ vq v5 _ _ 4 (by omega) (by omega) (by omega) (nq.next b5) n5').mono ?_
      rintro e w6 ⟨rfl, b6⟩
      rw [cmpN_eq rfl]
      clear nq n5'
      go_wp2_with fail
      refine (unhide C2 _).mono ?_
      rintro e w7 ⟨rfl, rfl⟩
      have hb3 : decide (d ≤ hi) = false := by simp; omega
      have hb4 : decide ((d : Int) ≤ (hi : Int)) = false := by simp; omega
      clear h3
      go_wp2_with fail
      refine (unhide C3 _).mono ?_
      rintro e w8 ⟨rfl, b8⟩
      go_wp2_with fail
      refine (wakes_any _).mono ?_
      rintro e w9 ⟨rfl, b9⟩
      go_wp2
      go_ret
      exact ⟨rfl, bstep (bstep (bstep (bstep (bstep (bstep (bstep b1 b2) b3) b4) b5) b6) b8) b9⟩

end Go.Proofs.Ytahmnjpnokhbpab
