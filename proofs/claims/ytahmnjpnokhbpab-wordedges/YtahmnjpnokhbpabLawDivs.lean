/- WordDivs: what the law's walk comes to. -/
import Derived.Test.YtahmnjpnokhbpabWord
import Derived.Test.YtahmnjpnokhbpabSmall
import Derived.Test.YtahmnjpnokhbpabDivMod
namespace Go.Proofs.Ytahmnjpnokhbpab
open Go.RowKit

set_option maxHeartbeats 800000 in
theorem word_div_no (hi lo d : Nat) (w : World) (h : d ≤ hi) :
    Calls Try.prog 16 #[.int .u64 (hi : Int), .int .u64 (lo : Int), .int .u64 (d : Int)] w fun e w' => e = .returned (.tuple #[.int .u64 0, .int .u64 0, .bool false]) ∧ w' = w := by
  have h' : (d : Int) ≤ (hi : Int) := by omega
  go_enter Try.func16, Try.ntmps16
  go_wp2
  go_ret3
  exact ⟨ret_three rfl rfl rfl, rfl⟩

set_option maxHeartbeats 800000 in
theorem word_div (hi lo d Q R : Nat) (w : World) (h : hi < d) (hl : lo < 18446744073709551616) (hd : d < 18446744073709551616) (hQ : Q = (18446744073709551616 * hi + lo) / d) (hR : R = (18446744073709551616 * hi + lo) % d) :
    Calls Try.prog 16 #[.int .u64 (hi : Int), .int .u64 (lo : Int), .int .u64 (d : Int)] w fun e w' => e = .returned (.tuple #[.int .u64 (Q : Int), .int .u64 (R : Int), .bool true]) ∧ Below w.heap.size w w' := by
  have h' : ¬ (d : Int) ≤ (hi : Int) := by omega
  have hc := fun w => div64_nat hi lo d w h hl hd
  rw [← hQ, ← hR] at hc
  have HC := hide hc
  clear hc hQ hR
  go_enter Try.func16, Try.ntmps16
  go_wp2_with fail
  refine (unhide HC _).mono ?_
  rintro e w1 ⟨rfl, b1⟩
  go_wp2
  go_ret3
  exact ⟨ret_three rfl rfl rfl, b1⟩

set_option maxHeartbeats 800000 in
theorem divided_any (hi lo d Q R : Nat) (w : World) (hh : hi < 18446744073709551616) (hl : lo < 18446744073709551616) (hd : d < 18446744073709551616) (hd0 : 0 < d) (hQ : Q = (18446744073709551616 * hi + lo) / d) (hR : R = (18446744073709551616 * hi + lo) % d) (hQ64 : Q < 18446744073709551616) (hR64 : R < 18446744073709551616) :
    Calls Try.prog 17 #[.int .u64 (hi : Int), .int .u64 (lo : Int), .int .u64 (d : Int), .int .u64 (Q : Int), .int .u64 (R : Int)] w fun e w' => e = .returned (.bool true) ∧ Below w.heap.size w w' := by
  obtain ⟨N, hN⟩ : ∃ N, N = 18446744073709551616 * hi + lo := ⟨_, rfl⟩
  have hN4 : N < 4294967296 ^ 4 := by omega
  rw [← hN] at hQ hR
  have HN := hide hN
  have HQ := hide hQ
  have HR := hide hR
  clear hN hQ hR
  go_enter Try.func17, Try.ntmps17
  go_wp2_with fail
  refine (two_any (hi : Int) (lo : Int) (by omega) (by omega) (by omega) (by omega) _).mono ?_
  rintro e w1 ⟨v1, rfl, n1, b1⟩
  rw [Int.toNat_natCast, Int.toNat_natCast, ← unhide HN] at n1
  go_wp2_with fail
  refine (small_any (d : Int) (by omega) (by omega) _).mono ?_
  rintro e w2 ⟨v2, rfl, n2, b2⟩
  rw [Int.toNat_natCast] at n2
  go_wp2_with fail
  refine (divmod_any _ v1 v2 N d 4 (by omega) hN4 (by omega) hd0 (n1.next b2) n2).mono ?_
  rintro e w3 ⟨vq, vr, rfl, nq, nr, b3⟩
  rw [← unhide HQ] at nq
  rw [← unhide HR] at nr
  clear n1 n2
  go_wp2_with fail
  refine (small_any (Q : Int) (by omega) (by omega) _).mono ?_
  rintro e w4 ⟨v4, rfl, n4, b4⟩
  rw [Int.toNat_natCast] at n4
  go_wp2_with fail
  refine (cmp_any _ vq v4 Q Q 4 (by omega) (by omega) (by omega) (nq.next b4) n4).mono ?_
  rintro e w5 ⟨rfl, b5⟩
  rw [cmpN_eq rfl]
  go_wp2_with fail
  refine (small_any (R : Int) (by omega) (by omega) _).mono ?_
  rintro e w6 ⟨v6, rfl, n6, b6⟩
  rw [Int.toNat_natCast] at n6
  go_wp2_with fail
  refine (cmp_any _ vr v6 R R 4 (by omega) (by omega) (by omega) (((nr.next b4).next b5).next b6) n6).mono ?_
  rintro e w7 ⟨rfl, b7⟩
  rw [cmpN_eq rfl]
  go_wp2
  go_ret
  exact ⟨rfl, bstep (bstep (bstep (bstep (bstep (bstep b1 b2) b3) b4) b5) b6) b7⟩

theorem quot_small {hi lo d : Nat} (h : hi < d) (hl : lo < 18446744073709551616) : (18446744073709551616 * hi + lo) / d < 18446744073709551616 := by
  rw [Nat.div_lt_iff_lt_mul (by omega)]
  omega

set_option maxHeartbeats 800000 in
theorem wordDivs_any (hi lo d : Nat) (w : World) (hh : hi < 18446744073709551616) (hl : lo < 18446744073709551616) (hd : d < 18446744073709551616) :
    Calls Try.prog 6 #[.int .u64 (hi : Int), .int .u64 (lo : Int), .int .u64 (d : Int)] w fun e w' => e = .returned (.bool true) ∧ Below w.heap.size w w' := by
  by_cases h : d ≤ hi
  · have h' : (d : Int) ≤ (hi : Int) := by omega
    go_enter Try.func6, Try.ntmps6
    go_wp2_with fail
    refine (word_div_no hi lo d _ h).mono ?_
    rintro e w1 ⟨rfl, rfl⟩
    go_wp2_with fail
    refine (wakes_any _).mono ?_
    rintro e w2 ⟨rfl, b2⟩
    go_wp2
    go_ret
    exact ⟨rfl, b2⟩
  · have h' : ¬ (d : Int) ≤ (hi : Int) := by omega
    obtain ⟨Q, hQ⟩ : ∃ Q, Q = (18446744073709551616 * hi + lo) / d := ⟨_, rfl⟩
    obtain ⟨R, hR⟩ : ∃ R, R = (18446744073709551616 * hi + lo) % d := ⟨_, rfl⟩
    have hQ64 : Q < 18446744073709551616 := by rw [hQ]; exact quot_small (by omega) hl
    have hR64 : R < 18446744073709551616 := by rw [hR]; exact Nat.lt_trans (Nat.mod_lt _ (by omega)) hd
    have C1 := hide (fun w => word_div hi lo d Q R w (by omega) hl hd hQ hR)
    have C2 := hide (fun w => divided_any hi lo d Q R w hh hl hd (by omega) hQ hR hQ64 hR64)
    clear hQ hR
    go_enter Try.func6, Try.ntmps6
    go_wp2_with fail
    refine (unhide C1 _).mono ?_
    rintro e w1 ⟨rfl, b1⟩
    go_wp2_with fail
    refine (unhide C2 _).mono ?_
    rintro e w2 ⟨rfl, b2⟩
    go_wp2_with fail
    refine (wakes_any _).mono ?_
    rintro e w3 ⟨rfl, b3⟩
    go_wp2
    go_ret
    exact ⟨rfl, bstep (bstep b1 b2) b3⟩

end Go.Proofs.Ytahmnjpnokhbpab
