/- WordMuls: what the law's walk comes to. -/
import Derived.Test.YtahmnjpnokhbpabWord
import Derived.Test.YtahmnjpnokhbpabSmall
import Derived.Test.YtahmnjpnokhbpabCmp
import Derived.Test.YtahmnjpnokhbpabMul
namespace Go.Proofs.Ytahmnjpnokhbpab
open Go.RowKit

theorem mul_words {x y : Nat} (hx : x < 18446744073709551616) (hy : y < 18446744073709551616) : x * y < 18446744073709551616 * 18446744073709551616 := by
  have : x * y ≤ 18446744073709551615 * 18446744073709551615 := Nat.mul_le_mul (by omega) (by omega)
  omega

set_option maxHeartbeats 800000 in
theorem wordMuls_any (x y : Nat) (w : World) (hx : x < 18446744073709551616) (hy : y < 18446744073709551616) :
    Calls Try.prog 5 #[.int .u64 (x : Int), .int .u64 (y : Int)] w fun e w' => e = .returned (.bool true) ∧ Below w.heap.size w w' := by
  have hb := mul_words hx hy
  have c0 := word_mul x y w hx hy
  generalize hP : x * y = P at *
  have hq : P / 18446744073709551616 < 18446744073709551616 := by omega
  have hr : P % 18446744073709551616 < 18446744073709551616 := by omega
  have hs : 18446744073709551616 * (P / 18446744073709551616) + P % 18446744073709551616 = P := by omega
  generalize P / 18446744073709551616 = Q at *
  generalize P % 18446744073709551616 = R at *
  have C0 := hide c0
  have HP := hide hP
  have HS := hide hs
  clear c0 hP hs
  go_enter Try.func5, Try.ntmps5
  go_wp2_with fail
  refine (unhide C0).mono ?_
  rintro e w0 ⟨rfl, rfl⟩
  go_wp2_with fail
  refine (two_any (Q : Int) (R : Int) (by omega) (by omega) (by omega) (by omega) _).mono ?_
  rintro e w1 ⟨v1, rfl, n1, b1⟩
  go_wp2_with fail
  refine (small_any (x : Int) (by omega) (by omega) _).mono ?_
  rintro e w2 ⟨v2, rfl, n2, b2⟩
  go_wp2_with fail
  refine (small_any (y : Int) (by omega) (by omega) _).mono ?_
  rintro e w3 ⟨v3, rfl, n3, b3⟩
  rw [Int.toNat_natCast] at n2 n3
  rw [Int.toNat_natCast, Int.toNat_natCast, unhide HS] at n1
  go_wp2_with fail
  refine (mul_any _ v2 v3 x y 4 (by omega) (by omega) (by omega) (n2.next b3) n3).mono ?_
  rintro e w4 ⟨v4, rfl, n4, b4⟩
  rw [unhide HP] at n4
  go_wp2_with fail
  refine (cmp_any _ v1 v4 P P 4 (by omega) (by omega) (by omega) (((n1.next b2).next b3).next b4) n4).mono ?_
  rintro e w5 ⟨rfl, b5⟩
  rw [cmpN_eq rfl]
  go_wp2_with fail
  refine (wakes_any _).mono ?_
  rintro e w6 ⟨rfl, b6⟩
  go_wp2
  go_ret
  exact ⟨rfl, bstep (bstep (bstep (bstep (bstep b1 b2) b3) b4) b5) b6⟩

end Go.Proofs.Ytahmnjpnokhbpab
