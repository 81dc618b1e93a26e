/- LimbSums: what the law's walk comes to. -/
import Derived.Test.YtmfpgpkheaofeaaRows2
namespace Go.Proofs.Ytmfpgpkheaofeaa
open Go.RowKit

set_option maxRecDepth 100000 in
set_option maxHeartbeats 6400000 in
theorem limbSums_any (gp : Option Addr) (bp op cp np : Nat) (vs : List Value) (w : World) (hvl : vs.length = np) (hP : RowsIn w gp bp op vs) (y : Nat) (hy : y < 18446744073709551616) :
    Calls Try.prog 4 #[.slice gp np cp, .int .u64 (y : Int)] w fun e w' => e = .returned (.bool true) ∧ Below w.heap.size w w' := by
  have CC := hide (cuts_any w gp bp op cp np 12 20 vs hvl (by omega) (by omega) hP)
  have CS := hide (fun w => small_any (y : Int) (by omega) (by omega) w)
  rw [Int.toNat_natCast] at CS
  have CO := hide (fun w => one_w w y hy)
  have HY : Hid (y < 18446744073709551616 ^ 1) := by show y < _; omega
  clear hP hvl
  go_enter Try.func4, Try.ntmps4
  go_wp2_with fail
  refine (unhide CC).mono ?_
  rintro e w1 ⟨ns, g1, b1, c1, us, rfl, hl1, R1, bl⟩
  clear CC
  obtain ⟨n, hn⟩ : ∃ n, n = us.length := ⟨_, rfl⟩
  rw [← hn] at hl1 ⊢
  have HN := hide hn.symm
  clear hn
  have hlt := jsum_zero_lt (K := 20) n (fun j hj => (R1.each j (by rw [unhide HN]; omega)).lt) n (Nat.le_refl _)
  have HB : Hid (jsum 0 ns n < 18446744073709551616 ^ 21) := by
    show _ < _
    have h2 : n * 18446744073709551616 ^ 20 ≤ 12 * 18446744073709551616 ^ 20 := Nat.mul_le_mul_right _ hl1
    have h3 := wpow_pos 20
    rw [show (21 : Nat) = 20 + 1 from rfl, Nat.pow_succ]
    generalize 18446744073709551616 ^ 20 = p at *
    omega
  clear hlt
  go_wp2_with fail
  refine (nats_any 20 _ g1 b1 0 c1 n us ns (unhide HN) (by omega) R1).mono ?_
  rintro e w2 ⟨g2, b2, c2, us2, rfl, hl2, R2, bb⟩
  have R1 := R1.next bb
  have bl := bstep bl bb
  have h2n : us2.length = n := by rw [← R2.len, R1.len, unhide HN]
  rw [h2n]
  have H2N := hide h2n
  clear bb h2n hl2
  go_wp2_with fail
  refine (refSum_any 20 _ g2 b2 0 c2 n us2 ns (unhide H2N) (by omega) (by omega) R2).mono ?_
  rintro e w3 ⟨v3, rfl, n3, bb⟩
  have R1 := R1.next bb
  have bl := bstep bl bb
  clear bb R2 H2N
  go_wp2_with fail
  refine (nats_any 20 _ g1 b1 0 c1 n us ns (unhide HN) (by omega) R1).mono ?_
  rintro e w4 ⟨g4, b4, c4, us4, rfl, hl4, R4, bb⟩
  have n3 := n3.next bb
  have bl := bstep bl bb
  have h4n : us4.length = n := by rw [← R4.len, R1.len, unhide HN]
  rw [h4n]
  have H4N := hide h4n
  clear bb h4n hl4 R1
  go_wp2_with fail
  refine (sum_w _ g4 b4 0 c4 n us4 ns (unhide H4N) (by omega) (R4.parts (by omega))).mono ?_
  rintro e w5 ⟨v5, rfl, n5, bb⟩
  have n3 := n3.next bb
  have bl := bstep bl bb
  clear bb R4
  go_wp2_with fail
  refine (same_new _ _ _ _ _ 21 (by omega) (unhide HB) n3 n5).mono ?_
  rintro e w6 ⟨rfl, bb⟩
  have bl := bstep bl bb
  clear bb n3 n5
  go_wp2_with fail
  refine (unhide CS _).mono ?_
  rintro e w7 ⟨v7, rfl, n7, bb⟩
  have bl := bstep bl bb
  clear bb
  go_wp2_with fail
  refine (unhide CO _).mono ?_
  rintro e w8 ⟨v8, rfl, n8, bb⟩
  have n7 := n7.next bb
  have bl := bstep bl bb
  clear bb
  go_wp2_with fail
  refine (same_new _ _ _ _ _ 1 (by omega) (unhide HY) n7 n8).mono ?_
  rintro e w9 ⟨rfl, bb⟩
  have bl := bstep bl bb
  clear bb n7 n8
  go_wp2_with fail
  refine (wakes_any _).mono ?_
  rintro e w10 ⟨rfl, bb⟩
  have bl := bstep bl bb
  go_wp2
  go_ret
  exact ⟨rfl, bl⟩

end Go.Proofs.Ytmfpgpkheaofeaa
