/- WordAdds: what the law's walk comes to. -/
import Derived.Test.YtahmnjpnokhbpabWord
import Derived.Test.YtahmnjpnokhbpabSmall
import Derived.Test.YtahmnjpnokhbpabCmp
import Derived.Test.YtahmnjpnokhbpabAdd
namespace Go.Proofs.Ytahmnjpnokhbpab
open Go.RowKit

theorem cmpN_ge {m n : Nat} (h : ¬ m < n) : 0 ≤ cmpN m n := by unfold cmpN; rw [if_neg h]; split <;> omega

theorem sub_word {a b k : Nat} (ha : a < 18446744073709551616) (hb : b < 18446744073709551616) (hk : k ≤ 1) (h : a < b + k) : (a + 18446744073709551616 - b - k) % 18446744073709551616 + (b + k) = 18446744073709551616 * 1 + a := by omega
theorem sub_word' {a b k : Nat} (ha : a < 18446744073709551616) (h : ¬ a < b + k) : (a + 18446744073709551616 - b - k) % 18446744073709551616 + (b + k) = 18446744073709551616 * 0 + a := by omega

/-- What the law does from the sum's operands on, whatever the carry is. -/
theorem sub_tells {a b c k : Nat} (ha : a < 18446744073709551616) (hb : b < 18446744073709551616) (hk : (c = 0 ∧ k = 0) ∨ (c ≠ 0 ∧ k = 1)) :
    ∃ D O : Nat, D < 18446744073709551616 ∧ D + (b + k) = 18446744073709551616 * O + a ∧ ((O = 1 ∧ cmpN a (b + k) = -1) ∨ (O = 0 ∧ 0 ≤ cmpN a (b + k))) ∧
      ∀ w, Calls Try.prog 26 #[.int .u64 (a : Int), .int .u64 (b : Int), .int .u64 (c : Int)] w fun e w' => e = .returned (.tuple #[.int .u64 (D : Int), .int .u64 (O : Int)]) ∧ w' = w := by
  by_cases h : a < b + k
  · refine ⟨_, 1, Nat.mod_lt _ (by omega), sub_word ha hb (by omega) h, Or.inl ⟨rfl, cmpN_lt h⟩, fun w => ?_⟩
    have := word_sub a b c k w hk
    rw [if_pos h] at this
    exact this
  · refine ⟨_, 0, Nat.mod_lt _ (by omega), sub_word' ha h, Or.inr ⟨rfl, cmpN_ge h⟩, fun w => ?_⟩
    have := word_sub a b c k w hk
    rw [if_neg h] at this
    exact this

set_option maxHeartbeats 1600000 in
theorem wordAdds_any (a b c : Nat) (w : World) (ha : a < 18446744073709551616) (hb : b < 18446744073709551616) (_hc : c < 18446744073709551616) :
    Calls Try.prog 9 #[.int .u64 (a : Int), .int .u64 (b : Int), .int .u64 (c : Int)] w fun e w' => e = .returned (.bool true) ∧ Below w.heap.size w w' := by
  obtain ⟨k, hk⟩ : ∃ k : Nat, (c = 0 ∧ k = 0) ∨ (c ≠ 0 ∧ k = 1) := by
    by_cases h : c = 0
    · exact ⟨0, Or.inl ⟨h, rfl⟩⟩
    · exact ⟨1, Or.inr ⟨h, rfl⟩⟩
  have hk1 : k ≤ 1 := by omega
  have c1 := fun w => word_add a b c k w hk
  obtain ⟨D, O, hD, hDO, hO, c2⟩ := sub_tells ha hb hk
  have hs1 : (a + b + k) % 18446744073709551616 < 18446744073709551616 := by omega
  have hs2 : (a + b + k) / 18446744073709551616 ≤ 1 := by omega
  have hs3 : 18446744073709551616 * ((a + b + k) / 18446744073709551616) + (a + b + k) % 18446744073709551616 = a + (b + k) := by omega
  generalize (a + b + k) % 18446744073709551616 = S at *
  generalize (a + b + k) / 18446744073709551616 = T at *
  have C1 := hide c1
  have C2 := hide c2
  have H3 := hide hs3
  have HD := hide hDO
  clear c1 c2 hs3 hDO
  have hO1 : O ≤ 1 := by omega
  rcases hk with ⟨hc0, hk0⟩ | ⟨hc0, hk0⟩
  have hcb : ((c : Int) != 0) = false := by rw [hc0]; rfl
  have HK := hide hk0
  clear hc0 hk0
  go_enter Try.func9, Try.ntmps9
  go_wp2_with fail
  refine (small_any 0 (by omega) (by omega) _).mono ?_
  rintro e wk ⟨vk, rfl, nk0, bk⟩
  have nk : IsN wk vk k := by rw [unhide HK]; exact nk0
  clear nk0
  go_wp2_with fail
  rotate_left 1
  have hcb : ((c : Int) != 0) = true := by rw [bne_iff_ne]; omega
  have HK := hide hk0
  clear hc0 hk0
  go_enter Try.func9, Try.ntmps9
  go_wp2_with fail
  refine (small_any 0 (by omega) (by omega) _).mono ?_
  rintro e wj ⟨vj, rfl, nj, bj⟩
  go_wp2_with fail
  refine (small_any 1 (by omega) (by omega) _).mono ?_
  rintro e wk ⟨vk, rfl, nk0, bk0⟩
  have nk : IsN wk vk k := by rw [unhide HK]; exact nk0
  have bk := bstep bj bk0
  clear nk0 nj bj bk0
  go_wp2_with fail
  all_goals
    refine (small_any (a : Int) (by omega) (by omega) _).mono ?_
    rintro e w1 ⟨v1, rfl, n1, b1⟩
    go_wp2_with fail
    refine (small_any (b : Int) (by omega) (by omega) _).mono ?_
    rintro e w2 ⟨v2, rfl, n2, b2⟩
    rw [Int.toNat_natCast] at n1 n2
    go_wp2_with fail
    refine (add_any _ v2 vk b k 4 (by omega) (by omega) (by omega) n2 ((nk.next b1).next b2)).mono ?_
    rintro e w3 ⟨v3, rfl, n3, b3⟩
    have n1 := (n1.next b2).next b3
    clear n2 nk
    go_wp2_with fail
    refine (unhide C1 _).mono ?_
    rintro e w4 ⟨rfl, rfl⟩
    go_wp2_with fail
    refine (two_any (T : Int) (S : Int) (by omega) (by omega) (by omega) (by omega) _).mono ?_
    rintro e w5 ⟨v5, rfl, n5, b5⟩
    rw [Int.toNat_natCast, Int.toNat_natCast, unhide H3] at n5
    go_wp2_with fail
    refine (add_any _ v1 v3 a (b + k) 4 (by omega) (by omega) (by omega) (n1.next b5) (n3.next b5)).mono ?_
    rintro e w6 ⟨v6, rfl, n6, b6⟩
    go_wp2_with fail
    refine (cmp_any _ v5 v6 _ _ 4 (by omega) (by omega) (by omega) (n5.next b6) n6).mono ?_
    rintro e w7 ⟨rfl, b7⟩
    rw [cmpN_eq rfl]
    have n1 := ((n1.next b5).next b6).next b7
    have n3 := ((n3.next b5).next b6).next b7
    clear n5 n6
    go_wp2_with fail
    refine (unhide C2 _).mono ?_
    rintro e w8 ⟨rfl, rfl⟩
    go_wp2_with fail
    refine (cmp_any _ v1 v3 a (b + k) 4 (by omega) (by omega) (by omega) n1 n3).mono ?_
    rintro e w9 ⟨rfl, b9⟩
    have n3 := n3.next b9
    clear n1
    rcases hO with ⟨hOO, hcv⟩ | ⟨hOO, hcv⟩
    rw [hcv]
    have hOb : ((O : Int) == 1) = true := by rw [hOO]; rfl
    clear hOO hcv
    rotate_left 1
    have hOb : ((O : Int) == 1) = false := by rw [hOO]; rfl
    generalize cmpN a (b + k) = cv at *
    have hcv' : ¬ cv < 0 := by omega
    clear hOO hcv
    all_goals
      go_wp2_with fail
      refine (small_any (D : Int) (by omega) (by omega) _).mono ?_
      rintro e wa ⟨va, rfl, na, ba⟩
      rw [Int.toNat_natCast] at na
      go_wp2_with fail
      refine (add_any _ va v3 D (b + k) 4 (by omega) (by omega) (by omega) na (n3.next ba)).mono ?_
      rintro e wb ⟨vb, rfl, nb, bb⟩
      go_wp2_with fail
      refine (two_any (O : Int) (a : Int) (by omega) (by omega) (by omega) (by omega) _).mono ?_
      rintro e wc ⟨vc, rfl, nc, bc⟩
      rw [Int.toNat_natCast, Int.toNat_natCast, ← unhide HD] at nc
      go_wp2_with fail
      refine (cmp_any _ vb vc _ _ 4 (by omega) (by omega) (by omega) (nb.next bc) nc).mono ?_
      rintro e wd ⟨rfl, bd⟩
      rw [cmpN_eq rfl]
      go_wp2_with fail
      refine (wakes_any _).mono ?_
      rintro e we ⟨rfl, be⟩
      go_wp2
      go_ret
      exact ⟨rfl, bstep (bstep (bstep (bstep (bstep (bstep (bstep (bstep (bstep (bstep (bstep (bstep bk b1) b2) b3) b5) b6) b7) b9) ba) bb) bc) bd) be⟩

end Go.Proofs.Ytahmnjpnokhbpab
