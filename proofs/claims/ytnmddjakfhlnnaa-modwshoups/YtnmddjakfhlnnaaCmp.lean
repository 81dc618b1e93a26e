/- Cmp: how two naturals stand to each other. -/
import Derived.Test.YtnmddjakfhlnnaaNorm
import Derived.Deep.QuietTactic
import Derived.BigQuiet
import Derived.WalkSmall
namespace Go.Proofs.Ytnmddjakfhlnnaa
open Go.RowKit

set_option maxHeartbeats 800000 in
theorem cmp_len (w : World) (ga gb : Option Addr) (ca cb la lb : Nat) (_ha : la ≤ 1099511627776) (_hb : lb ≤ 1099511627776) (h : la < lb ∨ lb < la) :
    Calls Try.prog 38 #[.slice ga la ca, .slice gb lb cb] w fun e w' => e = .returned (.int .i64 (if la < lb then -1 else 1)) ∧ w' = w := by
  rcases h with h | h
  · have hne : ((la : Int) != (lb : Int)) = true := by rw [bne_iff_ne]; omega
    go_enter Try.func38, Try.ntmps38
    go_wp2
    go_ret
    exact ⟨ret_int rfl, rfl⟩
  · have hne : ((la : Int) != (lb : Int)) = true := by rw [bne_iff_ne]; omega
    have hn : ¬ la < lb := by omega
    go_enter Try.func38, Try.ntmps38
    go_wp2
    go_ret
    exact ⟨ret_int rfl, rfl⟩

set_option maxHeartbeats 1600000 in
theorem cmp_dig (w : World) (ga gb : Option Addr) (ba oa bb ob ca cb : Nat) (xs ys : List Nat) (n : Nat) (hx : xs.length = n) (hy : ys.length = n) (ha : n ≤ 1099511627776)
    (hA : Rep w ga ba oa ca xs) (hB : Rep w gb bb ob cb ys) (dx : Dig xs) (dy : Dig ys) :
    Calls Try.prog 38 #[.slice ga n ca, .slice gb n cb] w fun e w' => e = .returned (.int .i64 (cmpN (val xs) (val ys))) ∧ Below w.heap.size w w' := by
  have hne : ((n : Int) != (n : Int)) = false := by simp
  go_enter Try.func38, Try.ntmps38
  go_wp2
  go_loopw [5] (fun i wr => ∃ k : Nat, k ≤ n ∧ i = .int .i64 ((k : Int) - 1) ∧ Hid (xs.drop k = ys.drop k) ∧ Below w.heap.size w wr) (fun i _ => (intOf i + 1).toNat)
  case atStart => exact ⟨n, Nat.le_refl _, rfl, by show xs.drop n = ys.drop n; rw [List.drop_eq_nil_of_le (by omega), List.drop_eq_nil_of_le (by omega)], Below.refl _ _⟩
  case round =>
    obtain ⟨k, hk, rfl, hD, hnx⟩ := hrel
    by_cases hlt : 0 < k
    · obtain ⟨j, rfl⟩ : ∃ j, k = j + 1 := ⟨k - 1, by omega⟩
      have ej : ((j + 1 : Nat) : Int) - 1 = (j : Int) := by omega
      rw [ej]
      obtain rfl := hA.head (by omega)
      obtain rfl := hB.head (by omega)
      obtain ⟨x, HX⟩ : ∃ x : Nat, Hid (x = xs.getD j 0) := ⟨_, rfl⟩
      obtain ⟨y, HY⟩ : ∃ y : Nat, Hid (y = ys.getD j 0) := ⟨_, rfl⟩
      have cx : wr.cell? ⟨ba, oa + j, none⟩ = some (.int .u64 (x : Int)) := by rw [HX.out]; exact (hnx.cell (by exact hA.lt (by omega))).trans (hA.cell j (by omega))
      have cy : wr.cell? ⟨bb, ob + j, none⟩ = some (.int .u64 (y : Int)) := by rw [HY.out]; exact (hnx.cell (by exact hB.lt (by omega))).trans (hB.cell j (by omega))
      rcases Nat.lt_trichotomy x y with l | l | l
      · have e := cmpN_lt (dig_below dx j hD.out (by rw [← HX.out, ← HY.out]; exact l))
        have E := hide e
        clear e
        go_wp2
        go_quiet (fail)
        go_wp2
        go_ret
        exact ⟨ret_int (unhide E).symm, below_drewN hnx _⟩
      · have l1 : ¬ x < y := by omega
        have l2 : ¬ y < x := by omega
        have H := hide (drop_step j (by omega) (hx.trans hy.symm) hD.out (by rw [← HX.out, ← HY.out]; exact l))
        clear l
        go_wp2
        go_quiet (fail)
        go_wp2
        go_quiet (fail)
        go_wp2
        go_roundw
        case rel => exact ⟨j, by omega, by go_num, H, below_drewN hnx _⟩
        case measure => simp [intOf]
      · have l1 : ¬ x < y := by omega
        have e := cmpN_gt (dig_below dy j hD.out.symm (by rw [← HX.out, ← HY.out]; exact l))
        have E := hide e
        clear e
        go_wp2
        go_quiet (fail)
        go_wp2
        go_quiet (fail)
        go_wp2
        go_ret
        exact ⟨ret_int (unhide E).symm, below_drewN (below_drewN hnx _) _⟩
    · obtain rfl : k = 0 := by omega
      have e := cmpN_eq (congrArg val (by simpa using hD.out : xs = ys))
      have E := hide e
      clear e
      go_wp2
      go_ret
      exact ⟨ret_int (unhide E).symm, hnx⟩

theorem cmp_any (w : World) (u v : Value) (m n L : Nat) (hL : L ≤ 1073741824) (hm : m < 4294967296 ^ L) (hn : n < 4294967296 ^ L) (hu : IsN w u m) (hv : IsN w v n) :
    Calls Try.prog 38 #[u, v] w fun e w' => e = .returned (.int .i64 (cmpN m n)) ∧ Below w.heap.size w w' := by
  obtain ⟨ga, ba, oa, ca, xs, rfl, hA, cA, rfl⟩ := hu
  obtain ⟨gb, bb, ob, cb, ys, rfl, hB, cB, rfl⟩ := hv
  have la := len_le cA hm
  have lb := len_le cB hn
  by_cases h : xs.length = ys.length
  · rw [h]
    exact cmp_dig w ga gb ba oa bb ob ca cb xs ys ys.length h rfl (by omega) hA hB cA.1 cB.1
  · refine (cmp_len w ga gb ca cb xs.length ys.length (by omega) (by omega) (by omega)).mono ?_
    rintro e w' ⟨rfl, rfl⟩
    refine ⟨ret_int ?_, Below.refl _ _⟩
    by_cases hl : xs.length < ys.length
    · rw [if_pos hl, cmpN_lt (len_lt cA.1 cB hl)]
    · rw [if_neg hl, cmpN_gt (len_lt cB.1 cA (by omega))]

end Go.Proofs.Ytnmddjakfhlnnaa
