/- Cmp of limb, and Compare of package cmp. -/
import Derived.Test.YtmfpgpkheaofeabLAdd
import Derived.Deep.QuietTactic
import Derived.BigQuiet
import Derived.WalkSmall
namespace Go.Proofs.Ytmfpgpkheaofeab
open Go.RowKit

set_option maxHeartbeats 800000 in
theorem compare_int (x y : Nat) (w : World) : Calls Try.prog 42 #[.int .i64 (x : Int), .int .i64 (y : Int)] w fun e w' => e = .returned (.int .i64 (cmpN x y)) ∧ w' = w := by
  have q1 : ((x : Int) != (x : Int)) = false := by simp
  have q2 : ((y : Int) != (y : Int)) = false := by simp
  rcases Nat.lt_trichotomy x y with h | h | h
  · rw [cmpN_lt h]
    have h1 : (x : Int) < (y : Int) := by omega
    go_enter Try.func42, Try.ntmps42
    go_wp2
    go_ret
    exact ⟨rfl, rfl⟩
  · rw [cmpN_eq h]
    have h1 : ¬ (x : Int) < (y : Int) := by omega
    have h2 : ¬ (y : Int) < (x : Int) := by omega
    clear h
    go_enter Try.func42, Try.ntmps42
    go_wp2
    go_ret
    exact ⟨rfl, rfl⟩
  · rw [cmpN_gt h]
    have h1 : ¬ (x : Int) < (y : Int) := by omega
    have h2 : (y : Int) < (x : Int) := by omega
    go_enter Try.func42, Try.ntmps42
    go_wp2
    go_ret
    exact ⟨rfl, rfl⟩

set_option maxHeartbeats 800000 in
theorem compare_u64 (x y : Nat) (w : World) : Calls Try.prog 43 #[.int .u64 (x : Int), .int .u64 (y : Int)] w fun e w' => e = .returned (.int .i64 (cmpN x y)) ∧ w' = w := by
  have q1 : ((x : Int) != (x : Int)) = false := by simp
  have q2 : ((y : Int) != (y : Int)) = false := by simp
  rcases Nat.lt_trichotomy x y with h | h | h
  · rw [cmpN_lt h]
    have h1 : (x : Int) < (y : Int) := by omega
    go_enter Try.func43, Try.ntmps43
    go_wp2
    go_ret
    exact ⟨rfl, rfl⟩
  · rw [cmpN_eq h]
    have h1 : ¬ (x : Int) < (y : Int) := by omega
    have h2 : ¬ (y : Int) < (x : Int) := by omega
    clear h
    go_enter Try.func43, Try.ntmps43
    go_wp2
    go_ret
    exact ⟨rfl, rfl⟩
  · rw [cmpN_gt h]
    have h1 : ¬ (x : Int) < (y : Int) := by omega
    have h2 : (y : Int) < (x : Int) := by omega
    go_enter Try.func43, Try.ntmps43
    go_wp2
    go_ret
    exact ⟨rfl, rfl⟩

/-- A callee that draws nothing, met behind two regions that draw. -/
theorem quiet_two {P : Program} {f : FuncId} {args : Array Value} {w : World} {q n : Nat} {v : Value} (h : Calls P f args (w.drewN (q + n)) fun e w' => e = .returned v ∧ w' = w.drewN (q + n)) : Calls P f args (w.drewN (q + n)) fun e w'' => e = .returned v ∧ ∃ m, w'' = w.drewN (q + m) :=
  h.mono fun _ _ ⟨he, hm⟩ => ⟨he, n, hm⟩

theorem cmpN_of {m n a b : Nat} (h1 : a < b → m < n) (h2 : b < a → n < m) (h : a ≠ b) : cmpN a b = cmpN m n := by
  rcases Nat.lt_trichotomy a b with k | k | k
  · rw [cmpN_lt k, cmpN_lt (h1 k)]
  · exact absurd k h
  · rw [cmpN_gt k, cmpN_gt (h2 k)]

set_option maxRecDepth 100000 in
set_option maxHeartbeats 3200000 in
theorem cmp_w (w : World) (u v : Value) (m n : Nat) (hu : InW w u m) (hv : InW w v n) :
    Calls Try.prog 15 #[u, v] w fun e w' => e = .returned (.int .i64 (cmpN m n)) ∧ Below w.heap.size w w' := by
  obtain ⟨ga, ba, oa, ca, us, rA, cA, vA, lA, CA⟩ := trim_in hu
  obtain ⟨gb, bb, ob, cb, vs, rB, cB, vB, lB, CB⟩ := trim_in hv
  have CA := hide CA
  have CB := hide CB
  obtain ⟨la, hla⟩ : ∃ la, la = us.length := ⟨_, rfl⟩
  obtain ⟨lb, hlb⟩ : ∃ lb, lb = vs.length := ⟨_, rfl⟩
  rw [← hla] at CA lA
  rw [← hlb] at CB lB
  have HLA := hide hla
  have HLB := hide hlb
  subst vA vB
  obtain ⟨C, hC⟩ : ∃ C, C = cmpN (wval us) (wval vs) := ⟨_, rfl⟩
  rw [← hC]
  have HC := hide hC
  clear hu hv hla hlb hC
  go_enter Try.func15, Try.ntmps15
  go_wp2_with fail
  refine (unhide CA).mono ?_
  rintro e w1 ⟨rfl, rfl⟩
  go_wp2_with fail
  refine (unhide CB).mono ?_
  rintro e w2 ⟨rfl, rfl⟩
  clear CA CB
  by_cases h1 : la = lb
  · subst h1
    have q1 : ((la : Int) != (la : Int)) = false := by simp
    go_wp2
    go_loopw [5] (fun i wr => ∃ k : Nat, k ≤ la ∧ i = .int .i64 ((k : Int) - 1) ∧ Hid (us.drop k = vs.drop k) ∧ Below w2.heap.size w2 wr) (fun i _ => (intOf i + 1).toNat)
    case atStart => exact ⟨la, Nat.le_refl _, rfl, by show _ = _; rw [List.drop_eq_nil_of_le (by rw [← unhide HLA]; omega), List.drop_eq_nil_of_le (by rw [← unhide HLB]; omega)], Below.refl _ _⟩
    case round =>
      obtain ⟨k, hk, rfl, hD, hnx⟩ := hrel
      by_cases h0 : k = 0
      · subst h0
        have he : us = vs := by have := hD.out; simpa using this
        have E : Hid ((0 : Int) = C) := by show _ = _; rw [unhide HC, he, cmpN_eq rfl]
        clear he
        go_wp2
        go_ret
        exact ⟨ret_int (unhide E), hnx⟩
      · obtain ⟨j, rfl⟩ : ∃ j, k = j + 1 := ⟨k - 1, by omega⟩
        obtain rfl := rA.head (by rw [← unhide HLA]; omega)
        obtain rfl := rB.head (by rw [← unhide HLB]; omega)
        obtain ⟨x, hx⟩ : ∃ x : Nat, x = us.getD j 0 := ⟨_, rfl⟩
        obtain ⟨y, hy⟩ : ∃ y : Nat, y = vs.getD j 0 := ⟨_, rfl⟩
        have ej : ((j + 1 : Nat) : Int) - 1 = (j : Int) := by omega
        rw [ej]
        have cx : wr.cell? ⟨ba, oa + j, none⟩ = some (.int .u64 (x : Int)) := by rw [hx]; exact (hnx.cell (by exact rA.lt (by rw [← unhide HLA]; omega))).trans (rA.cell j (by rw [← unhide HLA]; omega))
        have cy : wr.cell? ⟨bb, ob + j, none⟩ = some (.int .u64 (y : Int)) := by rw [hy]; exact (hnx.cell (by exact rB.lt (by rw [← unhide HLB]; omega))).trans (rB.cell j (by rw [← unhide HLB]; omega))
        by_cases hxy : x = y
        · have H2 : Hid (us.drop j = vs.drop j) := drop_step j (by rw [← unhide HLA]; omega) (by rw [← unhide HLA, ← unhide HLB]) hD.out (by rw [← hx, ← hy]; exact hxy)
          subst hxy
          have s2 : ((x : Int) != (x : Int)) = false := by simp
          clear hx hy
          go_wp2
          go_quiet (fail)
          go_wp2
          exact ⟨⟨j, by omega, rfl, H2, below_drewN hnx _⟩, by simp [intOf]⟩
        · have hc : cmpN x y = cmpN (wval us) (wval vs) := cmpN_of (fun h => wDig_below cA.1 j hD.out (by rw [← hx, ← hy]; exact h)) (fun h => wDig_below cB.1 j hD.out.symm (by rw [← hx, ← hy]; exact h)) hxy
          have s2 : ((x : Int) != (y : Int)) = true := by rw [bne_iff_ne]; omega
          have CC := hide (fun w => compare_u64 x y w)
          have E : Hid (cmpN x y = C) := by show _ = _; rw [unhide HC, hc]
          generalize cmpN x y = cc at *
          clear hx hy hc hxy
          go_wp2
          go_quiet (fail)
          go_wp2
          go_quiet ((go_at_call 43; exact quiet_two (unhide CC _)))
          go_wp2
          go_ret
          exact ⟨ret_int (unhide E), below_drewN (below_drewN hnx _) _⟩
  · have hc : cmpN la lb = cmpN (wval us) (wval vs) := cmpN_of (fun h => wlen_lt cA.1 cB (by rw [← unhide HLA, ← unhide HLB]; exact h)) (fun h => wlen_lt cB.1 cA (by rw [← unhide HLA, ← unhide HLB]; exact h)) h1
    have q1 : ((la : Int) != (lb : Int)) = true := by rw [bne_iff_ne]; omega
    have CC := hide (fun w => compare_int la lb w)
    have E : Hid (cmpN la lb = C) := by show _ = _; rw [unhide HC, hc]
    generalize cmpN la lb = cc at *
    clear hc h1
    go_wp2_with fail
    refine (unhide CC _).mono ?_
    rintro e w3 ⟨rfl, rfl⟩
    go_wp2
    go_ret
    exact ⟨ret_int (unhide E), Below.refl _ _⟩

end Go.Proofs.Ytmfpgpkheaofeab
