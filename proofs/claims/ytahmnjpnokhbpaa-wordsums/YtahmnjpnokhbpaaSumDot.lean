/- Sum and Dot of package word; Cut. -/
import Derived.Test.YtahmnjpnokhbpaaTwoW
import Derived.Deep.QuietTactic
import Derived.BigQuiet
import Derived.WalkSmall
namespace Go.Proofs.Ytahmnjpnokhbpaa
open Go.RowKit

/-- The sum of words. -/
def wsum : List Nat → Nat
  | [] => 0
  | x :: xs => x + wsum xs
theorem wsum_snoc : ∀ (xs : List Nat) (x : Nat), wsum (xs ++ [x]) = wsum xs + x
  | [], x => by simp [wsum]
  | y :: ys, x => by simp only [List.cons_append, wsum, wsum_snoc ys x]; omega

set_option maxRecDepth 100000 in
set_option maxHeartbeats 1600000 in
theorem sum_any (w : World) (ga : Option Addr) (b o cap n : Nat) (xs : List Nat) (hl : xs.length = n) (hn : n ≤ 1073741824) (hR : Rep w ga b o cap xs) (hw : ∀ j, xs.getD j 0 < 18446744073709551616) (X : Nat) (hX : X = wsum xs % 340282366920938463463374607431768211456) :
    Calls Try.prog 28 #[.slice ga n cap] w fun e w' => e = .returned (.tuple #[.int .u64 ((X / 18446744073709551616 : Nat) : Int), .int .u64 ((X % 18446744073709551616 : Nat) : Int)]) ∧ w' = w := by
  obtain ⟨X1, hX1⟩ : ∃ X1, X1 = X / 18446744073709551616 := ⟨_, rfl⟩
  obtain ⟨X0, hX0⟩ : ∃ X0, X0 = X % 18446744073709551616 := ⟨_, rfl⟩
  rw [← hX1, ← hX0]
  have H1 := hide hX1
  have H0 := hide hX0
  have HX := hide hX
  clear hX hX1 hX0
  go_enter Try.func28, Try.ntmps28
  go_wp2
  go_loop [2, 3, 8] (fun h l i => ∃ (k p q : Nat), k ≤ n ∧ i = .int .i64 (k : Int) ∧ h = .int .u64 (p : Int) ∧ l = .int .u64 (q : Int) ∧ p < 18446744073709551616 ∧ q < 18446744073709551616 ∧ Hid (p * 18446744073709551616 + q = wsum (xs.take k) % 340282366920938463463374607431768211456)) (fun _ _ i => n - (intOf i).toNat)
  case atStart => exact ⟨0, 0, 0, Nat.zero_le _, rfl, rfl, rfl, by omega, by omega, rfl⟩
  case round =>
    obtain ⟨k, p, q, hk, rfl, rfl, rfl, hp, hq, hS⟩ := hrel
    by_cases h1 : k < n
    · obtain rfl := hR.head (by omega)
      obtain ⟨x, hx⟩ : ∃ x : Nat, x = xs.getD k 0 := ⟨_, rfl⟩
      have hx64 : x < 18446744073709551616 := by rw [hx]; exact hw k
      have cx : w.cell? ⟨b, o + k, none⟩ = some (.int .u64 (x : Int)) := by rw [hx]; exact hR.cell k (by omega)
      have hnew : (p * 18446744073709551616 + q + x) % 340282366920938463463374607431768211456 = wsum (xs.take (k + 1)) % 340282366920938463463374607431768211456 := by
        rw [take_snoc xs k (by omega), wsum_snoc, ← hx, hS.out]; omega
      obtain ⟨Y, hY⟩ : ∃ Y, Y = (p * 18446744073709551616 + q + x) % 340282366920938463463374607431768211456 := ⟨_, rfl⟩
      have hYb : Y < 340282366920938463463374607431768211456 := by rw [hY]; exact Nat.mod_lt _ (by omega)
      have hY1 : Y / 18446744073709551616 < 18446744073709551616 := by omega
      have hY0 : Y % 18446744073709551616 < 18446744073709551616 := by omega
      have hYY : Y / 18446744073709551616 * 18446744073709551616 + Y % 18446744073709551616 = Y := by omega
      have CP : Hid (∀ w, Calls Try.prog 47 #[.int .u64 (p : Int), .int .u64 (q : Int), .int .u64 0, .int .u64 (x : Int)] w fun e w' => e = .returned (.tuple #[.int .u64 ((Y / 18446744073709551616 : Nat) : Int), .int .u64 ((Y % 18446744073709551616 : Nat) : Int)]) ∧ w' = w) :=
        fun w => plus_any p q 0 x _ _ w hp hq (by omega) hx64 hY1 hY0 (by rw [hYY, hY, Nat.zero_mul, Nat.zero_add])
      have HN : Hid (Y / 18446744073709551616 * 18446744073709551616 + Y % 18446744073709551616 = wsum (xs.take (k + 1)) % 340282366920938463463374607431768211456) := by show _ = _; rw [hYY, hY]; exact hnew
      clear hx hnew hY hYY hYb
      generalize Y / 18446744073709551616 = y1 at *
      generalize Y % 18446744073709551616 = y0 at *
      go_wp2_with fail
      refine (unhide CP _).mono ?_
      rintro e w1 ⟨rfl, rfl⟩
      go_wp2
      exact ⟨⟨k + 1, y1, y0, by omega, by go_num, rfl, rfl, hY1, hY0, HN⟩, by simp [intOf]; omega⟩
    · obtain rfl : k = n := by omega
      have hS' := hS.out
      rw [List.take_of_length_le (by omega), ← unhide HX] at hS'
      have e1 : (p : Int) = (X1 : Int) := by rw [unhide H1]; omega
      have e0 : (q : Int) = (X0 : Int) := by rw [unhide H0]; omega
      have E1 := hide e1
      have E0 := hide e0
      clear hS' e1 e0
      go_wp2
      go_ret2
      exact ⟨ret_two (unhide E1) (unhide E0), rfl⟩

/-- The sum of the first k products. -/
def dsum (xs ys : List Nat) : Nat → Nat
  | 0 => 0
  | k + 1 => dsum xs ys k + xs.getD k 0 * ys.getD k 0

theorem dot_step {V P p2 p1 p0 hi lo B3 : Nat} (hB : B3 = 6277101735386680763835789423207666416102355444464034512896) (hv : p2 * 340282366920938463463374607431768211456 + p1 * 18446744073709551616 + p0 = V % B3) (hP : hi * 18446744073709551616 + lo = P) :
    (p2 + (p1 + hi + (p0 + lo) / 18446744073709551616) / 18446744073709551616) % 18446744073709551616 * 340282366920938463463374607431768211456 + (p1 + hi + (p0 + lo) / 18446744073709551616) % 18446744073709551616 * 18446744073709551616 + (p0 + lo) % 18446744073709551616 = (V + P) % B3 := by
  have h1 : (V + P) % B3 = (V % B3 + P) % B3 := by rw [Nat.mod_add_mod]
  rw [h1, ← hv, ← hP, hB]
  have e0 := Nat.div_add_mod (p0 + lo) 18446744073709551616
  have m0 := Nat.mod_lt (p0 + lo) (y := 18446744073709551616) (by omega)
  generalize (p0 + lo) / 18446744073709551616 = c at *
  generalize (p0 + lo) % 18446744073709551616 = q0 at *
  have e1 := Nat.div_add_mod (p1 + hi + c) 18446744073709551616
  have m1 := Nat.mod_lt (p1 + hi + c) (y := 18446744073709551616) (by omega)
  generalize (p1 + hi + c) / 18446744073709551616 = c2 at *
  generalize (p1 + hi + c) % 18446744073709551616 = q1 at *
  have e2 := Nat.div_add_mod (p2 + c2) 18446744073709551616
  have m2 := Nat.mod_lt (p2 + c2) (y := 18446744073709551616) (by omega)
  generalize (p2 + c2) / 18446744073709551616 = c3 at *
  generalize (p2 + c2) % 18446744073709551616 = q2 at *
  clear hv hP h1
  have key : p2 * 340282366920938463463374607431768211456 + p1 * 18446744073709551616 + p0 + (hi * 18446744073709551616 + lo) = (q2 * 340282366920938463463374607431768211456 + q1 * 18446744073709551616 + q0) + 6277101735386680763835789423207666416102355444464034512896 * c3 := by omega
  rw [key, Nat.add_mul_mod_self_left, Nat.mod_eq_of_lt (by omega)]

set_option maxRecDepth 100000 in
set_option maxHeartbeats 3200000 in
theorem dot_any (w : World) (ga gb : Option Addr) (ba oa bb ob ca cb la lb : Nat) (xs ys : List Nat) (hx : xs.length = la) (hy : ys.length = lb) (ha : la ≤ 1073741824) (hb : lb ≤ 1073741824)
    (hA : Rep w ga ba oa ca xs) (hB : Rep w gb bb ob cb ys) (wx : ∀ j, xs.getD j 0 < 18446744073709551616) (wy : ∀ j, ys.getD j 0 < 18446744073709551616) (mn B3 : Nat) (hmn : mn = min la lb) (hB3 : B3 = 6277101735386680763835789423207666416102355444464034512896) :
    Calls Try.prog 29 #[.slice ga la ca, .slice gb lb cb] w fun e w' => ∃ p2 p1 p0 : Nat, e = .returned (.tuple #[.int .u64 (p2 : Int), .int .u64 (p1 : Int), .int .u64 (p0 : Int)]) ∧ p2 < 18446744073709551616 ∧ p1 < 18446744073709551616 ∧ p0 < 18446744073709551616 ∧ p2 * 340282366920938463463374607431768211456 + p1 * 18446744073709551616 + p0 = dsum xs ys mn % B3 ∧ Below w.heap.size w w' := by
  have HB3 := hide hB3
  have hcase : (lb < la ∧ mn = lb) ∨ (¬ lb < la ∧ mn = la) := by omega
  have hm1 : mn ≤ la := by omega
  have hm2 : mn ≤ lb := by omega
  clear hmn hB3
  rcases hcase with ⟨hlt, hm⟩ | ⟨hlt, hm⟩
  all_goals
    subst hm
    go_enter Try.func29, Try.ntmps29
    go_wp2
    go_loopw [4, 5, 6, 16] (fun s2 s1 s0 i wr => ∃ (k p2 p1 p0 : Nat), k ≤ mn ∧ i = .int .i64 (k : Int) ∧ s2 = .int .u64 (p2 : Int) ∧ s1 = .int .u64 (p1 : Int) ∧ s0 = .int .u64 (p0 : Int) ∧ p2 < 18446744073709551616 ∧ p1 < 18446744073709551616 ∧ p0 < 18446744073709551616 ∧
        Hid (p2 * 340282366920938463463374607431768211456 + p1 * 18446744073709551616 + p0 = dsum xs ys k % B3) ∧ Below w.heap.size w wr) (fun _ _ _ i _ => mn - (intOf i).toNat)
    case atStart => exact ⟨0, 0, 0, 0, Nat.zero_le _, rfl, rfl, rfl, rfl, by omega, by omega, by omega, by show 0 = dsum xs ys 0 % B3; simp [dsum], Below.refl _ _⟩
    case round =>
      obtain ⟨k, p2, p1, p0, hk, rfl, rfl, rfl, rfl, hp2, hp1, hp0, hS, hnx⟩ := hrel
      by_cases h1 : k < mn
      · obtain rfl := hA.head (by omega)
        obtain rfl := hB.head (by omega)
        obtain ⟨x, hxe⟩ : ∃ x : Nat, x = xs.getD k 0 := ⟨_, rfl⟩
        obtain ⟨y, hye⟩ : ∃ y : Nat, y = ys.getD k 0 := ⟨_, rfl⟩
        have hx64 : x < 18446744073709551616 := by rw [hxe]; exact wx k
        have hy64 : y < 18446744073709551616 := by rw [hye]; exact wy k
        have cx : wr.cell? ⟨ba, oa + k, none⟩ = some (.int .u64 (x : Int)) := by rw [hxe]; exact (hnx.cell (by exact hA.lt (by omega))).trans (hA.cell k (by omega))
        have cy : wr.cell? ⟨bb, ob + k, none⟩ = some (.int .u64 (y : Int)) := by rw [hye]; exact (hnx.cell (by exact hB.lt (by omega))).trans (hB.cell k (by omega))
        have CM := fun w => mul64_any x y w hx64 hy64
        obtain ⟨hi, hhi⟩ : ∃ hi, hi = x * y / 18446744073709551616 := ⟨_, rfl⟩
        obtain ⟨lo, hlo⟩ : ∃ lo, lo = x * y % 18446744073709551616 := ⟨_, rfl⟩
        have hP : hi * 18446744073709551616 + lo = x * y := by rw [hhi, hlo]; exact Nat.div_add_mod' _ _
        have hlo64 : lo < 18446744073709551616 := by rw [hlo]; exact Nat.mod_lt _ (by omega)
        have hhi64 : hi < 18446744073709551616 := by
          rw [hhi, Nat.div_lt_iff_lt_mul (by omega)]
          have : x * y ≤ 18446744073709551615 * 18446744073709551615 := Nat.mul_le_mul (by omega) (by omega)
          omega
        rw [← hhi, ← hlo] at CM
        have hstep := dot_step (unhide HB3) hS.out hP
        have hds : dsum xs ys (k + 1) = dsum xs ys k + x * y := by rw [hxe, hye]; rfl
        rw [← hds] at hstep
        have a1 : ∀ w, (callFunc 34 #[.int .u64 (p0 : Int), .int .u64 (lo : Int), .int .u64 0]).run Try.prog w = .ok (.value (.tuple #[.int .u64 (((p0 + lo) % 18446744073709551616 : Nat) : Int), .int .u64 (((p0 + lo) / 18446744073709551616 : Nat) : Int)])) w := fun w => add64_run0 p0 lo w
        have hc1 : (p0 + lo) / 18446744073709551616 ≤ 1 := by omega
        have hq0 : (p0 + lo) % 18446744073709551616 < 18446744073709551616 := Nat.mod_lt _ (by omega)
        generalize (p0 + lo) % 18446744073709551616 = q0 at *
        generalize (p0 + lo) / 18446744073709551616 = c at *
        have a2 : ∀ w, (callFunc 34 #[.int .u64 (p1 : Int), .int .u64 (hi : Int), .int .u64 (c : Int)]).run Try.prog w = _ := fun w => add64_run p1 hi c hc1 w
        have hq1 : (p1 + hi + c) % 18446744073709551616 < 18446744073709551616 := Nat.mod_lt _ (by omega)
        have hc2 : (p1 + hi + c) / 18446744073709551616 ≤ 1 := by omega
        generalize (p1 + hi + c) % 18446744073709551616 = q1 at *
        generalize (p1 + hi + c) / 18446744073709551616 = c2 at *
        have e2 : IntKind.u64.wrap ((p2 : Int) + (c2 : Int)) = (((p2 + c2) % 18446744073709551616 : Nat) : Int) := by rw [IntKind.wrap_u64]; omega
        have hq2 : (p2 + c2) % 18446744073709551616 < 18446744073709551616 := Nat.mod_lt _ (by omega)
        generalize (p2 + c2) % 18446744073709551616 = q2 at *
        have HS := hide hstep
        have CM' := hide CM
        clear hstep CM hds hP hhi hlo hxe hye
        go_wp2
        go_quiet ((go_at_call 37; exact Calls.quiet_of_same (unhide CM' _)))
        go_wp2
        exact ⟨⟨k + 1, q2, q1, q0, by omega, by go_num, rfl, rfl, rfl, hq2, hq1, hq0, HS, below_drewN hnx _⟩, by simp [intOf]; omega⟩
      · obtain rfl : k = mn := by omega
        go_wp2
        go_ret3
        exact ⟨p2, p1, p0, rfl, hp2, hp1, hp0, hS.out, hnx⟩

/-- What the loop of Dot comes to is told over the words' own sums. -/
theorem dsum_le (xs ys : List Nat) (wx : ∀ j, xs.getD j 0 < 18446744073709551616) (wy : ∀ j, ys.getD j 0 < 18446744073709551616) : ∀ k, dsum xs ys k ≤ k * 340282366920938463463374607431768211456
  | 0 => by simp [dsum]
  | k + 1 => by
    have h := dsum_le xs ys wx wy k
    have : xs.getD k 0 * ys.getD k 0 ≤ 18446744073709551615 * 18446744073709551615 := Nat.mul_le_mul (by have := wx k; omega) (by have := wy k; omega)
    simp only [dsum]
    generalize xs.getD k 0 * ys.getD k 0 = p at *
    omega
theorem wsum_le (xs : List Nat) (wx : ∀ j, xs.getD j 0 < 18446744073709551616) : ∀ k, wsum (xs.take k) ≤ k * 18446744073709551616
  | 0 => by simp [wsum]
  | k + 1 => by
    have h := wsum_le xs wx k
    by_cases hk : k < xs.length
    · rw [take_snoc xs k hk, wsum_snoc]; have := wx k; omega
    · have e1 : xs.take (k + 1) = xs := List.take_of_length_le (by omega)
      have e2 : xs.take k = xs := List.take_of_length_le (by omega)
      rw [e1]
      rw [e2] at h
      exact Nat.le_trans h (Nat.mul_le_mul_right _ (Nat.le_succ k))

end Go.Proofs.Ytahmnjpnokhbpaa
