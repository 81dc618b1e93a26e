/- Pairs of words: below, minus, plus. -/
import Derived.Test.YtahmnjpnokhbpaaWord
namespace Go.Proofs.Ytahmnjpnokhbpaa
open Go.RowKit

set_option maxHeartbeats 800000 in
theorem below_yes (a1 a0 b1 b0 : Nat) (w : World) (h : a1 < b1 ∨ (a1 = b1 ∧ a0 < b0)) :
    Calls Try.prog 45 #[.int .u64 (a1 : Int), .int .u64 (a0 : Int), .int .u64 (b1 : Int), .int .u64 (b0 : Int)] w fun e w' => e = .returned (.bool true) ∧ w' = w := by
  rcases h with h | ⟨h, h'⟩
  · have h1 : decide (a1 < b1) = true := by simp; omega
    have h2 : (a1 : Int) < (b1 : Int) := by omega
    go_enter Try.func45, Try.ntmps45
    go_wp2
    go_ret
    exact ⟨rfl, rfl⟩
  · have h1 : decide (a1 < b1) = false := by simp; omega
    have h2 : ((a1 : Int) == (b1 : Int)) = true := by rw [h]; simp
    have h3 : decide (a0 < b0) = true := by simp; omega
    have h4 : (a0 : Int) < (b0 : Int) := by omega
    clear h
    go_enter Try.func45, Try.ntmps45
    go_wp2
    go_ret
    exact ⟨rfl, rfl⟩

set_option maxHeartbeats 800000 in
theorem below_no (a1 a0 b1 b0 : Nat) (w : World) (h : b1 < a1 ∨ (a1 = b1 ∧ b0 ≤ a0)) :
    Calls Try.prog 45 #[.int .u64 (a1 : Int), .int .u64 (a0 : Int), .int .u64 (b1 : Int), .int .u64 (b0 : Int)] w fun e w' => e = .returned (.bool false) ∧ w' = w := by
  rcases h with h | ⟨h, h'⟩
  · have h1 : decide (a1 < b1) = false := by simp; omega
    have h2 : ((a1 : Int) == (b1 : Int)) = false := by rw [beq_eq_false_iff_ne]; omega
    clear h
    go_enter Try.func45, Try.ntmps45
    go_wp2
    go_ret
    exact ⟨rfl, rfl⟩
  · have h1 : decide (a1 < b1) = false := by simp; omega
    have h2 : ((a1 : Int) == (b1 : Int)) = true := by rw [h]; simp
    have h3 : decide (a0 < b0) = false := by simp; omega
    clear h h'
    go_enter Try.func45, Try.ntmps45
    go_wp2
    go_ret
    exact ⟨rfl, rfl⟩

set_option maxHeartbeats 800000 in
theorem minus_any (a1 a0 b1 b0 R1 R0 : Nat) (w : World) (ha1 : a1 < 18446744073709551616) (ha0 : a0 < 18446744073709551616) (hb1 : b1 < 18446744073709551616) (hb0 : b0 < 18446744073709551616) (h1 : R1 < 18446744073709551616) (h0 : R0 < 18446744073709551616)
    (hR : R1 * 18446744073709551616 + R0 = (a1 * 18446744073709551616 + a0 + 340282366920938463463374607431768211456 - (b1 * 18446744073709551616 + b0)) % 340282366920938463463374607431768211456) :
    Calls Try.prog 46 #[.int .u64 (a1 : Int), .int .u64 (a0 : Int), .int .u64 (b1 : Int), .int .u64 (b0 : Int)] w fun e w' => e = .returned (.tuple #[.int .u64 (R1 : Int), .int .u64 (R0 : Int)]) ∧ w' = w := by
  have s1 : ∀ w, (callFunc 36 #[.int .u64 (a0 : Int), .int .u64 (b0 : Int), .int .u64 0]).run Try.prog w = _ := fun w => sub64_run0 a0 b0 w
  obtain ⟨c, hc, hc1⟩ : ∃ c : Nat, c = (if a0 < b0 + 0 then 1 else 0) ∧ c ≤ 1 := ⟨_, rfl, by split <;> omega⟩
  rw [← hc] at s1
  have s2 : ∀ w, (callFunc 36 #[.int .u64 (a1 : Int), .int .u64 (b1 : Int), .int .u64 (c : Int)]).run Try.prog w = _ := fun w => sub64_run a1 b1 c hc1 w
  have e0 : (a0 + 18446744073709551616 - b0 - 0) % 18446744073709551616 = R0 := by split at hc <;> omega
  have e1 : (a1 + 18446744073709551616 - b1 - c) % 18446744073709551616 = R1 := by split at hc <;> omega
  rw [e0] at s1
  rw [e1] at s2
  generalize (if a1 < b1 + c then 1 else 0 : Nat) = c2 at *
  clear hR hc e0 e1
  go_enter Try.func46, Try.ntmps46
  go_wp2
  go_ret2
  exact ⟨ret_two rfl rfl, rfl⟩

set_option maxHeartbeats 800000 in
theorem plus_any (a1 a0 b1 b0 R1 R0 : Nat) (w : World) (_ha1 : a1 < 18446744073709551616) (ha0 : a0 < 18446744073709551616) (_hb1 : b1 < 18446744073709551616) (hb0 : b0 < 18446744073709551616) (_h1 : R1 < 18446744073709551616) (h0 : R0 < 18446744073709551616)
    (hR : R1 * 18446744073709551616 + R0 = (a1 * 18446744073709551616 + a0 + (b1 * 18446744073709551616 + b0)) % 340282366920938463463374607431768211456) :
    Calls Try.prog 47 #[.int .u64 (a1 : Int), .int .u64 (a0 : Int), .int .u64 (b1 : Int), .int .u64 (b0 : Int)] w fun e w' => e = .returned (.tuple #[.int .u64 (R1 : Int), .int .u64 (R0 : Int)]) ∧ w' = w := by
  have s1 : ∀ w, (callFunc 34 #[.int .u64 (a0 : Int), .int .u64 (b0 : Int), .int .u64 0]).run Try.prog w = _ := fun w => add64_run0 a0 b0 w
  obtain ⟨c, hc⟩ : ∃ c : Nat, c = (a0 + b0 + 0) / 18446744073709551616 := ⟨_, rfl⟩
  rw [← hc] at s1
  have s2 : ∀ w, (callFunc 34 #[.int .u64 (a1 : Int), .int .u64 (b1 : Int), .int .u64 (c : Int)]).run Try.prog w = _ := fun w => add64_run a1 b1 c (by omega) w
  have e0 : (a0 + b0 + 0) % 18446744073709551616 = R0 := by omega
  have e1 : (a1 + b1 + c) % 18446744073709551616 = R1 := by omega
  rw [e0] at s1
  rw [e1] at s2
  generalize (a1 + b1 + c) / 18446744073709551616 = c2 at *
  clear hR hc e0 e1
  go_enter Try.func47, Try.ntmps47
  go_wp2
  go_ret2
  exact ⟨ret_two rfl rfl, rfl⟩

end Go.Proofs.Ytahmnjpnokhbpaa
