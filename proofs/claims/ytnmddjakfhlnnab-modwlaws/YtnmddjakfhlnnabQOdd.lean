/- The laws of modw: any word as a modulus that may be. -/
import Derived.Test.YtnmddjakfhlnnabQInv
import Derived.Laws.BitsAllLaws
namespace Go.Proofs.Ytnmddjakfhlnnab
open Go.RowKit

theorem or_one (x : Nat) : x ||| 1 = 2 * (x / 2) + 1 := by
  have h1 := Nat.two_pow_add_eq_or_of_lt (i := 1) (b := 1) (by omega) (x / 2)
  have h2 := Nat.two_pow_add_eq_or_of_lt (i := 1) (b := x % 2) (by omega) (x / 2)
  have e : 2 ^ 1 * (x / 2) + x % 2 = x := by omega
  rw [e] at h2
  have h3 : x ||| 1 = 2 ^ 1 * (x / 2) ||| 1 := by
    conv => lhs; rw [h2]
    rw [Nat.or_assoc]
    have : x % 2 ||| 1 = 1 := by
      have : x % 2 = 0 ∨ x % 2 = 1 := by omega
      rcases this with h | h <;> rw [h] <;> rfl
    rw [this]
  rw [h3, ← h1]

set_option maxHeartbeats 800000 in
theorem odd_any (p : Nat) (_h : p < 18446744073709551616) : ∃ P : Nat, P % 2 = 1 ∧ 3 ≤ P ∧ P < 4611686018427387904 ∧ ∀ w : World,
    Calls Try.prog 4 #[.int .u64 (p : Int)] w fun e w' => e = .returned (.int .u64 (P : Int)) ∧ w' = w := by
  obtain ⟨x, hx⟩ : ∃ x, x = p % 4611686018427387904 := ⟨_, rfl⟩
  obtain ⟨y, hy⟩ : ∃ y, y = 2 * (x / 2) + 1 := ⟨_, rfl⟩
  have e1 : (p : Int).tmod 4611686018427387904 = (x : Int) := by rw [hx]; exact tmod_nat p 4611686018427387904
  have e2 : bits .or .u64 (x : Int) 1 = (y : Int) := by
    have := u64_or_nat x 1 (by omega) (by omega)
    rw [or_one, ← hy] at this
    exact this
  by_cases h3 : y < 3
  · refine ⟨3, by omega, by omega, by omega, fun w => ?_⟩
    have h3 : (y : Int) < 3 := by omega
    clear hx hy
    go_enter Try.func4, Try.ntmps4
    go_wp2
    go_ret
    exact ⟨rfl, rfl⟩
  · refine ⟨y, by omega, by omega, by omega, fun w => ?_⟩
    have h3 : ¬ (y : Int) < 3 := by omega
    clear hx hy
    go_enter Try.func4, Try.ntmps4
    go_wp2
    go_ret
    exact ⟨ret_int rfl, rfl⟩

end Go.Proofs.Ytnmddjakfhlnnab
