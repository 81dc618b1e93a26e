/- Package word: Mul, Add, Sub, Div, Inverse. -/
import Derived.Test.YtiekgpphggejcaaGreatDoorB28
import Derived.Laws.BitsAllLaws
import Derived.Test.YtiekgpphggejcaaGreatDoorB3
import Derived.Test.YtiekgpphggejcaaGreatDoorB24
import Derived.Test.YtiekgpphggejcaaGreatDoorB1
import Derived.Test.YtiekgpphggejcaaGreatDoorB8
namespace Go.Proofs.YtiekgpphggejcaaGreatDoor
open Go.RowKit

theorem ret_three {a b c d : Int} {p q : Bool} (h : a = b) (h' : c = d) (h'' : p = q) : Ending.returned (.tuple #[.int .u64 a, .int .u64 c, .bool p]) = .returned (.tuple #[.int .u64 b, .int .u64 d, .bool q]) := by rw [h, h', h'']
theorem ret_ib {a b : Int} {p q : Bool} (h : a = b) (h'' : p = q) : Ending.returned (.tuple #[.int .u64 a, .bool p]) = .returned (.tuple #[.int .u64 b, .bool q]) := by rw [h, h'']

theorem div64_nat (hi lo y : Nat) (w : World) (h0 : hi < y) (h1 : lo < 18446744073709551616) (h2 : y < 18446744073709551616) :
    Calls Tryz.prog 160 #[.int .u64 (hi : Int), .int .u64 (lo : Int), .int .u64 (y : Int)] w fun e w' => e = .returned (.tuple #[.int .u64 (((18446744073709551616 * hi + lo) / y : Nat) : Int), .int .u64 (((18446744073709551616 * hi + lo) % y : Nat) : Int)]) ∧ Below w.heap.size w w' := by
  by_cases h : hi = 0
  · subst h
    have := div64_small lo y w h1 h2 h0
    rw [Nat.mul_zero, Nat.zero_add]
    exact this
  · exact div64_big hi lo y w (by omega) h1 h2 h0 (by omega)

set_option maxHeartbeats 400000 in
theorem word_mul (x y : Nat) (w : World) (hx : x < 18446744073709551616) (hy : y < 18446744073709551616) :
    Calls Tryz.prog 99 #[.int .u64 (x : Int), .int .u64 (y : Int)] w fun e w' => e = .returned (.tuple #[.int .u64 ((x * y / 18446744073709551616 : Nat) : Int), .int .u64 ((x * y % 18446744073709551616 : Nat) : Int)]) ∧ w' = w := by
  go_enter Tryz.func99, Tryz.ntmps99
  go_wp2_with fail
  refine (mul64_any x y _ hx hy).mono ?_
  rintro e w' ⟨rfl, rfl⟩
  go_wp2
  go_ret2
  exact ⟨ret_two rfl rfl, rfl⟩

theorem not_word (d : Nat) (h : d < 18446744073709551616) : 18446744073709551615 ^^^ d = 18446744073709551615 - d := by
  have e := congrArg BitVec.toNat (BitVec.allOnes_xor (x := BitVec.ofNat 64 d))
  rw [BitVec.toNat_xor, BitVec.toNat_not, BitVec.toNat_allOnes, BitVec.toNat_ofNat, Nat.mod_eq_of_lt (by omega)] at e
  exact e
theorem not_eq (d : Nat) (h : d < 18446744073709551616) : bits .xor .u64 IntKind.u64.max (d : Int) = ((18446744073709551615 - d : Nat) : Int) := by
  have e : IntKind.u64.max = ((18446744073709551615 : Nat) : Int) := by decide
  rw [e, u64_xor_nat 18446744073709551615 d (by omega) h, not_word d h]

/-- The inverse of a great word. -/
def inv1 (d : Nat) : Nat := (18446744073709551616 * (18446744073709551615 - d) + 18446744073709551615) / d

theorem inv1_eq (d : Nat) (h1 : 9223372036854775808 ≤ d) (h2 : d < 18446744073709551616) : (18446744073709551616 * 18446744073709551615 + 18446744073709551615) / d = 18446744073709551616 + inv1 d := by
  unfold inv1
  have e : 18446744073709551616 * 18446744073709551615 + 18446744073709551615 = 18446744073709551616 * (18446744073709551615 - d) + 18446744073709551615 + d * 18446744073709551616 := by omega
  rw [e, Nat.add_mul_div_left _ _ (by omega)]
  omega
theorem inv1_lt (d : Nat) (h1 : 9223372036854775808 ≤ d) (h2 : d < 18446744073709551616) : inv1 d < 18446744073709551616 := by
  unfold inv1
  rw [Nat.div_lt_iff_lt_mul (by omega)]
  omega

set_option maxHeartbeats 400000 in
theorem word_add (a b c k : Nat) (w : World) (hk : (c = 0 ∧ k = 0) ∨ (c ≠ 0 ∧ k = 1)) :
    Calls Tryz.prog 119 #[.int .u64 (a : Int), .int .u64 (b : Int), .int .u64 (c : Int)] w fun e w' => e = .returned (.tuple #[.int .u64 (((a + b + k) % 18446744073709551616 : Nat) : Int), .int .u64 (((a + b + k) / 18446744073709551616 : Nat) : Int)]) ∧ w' = w := by
  rcases hk with ⟨h, rfl⟩ | ⟨h, rfl⟩
  · have hc : ((c : Int) != 0) = false := by rw [h]; rfl
    have hr : ∀ w, (callFunc 147 #[.int .u64 (a : Int), .int .u64 (b : Int), .int .u64 0]).run Tryz.prog w = _ := fun w => add64_run0 a b w
    clear h
    generalize (a + b + 0) % 18446744073709551616 = S at *
    generalize (a + b + 0) / 18446744073709551616 = O at *
    go_enter Tryz.func119, Tryz.ntmps119
    go_wp2
    go_ret2
    exact ⟨ret_two rfl rfl, rfl⟩
  · have hc : ((c : Int) != 0) = true := by rw [bne_iff_ne]; omega
    have hr : ∀ w, (callFunc 147 #[.int .u64 (a : Int), .int .u64 (b : Int), .int .u64 1]).run Tryz.prog w = _ := fun w => add64_run1 a b w
    clear h
    generalize (a + b + 1) % 18446744073709551616 = S at *
    generalize (a + b + 1) / 18446744073709551616 = O at *
    go_enter Tryz.func119, Tryz.ntmps119
    go_wp2
    go_ret2
    exact ⟨ret_two rfl rfl, rfl⟩

set_option maxHeartbeats 400000 in
theorem word_sub (a b c k : Nat) (w : World) (hk : (c = 0 ∧ k = 0) ∨ (c ≠ 0 ∧ k = 1)) :
    Calls Tryz.prog 151 #[.int .u64 (a : Int), .int .u64 (b : Int), .int .u64 (c : Int)] w fun e w' => e = .returned (.tuple #[.int .u64 (((a + 18446744073709551616 - b - k) % 18446744073709551616 : Nat) : Int), .int .u64 ((if a < b + k then 1 else 0 : Nat) : Int)]) ∧ w' = w := by
  rcases hk with ⟨h, rfl⟩ | ⟨h, rfl⟩
  · have hc : ((c : Int) != 0) = false := by rw [h]; rfl
    have hr : ∀ w, (callFunc 163 #[.int .u64 (a : Int), .int .u64 (b : Int), .int .u64 0]).run Tryz.prog w = _ := fun w => sub64_run0 a b w
    clear h
    generalize (a + 18446744073709551616 - b - 0) % 18446744073709551616 = S at *
    generalize (if a < b + 0 then 1 else 0 : Nat) = O at *
    go_enter Tryz.func151, Tryz.ntmps151
    go_wp2
    go_ret2
    exact ⟨ret_two rfl rfl, rfl⟩
  · have hc : ((c : Int) != 0) = true := by rw [bne_iff_ne]; omega
    have hr : ∀ w, (callFunc 163 #[.int .u64 (a : Int), .int .u64 (b : Int), .int .u64 1]).run Tryz.prog w = _ := fun w => sub64_run1 a b w
    clear h
    generalize (a + 18446744073709551616 - b - 1) % 18446744073709551616 = S at *
    generalize (if a < b + 1 then 1 else 0 : Nat) = O at *
    go_enter Tryz.func151, Tryz.ntmps151
    go_wp2
    go_ret2
    exact ⟨ret_two rfl rfl, rfl⟩

theorem wake_mul (w : World) : Calls Tryz.prog 99 #[.int .u64 4294967296, .int .u64 4294967296] w fun e w' => e = .returned (.tuple #[.int .u64 1, .int .u64 0]) ∧ w' = w :=
  word_mul 4294967296 4294967296 w (by omega) (by omega)
theorem wake_inv : inv1 9223372036854775808 = 18446744073709551615 := by decide +kernel
end Go.Proofs.YtiekgpphggejcaaGreatDoor

/- Package word: Div. -/
namespace Go.Proofs.YtiekgpphggejcaaGreatDoor
open Go.RowKit

set_option maxHeartbeats 800000 in
theorem word_div_no (hi lo d : Nat) (w : World) (h : d ≤ hi) :
    Calls Tryz.prog 138 #[.int .u64 (hi : Int), .int .u64 (lo : Int), .int .u64 (d : Int)] w fun e w' => e = .returned (.tuple #[.int .u64 0, .int .u64 0, .bool false]) ∧ w' = w := by
  have h' : (d : Int) ≤ (hi : Int) := by omega
  go_enter Tryz.func138, Tryz.ntmps138
  go_wp2
  go_ret3
  exact ⟨ret_three rfl rfl rfl, rfl⟩

set_option maxHeartbeats 800000 in
theorem word_div (hi lo d Q R : Nat) (w : World) (h : hi < d) (hl : lo < 18446744073709551616) (hd : d < 18446744073709551616) (hQ : Q = (18446744073709551616 * hi + lo) / d) (hR : R = (18446744073709551616 * hi + lo) % d) :
    Calls Tryz.prog 138 #[.int .u64 (hi : Int), .int .u64 (lo : Int), .int .u64 (d : Int)] w fun e w' => e = .returned (.tuple #[.int .u64 (Q : Int), .int .u64 (R : Int), .bool true]) ∧ Below w.heap.size w w' := by
  have h' : ¬ (d : Int) ≤ (hi : Int) := by omega
  have hc := fun w => div64_nat hi lo d w h hl hd
  rw [← hQ, ← hR] at hc
  have HC := hide hc
  clear hc hQ hR
  go_enter Tryz.func138, Tryz.ntmps138
  go_wp2_with fail
  refine (unhide HC _).mono ?_
  rintro e w1 ⟨rfl, b1⟩
  go_wp2
  go_ret3
  exact ⟨ret_three rfl rfl rfl, b1⟩

end Go.Proofs.YtiekgpphggejcaaGreatDoor

/- WordDivs: what the law's walk comes to. -/
namespace Go.Proofs.YtiekgpphggejcaaGreatDoor
open Go.RowKit

theorem quot_small {hi lo d : Nat} (h : hi < d) (hl : lo < 18446744073709551616) : (18446744073709551616 * hi + lo) / d < 18446744073709551616 := by
  rw [Nat.div_lt_iff_lt_mul (by omega)]
  omega

end Go.Proofs.YtiekgpphggejcaaGreatDoor

/- The document's answers of chapter 6: sums, products, powers, common divisors, inverses of residues, for any modulus above 0. -/
namespace Go.Proofs.YtiekgpphggejcaaGreatDoor
open Go.RowKit

theorem rtmod_nat (a b : Nat) : (a : Int).tmod (b : Int) = ((a % b : Nat) : Int) := rfl

theorem b_eq (p : Nat) : ad p (18446744073709551615 % p) 1 = 18446744073709551616 % p := by
  unfold ad
  rw [Nat.mod_add_mod]

/-- The inverse that there is. -/
theorem inv_gcd {p a x : Nat} (h : ml p a x = 1) : Nat.gcd (a % p) p = 1 := by
  have h1 := Nat.gcd_dvd_left (a % p) p
  have h2 := Nat.gcd_dvd_right (a % p) p
  generalize Nat.gcd (a % p) p = d at *
  have h3 : d ∣ a * x % p := by
    have : a * x % p = (a % p) * x % p := by rw [Nat.mod_mul_mod]
    rw [this]
    exact (Nat.dvd_mod_iff h2).2 (Nat.dvd_trans h1 (Nat.dvd_mul_right _ _))
  rw [show a * x % p = 1 from h] at h3
  exact Nat.dvd_one.1 h3

end Go.Proofs.YtiekgpphggejcaaGreatDoor
