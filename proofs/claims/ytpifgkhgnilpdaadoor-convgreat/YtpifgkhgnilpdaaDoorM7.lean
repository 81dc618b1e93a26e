/- The document's answers of chapter 6: sums, products, powers, common divisors, inverses of residues, for any modulus above 0. -/
import Derived.Test.YtpifgkhgnilpdaaDoorM1
import Derived.Test.YtpifgkhgnilpdaaDoorCWord
import Derived.Test.YtpifgkhgnilpdaaDoorCOldQ
namespace Go.Proofs.YtpifgkhgnilpdaaDoor
open Go.RowKit

theorem rtmod_nat (a b : Nat) : (a : Int).tmod (b : Int) = ((a % b : Nat) : Int) := rfl

theorem b_eq (p : Nat) : ad p (18446744073709551615 % p) 1 = 18446744073709551616 % p := by
  unfold ad
  rw [Nat.mod_add_mod]

/-- The inverse that there is. -/
theorem inv_gcd {p a x : Nat} (h : ml p a x = 1) : Nat.gcd (a % p) p = 1 := by
  have h1 := Nat.gcd_dvd_left (a % p) p
  have h2 := Nat.gcd_dvd_right (a % p) p
  generalize Nat.gcd (a % p) p = d at *
  have h3 : d ∣ a * x % p := by
    have : a * x % p = (a % p) * x % p := by rw [Nat.mod_mul_mod]
    rw [this]
    exact (Nat.dvd_mod_iff h2).2 (Nat.dvd_trans h1 (Nat.dvd_mul_right _ _))
  rw [show a * x % p = 1 from h] at h3
  exact Nat.dvd_one.1 h3

end Go.Proofs.YtpifgkhgnilpdaaDoor

/- Package word: Div. -/
namespace Go.Proofs.YtpifgkhgnilpdaaDoor
open Go.RowKit

set_option maxHeartbeats 800000 in
theorem word_div_no (hi lo d : Nat) (w : World) (h : d ≤ hi) :
    Calls Tryd.prog 67 #[.int .u64 (hi : Int), .int .u64 (lo : Int), .int .u64 (d : Int)] w fun e w' => e = .returned (.tuple #[.int .u64 0, .int .u64 0, .bool false]) ∧ w' = w := by
  have h' : (d : Int) ≤ (hi : Int) := by omega
  go_enter Tryd.func67, Tryd.ntmps67
  go_wp2
  go_ret3
  exact ⟨ret_three rfl rfl rfl, rfl⟩

set_option maxHeartbeats 800000 in
theorem word_div (hi lo d Q R : Nat) (w : World) (h : hi < d) (hl : lo < 18446744073709551616) (hd : d < 18446744073709551616) (hQ : Q = (18446744073709551616 * hi + lo) / d) (hR : R = (18446744073709551616 * hi + lo) % d) :
    Calls Tryd.prog 67 #[.int .u64 (hi : Int), .int .u64 (lo : Int), .int .u64 (d : Int)] w fun e w' => e = .returned (.tuple #[.int .u64 (Q : Int), .int .u64 (R : Int), .bool true]) ∧ Below w.heap.size w w' := by
  have h' : ¬ (d : Int) ≤ (hi : Int) := by omega
  have hc := fun w => div64_nat hi lo d w h hl hd
  rw [← hQ, ← hR] at hc
  have HC := hide hc
  clear hc hQ hR
  go_enter Tryd.func67, Tryd.ntmps67
  go_wp2_with fail
  refine (unhide HC _).mono ?_
  rintro e w1 ⟨rfl, b1⟩
  go_wp2
  go_ret3
  exact ⟨ret_three rfl rfl rfl, b1⟩

end Go.Proofs.YtpifgkhgnilpdaaDoor
