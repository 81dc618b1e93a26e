/- Plain mathematics of a division binary digit by binary digit. -/
import Derived.Test.YtofgbmfaehnmnaaGreatDoorB16
import Derived.Test.YtofgbmfaehnmnaaGreatDoorB5
import Derived.Test.YtofgbmfaehnmnaaGreatDoorB10
import Derived.Test.YtofgbmfaehnmnaaGreatDoorB7
namespace Go.Proofs.YtofgbmfaehnmnaaGreatDoor

/-- The upper binary digits of A, from place k on, are divided. -/
structure DivAt (A D k : Nat) (rs qs : List Nat) : Prop where
  dr : Dig rs
  dq : Dig qs
  r : val rs = A / 2 ^ k % D
  q : val qs = A / 2 ^ k / D * 2 ^ k

theorem zeros_val (n : Nat) : val (List.replicate n 0) = 0 := by
  have := (mul_start [] [] n).2.2.2
  simpa [val] using this
theorem zeros_dig (n : Nat) : Dig (List.replicate n 0) := (mul_start [] [] n).2.1

theorem div_start {A D k n m : Nat} (h : A < 2 ^ k) : DivAt A D k (List.replicate n 0) (List.replicate m 0) :=
  ⟨zeros_dig _, zeros_dig _, by rw [Nat.div_eq_of_lt h, zeros_val]; simp, by rw [Nat.div_eq_of_lt h, zeros_val]; simp⟩

theorem half_of (A i : Nat) : A / 2 ^ i = 2 * (A / 2 ^ (i + 1)) + A / 2 ^ i % 2 := by
  rw [Nat.pow_succ, ← Nat.div_div_eq_div_mul]; omega

theorem half_div {P D b : Nat} (hb : b ≤ 1) (hD : 0 < D) :
    (D ≤ 2 * (P % D) + b → (2 * P + b) / D = 2 * (P / D) + 1 ∧ (2 * P + b) % D = 2 * (P % D) + b - D) ∧ (2 * (P % D) + b < D → (2 * P + b) / D = 2 * (P / D) ∧ (2 * P + b) % D = 2 * (P % D) + b) := by
  have hm := Nat.mod_lt P hD
  have e := Nat.div_add_mod P D
  have e2 : 2 * P + b = (2 * (P % D) + b) + D * (2 * (P / D)) := by
    have : D * (2 * (P / D)) = 2 * (D * (P / D)) := Nat.mul_left_comm _ _ _
    omega
  generalize P % D = R at *
  generalize P / D = Q at *
  constructor
  · intro h
    have e3 : 2 * P + b = (2 * R + b - D) + D * (2 * Q + 1) := by rw [Nat.mul_add]; omega
    rw [e3]
    exact ⟨by rw [Nat.add_mul_div_left _ _ hD, Nat.div_eq_of_lt (by omega)]; omega, by rw [Nat.add_mul_mod_self_left]; exact Nat.mod_eq_of_lt (by omega)⟩
  · intro h
    rw [e2]
    exact ⟨by rw [Nat.add_mul_div_left _ _ hD, Nat.div_eq_of_lt h]; omega, by rw [Nat.add_mul_mod_self_left]; exact Nat.mod_eq_of_lt h⟩

theorem twice_pow (Q i : Nat) : Q * 2 ^ (i + 1) = 2 * Q * 2 ^ i := by rw [Nat.pow_succ, Nat.mul_comm (2 ^ i) 2, ← Nat.mul_assoc, Nat.mul_comm Q 2]
theorem div_no {A D i : Nat} {rs qs rs' : List Nat} (hD : 0 < D) (h : DivAt A D (i + 1) rs qs) (dr' : Dig rs') (hX : 2 * val rs + A / 2 ^ i % 2 < D) (hr : val rs' = 2 * val rs + A / 2 ^ i % 2) : DivAt A D i rs' qs := by
  have hh := (half_div (P := A / 2 ^ (i + 1)) (b := A / 2 ^ i % 2) (by omega) hD).2 (by rw [← h.r]; exact hX)
  rw [← half_of] at hh
  refine ⟨dr', h.dq, by rw [hr, hh.2, h.r], ?_⟩
  rw [h.q, hh.1, twice_pow]

/-- The digit of the quotient that the next binary digit goes into. -/
theorem div_digit {A D i : Nat} {rs qs : List Nat} (h : DivAt A D (i + 1) rs qs) : qs.getD (i / 32) 0 ||| 2 ^ (i % 32) = qs.getD (i / 32) 0 + 2 ^ (i % 32) ∧ qs.getD (i / 32) 0 + 2 ^ (i % 32) < 4294967296 := by
  have hz := dig_at qs (i / 32) h.dq
  have ht : i % 32 < 32 := Nat.mod_lt _ (by omega)
  have e : 2 ^ (i + 1) = 2 ^ (i % 32 + 1) * 4294967296 ^ (i / 32) := by rw [pow32, ← Nat.pow_add]; congr 1; omega
  have e2 : (4294967296 : Nat) = 2 ^ (31 - i % 32) * 2 ^ (i % 32 + 1) := by rw [← Nat.pow_add, show 31 - i % 32 + (i % 32 + 1) = 32 from by omega]
  rw [h.q, e, ← Nat.mul_assoc, Nat.mul_div_cancel _ (Nat.pow_pos (by omega))] at hz
  generalize A / (2 ^ (i % 32 + 1) * 4294967296 ^ (i / 32)) / D = Q at hz
  generalize i % 32 = t at *
  have hz2 : qs.getD (i / 32) 0 = Q % 2 ^ (31 - t) * 2 ^ (t + 1) := by
    rw [hz]
    conv => lhs; rw [e2]
    rw [Nat.mul_mod_mul_right]
  have hu : Q % 2 ^ (31 - t) < 2 ^ (31 - t) := Nat.mod_lt _ (Nat.pow_pos (by omega))
  rw [hz2]
  generalize Q % 2 ^ (31 - t) = u at *
  have hp : 2 ^ t < 2 ^ (t + 1) := by rw [Nat.pow_succ]; have : 0 < 2 ^ t := Nat.pow_pos (by omega); omega
  refine ⟨or_add u (2 ^ t) (t + 1) hp, ?_⟩
  have h1 : (u + 1) * 2 ^ (t + 1) ≤ 2 ^ (31 - t) * 2 ^ (t + 1) := Nat.mul_le_mul_right _ hu
  rw [← e2, Nat.add_mul] at h1
  omega

theorem div_yes {A D i : Nat} {rs qs rs' : List Nat} (hD : 0 < D) (h : DivAt A D (i + 1) rs qs) (dr' : Dig rs') (hX : D ≤ 2 * val rs + A / 2 ^ i % 2) (hr : val rs' = 2 * val rs + A / 2 ^ i % 2 - D) (hi : i / 32 < qs.length) :
    DivAt A D i rs' (qs.set (i / 32) (qs.getD (i / 32) 0 + 2 ^ (i % 32))) := by
  have hh := (half_div (P := A / 2 ^ (i + 1)) (b := A / 2 ^ i % 2) (by omega) hD).1 (by rw [← h.r]; exact hX)
  rw [← half_of] at hh
  have hz := div_digit h
  refine ⟨dr', dig_set h.dq hi hz.2, by rw [hr, hh.2, h.r], ?_⟩
  have hv := val_set qs (i / 32) (qs.getD (i / 32) 0 + 2 ^ (i % 32)) hi
  have e : 4294967296 ^ (i / 32) * 2 ^ (i % 32) = 2 ^ i := by rw [pow32, ← Nat.pow_add, Nat.div_add_mod]
  rw [Nat.mul_add, e] at hv
  have hq := h.q
  rw [twice_pow] at hq
  rw [hh.1, Nat.add_mul, Nat.one_mul]
  omega

theorem div_room {P D R b m : Nat} (hr : R = P % D) (hD : 0 < D) (hm : D < 4294967296 ^ m) (hb : b ≤ 1) : 2 * R + b < 4294967296 ^ (m + 1) := by
  have h := Nat.mod_lt P hD
  rw [← hr] at h
  rw [Nat.pow_succ]
  omega

theorem div_done {A D : Nat} {rs qs : List Nat} (h : DivAt A D 0 rs qs) : val rs = A % D ∧ val qs = A / D := by
  have h1 := h.r
  have h2 := h.q
  simp at h1 h2
  exact ⟨h1, h2⟩

end Go.Proofs.YtofgbmfaehnmnaaGreatDoor

/- DivMod: quotient and remainder of two naturals. -/
namespace Go.Proofs.YtofgbmfaehnmnaaGreatDoor
open Go.RowKit

/-- What DivMod leaves. -/
def DivDone (w : World) (a d : Nat) (e : Ending) (w' : World) : Prop := ∃ q r, e = .returned (.tuple #[q, r]) ∧ IsN w' q (a / d) ∧ IsN w' r (a % d) ∧ Below w.heap.size w w'
theorem div_mk {w w' : World} {a d : Nat} (q r : Value) (h1 : IsN w' q (a / d)) (h2 : IsN w' r (a % d)) (h3 : Below w.heap.size w w') : DivDone w a d (.returned (.tuple #[q, r])) w' := ⟨q, r, rfl, h1, h2, h3⟩

theorem isN_nil (w : World) : IsN w (.slice none 0 0) 0 := ⟨none, 0, 0, 0, [], rfl, Rep.nil _ _ _ _ _, can_nil, rfl⟩

theorem wrapS (p : Nat) (h : p < 18446744073709551616) : IntKind.u64.wrap (p : Int) = (p : Int) := by rw [IntKind.wrap_u64]; omega
theorem or_num {z p : Nat} (h1 : z ||| p = z + p) (h2 : z + p < 4294967296) : bits .or .u64 (z : Int) (IntKind.u64.wrap (p : Int)) = ((z + p : Nat) : Int) := by
  rw [wrapS p (by omega), bits_or_u64_nat z p (by omega) (by omega), h1]
theorem or_bit {z t : Nat} (h1 : z ||| 2 ^ t = z + 2 ^ t) (h2 : z + 2 ^ t < 4294967296) : bits .or .u64 (z : Int) (IntKind.u64.wrap (2 ^ t)) = ((z + 2 ^ t : Nat) : Int) := by
  rw [pow_cast]; exact or_num h1 h2

theorem div_store {w : World} {base ty g n cap j t : Nat} {qs : List Nat} (h : w.ownsRow base ty 1 (.slice (some ⟨g, 0, none⟩) n cap) n (cellsOf qs)) (h1 : qs.getD j 0 ||| 2 ^ t = qs.getD j 0 + 2 ^ t) (h2 : qs.getD j 0 + 2 ^ t < 4294967296) :
    (w.setCell ⟨g, j, none⟩ (.int .u64 (bits .or .u64 ((qs.getD j 0 : Nat) : Int) (IntKind.u64.wrap (2 ^ t))))).ownsRow base ty 1 (.slice (some ⟨g, 0, none⟩) n cap) n (cellsOf (qs.set j (qs.getD j 0 + 2 ^ t))) ∧
      w.grownBy (w.setCell ⟨g, j, none⟩ (.int .u64 (bits .or .u64 ((qs.getD j 0 : Nat) : Int) (IntKind.u64.wrap (2 ^ t))))) (some g) := by
  rw [or_bit h1 h2, ← cells_set]
  exact h.stored _ _

end Go.Proofs.YtofgbmfaehnmnaaGreatDoor
