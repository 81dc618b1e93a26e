/- Len64 and LeadingZeros64 of math/bits, walked over this program. -/
import Derived.Test.YtiojfgcahopfmaaM2
import Derived.Lib.BitFns
import Derived.Lib.Small
import Derived.Lib.Walk
namespace Go.Proofs.Ytiojfgcahopfmaa
open Go.RowKit

theorem tab_get (t : ByteArray) (n : Nat) (h : n < t.size) : ((t[n]'h).toNat : Int) = (((t[n]?).getD 0).toNat : Int) := by
  rw [getElem?_pos t n h]; rfl
theorem len8_out (y : Int) : (((Lib.len8tab[y.toNat]?).getD 0).toNat : Int) = Lib.len8 y := by rw [Lib.len8]

/-- One way through Len64: y is what is left of x, k the places that were passed. -/
theorem len_way (T : ByteArray) (x y : Int) (k K : Nat) (h0 : 0 ≤ y) (h1 : y < 256) (hb : y.toNat < T.size) (hT : (((T[y.toNat]?).getD 0).toNat : Int) = Lib.len8 y) (hk : k ≤ 56) (e : y.toNat = x.toNat / K) (hs : Lib.bitLen x.toNat = k + Lib.bitLen (x.toNat / K)) :
    wrap64 ((k : Int) + wrap64 ((T[y.toNat]'hb).toNat : Int)) = (Lib.bitLen x.toNat : Int) := by
  have l := Lib.bitLen_le8' y h0 (by omega)
  rw [tab_get, hT, Lib.len8_of y h0 (by omega), hs, ← e]
  clear hs hT e
  generalize Lib.bitLen y.toNat = L at *
  unfold wrap64
  omega

/-- A word of k binary digits lies from 2 to the k - 1 to below 2 to the k. -/
theorem bl_bounds : ∀ (n x : Nat), x < 2 ^ n → x < 2 ^ 64 → 0 < x → 1 ≤ Lib.bitLen x ∧ Lib.bitLen x ≤ n ∧ 2 ^ (Lib.bitLen x - 1) ≤ x ∧ x < 2 ^ Lib.bitLen x
  | 0, x, h, _, h0 => by simp at h; omega
  | n + 1, x, h, h64, h0 => by
    have e := Lib.bitLen_half x (by omega) h64
    rw [e]
    by_cases h2 : x / 2 = 0
    · have : x = 1 := by omega
      subst this
      have e0 : Lib.bitLen (1 / 2) = 0 := by decide +kernel
      rw [e0]; simp
    · obtain ⟨a, b, c, d⟩ := bl_bounds n (x / 2) (by rw [Nat.pow_succ] at h; omega) (by omega) (by omega)
      generalize Lib.bitLen (x / 2) = L at a b c d ⊢
      obtain ⟨k, rfl⟩ : ∃ k, L = k + 1 := ⟨L - 1, by omega⟩
      simp only [Nat.add_sub_cancel] at c
      refine ⟨by omega, by omega, ?_, ?_⟩
      · rw [show 1 + (k + 1) - 1 = k + 1 from by omega, Nat.pow_succ]; omega
      · rw [show 1 + (k + 1) = k + 1 + 1 from by omega, Nat.pow_succ]; omega

end Go.Proofs.Ytiojfgcahopfmaa
