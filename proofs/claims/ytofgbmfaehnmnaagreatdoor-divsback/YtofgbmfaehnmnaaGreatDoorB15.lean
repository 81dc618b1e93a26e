/- Shl: a natural moved up. -/
import Derived.Test.YtofgbmfaehnmnaaGreatDoorB12
import Derived.Test.YtofgbmfaehnmnaaGreatDoorB10
namespace Go.Proofs.YtofgbmfaehnmnaaGreatDoor
open Go.RowKit

/-- k digits are moved up by s digits and t binary places, c is carried. -/
def ShlAt (xs os : List Nat) (s t k c : Nat) : Prop := os.length = s + k ∧ Dig os ∧ c < 4294967296 ∧ val os + 4294967296 ^ (s + k) * c = 4294967296 ^ s * (2 ^ t * val (xs.take k))

theorem zeros (n : Nat) : Dig (List.replicate n 0) ∧ val (List.replicate n 0) = 0 := by
  have h := mul_start [] [] n
  exact ⟨h.2.1, by simpa [val] using h.2.2.2⟩
theorem shl_start (xs : List Nat) (s t : Nat) : ShlAt xs (List.replicate s 0) s t 0 0 := ⟨by simp, (zeros s).1, by omega, by rw [(zeros s).2]; simp [val]⟩
theorem shl_step {xs os : List Nat} {s t k c z : Nat} (h : ShlAt xs os s t k c) (hz : z = xs.getD k 0 * 2 ^ t) (hzb : z < 9223372036854775808) : ShlAt xs (os ++ [(c + z) % 4294967296]) s t (k + 1) ((c + z) / 4294967296) := by
  obtain ⟨h1, h2, h3, h4⟩ := h
  refine ⟨by simp [h1]; omega, dig_snoc h2 (by omega), by omega, ?_⟩
  rw [val_snoc, h1, val_take_succ, ← Nat.add_assoc, Nat.pow_succ, Nat.mul_assoc]
  have e : 4294967296 ^ (s + k) * ((c + z) % 4294967296) + 4294967296 ^ (s + k) * (4294967296 * ((c + z) / 4294967296)) = 4294967296 ^ (s + k) * c + 4294967296 ^ (s + k) * z := by
    rw [← Nat.mul_add, Nat.mod_add_div, Nat.mul_add]
  have e2 : 4294967296 ^ s * (2 ^ t * (val (xs.take k) + 4294967296 ^ k * xs.getD k 0)) = 4294967296 ^ s * (2 ^ t * val (xs.take k)) + 4294967296 ^ (s + k) * z := by
    rw [Nat.mul_add, Nat.mul_add, hz, Nat.pow_add, Nat.mul_left_comm (2 ^ t), Nat.mul_comm (2 ^ t) (xs.getD k 0), Nat.mul_assoc]
  omega
theorem shl_end {xs os : List Nat} {s t k c : Nat} (h : ShlAt xs os s t k c) (hk : xs.length ≤ k) : Dig (os ++ [c]) ∧ val (os ++ [c]) = val xs * 2 ^ (32 * s + t) := by
  obtain ⟨h1, h2, h3, h4⟩ := h
  refine ⟨dig_snoc h2 h3, ?_⟩
  rw [val_snoc, h1, h4, val_take_ge _ _ hk, Nat.pow_add, Nat.pow_mul, ← Nat.mul_assoc, Nat.mul_comm (val xs)]

theorem own_snoc' {w1 : World} {B t g cap k d : Nat} {os : List Nat} (h : w1.ownsRow B t 1 (.slice (some ⟨g, 0, none⟩) (k + 1) cap) (k + 1) (cellsOf os ++ [.int .u64 ((d : Nat) : Int)])) :
    w1.ownsRow B t 1 (.slice (some ⟨g, 0, none⟩) (k + 1) cap) (k + 1) (cellsOf (os ++ [d])) := by simpa using h

theorem owns_made (w : World) (s cap t : Nat) (hs : s ≤ cap) (hc : cap ≤ maxLen) : (w.alloc (.cells (zlist cap).toArray t)).ownsRow w.heap.size t 1 (.slice (some ⟨w.heap.size, 0, none⟩) s cap) s (cellsOf (List.replicate s 0)) := by
  refine ⟨by simp, Or.inr ⟨w.heap.size, cap, (zlist cap).toArray, rfl, Nat.le_refl _, heap_alloc_new w _, hs, hc, by simp [zlist_len], ?_⟩⟩
  simp [zlist, cellsOf, Nat.min_eq_left hs]

end Go.Proofs.YtofgbmfaehnmnaaGreatDoor
