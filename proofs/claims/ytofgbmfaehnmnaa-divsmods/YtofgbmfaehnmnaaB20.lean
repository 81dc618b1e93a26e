/- Transform: of package table, and the document's. -/
import Derived.Test.YtofgbmfaehnmnaaB17
import Derived.Test.YtofgbmfaehnmnaaB3
namespace Go.Proofs.Ytofgbmfaehnmnaa
open Go.RowKit

/-- What a product by transforms costs, of any numbers. -/
def tfT (n m ways : Int) : Int :=
  if 1 ≤ n ∧ n ≤ 16384 ∧ 1 ≤ m ∧ m ≤ 16384 ∧ 0 ≤ ways ∧ ways ≤ 3 then (tf n.toNat m.toNat ways.toNat : Int) else 0
theorem tfT_out {n m ways : Int} (h : ¬ (1 ≤ n ∧ n ≤ 16384 ∧ 1 ≤ m ∧ m ≤ 16384 ∧ 0 ≤ ways ∧ ways ≤ 3)) : tfT n m ways = 0 := by unfold tfT; rw [if_neg h]
theorem tfT_nat {n m ways : Nat} (h1 : 1 ≤ n) (h2 : n ≤ 16384) (h3 : 1 ≤ m) (h4 : m ≤ 16384) (h5 : ways ≤ 3) : tfT (n : Int) (m : Int) (ways : Int) = (tf n m ways : Int) := by
  unfold tfT; rw [if_pos (by omega)]; simp

theorem lg_bitLen (s : Nat) (h : 2 ≤ s) (h2 : s ≤ 32768) : Lib.bitLen (s - 1) = lg s ∧ 1 ≤ lg s ∧ lg s ≤ 15 := by
  obtain ⟨a, b, c, d⟩ := bl_bounds 15 (s - 1) (by omega) (by omega) (by omega)
  have e := lg_unique (s := s) (L := Lib.bitLen (s - 1)) (by omega) (Or.inr (by omega))
  exact ⟨e, by omega, by omega⟩

theorem tf_wrap0 : ∀ (L : Fin 16) (ways : Fin 4), wrap64 (wrap64 (3 * wrap64 (wrap64 (wrap64 ((ways.val : Int) * wrap64 ((wrap64 (2 ^ L.val)).tdiv 2)) * (L.val : Int)) + wrap64 (2 * wrap64 (2 ^ L.val)))) + wrap64 (6 * wrap64 (2 ^ L.val))) = ((3 * (ways.val * (2 ^ L.val / 2) * L.val + 2 * 2 ^ L.val) + 6 * 2 ^ L.val : Nat) : Int) := by decide +kernel
theorem tf_wrap {L ways : Nat} (h1 : L ≤ 15) (h2 : ways ≤ 3) : wrap64 (wrap64 (3 * wrap64 (wrap64 (wrap64 ((ways : Int) * wrap64 ((wrap64 (2 ^ L)).tdiv 2)) * (L : Int)) + wrap64 (2 * wrap64 (2 ^ L)))) + wrap64 (6 * wrap64 (2 ^ L))) = ((3 * (ways * (2 ^ L / 2) * L + 2 * 2 ^ L) + 6 * 2 ^ L : Nat) : Int) :=
  tf_wrap0 ⟨L, by omega⟩ ⟨ways, by omega⟩

theorem tf_wrap10 : ∀ (L : Fin 16) (ways : Fin 4), wrap64 (wrap64 (3 * wrap64 (wrap64 (wrap64 ((ways.val : Int) * (((2 ^ L.val : Nat) : Int) / 2)) * (L.val : Int)) + 2 * ((2 ^ L.val : Nat) : Int))) + 6 * ((2 ^ L.val : Nat) : Int)) = ((3 * (ways.val * (2 ^ L.val / 2) * L.val + 2 * 2 ^ L.val) + 6 * 2 ^ L.val : Nat) : Int) := by decide +kernel
theorem tf_wrap1 {L ways : Nat} (h1 : L ≤ 15) (h2 : ways ≤ 3) : wrap64 (wrap64 (3 * wrap64 (wrap64 (wrap64 ((ways : Int) * (((2 ^ L : Nat) : Int) / 2)) * (L : Int)) + 2 * ((2 ^ L : Nat) : Int))) + 6 * ((2 ^ L : Nat) : Int)) = ((3 * (ways * (2 ^ L / 2) * L + 2 * 2 ^ L) + 6 * 2 ^ L : Nat) : Int) :=
  tf_wrap10 ⟨L, by omega⟩ ⟨ways, by omega⟩

end Go.Proofs.Ytofgbmfaehnmnaa
