/- Add: the sum of two naturals. -/
import Derived.Test.YtdocljbmmaoenaaFrom
namespace Go.Proofs.Ytdocljbmmaoenaa
open Go.RowKit

/-- What holds of the sum's digits after k rounds: k digits are laid, c is carried. -/
def AddAt (xs ys out : List Nat) (k c : Nat) : Prop := out.length = k ∧ Dig out ∧ c ≤ 1 ∧ val out + 4294967296 ^ k * c = val (xs.take k) + val (ys.take k)

theorem add_start (xs ys : List Nat) : AddAt xs ys [] 0 0 := ⟨rfl, dig_nil, by omega, by simp [val]⟩

theorem add_step {xs ys out : List Nat} {k c : Nat} (h : AddAt xs ys out k c) (hx : xs.getD k 0 < 4294967296) (hy : ys.getD k 0 < 4294967296) :
    AddAt xs ys (out ++ [(c + xs.getD k 0 + ys.getD k 0) % 4294967296]) (k + 1) ((c + xs.getD k 0 + ys.getD k 0) / 4294967296) := by
  obtain ⟨h1, h2, h3, h4⟩ := h
  refine ⟨by simp [h1], dig_snoc h2 (by omega), by omega, ?_⟩
  rw [val_snoc, h1, val_take_succ, val_take_succ, Nat.pow_succ, Nat.mul_assoc]
  generalize 4294967296 ^ k = B at *
  generalize xs.getD k 0 = x at *
  generalize ys.getD k 0 = y at *
  have e : B * ((c + x + y) % 4294967296) + B * (4294967296 * ((c + x + y) / 4294967296)) = B * c + B * x + B * y := by
    rw [← Nat.mul_add, Nat.mod_add_div, Nat.mul_add, Nat.mul_add]
  omega

theorem add_end {xs ys out : List Nat} {k : Nat} (h : AddAt xs ys out k 0) (hx : xs.length ≤ k) (hy : ys.length ≤ k) : val out = val xs + val ys := by
  obtain ⟨h1, h2, h3, h4⟩ := h
  rw [val_take_ge _ _ hx, val_take_ge _ _ hy] at h4
  simpa using h4

theorem wrapU (x : Nat) (h : x < 18446744073709551616) : IntKind.u64.wrap (x : Int) = (x : Int) := by rw [IntKind.wrap_u64]; omega

theorem add_own {w1 : World} {B t g cap k c x y : Nat} {xs ys os : List Nat} {S : Int} (hx : x = xs.getD k 0) (hy : y = ys.getD k 0) (hS : S = ((c + x + y : Nat) : Int)) (h : w1.ownsRow B t 1 (.slice (some ⟨g, 0, none⟩) (k + 1) cap) (k + 1) (cellsOf os ++ [.int .u64 (S % 4294967296)])) :
    w1.ownsRow B t 1 (.slice (some ⟨g, 0, none⟩) (k + 1) cap) (k + 1) (cellsOf (os ++ [(c + xs.getD k 0 + ys.getD k 0) % 4294967296])) := by
  have e : S % 4294967296 = (((c + xs.getD k 0 + ys.getD k 0) % 4294967296 : Nat) : Int) := by rw [hS, ← hx, ← hy]; omega
  rw [e] at h
  simpa using h
theorem add_carry {c x y : Nat} {xs ys : List Nat} {k : Nat} {S : Int} (hx : x = xs.getD k 0) (hy : y = ys.getD k 0) (hS : S = ((c + x + y : Nat) : Int)) : Value.int .u64 (S / 4294967296) = .int .u64 (((c + xs.getD k 0 + ys.getD k 0) / 4294967296 : Nat) : Int) := by
  rw [hS, ← hx, ← hy]; congr 1

end Go.Proofs.Ytdocljbmmaoenaa
