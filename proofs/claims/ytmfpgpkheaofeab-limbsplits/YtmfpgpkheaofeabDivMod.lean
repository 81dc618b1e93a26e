/- DivMod: quotient and remainder of two naturals. -/
import Derived.Test.YtmfpgpkheaofeabDivPlain
import Derived.Test.YtmfpgpkheaofeabTwice
import Derived.Test.YtmfpgpkheaofeabCmp
namespace Go.Proofs.Ytmfpgpkheaofeab
open Go.RowKit

/-- What DivMod leaves. -/
def DivDone (w : World) (a d : Nat) (e : Ending) (w' : World) : Prop := ∃ q r, e = .returned (.tuple #[q, r]) ∧ IsN w' q (a / d) ∧ IsN w' r (a % d) ∧ Below w.heap.size w w'
theorem div_mk {w w' : World} {a d : Nat} (q r : Value) (h1 : IsN w' q (a / d)) (h2 : IsN w' r (a % d)) (h3 : Below w.heap.size w w') : DivDone w a d (.returned (.tuple #[q, r])) w' := ⟨q, r, rfl, h1, h2, h3⟩

theorem isN_nil (w : World) : IsN w (.slice none 0 0) 0 := ⟨none, 0, 0, 0, [], rfl, Rep.nil _ _ _ _ _, can_nil, rfl⟩

theorem wrapS (p : Nat) (h : p < 18446744073709551616) : IntKind.u64.wrap (p : Int) = (p : Int) := by rw [IntKind.wrap_u64]; omega
theorem or_num {z p : Nat} (h1 : z ||| p = z + p) (h2 : z + p < 4294967296) : bits .or .u64 (z : Int) (IntKind.u64.wrap (p : Int)) = ((z + p : Nat) : Int) := by
  rw [wrapS p (by omega), bits_or_u64_nat z p (by omega) (by omega), h1]
theorem or_bit {z t : Nat} (h1 : z ||| 2 ^ t = z + 2 ^ t) (h2 : z + 2 ^ t < 4294967296) : bits .or .u64 (z : Int) (IntKind.u64.wrap (2 ^ t)) = ((z + 2 ^ t : Nat) : Int) := by
  rw [pow_cast]; exact or_num h1 h2

theorem div_store {w : World} {base ty g n cap j t : Nat} {qs : List Nat} (h : w.ownsRow base ty 1 (.slice (some ⟨g, 0, none⟩) n cap) n (cellsOf qs)) (h1 : qs.getD j 0 ||| 2 ^ t = qs.getD j 0 + 2 ^ t) (h2 : qs.getD j 0 + 2 ^ t < 4294967296) :
    (w.setCell ⟨g, j, none⟩ (.int .u64 (bits .or .u64 ((qs.getD j 0 : Nat) : Int) (IntKind.u64.wrap (2 ^ t))))).ownsRow base ty 1 (.slice (some ⟨g, 0, none⟩) n cap) n (cellsOf (qs.set j (qs.getD j 0 + 2 ^ t))) ∧
      w.grownBy (w.setCell ⟨g, j, none⟩ (.int .u64 (bits .or .u64 ((qs.getD j 0 : Nat) : Int) (IntKind.u64.wrap (2 ^ t))))) (some g) := by
  rw [or_bit h1 h2, ← cells_set]
  exact h.stored _ _

end Go.Proofs.Ytmfpgpkheaofeab
