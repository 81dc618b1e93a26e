/- Shl, Shr and Low of the reference, in general. -/
import Derived.Test.YtpcfghnenhnlpaaGreatDoorB16
import Derived.Test.YtpcfghnenhnlpaaGreatDoorB3
import Derived.Test.YtpcfghnenhnlpaaGreatDoorB14
namespace Go.Proofs.YtpcfghnenhnlpaaGreatDoor
open Go.RowKit

theorem shl_any (w : World) (u : Value) (m n L : Nat) (hL : L ≤ 1073741824) (hm : m < 4294967296 ^ L) (hn : n ≤ 17179869184) (hu : IsN w u m) :
    Calls Tryz.prog 39 #[u, .int .i64 (n : Int)] w fun e w' => ∃ r, e = .returned r ∧ IsN w' r (m * 2 ^ n) ∧ Below w.heap.size w w' := by
  obtain ⟨ga, b, o, cap, xs, rfl, hr, hc, rfl⟩ := hu
  have hl := len_le hc hm
  by_cases h0 : xs.length = 0
  · obtain rfl : xs = [] := List.length_eq_zero_iff.1 h0
    refine (shl_zero w ga cap (n : Int)).mono ?_
    rintro e w' ⟨rfl, rfl⟩
    exact ⟨_, rfl, by rw [show val [] = 0 from rfl, Nat.zero_mul]; exact isN_none _, Below.refl _ _⟩
  · exact shl_rep w ga b o cap _ n _ _ xs rfl (by omega) (by omega) rfl rfl hn hr hc.1

end Go.Proofs.YtpcfghnenhnlpaaGreatDoor

/- ConvCarries: what the law's walk comes to, once the code's Carry is what the document asks. -/
namespace Go.Proofs.YtpcfghnenhnlpaaGreatDoor
open Go.RowKit

/-- A row of numbers of three words that is handed in: none, or in a block of its own. -/
def TriS (w : World) (v : Value) (q : Nat) (T : Nat → Nat) : Prop := (q = 0 ∧ v = .slice none 0 0) ∨ ∃ g C, v = .slice (some ⟨g, 0, none⟩) q C ∧ q ≤ C ∧ TriAt w g q T
theorem TriS.next {w w' : World} {v : Value} {q : Nat} {T : Nat → Nat} (h : TriS w v q T) (b : Below w.heap.size w w') : TriS w' v q T := by
  rcases h with h | ⟨g, C, hv, hc, ht⟩
  · exact .inl h
  · exact .inr ⟨g, C, hv, hc, ht.next b⟩
/-- Horner's sums, from the top on. -/
def hv (T : Nat → Nat) (n : Nat) : Nat → Nat
  | 0 => 0
  | c + 1 => hv T n c * 2 ^ 64 + T (n - 1 - c)
end Go.Proofs.YtpcfghnenhnlpaaGreatDoor
