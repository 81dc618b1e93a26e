/- A slice of whole numbers that came in. -/
import Derived.Test.YtpaeihaiaegoeabRep
import Derived.OpenShut
namespace Go.Proofs.Ytpaeihaiaegoeab
open Go.RowKit

/-- A row of whole numbers that came in: its first n cells. -/
structure IRow (w : World) (ga : Option Addr) (b o n : Nat) (zs : Nat → Int) : Prop where
  head : 0 < n → ga = some ⟨b, o, none⟩
  cell : ∀ j, j < n → w.cell? ⟨b, o + j, none⟩ = some (.int .i64 (zs j))
  low : ∀ j, j < n → -9223372036854775808 ≤ zs j
  high : ∀ j, j < n → zs j ≤ 9223372036854775807

theorem IRow.lt {w : World} {ga : Option Addr} {b o n : Nat} {zs : Nat → Int} (h : IRow w ga b o n zs) (hn : 0 < n) : b < w.heap.size := World.block_lt_of_cell? _ _ (h.cell 0 hn)

/-- A slice of whole numbers that came in, as the walks read it. -/
theorem irow_of {w : World} {a : Option Addr} {len cap : Nat} {zs : List Int} (h : (a = none ∧ len = 0 ∧ cap = 0 ∧ zs = []) ∨ ∃ x, a = some x ∧ len ≤ cap ∧ cap ≤ maxLen ∧ zs.length = cap ∧ (∀ i, i < zs.length → w.cell? (x.add i) = some (.int .i64 (zs.getD i 0))) ∧ ∀ n ∈ zs, (Lit.int .i64 n).wf = true) :
    ∃ b o, len ≤ maxLen ∧ IRow w a b o len (fun j => zs.getD j 0) := by
  rcases h with ⟨rfl, rfl, rfl, rfl⟩ | ⟨x, rfl, h1, h2, h3, h4, h5⟩
  · exact ⟨0, 0, Nat.zero_le _, fun h => by omega, fun j hj => by omega, fun j hj => by omega, fun j hj => by omega⟩
  · by_cases h0 : len = 0
    · subst h0
      exact ⟨0, 0, Nat.zero_le _, fun h => by omega, fun j hj => by omega, fun j hj => by omega, fun j hj => by omega⟩
    · obtain ⟨b, off, rfl, hc⟩ := ints_at h4 (by omega)
      have hw : ∀ j, j < len → -9223372036854775808 ≤ zs.getD j 0 ∧ zs.getD j 0 ≤ 9223372036854775807 := fun j hj => by
        have hj2 : j < zs.length := by omega
        have e : zs.getD j 0 = zs[j] := by simp [List.getD_eq_getElem?_getD, hj2]
        rw [e]; exact bounds_i64 (h5 _ (List.getElem_mem hj2))
      exact ⟨b, off, by omega, fun _ => rfl, fun j hj => hc j (by omega), fun j hj => (hw j hj).1, fun j hj => (hw j hj).2⟩

end Go.Proofs.Ytpaeihaiaegoeab
