/- A slice of pairs of whole numbers that came in. -/
import Derived.Test.YtpamgdngfoocnaaRep
import Derived.OpenShut
namespace Go.Proofs.Ytpamgdngfoocnaa
open Go.RowKit

/-- A row of pairs of whole numbers that came in: its first n pairs. -/
structure PRow (w : World) (ga : Option Addr) (b o n : Nat) (xs zs : Nat → Int) : Prop where
  head : 0 < n → ga = some ⟨b, o, none⟩
  fst : ∀ j, j < n → w.cell? ⟨b, o + j * 2, none⟩ = some (.int .i64 (xs j))
  snd : ∀ j, j < n → w.cell? ⟨b, o + j * 2 + 1, none⟩ = some (.int .i64 (zs j))
  xlow : ∀ j, j < n → -9223372036854775808 ≤ xs j
  xhigh : ∀ j, j < n → xs j ≤ 9223372036854775807
  zlow : ∀ j, j < n → -9223372036854775808 ≤ zs j
  zhigh : ∀ j, j < n → zs j ≤ 9223372036854775807

theorem PRow.lt {w : World} {ga : Option Addr} {b o n : Nat} {xs zs : Nat → Int} (h : PRow w ga b o n xs zs) (hn : 0 < n) : b < w.heap.size := World.block_lt_of_cell? _ _ (h.fst 0 hn)

theorem prow_none (w : World) : ∃ b o xs zs, 0 ≤ maxLen ∧ PRow w none b o 0 xs zs :=
  ⟨0, 0, fun _ => 0, fun _ => 0, Nat.zero_le _, fun h => by omega, fun j hj => by omega, fun j hj => by omega, fun j hj => by omega, fun j hj => by omega, fun j hj => by omega, fun j hj => by omega⟩

/-- A slice of pairs that came in, as the walks read it. -/
theorem prow_open {w : World} {x : Addr} {len cap : Nat} {U V : Nat → Value} (hl : len ≤ cap) (hm : cap ≤ maxLen)
    (h : ∀ i, i < cap → w.cell? (x.add (i * 2)) = some (U i) ∧ w.cell? (x.add (i * 2 + 1)) = some (V i) ∧ (∃ n, U i = .int .i64 n ∧ (Lit.int .i64 n).wf = true) ∧ ∃ n, V i = .int .i64 n ∧ (Lit.int .i64 n).wf = true) :
    ∃ b o xs zs, len ≤ maxLen ∧ PRow w (some x) b o len xs zs := by
  by_cases h0 : len = 0
  · subst h0
    exact ⟨0, 0, fun _ => 0, fun _ => 0, Nat.zero_le _, fun h => by omega, fun j hj => by omega, fun j hj => by omega, fun j hj => by omega, fun j hj => by omega, fun j hj => by omega, fun j hj => by omega⟩
  · obtain ⟨b, off, spot⟩ := x
    have hspot : spot = none := by simpa [Addr.add] using World.cell?_spot (h 0 (by omega)).1
    subst hspot
    have hu : ∀ j, j < len → U j = .int .i64 (intOf (U j)) ∧ -9223372036854775808 ≤ intOf (U j) ∧ intOf (U j) ≤ 9223372036854775807 := fun j hj => by
      obtain ⟨n, e, hw⟩ := (h j (by omega)).2.2.1
      rw [e]
      exact ⟨rfl, bounds_i64 hw⟩
    have hv : ∀ j, j < len → V j = .int .i64 (intOf (V j)) ∧ -9223372036854775808 ≤ intOf (V j) ∧ intOf (V j) ≤ 9223372036854775807 := fun j hj => by
      obtain ⟨n, e, hw⟩ := (h j (by omega)).2.2.2
      rw [e]
      exact ⟨rfl, bounds_i64 hw⟩
    refine ⟨b, off, fun j => intOf (U j), fun j => intOf (V j), by omega, fun _ => rfl, fun j hj => ?_, fun j hj => ?_, fun j hj => (hu j hj).2.1, fun j hj => (hu j hj).2.2, fun j hj => (hv j hj).2.1, fun j hj => (hv j hj).2.2⟩
    · have e := (h j (by omega)).1
      rw [Go.WideShapes.add_plain] at e
      exact e.trans (congrArg some (hu j hj).1)
    · have e := (h j (by omega)).2.1
      rw [Go.WideShapes.add_plain] at e
      exact e.trans (congrArg some (hv j hj).1)

end Go.Proofs.Ytpamgdngfoocnaa
