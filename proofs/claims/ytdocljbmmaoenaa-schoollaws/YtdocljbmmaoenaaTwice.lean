/- twice: a row is doubled in place, and lessened by d where it is not below it. -/
import Derived.Test.YtdocljbmmaoenaaNorm
import Derived.Test.YtdocljbmmaoenaaGrow
import Derived.Test.YtdocljbmmaoenaaTwPlain
namespace Go.Proofs.Ytdocljbmmaoenaa
open Go.RowKit

theorem Rep.grown {w w' : World} {g : Nat} {ga : Option Addr} {b o cap : Nat} {xs : List Nat} (h : Rep w ga b o cap xs) (hg : w.grownBy w' (some g)) (hb : b ≠ g) : Rep w' ga b o cap xs :=
  ⟨h.head, h.room, fun j hj => hg.cell (h.cell j hj) (by simpa using hb)⟩

theorem own_set {w : World} {base t g n cap : Nat} {os rs : List Nat} {k d : Nat} (h : w.ownsRow base t 1 (.slice (some ⟨g, 0, none⟩) n cap) n (cellsOf (os ++ rs.drop k))) (hk : os.length = k) (hr : k < rs.length) :
    (w.setCell ⟨g, k, none⟩ (.int .u64 ((d : Nat) : Int))).ownsRow base t 1 (.slice (some ⟨g, 0, none⟩) n cap) n (cellsOf ((os ++ [d]) ++ rs.drop (k + 1))) ∧ w.grownBy (w.setCell ⟨g, k, none⟩ (.int .u64 ((d : Nat) : Int))) (some g) := by
  have hs := h.stored k (.int .u64 ((d : Nat) : Int))
  have e : (cellsOf (os ++ rs.drop k)).set k (.int .u64 ((d : Nat) : Int)) = cellsOf ((os ++ rs.drop k).set k d) := by simp only [cellsOf, List.map_set]
  rw [e, set_mid os rs k d hk hr] at hs
  exact hs

/-- What twice leaves: X is the row doubled, with the digit; D the divisor. -/
def TwiceDone (w : World) (base g n cap D X : Nat) (e : Ending) (w' : World) : Prop := ∃ (more : Bool) (rs' : List Nat), e = .returned (.bool more) ∧ rs'.length = n ∧ Dig rs' ∧
  w'.ownsRow base 55 1 (.slice (some ⟨g, 0, none⟩) n cap) n (cellsOf rs') ∧ w.grownBy w' (some g) ∧ ((more = true ∧ D ≤ X ∧ val rs' = X - D) ∨ (more = false ∧ X < D ∧ val rs' = X))
theorem twice_mk {w w' : World} {base g n cap D X : Nat} (more : Bool) (rs' : List Nat) (h1 : rs'.length = n) (h2 : Dig rs') (h3 : w'.ownsRow base 55 1 (.slice (some ⟨g, 0, none⟩) n cap) n (cellsOf rs')) (h4 : w.grownBy w' (some g))
    (h5 : (more = true ∧ D ≤ X ∧ val rs' = X - D) ∨ (more = false ∧ X < D ∧ val rs' = X)) : TwiceDone w base g n cap D X (.returned (.bool more)) w' := ⟨more, rs', rfl, h1, h2, h3, h4, h5⟩

end Go.Proofs.Ytdocljbmmaoenaa
