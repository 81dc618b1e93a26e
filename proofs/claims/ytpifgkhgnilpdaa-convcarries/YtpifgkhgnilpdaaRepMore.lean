/- More of rows in memory: rows that were cut, lent, or outlive a step. -/
import Derived.Test.YtpifgkhgnilpdaaKeep
namespace Go.Proofs.Ytpifgkhgnilpdaa
open Go.RowKit

theorem cut_rep {w : World} {ga : Option Addr} {b o cap : Nat} {xs : List Nat} (h : Rep w ga b o cap xs) (m k : Nat) (hk : k = min xs.length m) : (xs.take k).length = k ∧ Rep w ga b o cap (xs.take k) := by
  have hl : k ≤ xs.length := by omega
  exact ⟨by simp; omega, h.take k hl⟩

theorem take_words {xs : List Nat} (h : ∀ j, xs.getD j 0 < 18446744073709551616) (k : Nat) : ∀ j, (xs.take k).getD j 0 < 18446744073709551616 := by
  intro j
  simp only [List.getD_eq_getElem?_getD, List.getElem?_take]
  split
  · have := h j; simpa [List.getD_eq_getElem?_getD] using this
  · simp

theorem lent_rep {w : World} {base t g n : Nat} {xs : List Nat} {F : Nat} (h : w.ownsRow base t 1 (.slice (some ⟨g, 0, none⟩) (n + 4) (n + 4)) (n + 4) (cellsOf (xs ++ List.replicate 4 F))) (hl : xs.length = n) : Rep w (some ⟨g, 0, none⟩) g 0 (n + 4) xs ∧ Rep w (some ⟨g, 0, none⟩) g 0 (n + 4) (xs ++ List.replicate 4 F) := by
  have h1 := (rep_of_owns h).2
  refine ⟨?_, h1⟩
  have h2 := h1.take n (by simp; omega)
  rw [List.take_append_of_le_length (by omega), List.take_of_length_le (by omega)] at h2
  exact h2

theorem Rep.next {w w' : World} {ga : Option Addr} {b o cap : Nat} {xs : List Nat} (h : Rep w ga b o cap xs) (hb : Below w.heap.size w w') : Rep w' ga b o cap xs := h.below hb (Nat.le_refl _)

theorem Rep.drew {w : World} {ga : Option Addr} {b o cap : Nat} {xs : List Nat} (h : Rep w ga b o cap xs) : Rep w.drew ga b o cap xs := ⟨h.head, h.room, h.cell⟩
theorem IsN.drew {w : World} {n : Nat} {v : Value} (h : IsN w v n) : IsN w.drew v n := by
  obtain ⟨ga, b, o, cap, xs, hv, hr, hc, hn⟩ := h
  exact ⟨ga, b, o, cap, xs, hv, hr.drew, hc, hn⟩

end Go.Proofs.Ytpifgkhgnilpdaa
