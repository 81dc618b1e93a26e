/- A slice of words that came in, as the walks read it. -/
import Derived.Test.YtpifgkhgnilpdaaRepMore
import Derived.OpenShut
namespace Go.Proofs.Ytpifgkhgnilpdaa
open Go.RowKit

theorem row_rep {w : World} {a : Option Addr} {len cap : Nat} {zs : List Int} (h : (a = none ∧ len = 0 ∧ cap = 0 ∧ zs = []) ∨ ∃ x, a = some x ∧ len ≤ cap ∧ cap ≤ maxLen ∧ zs.length = cap ∧ (∀ i, i < zs.length → w.cell? (x.add i) = some (.int .u64 (zs.getD i 0))) ∧ ∀ n ∈ zs, (Lit.int .u64 n).wf = true) :
    ∃ b o xs, xs.length = len ∧ Rep w a b o cap xs ∧ ∀ j, xs.getD j 0 < 18446744073709551616 := by
  rcases h with ⟨rfl, rfl, rfl, rfl⟩ | ⟨x, rfl, h1, h2, h3, h4, h5⟩
  · exact ⟨0, 0, [], rfl, Rep.nil _ _ _ _ _, fun j => by simp⟩
  · by_cases h0 : len = 0
    · exact ⟨0, 0, [], by simp [h0], Rep.nil _ _ _ _ _, fun j => by simp⟩
    · obtain ⟨b, off, rfl, hc⟩ := ints_at h4 (by omega)
      have hl : ((zs.take len).map Int.toNat).length = len := by simp; omega
      have hg : ∀ j, j < len → ((zs.take len).map Int.toNat).getD j 0 = (zs.getD j 0).toNat := fun j hj => by
        have hj2 : j < zs.length := by omega
        simp [List.getD_eq_getElem?_getD, hj, hj2]
      have hw : ∀ j, j < len → 0 ≤ zs.getD j 0 ∧ zs.getD j 0 ≤ 18446744073709551615 := fun j hj => by
        have hj2 : j < zs.length := by omega
        have e : zs.getD j 0 = zs[j] := by simp [List.getD_eq_getElem?_getD, hj2]
        rw [e]; exact bounds_u64 (h5 _ (List.getElem_mem hj2))
      refine ⟨b, off, (zs.take len).map Int.toNat, hl, ⟨fun _ => rfl, by omega, fun j hj => ?_⟩, fun j => ?_⟩
      · rw [hl] at hj
        rw [hc j (by omega), hg j hj, Int.toNat_of_nonneg (hw j hj).1]
      · by_cases hj : j < len
        · rw [hg j hj]; have := hw j hj; omega
        · rw [getD_ge (by omega)]; omega

end Go.Proofs.Ytpifgkhgnilpdaa
