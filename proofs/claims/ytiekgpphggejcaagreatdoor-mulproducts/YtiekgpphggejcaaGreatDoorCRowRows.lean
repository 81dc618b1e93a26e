/- A slice of rows of words that came in, as the walks read it. -/
import Derived.Test.YtiekgpphggejcaaGreatDoorB32
import Derived.Test.YtiekgpphggejcaaGreatDoorB14
import Derived.OpenShut
namespace Go.Proofs.YtiekgpphggejcaaGreatDoor
open Go.RowKit

theorem row_each {w : World} {A : Option Addr} {L C : Nat} {Z : List Int} (h1 : L ≤ C) (h2 : C ≤ maxLen) (h3 : Z.length = C) (h4 : ∀ n ∈ Z, (Lit.int .u64 n).wf = true) (h5 : A = none → C = 0)
    (h6 : ∀ a', A = some a' → ∀ c, c < C → w.cell? (a'.add c) = some (.int .u64 (Z.getD c 0))) : ∃ ga b o cap xs, Value.slice A L C = .slice ga xs.length cap ∧ Rep w ga b o cap xs ∧ WDig xs := by
  cases A with
  | none =>
    have hC := h5 rfl
    obtain rfl : L = 0 := by omega
    exact ⟨none, 0, 0, C, [], rfl, Rep.nil _ _ _ _ _, wDig_nil⟩
  | some a' =>
    obtain ⟨b, o, xs, hx, hr, hw⟩ := row_rep (w := w) (a := some a') (len := L) (cap := C) (zs := Z) (Or.inr ⟨a', rfl, h1, h2, h3, fun i hi => h6 a' rfl i (by omega), h4⟩)
    exact ⟨some a', b, o, C, xs, by rw [hx], hr, hw⟩

theorem rows_open {w : World} {x : Addr} {len cap : Nat} {A : Nat → Option Addr} {L C : Nat → Nat} {Z : Nat → List Int} {base : Nat} (hl : len ≤ cap)
    (h : ∀ r, r < cap → w.cell? (x.add r) = some (.slice (A r) (L r) (C r)) ∧ L r ≤ C r ∧ C r ≤ maxLen ∧ (Z r).length = C r ∧ (∀ n ∈ Z r, (Lit.int .u64 n).wf = true) ∧ (A r = none → C r = 0) ∧
      ∀ a', A r = some a' → base ≤ a'.block ∧ ∀ c, c < C r → w.cell? (a'.add c) = some (.int .u64 ((Z r).getD c 0))) :
    ∃ bp op vs, vs.length = len ∧ RowsIn w (some x) bp op vs := by
  by_cases h0 : len = 0
  · subst h0
    exact ⟨0, 0, [], rfl, ⟨fun h => absurd h (by simp), fun j hj => absurd hj (by simp), fun j hj => absurd hj (by simp)⟩⟩
  · obtain ⟨b, off, spot⟩ := x
    have hspot : spot = none := by simpa [Addr.add] using World.cell?_spot (h 0 (by omega)).1
    subst hspot
    have hv : ∀ j, j < len → ((List.range len).map fun r => Value.slice (A r) (L r) (C r)).getD j undef = .slice (A j) (L j) (C j) := fun j hj => by
      simp [List.getD_eq_getElem?_getD, hj]
    have hlen : ((List.range len).map fun r => Value.slice (A r) (L r) (C r)).length = len := by simp
    refine ⟨b, off, (List.range len).map fun r => .slice (A r) (L r) (C r), hlen, ⟨fun _ => rfl, fun j hj => ?_, fun j hj => ?_⟩⟩
    · rw [hlen] at hj
      rw [hv j hj, ← Go.WideShapes.add_plain]
      exact (h j (by omega)).1
    · rw [hlen] at hj
      obtain ⟨_, q1, q2, q3, q4, q5, q6⟩ := h j (by omega)
      rw [hv j hj]
      exact row_each q1 q2 q3 q4 q5 (fun a' ha => (q6 a' ha).2)
theorem rows_none (w : World) : ∃ bp op vs, vs.length = 0 ∧ RowsIn w none bp op vs :=
  ⟨0, 0, [], rfl, ⟨fun h => absurd h (by simp), fun j hj => absurd hj (by simp), fun j hj => absurd hj (by simp)⟩⟩

end Go.Proofs.YtiekgpphggejcaaGreatDoor
