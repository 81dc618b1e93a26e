/- Small, and words as naturals. -/
import Derived.Test.YtnmddjakfhlnnaaFrom
namespace Go.Proofs.Ytnmddjakfhlnnaa
open Go.RowKit

/-- A row of words that was just laid. -/
theorem rep_new (w : World) (ws : List Nat) (t : TypeId) : Rep (w.alloc (.cells (cellsOf ws).toArray t)) (some ⟨w.heap.size, 0, none⟩) w.heap.size 0 ws.length ws :=
  ⟨fun _ => rfl, Nat.le_refl _, fun j hj => by
    rw [Nat.zero_add, World.cell?_alloc_new]
    simp [List.getElem?_eq_getElem hj]⟩

set_option maxHeartbeats 400000 in
theorem small_any (x : Int) (h0 : 0 ≤ x) (h1 : x < 18446744073709551616) (w : World) :
    Calls Try.prog 37 #[.int .u64 x] w fun e w' => ∃ v, e = .returned v ∧ IsN w' v x.toNat ∧ Below w.heap.size w w' := by
  obtain ⟨n, rfl⟩ := Int.eq_ofNat_of_zero_le h0
  rw [Int.toNat_natCast]
  go_enter Try.func37, Try.ntmps37
  go_wp2_with fail
  refine (from_any _ _ _ _ _ [n] (by simp) (rep_new w [n] 22) (by intro y hy; simp at hy; omega)).mono ?_
  rintro e w' ⟨v, rfl, hN, hb⟩
  go_wp2
  go_ret
  refine ⟨v, rfl, by simpa [wval] using hN, ?_⟩
  exact ((Below.refl _ _).alloc (Nat.le_refl _) _).trans (hb.mono (by simp))

end Go.Proofs.Ytnmddjakfhlnnaa
