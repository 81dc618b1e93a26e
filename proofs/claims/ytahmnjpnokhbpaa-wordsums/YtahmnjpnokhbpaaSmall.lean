/- Small, and words as naturals. -/
import Derived.Test.YtahmnjpnokhbpaaFrom
namespace Go.Proofs.Ytahmnjpnokhbpaa
open Go.RowKit

/-- A row of words that was just laid. -/
theorem rep_new (w : World) (ws : List Nat) (t : TypeId) : Rep (w.alloc (.cells (cellsOf ws).toArray t)) (some ⟨w.heap.size, 0, none⟩) w.heap.size 0 ws.length ws :=
  ⟨fun _ => rfl, Nat.le_refl _, fun j hj => by
    rw [Nat.zero_add, World.cell?_alloc_new]
    simp [List.getElem?_eq_getElem hj]⟩

set_option maxHeartbeats 400000 in
theorem small_any (x : Int) (h0 : 0 ≤ x) (h1 : x < 18446744073709551616) (w : World) :
    Calls Try.prog 9 #[.int .u64 x] w fun e w' => ∃ v, e = .returned v ∧ IsN w' v x.toNat ∧ Below w.heap.size w w' := by
  obtain ⟨n, rfl⟩ := Int.eq_ofNat_of_zero_le h0
  rw [Int.toNat_natCast]
  go_enter Try.func9, Try.ntmps9
  go_wp2_with fail
  refine (from_any _ _ _ _ _ [n] (by simp) (rep_new w [n] 22) (by intro y hy; simp at hy; omega)).mono ?_
  rintro e w' ⟨v, rfl, hN, hb⟩
  go_wp2
  go_ret
  refine ⟨v, rfl, by simpa [wval] using hN, ?_⟩
  exact ((Below.refl _ _).alloc (Nat.le_refl _) _).trans (hb.mono (by simp))

set_option maxHeartbeats 400000 in
theorem two_any (hi lo : Int) (h0 : 0 ≤ hi) (h1 : hi < 18446744073709551616) (l0 : 0 ≤ lo) (l1 : lo < 18446744073709551616) (w : World) :
    Calls Try.prog 13 #[.int .u64 hi, .int .u64 lo] w fun e w' => ∃ v, e = .returned v ∧ IsN w' v (18446744073709551616 * hi.toNat + lo.toNat) ∧ Below w.heap.size w w' := by
  obtain ⟨m, rfl⟩ := Int.eq_ofNat_of_zero_le h0
  obtain ⟨n, rfl⟩ := Int.eq_ofNat_of_zero_le l0
  rw [Int.toNat_natCast, Int.toNat_natCast]
  go_enter Try.func13, Try.ntmps13
  go_wp2_with fail
  refine (from_any _ _ _ _ _ [n, m] (by simp) (rep_new w [n, m] 22) (by intro y hy; simp at hy; omega)).mono ?_
  rintro e w' ⟨v, rfl, hN, hb⟩
  go_wp2
  go_ret
  refine ⟨v, rfl, ?_, ((Below.refl _ _).alloc (Nat.le_refl _) _).trans (hb.mono (by simp))⟩
  have e : wval [n, m] = 18446744073709551616 * m + n := by simp only [wval]; omega
  rw [e] at hN; exact hN

set_option maxHeartbeats 400000 in
theorem three_any (w2 w1 w0 : Int) (h0 : 0 ≤ w2) (h1 : w2 < 18446744073709551616) (l0 : 0 ≤ w1) (l1 : w1 < 18446744073709551616) (k0 : 0 ≤ w0) (k1 : w0 < 18446744073709551616) (w : World) :
    Calls Try.prog 25 #[.int .u64 w2, .int .u64 w1, .int .u64 w0] w fun e w' => ∃ v, e = .returned v ∧ IsN w' v (18446744073709551616 * (18446744073709551616 * w2.toNat + w1.toNat) + w0.toNat) ∧ Below w.heap.size w w' := by
  obtain ⟨m, rfl⟩ := Int.eq_ofNat_of_zero_le h0
  obtain ⟨n, rfl⟩ := Int.eq_ofNat_of_zero_le l0
  obtain ⟨p, rfl⟩ := Int.eq_ofNat_of_zero_le k0
  rw [Int.toNat_natCast, Int.toNat_natCast, Int.toNat_natCast]
  go_enter Try.func25, Try.ntmps25
  go_wp2_with fail
  refine (from_any _ _ _ _ _ [p, n, m] (by simp) (rep_new w [p, n, m] 22) (by intro y hy; simp at hy; omega)).mono ?_
  rintro e w' ⟨v, rfl, hN, hb⟩
  go_wp2
  go_ret
  refine ⟨v, rfl, ?_, ((Below.refl _ _).alloc (Nat.le_refl _) _).trans (hb.mono (by simp))⟩
  have e : wval [p, n, m] = 18446744073709551616 * (18446744073709551616 * m + n) + p := by simp only [wval]; omega
  rw [e] at hN; exact hN

end Go.Proofs.Ytahmnjpnokhbpaa
