/- Package modw: sums and products of rows. -/
import Derived.Test.YtnmddjakfhlnnabQMod
namespace Go.Proofs.Ytnmddjakfhlnnab
open Go.RowKit

/-- All words of a row, folded from the left. -/
def fold (f : Nat → Nat → Nat) (s : Nat) (xs : List Nat) : Nat := xs.foldl f s
theorem fold_none (f : Nat → Nat → Nat) (s : Nat) (xs : List Nat) : fold f s (xs.take 0) = s := rfl
theorem fold_next (f : Nat → Nat → Nat) (s : Nat) (xs : List Nat) {k : Nat} (hk : k < xs.length) : fold f s (xs.take (k + 1)) = f (fold f s (xs.take k)) (xs.getD k 0) := by
  unfold fold
  rw [take_snoc xs k hk, List.foldl_append]
  rfl
theorem fold_all (f : Nat → Nat → Nat) (s : Nat) (xs : List Nat) {k : Nat} (hk : xs.length = k) : fold f s (xs.take k) = fold f s xs := by
  rw [List.take_of_length_le (by omega)]

set_option maxHeartbeats 1600000 in
theorem sum_mod {w : World} {g p : Nat} (h : MW w g p) (ga : Option Addr) (b o cap n : Nat) (xs : List Nat) (hl : xs.length = n) (hn : n ≤ 1073741824) (hR : Rep w ga b o cap xs) :
    Calls Try.prog 12 #[.pointer (some ⟨g, 0, none⟩), .slice ga n cap] w fun e w' => e = .returned (.int .u64 (fold (ad p) 0 xs : Int)) ∧ Below w.heap.size w w' := by
  have CA := hide (fun w (h : MW w g p) x y => add_mod h x y)
  have HL := hide hl
  have HM := hide h
  clear h
  generalize ad p = A at *
  go_enter Try.func12, Try.ntmps12
  go_wp2
  go_loopw [5, 10] (fun sv iv wr => ∃ (k s : Nat), k ≤ n ∧ sv = .int .u64 (s : Int) ∧ iv = .int .i64 (k : Int) ∧ Hid (s = fold A 0 (xs.take k)) ∧ Hid (MW wr g p) ∧ Below w.heap.size w wr) (fun _ iv _ => n - (intOf iv).toNat)
  case atStart => exact ⟨0, 0, by omega, rfl, rfl, rfl, HM, Below.refl _ _⟩
  case round =>
    clear HM
    obtain ⟨k, s, hk, rfl, rfl, hs, hM, hb⟩ := hrel
    by_cases hlt : k < n
    · obtain rfl := hR.head (by omega)
      obtain ⟨x, HX⟩ : ∃ x : Nat, Hid (x = xs.getD k 0) := ⟨_, rfl⟩
      have cx : wr.cell? ⟨b, o + k, none⟩ = some (.int .u64 (x : Int)) := by rw [HX.out]; exact (hb.cell (by exact hR.lt (by omega))).trans (hR.cell k (by omega))
      have HN : Hid (A s x = fold A 0 (xs.take (k + 1))) := by show _ = _; rw [fold_next A 0 xs (by omega), ← hs.out, ← HX.out]
      clear hs HX hl
      go_wp2_with fail
      refine (unhide CA _ (unhide hM) s x).mono ?_
      rintro e w7 ⟨rfl, rfl⟩
      go_wp2
      go_roundw
      case rel => exact ⟨k + 1, _, by omega, rfl, by go_num, HN, hM, hb⟩
      case measure => simp [intOf]; omega
    · obtain rfl : k = n := by omega
      have HN : Hid (s = fold A 0 xs) := by show _ = _; rw [← fold_all A 0 xs (unhide HL), ← hs.out]
      clear hs hl HL
      go_wp2
      go_ret
      exact ⟨ret_int (by rw [unhide HN]), hb⟩

set_option maxHeartbeats 1600000 in
theorem product_mod {w : World} {g p : Nat} (h : MW w g p) (ga : Option Addr) (b o cap n : Nat) (xs : List Nat) (hl : xs.length = n) (hn : n ≤ 1073741824) (hR : Rep w ga b o cap xs) :
    Calls Try.prog 13 #[.pointer (some ⟨g, 0, none⟩), .slice ga n cap] w fun e w' => e = .returned (.int .u64 (fold (ml p) 1 xs : Int)) ∧ Below w.heap.size w w' := by
  have CA := hide (fun w (h : MW w g p) x y => mul_mod h x y)
  have HL := hide hl
  have HM := hide h
  clear h
  generalize ml p = A at *
  go_enter Try.func13, Try.ntmps13
  go_wp2
  go_loopw [5, 10] (fun sv iv wr => ∃ (k s : Nat), k ≤ n ∧ sv = .int .u64 (s : Int) ∧ iv = .int .i64 (k : Int) ∧ Hid (s = fold A 1 (xs.take k)) ∧ Hid (MW wr g p) ∧ Below w.heap.size w wr) (fun _ iv _ => n - (intOf iv).toNat)
  case atStart => exact ⟨0, 1, by omega, rfl, rfl, rfl, HM, Below.refl _ _⟩
  case round =>
    clear HM
    obtain ⟨k, s, hk, rfl, rfl, hs, hM, hb⟩ := hrel
    by_cases hlt : k < n
    · obtain rfl := hR.head (by omega)
      obtain ⟨x, HX⟩ : ∃ x : Nat, Hid (x = xs.getD k 0) := ⟨_, rfl⟩
      have cx : wr.cell? ⟨b, o + k, none⟩ = some (.int .u64 (x : Int)) := by rw [HX.out]; exact (hb.cell (by exact hR.lt (by omega))).trans (hR.cell k (by omega))
      have HN : Hid (A s x = fold A 1 (xs.take (k + 1))) := by show _ = _; rw [fold_next A 1 xs (by omega), ← hs.out, ← HX.out]
      clear hs HX hl
      go_wp2_with fail
      refine (unhide CA _ (unhide hM) s x).mono ?_
      rintro e w7 ⟨rfl, b2⟩
      have hM := hide ((unhide hM).next b2)
      have hb := bstep hb b2
      clear b2 cx
      go_wp2
      go_roundw
      case rel => exact ⟨k + 1, _, by omega, rfl, by go_num, HN, hM, hb⟩
      case measure => simp [intOf]; omega
    · obtain rfl : k = n := by omega
      have HN : Hid (s = fold A 1 xs) := by show _ = _; rw [← fold_all A 1 xs (unhide HL), ← hs.out]
      clear hs hl HL
      go_wp2
      go_ret
      exact ⟨ret_int (by rw [unhide HN]), hb⟩

end Go.Proofs.Ytnmddjakfhlnnab
