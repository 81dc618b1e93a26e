/- Low of a number that is low already: Shr and Shl at what comes to nothing. -/
import Derived.Test.YtmfpgpkheaofeabSub
namespace Go.Proofs.Ytmfpgpkheaofeab
open Go.RowKit

theorem isN_zero {w : World} {v : Value} (h : IsN w v 0) : ∃ ga cap, v = .slice ga 0 cap := by
  obtain ⟨ga, b, o, cap, xs, rfl, hr, hc, hv⟩ := h
  have hl : xs.length = 0 := Nat.le_zero.1 (len_le hc (L := 0) (by rw [hv]; decide))
  exact ⟨ga, cap, by rw [hl]⟩

theorem isN_none (w : World) : IsN w (.slice none 0 0) 0 := ⟨none, 0, 0, 0, [], rfl, Rep.nil _ _ _ _ _, can_nil, rfl⟩

set_option maxHeartbeats 800000 in
theorem shl_zero (w : World) (ga : Option Addr) (cap : Nat) (n : Int) :
    Calls Try.prog 22 #[.slice ga 0 cap, .int .i64 n] w fun e w' => e = .returned (.slice none 0 0) ∧ w' = w := by
  go_enter Try.func22, Try.ntmps22
  go_wp2
  go_ret
  exact ⟨rfl, rfl⟩

set_option maxHeartbeats 800000 in
theorem shr_low (w : World) (ga : Option Addr) (cap l s : Nat) (hl : l ≤ s) (hs : s ≤ 1073741824) :
    Calls Try.prog 13 #[.slice ga l cap, .int .i64 (32 * (s : Int))] w fun e w' => ∃ v, e = .returned v ∧ IsN w' v 0 ∧ Below w.heap.size w w' := by
  have e1 : 32 * (s : Int) / 32 = (s : Int) := by omega
  have h1 : ¬ (s : Int) < (l : Int) := by omega
  go_enter Try.func13, Try.ntmps13
  go_wp2
  refine wp_loop_rounds 1 ?_
  rw [rounds_succ]
  go_wp2_with fail
  refine (norm_isN _ none 0 0 0 0 [] rfl (by omega) (Rep.nil _ _ _ _ _) dig_nil).mono ?_
  rintro e w1 ⟨v, rfl, nv, rfl⟩
  go_wp2
  go_ret
  exact ⟨v, rfl, nv, Below.refl _ _⟩

set_option maxHeartbeats 800000 in
theorem low_small (w : World) (u : Value) (m s : Nat) (hs : s ≤ 1073741824) (hm : m < 4294967296 ^ s) (hu : IsN w u m) :
    Calls Try.prog 11 #[u, .int .i64 (32 * (s : Int))] w fun e w' => ∃ r, e = .returned r ∧ IsN w' r m ∧ Below w.heap.size w w' := by
  have hu0 := hu
  obtain ⟨ga, ba, oa, ca, xs, rfl, hA, cA, rfl⟩ := hu
  have la := len_le cA hm
  have HU := hide hu0
  have CS := hide (fun w => shr_low w ga ca xs.length s la hs)
  have HM := hide hm
  clear hu0 hm hA cA
  generalize xs.length = l at *
  go_enter Try.func11, Try.ntmps11
  go_wp2_with fail
  refine (unhide CS _).mono ?_
  rintro e w1 ⟨v1, rfl, n1, b1⟩
  obtain ⟨g1, c1, rfl⟩ := isN_zero n1
  go_wp2_with fail
  refine (shl_zero _ _ _ _).mono ?_
  rintro e w2 ⟨rfl, rfl⟩
  go_wp2_with fail
  refine (sub_any _ _ _ (val xs) 0 s hs (unhide HM) (Nat.zero_le _) ((unhide HU).next b1) (isN_none _)).mono ?_
  rintro e w3 ⟨v3, rfl, n3, b3⟩
  go_wp2
  go_ret
  exact ⟨v3, rfl, by simpa using n3, bstep b1 b3⟩

end Go.Proofs.Ytmfpgpkheaofeab
