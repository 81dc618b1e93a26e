/- Low of limb. -/
import Derived.Test.YtmfpgpkheaofeabLShr
namespace Go.Proofs.Ytmfpgpkheaofeab
open Go.RowKit

theorem wval_low {xs : List Nat} (h : WDig xs) (s t : Nat) (ht : t < 64) (hs : s < xs.length) : wval (xs.take s) + 18446744073709551616 ^ s * (xs.getD s 0 % 2 ^ t) = wval xs % 2 ^ (64 * s + t) := by
  have hv := wval_drop xs s
  have hl := wval_lt h s
  have hd : xs.drop s = xs.getD s 0 :: xs.drop (s + 1) := drop_cons xs s hs
  have hp := pow_split t (by omega)
  have e1 : wval (xs.drop s) % 2 ^ t = xs.getD s 0 % 2 ^ t := by
    rw [hd]
    simp only [wval]
    rw [← hp, Nat.mul_comm (2 ^ (64 - t)), Nat.mul_assoc, Nat.add_mul_mod_self_left]
  rw [Nat.pow_add, Nat.pow_mul, show (2 : Nat) ^ 64 = 18446744073709551616 from rfl, Nat.mod_mul]
  have e2 : wval xs % 18446744073709551616 ^ s = wval (xs.take s) := by rw [hv, Nat.add_mul_mod_self_left, Nat.mod_eq_of_lt hl]
  have e3 : wval xs / 18446744073709551616 ^ s = wval (xs.drop s) := by rw [hv, Nat.add_mul_div_left _ _ (wpow_pos s), Nat.div_eq_of_lt hl, Nat.zero_add]
  rw [e2, e3, e1]

theorem and_mask (a t : Nat) (ha : a < 18446744073709551616) (ht : t < 64) : bits .and .u64 (a : Int) ((2 ^ t - 1 : Nat) : Int) = ((a % 2 ^ t : Nat) : Int) := by
  have hb : 2 ^ t - 1 < 18446744073709551616 := by
    have := Nat.pow_le_pow_right (n := 2) (by omega) (by omega : t ≤ 63)
    omega
  rw [bits_and_u64_nat a _ ha hb, Nat.and_two_pow_sub_one_eq_mod]
theorem one_shl (t : Nat) (ht : t < 64) : IntKind.u64.wrap (2 ^ t) = ((2 ^ t : Nat) : Int) := by
  have := Nat.pow_le_pow_right (n := 2) (by omega) (by omega : t ≤ 63)
  rw [pow_cast]
  generalize 2 ^ t = p at *
  rw [IntKind.wrap_u64]; omega

set_option maxRecDepth 100000 in
set_option maxHeartbeats 3200000 in
theorem low_w (w : World) (u : Value) (z : Int) (m k : Nat) (hz : (k : Int) = min (max z 0) 1048576) (hu : InW w u m) :
    Calls Try.prog 31 #[u, .int .i64 z] w fun e w' => ∃ r, e = .returned r ∧ NewW w.heap.size w' r (m % 2 ^ k) ∧ Below w.heap.size w w' := by
  have HU := hide hu
  obtain ⟨ga, ba, oa, ca, xs, rfl, rA, dA, vA, lA⟩ := hu
  obtain ⟨la, hla⟩ : ∃ la, la = xs.length := ⟨_, rfl⟩
  have hroom := rA.room
  rw [← hla] at lA hroom HU ⊢
  obtain ⟨s, hs⟩ : ∃ s, s = k / 64 := ⟨_, rfl⟩
  obtain ⟨t, ht⟩ : ∃ t, t = k % 64 := ⟨_, rfl⟩
  have CW := hide (fun w => wp_any z k s t w hz hs ht)
  have ht64 : t < 64 := by omega
  have hke : k = 64 * s + t := by omega
  have HLA := hide hla
  by_cases h0 : la ≤ s
  · have h0i : (la : Int) ≤ (s : Int) := by omega
    have hmm : Hid (m % 2 ^ k = m) := by
      refine Nat.mod_eq_of_lt ?_
      have h1 := wval_lt_pow dA
      rw [vA] at h1
      have h2 : 18446744073709551616 ^ xs.length ≤ 2 ^ k := by
        rw [show (18446744073709551616 : Nat) = 2 ^ 64 from rfl, ← Nat.pow_mul]
        exact Nat.pow_le_pow_right (by omega) (by omega)
      omega
    clear hla hs ht hke hz vA
    go_enter Try.func31, Try.ntmps31
    go_wp2_with fail
    refine (unhide CW _).mono ?_
    rintro e w2 ⟨rfl, rfl⟩
    clear CW
    go_wp2_with fail
    refine (norm_w _ _ m (unhide HU)).mono ?_
    rintro e w3 ⟨r, rfl, hr, hb⟩
    go_wp2
    go_ret
    exact ⟨r, rfl, by rw [unhide hmm]; exact hr, hb⟩
  · have h0i : ¬ (la : Int) ≤ (s : Int) := by omega
    have hval := wval_low dA s t ht64 (by omega)
    rw [vA, ← hke] at hval
    have hs1 : (s : Int) + 1 ≤ (ca : Int) := by omega
    have rT := rA.take (s + 1) (by omega)
    have dT := wDig_take dA (s + 1)
    have hTl : (xs.take (s + 1)).length = s + 1 := by simp; omega
    obtain ⟨x, hx⟩ : ∃ x, x = xs.getD s 0 := ⟨_, rfl⟩
    have hx64 : x < 18446744073709551616 := by rw [hx]; exact dA s
    have hxT : (xs.take (s + 1)).getD s 0 = x := by
      rw [hx]; simp [List.getD_eq_getElem?_getD]
    obtain ⟨d, hd⟩ : ∃ d, d = x % 2 ^ t := ⟨_, rfl⟩
    have hdx : d ≤ x := by rw [hd]; exact Nat.mod_le _ _
    have hset : Hid (wval ((xs.take (s + 1)).set s d) = m % 2 ^ k) := by
      show _ = _
      have h1 := wval_set (xs.take (s + 1)) s d (by omega)
      rw [hxT, wval_take_succ, ← hx] at h1
      rw [← hval, ← hx, ← hd]
      omega
    have em := and_mask x t hx64 ht64
    have e1 := one_shl t ht64
    rw [← hd] at em
    have hp0 : 0 < 2 ^ t := Nat.pow_pos (by omega)
    have hpb : 2 ^ t < 18446744073709551616 := by
      have := Nat.pow_le_pow_right (n := 2) (by omega) (by omega : t ≤ 63)
      omega
    obtain ⟨p, hp⟩ : ∃ p, p = 2 ^ t := ⟨_, rfl⟩
    rw [← hp] at em e1 hp0 hpb
    have ep : ((p - 1 : Nat) : Int) = (p : Int) - 1 := by omega
    rw [ep] at em
    have HP := hide hp
    have HPB := hide hpb
    have ew : IntKind.u64.wrap ((p : Int) - 1) = (p : Int) - 1 := by rw [IntKind.wrap_u64]; omega
    have dS := wDig_set dT (k := s) (d := d) (by omega) (by omega)
    clear hla hs ht hke hz vA rA hroom dA hval hx hd hp hpb ep
    generalize xs.take (s + 1) = ts at *
    go_enter Try.func31, Try.ntmps31
    go_wp2_with fail
    refine (unhide CW _).mono ?_
    rintro e w2 ⟨rfl, rfl⟩
    clear CW
    go_wp2_with fail
    refine (copyOf_any _ _ ba oa ca (s + 1) ts hTl (by omega) rT).mono ?_
    rintro e w3 ⟨rfl, k3, b3⟩
    have cr := k3.cell s (by omega)
    rw [hxT] at cr
    have fr := k3.frozen s
    go_wp2
    go_region
    all_goals
      go_wp2_with fail
      refine (trim_blk (B := w2.heap.size) (zs := ts.set s d) (by simpa using hTl) (by omega) (Nat.le_refl _) (by exact k3.set s d) dS).mono ?_
      rintro e w6 ⟨r, rfl, hr, rfl⟩
      rw [unhide hset] at hr
      go_wp2
      go_ret
      exact ⟨r, rfl, hr, (b3.setCell (p := ⟨w2.heap.size, s, none⟩) (Nat.le_refl _) (.int .u64 (d : Int))).drew⟩

end Go.Proofs.Ytmfpgpkheaofeab
