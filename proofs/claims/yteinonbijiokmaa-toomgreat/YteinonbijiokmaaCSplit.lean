/- Split of limb. -/
import Derived.Test.YteinonbijiokmaaM12
import Derived.Test.YteinonbijiokmaaM9
namespace Go.Proofs.Yteinonbijiokmaa
open Go.RowKit

theorem InW.drew {w : World} {v : Value} {n : Nat} (h : InW w v n) : InW w.drew v n := by
  obtain ⟨ga, b, o, cap, xs, rfl, hr, hd, hv, hl⟩ := h
  exact ⟨ga, b, o, cap, xs, rfl, hr.drew, hd, hv, hl⟩
theorem in_len0 (w : World) (ga : Option Addr) (cap : Nat) : InW w (.slice ga 0 cap) 0 := ⟨ga, 0, 0, cap, [], rfl, Rep.nil _ _ _ _ _, wDig_nil, rfl, by simp⟩

theorem in_zero {w : World} {ga : Option Addr} {cap n : Nat} (h : InW w (.slice ga 0 cap) n) : n = 0 := by
  obtain ⟨ga2, b, o, cap2, xs, he, _, _, hv, _⟩ := h
  have hl : xs.length = 0 := by injection he with _ h2 _; exact h2.symm
  obtain rfl : xs = [] := List.length_eq_zero_iff.1 hl
  exact hv.symm

/-- What Split leaves. -/
def SplitDone (w : World) (LO HI : Nat) (e : Ending) (w' : World) : Prop := ∃ lo hi B1 M1 B2 M2, e = .returned (.tuple #[lo, hi]) ∧ NewB B1 M1 w' lo LO ∧ NewB B2 M2 w' hi HI ∧ w.heap.size ≤ B1 ∧ w.heap.size ≤ B2 ∧ M1 ≤ w'.heap.size ∧ M2 ≤ w'.heap.size ∧ (M1 ≤ B2 ∨ M2 ≤ B1) ∧ Below w.heap.size w w'

set_option maxRecDepth 100000 in
set_option maxHeartbeats 3200000 in
theorem split_w (w : World) (u : Value) (z : Int) (m k : Nat) (hz : (k : Int) = min (max z 0) 16384) (hu : InW w u m) :
    Calls Try.prog 52 #[u, .int .i64 z] w (SplitDone w (m % 18446744073709551616 ^ k) (m / 18446744073709551616 ^ k)) := by
  have CW := hide (fun w => within_lim z 16384 k w hz)
  obtain ⟨ga, ba, oa, ca, xs, rfl, rA, dA, vA, lA⟩ := hu
  obtain ⟨la, hla⟩ : ∃ la, la = xs.length := ⟨_, rfl⟩
  have hroom := rA.room
  rw [← hla] at lA hroom ⊢
  obtain ⟨s, hs⟩ : ∃ s, s = min k la := ⟨_, rfl⟩
  have hmin : min (k : Int) (la : Int) = (s : Int) := by omega
  have hv := wval_drop xs s
  have hl := wval_lt dA s
  have hvLo : wval (xs.take s) = m % 18446744073709551616 ^ k := by
    by_cases h : k ≤ la
    · obtain rfl : s = k := by omega
      rw [← vA, hv, Nat.add_mul_mod_self_left, Nat.mod_eq_of_lt hl]
    · have h1 := pow_up (wval_lt_pow dA) (q := k) (by omega)
      rw [List.take_of_length_le (by omega), vA, Nat.mod_eq_of_lt (by rw [← vA]; exact h1)]
  have hvHi : wval (xs.drop s) = m / 18446744073709551616 ^ k := by
    by_cases h : k ≤ la
    · obtain rfl : s = k := by omega
      rw [← vA, hv, Nat.add_mul_div_left _ _ (wpow_pos s), Nat.div_eq_of_lt hl, Nat.zero_add]
    · have h1 := pow_up (wval_lt_pow dA) (q := k) (by omega)
      rw [List.drop_eq_nil_of_le (by omega), Nat.div_eq_of_lt (by rw [← vA]; exact h1)]
      rfl
  have hsla : s ≤ la := by omega
  generalize m % 18446744073709551616 ^ k = LO at *
  generalize m / 18446744073709551616 ^ k = HI at *
  have iLo : InW w (.slice ga s ca) LO := ⟨ga, ba, oa, ca, xs.take s, by rw [List.length_take, Nat.min_eq_left (by omega)], rA.take s (by omega), wDig_take dA s, hvLo, by simp; omega⟩
  have hHi : ∀ ga2 c2, (ga = some ⟨ba, oa, none⟩ → s < la → ga2 = some ⟨ba, oa + s, none⟩ ∧ c2 = ca - s) → InW w (.slice ga2 (la - s) c2) HI := fun ga2 c2 h => by
    by_cases h0 : s < la
    · have hg := rA.head (by omega)
      obtain ⟨rfl, rfl⟩ := h hg h0
      subst hg
      exact ⟨_, ba, oa + s, _, xs.drop s, by rw [List.length_drop, hla], rA.dropS (by omega), wDig_drop dA s, hvHi, by simp; omega⟩
    · have e : la - s = 0 := by omega
      rw [List.drop_eq_nil_of_le (by omega)] at hvHi
      have hH0 : HI = 0 := hvHi.symm
      rw [e, hH0]
      exact in_len0 _ _ _
  have hsi : 0 ≤ (s : Int) ∧ (s : Int) ≤ (la : Int) := by omega
  have hsi2 : 0 ≤ (s : Int) ∧ (s : Int) ≤ (ca : Int) := by omega
  have hnil : 0 < la → ga = some ⟨ba, oa, none⟩ := fun h => rA.head (by omega)
  have hlt : s < la → ¬ ca = s := fun h => by omega
  obtain ⟨M, hM⟩ : ∃ M, la - s = M := ⟨_, rfl⟩
  rw [hM] at hHi
  obtain ⟨cc, hcc⟩ : ∃ cc, ca - s = cc := ⟨_, rfl⟩
  clear hv hl hvLo hvHi hs hla vA rA dA hz
  have bl := Below.refl w.heap.size w
  cases ga with
  | none =>
    obtain rfl : la = 0 := by
      refine Nat.eq_zero_of_not_pos fun h => ?_
      have := hnil h
      cases this
    obtain rfl : s = 0 := by omega
    obtain rfl : M = 0 := by omega
    have hmin0 : min (k : Int) 0 = 0 := by omega
    obtain rfl : HI = 0 := in_zero (hHi none 0 (fun _ h => absurd h (by omega)))
    obtain rfl : LO = 0 := in_zero iLo
    have T1 : Hid True := trivial
    clear hnil hlt hHi iLo hmin hsi hsi2 hM hcc hroom
    go_enter Try.func52, Try.ntmps52
    go_wp2_with fail
    refine (unhide CW _).mono ?_
    rintro e w1 ⟨rfl, rfl⟩
    clear CW
    go_wp2
    go_region_with (first
        | (go_at_call 70; clear T1; refine (norm_w _ _ 0 ?_).mono ?_; exact in_len0 _ _ _; rintro e wL ⟨lo, rfl, nlo, bL⟩; have nlo := nlo.born; have bl := (by exact bstep bl.drew bL : Below w1.heap.size w1 wL))
        | (go_at_call 70; refine (norm_w _ _ 0 ?_).mono ?_; exact in_len0 _ _ _; rintro e wH ⟨hi, rfl, nhi, bH⟩; have nhi := nhi.born; have nlo := nlo.next bH; have bl := (by exact bstep bl bH : Below w1.heap.size w1 wH)))
    all_goals
      go_wp2
      go_ret2
      first
        | exact ⟨lo, hi, _, _, _, _, rfl, nlo, nhi, Nat.le_refl _, bL.size, bH.size, Nat.le_refl _, Or.inl (Nat.le_refl _), bl⟩
        | exact ⟨hi, lo, _, _, _, _, rfl, nhi, nlo, bL.size, Nat.le_refl _, Nat.le_refl _, bH.size, Or.inr (Nat.le_refl _), bl⟩
  | some x =>
    by_cases h0 : la = 0
    · subst h0
      by_cases hc0 : ca = 0
      · subst hc0
        obtain rfl : s = 0 := by omega
        obtain rfl : M = 0 := by omega
        have hmin0 : min (k : Int) 0 = 0 := by omega
        obtain rfl : HI = 0 := in_zero (hHi none 0 (fun _ h => absurd h (by omega)))
        obtain rfl : LO = 0 := in_zero iLo
        have T1 : Hid True := trivial
        clear hnil hlt hHi iLo hmin hsi hsi2 hM hcc hroom
        go_enter Try.func52, Try.ntmps52
        go_wp2_with fail
        refine (unhide CW _).mono ?_
        rintro e w1 ⟨rfl, rfl⟩
        clear CW
        go_wp2
        go_region_with (first
            | (go_at_call 70; clear T1; refine (norm_w _ _ 0 ?_).mono ?_; exact in_len0 _ _ _; rintro e wL ⟨lo, rfl, nlo, bL⟩; have nlo := nlo.born; have bl := (by exact bstep bl.drew bL : Below w1.heap.size w1 wL))
            | (go_at_call 70; refine (norm_w _ _ 0 ?_).mono ?_; exact in_len0 _ _ _; rintro e wH ⟨hi, rfl, nhi, bH⟩; have nhi := nhi.born; have nlo := nlo.next bH; have bl := (by exact bstep bl bH : Below w1.heap.size w1 wH)))
        all_goals
          go_wp2
          go_ret2
          first
            | exact ⟨lo, hi, _, _, _, _, rfl, nlo, nhi, Nat.le_refl _, bL.size, bH.size, Nat.le_refl _, Or.inl (Nat.le_refl _), bl⟩
            | exact ⟨hi, lo, _, _, _, _, rfl, nhi, nlo, bL.size, Nat.le_refl _, Nat.le_refl _, bH.size, Or.inr (Nat.le_refl _), bl⟩
      · skip
        obtain rfl : s = 0 := by omega
        obtain rfl : M = 0 := by omega
        have hmin0 : min (k : Int) 0 = 0 := by omega
        obtain rfl : HI = 0 := in_zero (hHi none 0 (fun _ h => absurd h (by omega)))
        obtain rfl : LO = 0 := in_zero iLo
        have T1 : Hid True := trivial
        clear hnil hlt hHi iLo hmin hsi hsi2 hM hcc hroom
        go_enter Try.func52, Try.ntmps52
        go_wp2_with fail
        refine (unhide CW _).mono ?_
        rintro e w1 ⟨rfl, rfl⟩
        clear CW
        go_wp2
        go_region_with (first
            | (go_at_call 70; clear T1; refine (norm_w _ _ 0 ?_).mono ?_; exact in_len0 _ _ _; rintro e wL ⟨lo, rfl, nlo, bL⟩; have nlo := nlo.born; have bl := (by exact bstep bl.drew bL : Below w1.heap.size w1 wL))
            | (go_at_call 70; refine (norm_w _ _ 0 ?_).mono ?_; exact in_len0 _ _ _; rintro e wH ⟨hi, rfl, nhi, bH⟩; have nhi := nhi.born; have nlo := nlo.next bH; have bl := (by exact bstep bl bH : Below w1.heap.size w1 wH)))
        all_goals
          go_wp2
          go_ret2
          first
            | exact ⟨lo, hi, _, _, _, _, rfl, nlo, nhi, Nat.le_refl _, bL.size, bH.size, Nat.le_refl _, Or.inl (Nat.le_refl _), bl⟩
            | exact ⟨hi, lo, _, _, _, _, rfl, nhi, nlo, bL.size, Nat.le_refl _, Nat.le_refl _, bH.size, Or.inr (Nat.le_refl _), bl⟩
    · cases hnil (by omega)
      by_cases hcs : ca = s
      · subst hcs
        obtain rfl : cc = 0 := by omega
        have iHi := hHi (some ⟨ba, oa, none⟩) 0 (fun _ h => absurd rfl (hlt h))
        have hMz : ca - ca = 0 := by omega
        clear hcc
        clear hnil hlt hHi
        go_enter Try.func52, Try.ntmps52
        go_wp2_with fail
        refine (unhide CW _).mono ?_
        rintro e w1 ⟨rfl, rfl⟩
        clear CW
        go_wp2
        go_region_with (first
            | (go_at_call_of 70 (Value.slice (some ⟨ba, oa, none⟩) ca ca); refine (norm_w _ _ LO ?_).mono ?_; (first | exact iLo.drew | exact iLo); rintro e wL ⟨lo, rfl, nlo, bL⟩; have nlo := nlo.born; (try have nhi := nhi.next bL); (try have iHi := (by first | exact iHi.drew.next bL | exact iHi.next bL : InW wL (Value.slice (some ⟨ba, oa, none⟩) M 0) HI)); have bl := (by first | exact bstep bl.drew bL | exact bstep bl bL : Below w1.heap.size w1 wL))
            | (go_at_call_of 70 (Value.slice (some ⟨ba, oa, none⟩) M 0); refine (norm_w _ _ HI ?_).mono ?_; (first | exact iHi.drew | exact iHi); rintro e wH ⟨hi, rfl, nhi, bH⟩; have nhi := nhi.born; (try have nlo := nlo.next bH); (try have iLo := (by first | exact iLo.drew.next bH | exact iLo.next bH : InW wH (Value.slice (some ⟨ba, oa, none⟩) ca ca) LO)); have bl := (by first | exact bstep bl.drew bH | exact bstep bl bH : Below w1.heap.size w1 wH)))
        all_goals
          go_wp2
          go_ret2
          first
            | exact ⟨lo, hi, _, _, _, _, rfl, nlo, nhi, Nat.le_refl _, bL.size, bH.size, Nat.le_refl _, Or.inl (Nat.le_refl _), bl⟩
            | exact ⟨lo, hi, _, _, _, _, rfl, nlo, nhi, bH.size, Nat.le_refl _, Nat.le_refl _, bL.size, Or.inr (Nat.le_refl _), bl⟩
      · have iHi := hHi (some ⟨ba, oa + s, none⟩) cc (fun _ _ => ⟨rfl, hcc.symm⟩)
        clear hnil hlt hHi
        go_enter Try.func52, Try.ntmps52
        go_wp2_with fail
        refine (unhide CW _).mono ?_
        rintro e w1 ⟨rfl, rfl⟩
        clear CW
        go_wp2
        go_region_with (first
            | (go_at_call_of 70 (Value.slice (some ⟨ba, oa, none⟩) s ca); refine (norm_w _ _ LO ?_).mono ?_; (first | exact iLo.drew | exact iLo); rintro e wL ⟨lo, rfl, nlo, bL⟩; have nlo := nlo.born; (try have nhi := nhi.next bL); (try have iHi := (by first | exact iHi.drew.next bL | exact iHi.next bL : InW wL (Value.slice (some ⟨ba, oa + s, none⟩) M cc) HI)); have bl := (by first | exact bstep bl.drew bL | exact bstep bl bL : Below w1.heap.size w1 wL))
            | (go_at_call_of 70 (Value.slice (some ⟨ba, oa + s, none⟩) M cc); refine (norm_w _ _ HI ?_).mono ?_; (first | exact iHi.drew | exact iHi); rintro e wH ⟨hi, rfl, nhi, bH⟩; have nhi := nhi.born; (try have nlo := nlo.next bH); (try have iLo := (by first | exact iLo.drew.next bH | exact iLo.next bH : InW wH (Value.slice (some ⟨ba, oa, none⟩) s ca) LO)); have bl := (by first | exact bstep bl.drew bH | exact bstep bl bH : Below w1.heap.size w1 wH)))
        all_goals
          go_wp2
          go_ret2
          first
            | exact ⟨lo, hi, _, _, _, _, rfl, nlo, nhi, Nat.le_refl _, bL.size, bH.size, Nat.le_refl _, Or.inl (Nat.le_refl _), bl⟩
            | exact ⟨lo, hi, _, _, _, _, rfl, nlo, nhi, bH.size, Nat.le_refl _, Nat.le_refl _, bL.size, Or.inr (Nat.le_refl _), bl⟩

end Go.Proofs.Yteinonbijiokmaa
