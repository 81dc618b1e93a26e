/- By of the landed package mul. -/
import Derived.Test.YtiekgpphggejcaaGreatDoorB51
namespace Go.Proofs.YtiekgpphggejcaaGreatDoor
open Go.RowKit

set_option maxRecDepth 100000 in
set_option maxHeartbeats 1600000 in
theorem mby_walk {w : World} {gm la lb lu lv : Nat} {r : Int} {ga gb : Option Addr} {cap cap' : Nat} (ha : 0 < la) (hb : 0 < lb) (Q : Value → Bool → World → Prop)
    (CX : Calls Tryz.prog 38 #[.slice ga lu cap] w fun e w' => e = .returned (.slice ga la cap) ∧ w' = w) (CY : Calls Tryz.prog 38 #[.slice gb lv cap'] w fun e w' => e = .returned (.slice gb lb cap') ∧ w' = w)
    (C : Calls Tryz.prog 50 #[.pointer (some ⟨gm, 0, none⟩), .int .i64 r, .slice ga la cap, .slice gb lb cap'] w fun e w' => ∃ x b, e = .returned (.tuple #[x, .bool b]) ∧ Q x b w') :
    Calls Tryz.prog 33 #[.pointer (some ⟨gm, 0, none⟩), .int .i64 r, .slice ga lu cap, .slice gb lv cap'] w fun e w' => ∃ x b, e = .returned (.tuple #[x, .bool b]) ∧ Q x b w' := by
  have HCX := hide CX
  have HCY := hide CY
  have HC := hide C
  have i1 : ((la : Int) == 0) = false := by simp; omega
  have i2 : ((lb : Int) == 0) = false := by simp; omega
  clear CX CY C ha hb
  go_enter Tryz.func33, Tryz.ntmps33
  go_wp2_with fail
  refine (unhide HCX).mono ?_
  rintro e w1 ⟨rfl, hw⟩
  obtain rfl := hw.symm
  clear hw
  go_wp2_with fail
  refine (unhide HCY).mono ?_
  rintro e w1 ⟨rfl, hw⟩
  obtain rfl := hw.symm
  clear hw
  go_wp2_with fail
  refine (unhide HC).mono ?_
  rintro e w1 ⟨x, b, rfl, h⟩
  have H := hide h
  clear h HC
  go_wp2
  go_ret2
  exact ⟨_, _, rfl, unhide H⟩
set_option maxRecDepth 100000 in
set_option maxHeartbeats 1600000 in
theorem mby_zero {w : World} {gm la lb lu lv : Nat} {r : Int} {ga gb : Option Addr} {cap cap' : Nat} (h : la = 0 ∨ lb = 0)
    (CX : Calls Tryz.prog 38 #[.slice ga lu cap] w fun e w' => e = .returned (.slice ga la cap) ∧ w' = w) (CY : Calls Tryz.prog 38 #[.slice gb lv cap'] w fun e w' => e = .returned (.slice gb lb cap') ∧ w' = w) :
    Calls Tryz.prog 33 #[.pointer (some ⟨gm, 0, none⟩), .int .i64 r, .slice ga lu cap, .slice gb lv cap'] w fun e w' => e = .returned (.tuple #[.slice none 0 0, .bool false]) ∧ w' = w := by
  have HCX := hide CX
  have HCY := hide CY
  clear CX CY
  by_cases hz : la = 0
  · have i1 : ((la : Int) == 0) = true := by simp; omega
    clear h hz
    go_enter Tryz.func33, Tryz.ntmps33
    go_wp2_with fail
    refine (unhide HCX).mono ?_
    rintro e w1 ⟨rfl, hw⟩
    obtain rfl := hw.symm
    clear hw
    go_wp2_with fail
    refine (unhide HCY).mono ?_
    rintro e w1 ⟨rfl, hw⟩
    obtain rfl := hw.symm
    clear hw
    go_wp2
    go_ret2
    exact ⟨rfl, rfl⟩
  · have i1 : ((la : Int) == 0) = false := by simp; omega
    have i2 : ((lb : Int) == 0) = true := by simp; omega
    clear h hz
    go_enter Tryz.func33, Tryz.ntmps33
    go_wp2_with fail
    refine (unhide HCX).mono ?_
    rintro e w1 ⟨rfl, hw⟩
    obtain rfl := hw.symm
    clear hw
    go_wp2_with fail
    refine (unhide HCY).mono ?_
    rintro e w1 ⟨rfl, hw⟩
    obtain rfl := hw.symm
    clear hw
    go_wp2
    go_ret2
    exact ⟨rfl, rfl⟩

theorem bcst_le {B D N r n m : Nat} (e : Ent B D N) (hm : m ≤ n) (hn : n ≤ 16384) (h0 : 0 < m) (h3 : r = 3 → (n + 1) / 2 < m) (h4 : r = 4 → 2 * ((n + 2) / 3) < m) : bcst B D N r n m ≤ 70368744177664 := by
  have q : n * m ≤ 16384 * 16384 := Nat.mul_le_mul hn (by omega)
  unfold bcst
  split
  · omega
  · split
    · have c1 := cst_lit e (n := m) (m := m) (Nat.le_refl _) (by omega)
      have c2 := cst_lit e (n := m) (m := n % m) (by have := Nat.mod_lt n h0; omega) (by omega)
      have c3 : n / m * cst B D N m m ≤ 16384 * 2147483648 := Nat.mul_le_mul (Nat.le_trans (Nat.div_le_self _ _) hn) c1
      omega
    · split
      · have := h3 (by assumption)
        have c1 := cst_lit e (n := (n + 1) / 2) (m := (n + 1) / 2) (Nat.le_refl _) (by omega)
        have c2 := cst_lit e (n := n - (n + 1) / 2) (m := m - (n + 1) / 2) (by omega) (by omega)
        have c3 := cst_lit e (n := (n + 1) / 2 + 1) (m := (n + 1) / 2 + 1) (Nat.le_refl _) (by omega)
        omega
      · split
        · have := h4 (by assumption)
          have c1 := cst_lit e (n := (n + 2) / 3) (m := (n + 2) / 3) (Nat.le_refl _) (by omega)
          have c2 := cst_lit e (n := n - 2 * ((n + 2) / 3)) (m := m - 2 * ((n + 2) / 3)) (by omega) (by omega)
          have c3 := cst_lit e (n := (n + 2) / 3 + 1) (m := (n + 2) / 3 + 1) (Nat.le_refl _) (by omega)
          omega
        · split
          · have h1 : lg (n + m) ≤ lg 32768 := lg_mono (by omega)
            have h2 : lg 32768 = 15 := by decide
            have h3 : tf n m 3 ≤ tfL 15 3 := tfL_mono (by omega) (Nat.le_refl _)
            have h4 : tfL 15 3 ≤ 70368744177664 := by decide
            omega
          · omega

theorem one_by {w : World} {gm gt gk ge g : Nat} {s l m : Int} {T : Tab} {P C L : Nat} {r : Value} {w' : World} (h : OneDone w gm gt gk ge g s l m T P C L r w') (hC : C ≤ 70368744177664) (h0 : 0 ≤ s) :
    ∃ s' m', NewW w.heap.size w' r P ∧ MEng w' gm gt gk ge g s' l m' T ∧ 0 ≤ s' ∧ s' ≤ s + 1125899906842624 ∧ Out (· = g) w w' := by
  obtain ⟨m', h1, h2, _, _, h5⟩ := h
  exact ⟨_, m', h1, h2, by omega, by omega, h5⟩
theorem may_cases {r : Int} {n m : Nat} (h : may r n m = true) : 0 < m ∧ (r = 1 ∨ r = 2 ∨ (r = 3 ∧ (n + 1) / 2 < m) ∨ (r = 4 ∧ 2 * ((n + 2) / 3) < m) ∨ r = 5) := by
  unfold may at h
  split at h
  · have := of_decide_eq_true h
    omega
  · split at h
    · have := of_decide_eq_true h
      omega
    · split at h
      · have := of_decide_eq_true h
        omega
      · cases h
theorem may_not {r : Int} {n m : Nat} (h : may r n m = false) : m = 0 ∨ r < 1 ∨ 5 < r ∨ (r = 3 ∧ m ≤ (n + 1) / 2) ∨ (r = 4 ∧ m ≤ 2 * ((n + 2) / 3)) := by
  unfold may at h
  split at h
  · have := of_decide_eq_false h
    omega
  · split at h
    · have := of_decide_eq_false h
      omega
    · split at h
      · have := of_decide_eq_false h
        omega
      · omega

theorem spec_mby : SpecMBy := by
  intro w gm gt gk ge g s l m T u v A C r hE hT h0 h1 h2 h3 hu hv hmay _ _
  obtain ⟨ga, b, o, cap, xs, xl, rX, dX, vX, lX, ⟨lu, rfl⟩, CX⟩ := mtrim_in hu
  obtain ⟨gb, b', o', cap', ys, yl, rY, dY, vY, lY, ⟨lv, rfl⟩, CY⟩ := mtrim_in hv
  obtain ⟨hm0, hr⟩ := may_cases hmay
  have key : ∀ (R : Nat) (L : Nat), r = (R : Int) → (R = 3 → (max (wl A) (wl C) + 1) / 2 < min (wl A) (wl C)) → (R = 4 → 2 * ((max (wl A) (wl C) + 2) / 3) < min (wl A) (wl C)) →
      Calls Tryz.prog 50 #[.pointer (some ⟨gm, 0, none⟩), .int .i64 r, .slice ga (wl A) cap, .slice gb (wl C) cap'] w (fun e w' => ∃ x b, e = .returned (.tuple #[x, .bool b]) ∧ (b = true ∧ OneDone w gm gt gk ge g s l m T (wval xs * wval ys) (bcst T.B T.D T.N R (max (wl A) (wl C)) (min (wl A) (wl C))) L x w')) →
      Calls Tryz.prog 33 #[.pointer (some ⟨gm, 0, none⟩), .int .i64 r, .slice ga lu cap, .slice gb lv cap'] w fun e w' => ∃ q s' m', e = .returned (.tuple #[q, .bool true]) ∧ NewW w.heap.size w' q (A * C) ∧ MEng w' gm gt gk ge g s' l m' T ∧ 0 ≤ s' ∧ s' ≤ s + 1125899906842624 ∧ Out (· = g) w w' := fun R L hR g3 g4 H => by
    refine (mby_walk (by omega) (by omega) _ CX CY H).mono ?_
    rintro e w' ⟨x, bb, rfl, rfl, hd⟩
    rw [vX, vY] at hd
    obtain ⟨s', m', k1, k2, k3, k4, k5⟩ := one_by hd (bcst_le T.ent (by omega) (by omega) hm0 g3 g4) h0
    exact ⟨x, s', m', rfl, k1, k2, k3, k4, k5⟩
  rcases hr with rfl | rfl | ⟨rfl, k⟩ | ⟨rfl, k⟩ | rfl
  · refine key 1 0 rfl (by omega) (by omega) ((by_one hE (school_times hE h0 (by omega) xl rX dX yl rY dY lX lY)).mono ?_)
    rintro e w' ⟨x, rfl, hd⟩
    exact ⟨x, true, rfl, rfl, hd⟩
  · refine key 2 (lev (min (wl A) (wl C)) + 1) rfl (by omega) (by omega) ((by_two hE rfl lX lY (block_times hE hT (times_all (min (wl A) (wl C)) (by omega)) h0 (by omega) h2 (by omega) xl rX dX yl rY dY lX lY (by omega) (by omega) rfl)).mono ?_)
    rintro e w' ⟨x, rfl, hd⟩
    exact ⟨x, true, rfl, rfl, hd⟩
  · refine key 3 (lev ((max (wl A) (wl C) + 1) / 2 + 1) + 1) rfl (fun _ => k) (by omega) (by_three hE ((kara_times (times_all ((max (wl A) (wl C) + 1) / 2 + 1) (by omega)) (by omega) hE hT h0 (by omega) h2 (by omega) xl rX dX yl rY dY lX lY rfl k (Nat.le_refl _)).mono fun e w' hd => ?_))
    obtain ⟨x, rfl, hz⟩ := byDone_iff hd
    exact ⟨x, true, rfl, rfl, hz⟩
  · refine key 4 (lev ((max (wl A) (wl C) + 2) / 3 + 1) + 1) rfl (by omega) (fun _ => k) (by_four hE ((toom_times (times_all ((max (wl A) (wl C) + 2) / 3 + 1) (by omega)) (by omega) hE hT h0 (by omega) h2 (by omega) xl rX dX yl rY dY lX lY rfl k (Nat.le_refl _)).mono fun e w' hd => ?_))
    obtain ⟨x, rfl, hz⟩ := byDone_iff hd
    exact ⟨x, true, rfl, rfl, hz⟩
  · refine key 5 0 rfl (by omega) (by omega) (by_five hE ((conv_times hE hT h0 (by omega) xl rX dX yl rY dY lX lY (by omega) (by omega)).mono fun e w' hd => ?_))
    obtain ⟨x, rfl, hz⟩ := byDone_iff hd
    exact ⟨x, true, rfl, rfl, hz⟩

theorem spec_mby_no : SpecMByNo := by
  intro w gm gt gk ge g s l m T u v A C r hE hT h0 h1 h2 h3 hu hv hmay _ _
  obtain ⟨ga, b, o, cap, xs, xl, rX, dX, vX, lX, ⟨lu, rfl⟩, CX⟩ := mtrim_in hu
  obtain ⟨gb, b', o', cap', ys, yl, rY, dY, vY, lY, ⟨lv, rfl⟩, CY⟩ := mtrim_in hv
  have fin : ∀ w', w' = w → ∃ gv c s' m', (Ending.returned (.tuple #[.slice none 0 0, .bool false]) : Ending) = .returned (.tuple #[.slice gv 0 c, .bool false]) ∧ MEng w' gm gt gk ge g s' l m' T ∧ 0 ≤ s' ∧ s' ≤ s + 1125899906842624 ∧ Out (· = g) w w' := fun w' e => by
    subst e
    exact ⟨none, 0, s, m, rfl, hE, h0, by omega, Out.refl _ _⟩
  by_cases hm0 : min (wl A) (wl C) = 0
  · refine (mby_zero (by omega) CX CY).mono ?_
    rintro e w' ⟨rfl, hw⟩
    exact fin w' hw
  · have key : Calls Tryz.prog 50 #[.pointer (some ⟨gm, 0, none⟩), .int .i64 r, .slice ga (wl A) cap, .slice gb (wl C) cap'] w (fun e w' => ∃ x b, e = .returned (.tuple #[x, .bool b]) ∧ (x = .slice none 0 0 ∧ b = false ∧ w' = w)) := by
      rcases may_not hmay with h | h | h | ⟨rfl, h⟩ | ⟨rfl, h⟩
      · exact absurd h hm0
      · refine (by_none w gm _ _ r (by omega)).mono ?_
        rintro e w' ⟨rfl, rfl⟩
        exact ⟨_, _, rfl, rfl, rfl, rfl⟩
      · refine (by_none w gm _ _ r (by omega)).mono ?_
        rintro e w' ⟨rfl, rfl⟩
        exact ⟨_, _, rfl, rfl, rfl, rfl⟩
      · refine by_three hE (Q := fun x b w' => x = .slice none 0 0 ∧ b = false ∧ w' = w) ((kara_no w gk ga gb cap (wl A) cap' (wl C) _ _ lX lY rfl h).mono ?_)
        rintro e w' ⟨rfl, rfl⟩
        exact ⟨_, _, rfl, rfl, rfl, rfl⟩
      · refine by_four hE (Q := fun x b w' => x = .slice none 0 0 ∧ b = false ∧ w' = w) ((toom_no w gt ga gb cap (wl A) cap' (wl C) _ _ lX lY rfl h).mono ?_)
        rintro e w' ⟨rfl, rfl⟩
        exact ⟨_, _, rfl, rfl, rfl, rfl⟩
    refine (mby_walk (by omega) (by omega) _ CX CY key).mono ?_
    rintro e w' ⟨x, bb, rfl, rfl, rfl, hw⟩
    exact fin w' hw

end Go.Proofs.YtiekgpphggejcaaGreatDoor
