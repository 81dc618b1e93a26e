/- Package modw: Montgomery's form, powers, and a factor's own quotient. -/
import Derived.Test.YtohgekhjaodehaaDoorQMod
namespace Go.Proofs.YtohgekhjaodehaaDoor
open Go.RowKit

set_option maxHeartbeats 1600000 in
theorem montMul_any {w : World} {g p : Nat} (h : MW w g p) (a b : Nat) :
    Calls Tryd.prog 35 #[.pointer (some ⟨g, 0, none⟩), .int .u64 (a : Int), .int .u64 (b : Int)] w fun e w' => e = .returned (.int .u64 (mm p a b : Int)) ∧ w' = w := by
  have hl := h.low
  have hp := h.high
  have h1 : rd p a < p := Nat.mod_lt _ (by omega)
  have h2 : rd p b < p := Nat.mod_lt _ (by omega)
  have o0 := h.c0
  have o1 := h.c1
  have C1 := hide (fun x => red_any h x)
  have C2 := hide (fun w => word_mul (rd p a) (rd p b) w (by omega) (by omega))
  have C4 := hide (fun x y => sub_mod h x y)
  have ho := h.odd
  obtain ⟨hi, hhi⟩ : ∃ hi, hi = rd p a * rd p b / 18446744073709551616 := ⟨_, rfl⟩
  obtain ⟨lo, hlo⟩ : ∃ lo, lo = rd p a * rd p b % 18446744073709551616 := ⟨_, rfl⟩
  obtain ⟨q, hq⟩ : ∃ q, q = lo * invB p % 18446744073709551616 := ⟨_, rfl⟩
  have C3 := hide (fun w => word_mul q p w (by rw [hq]; exact Nat.mod_lt _ (by omega)) (by omega))
  obtain ⟨top, ht⟩ : ∃ top, top = q * p / 18446744073709551616 := ⟨_, rfl⟩
  have e : sb p hi top = mm p a b := mont_eq ho (by omega) hhi hlo hq ht
  have hqw : IntKind.u64.wrap ((lo : Int) * (invB p : Nat)) = (q : Int) := wrap_u (by rw [← Int.natCast_mul, hq]; rfl)
  have HE := hide e
  rw [← hhi, ← hlo] at C2
  rw [← ht] at C3
  clear ho h hq e hhi hlo ht
  generalize q * p % 18446744073709551616 = z0 at *
  generalize mm p a b = z at *
  generalize invB p = I at *
  generalize sb p = S at *
  generalize rd p = R at *
  go_enter Tryd.func35, Tryd.ntmps35
  go_wp2_with fail
  refine (unhide C1 a).mono ?_
  rintro e w1 ⟨rfl, rfl⟩
  go_wp2_with fail
  refine (unhide C1 b).mono ?_
  rintro e w1 ⟨rfl, rfl⟩
  go_wp2_with fail
  refine (unhide C2 _).mono ?_
  rintro e w1 ⟨rfl, rfl⟩
  go_wp2_with fail
  refine (unhide C3 _).mono ?_
  rintro e w1 ⟨rfl, rfl⟩
  go_wp2_with fail
  refine (unhide C4 _ _).mono ?_
  rintro e w1 ⟨rfl, rfl⟩
  rw [unhide HE]
  go_wp2
  go_ret
  exact ⟨ret_int rfl, rfl⟩

set_option maxHeartbeats 800000 in
theorem mont_any {w : World} {g p : Nat} (h : MW w g p) (a : Nat) :
    Calls Tryd.prog 34 #[.pointer (some ⟨g, 0, none⟩), .int .u64 (a : Int)] w fun e w' => e = .returned (.int .u64 (ml p a 18446744073709551616 : Int)) ∧ w' = w := by
  have o2 := h.c2
  have C1 := hide (fun x y => montMul_any h x y)
  have e : mm p a (18446744073709551616 * 18446744073709551616 % p) = ml p a 18446744073709551616 := mont_in a h.odd (by have := h.high; omega)
  have HE := hide e
  clear e h
  generalize ml p a 18446744073709551616 = z at *
  generalize 18446744073709551616 * 18446744073709551616 % p = q at *
  generalize mm p = M at *
  go_enter Tryd.func34, Tryd.ntmps34
  go_wp2_with fail
  refine (unhide C1 a q).mono ?_
  rintro e w1 ⟨rfl, rfl⟩
  rw [unhide HE]
  go_wp2
  go_ret
  exact ⟨ret_int rfl, rfl⟩

set_option maxHeartbeats 800000 in
theorem back_any {w : World} {g p : Nat} (h : MW w g p) (a : Nat) :
    Calls Tryd.prog 36 #[.pointer (some ⟨g, 0, none⟩), .int .u64 (a : Int)] w fun e w' => e = .returned (.int .u64 (mm p a 1 : Int)) ∧ w' = w := by
  have C1 : Hid (∀ x : Nat, Calls Tryd.prog 35 #[.pointer (some ⟨g, 0, none⟩), .int .u64 (x : Int), .int .u64 1] w fun e w' => e = .returned (.int .u64 (mm p x 1 : Int)) ∧ w' = w) := fun x => montMul_any h x 1
  clear h
  generalize mm p = M at *
  go_enter Tryd.func36, Tryd.ntmps36
  go_wp2_with fail
  refine (unhide C1 a).mono ?_
  rintro e w1 ⟨rfl, rfl⟩
  go_wp2
  go_ret
  exact ⟨ret_int rfl, rfl⟩

/-- A factor's own quotient. -/
def shp (p w : Nat) : Nat := 18446744073709551616 * rd p w / p
theorem shp_lt {p : Nat} (w : Nat) (hp : 0 < p) : shp p w < 18446744073709551616 := by
  unfold shp
  rw [Nat.div_lt_iff_lt_mul hp]
  exact Nat.mul_lt_mul_of_pos_left (Nat.mod_lt _ hp) (by omega)

set_option maxHeartbeats 1600000 in
theorem pow_mod {w : World} {g p : Nat} (h : MW w g p) (a N : Nat) (hN : N < 18446744073709551616) :
    Calls Tryd.prog 28 #[.pointer (some ⟨g, 0, none⟩), .int .u64 (a : Int), .int .u64 (N : Int)] w fun e w' => e = .returned (.int .u64 (pw p a N : Int)) ∧ w' = w := by
  have CM := hide (mont_any h a)
  have CO : Hid (Calls Tryd.prog 34 #[.pointer (some ⟨g, 0, none⟩), .int .u64 1] w fun e w' => e = .returned (.int .u64 (ml p 1 18446744073709551616 : Int)) ∧ w' = w) := mont_any h 1
  have CX := hide (fun x y => montMul_any h x y)
  have CB := hide (fun x => back_any h x)
  have hp : p < 18446744073709551616 := by have := h.high; omega
  have H0 : Hid (PowAt p a N (ml p 1 18446744073709551616) (ml p a 18446744073709551616) N) := pow_start p a N
  have H1 := hide (fun (o s n : Nat) => pow_odd (a := a) (N := N) (o := o) (s := s) (n := n) h.odd hp)
  have H2 := hide (fun (o s n : Nat) => pow_even (a := a) (N := N) (o := o) (s := s) (n := n) h.odd hp)
  have H3 := hide (fun (o s : Nat) => pow_end (a := a) (N := N) (o := o) (s := s) h.odd hp)
  clear h hp
  generalize ml p 1 18446744073709551616 = o1 at *
  generalize ml p a 18446744073709551616 = s1 at *
  generalize pw p a N = z at *
  generalize PowAt p a N = PA at *
  generalize mm p = M at *
  go_enter Tryd.func28, Tryd.ntmps28
  go_wp2_with fail
  refine (unhide CO).mono ?_
  rintro e w1 ⟨rfl, rfl⟩
  go_wp2_with fail
  refine (unhide CM).mono ?_
  rintro e w1 ⟨rfl, rfl⟩
  go_wp2
  go_loopw [2, 7, 8] (fun nv ov sv wr => ∃ (n o s : Nat), n ≤ N ∧ nv = .int .u64 (n : Int) ∧ ov = .int .u64 (o : Int) ∧ sv = .int .u64 (s : Int) ∧ Hid (PA o s n) ∧ wr = w1) (fun nv _ _ _ => (intOf nv).toNat)
  case atStart => exact ⟨N, o1, s1, Nat.le_refl _, rfl, rfl, rfl, H0, rfl⟩
  case round =>
    obtain ⟨n, o, s, hn, rfl, rfl, rfl, hP, rfl⟩ := hrel
    by_cases h0 : n = 0
    · subst h0
      have e := unhide H3 _ _ hP.out
      have HE := hide e
      clear e hP
      go_wp2_with fail
      refine (unhide CB o).mono ?_
      rintro e w1 ⟨rfl, rfl⟩
      rw [unhide HE]
      go_wp2
      go_ret
      exact ⟨ret_int rfl, rfl⟩
    · obtain ⟨k, hk⟩ : ∃ k, k = n / 2 := ⟨_, rfl⟩
      have hki : IntKind.u64.wrap ((n : Int) / 2) = (k : Int) := by rw [IntKind.wrap_u64]; omega
      have hpos : (0 : Int) < (n : Int) := by omega
      have hkn : Hid (k < n) := by show k < n; omega
      by_cases ho : n % 2 = 1
      · have hm : (n : Int).tmod 2 = 1 := by have := tmod_nat n 2; rw [ho] at this; exact this
        have e := unhide H1 _ _ _ hP.out ho
        rw [← hk] at e
        have HE := hide e
        clear e hP ho hk
        go_wp2_with fail
        refine (unhide CX o s).mono ?_
        rintro e w1 ⟨rfl, rfl⟩
        go_wp2_with fail
        refine (unhide CX s s).mono ?_
        rintro e w1 ⟨rfl, rfl⟩
        go_wp2
        go_roundw
        case rel => exact ⟨k, _, _, by have := unhide hkn; omega, by go_num, rfl, rfl, HE, by first | rfl | trivial⟩
        case measure => simp [intOf]; exact unhide hkn
      · have hm : (n : Int).tmod 2 = 0 := by have := tmod_nat n 2; rw [show n % 2 = 0 by omega] at this; exact this
        have e := unhide H2 _ _ _ hP.out ho
        rw [← hk] at e
        have HE := hide e
        clear e hP ho hk
        go_wp2_with fail
        refine (unhide CX s s).mono ?_
        rintro e w1 ⟨rfl, rfl⟩
        go_wp2
        go_roundw
        case rel => exact ⟨k, _, _, by have := unhide hkn; omega, by go_num, rfl, rfl, HE, by first | rfl | trivial⟩
        case measure => simp [intOf]; exact unhide hkn

end Go.Proofs.YtohgekhjaodehaaDoor
