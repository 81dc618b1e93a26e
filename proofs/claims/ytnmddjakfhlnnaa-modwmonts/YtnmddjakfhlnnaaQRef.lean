/- The document's answers of chapter 6: sums, products, powers, common divisors, inverses of residues, for any modulus above 0. -/
import Derived.Test.YtnmddjakfhlnnaaQPlain
import Derived.Test.YtnmddjakfhlnnaaWord
import Derived.Test.YtnmddjakfhlnnaaOldQ
namespace Go.Proofs.Ytnmddjakfhlnnaa
open Go.RowKit

theorem rtmod_nat (a b : Nat) : (a : Int).tmod (b : Int) = ((a % b : Nat) : Int) := rfl

set_option maxHeartbeats 1600000 in
theorem rMay_yes (p : Nat) (w : World) (ho : p % 2 = 1) (hl : 3 ≤ p) (hh : p < 4611686018427387904) :
    Calls Try.prog 10 #[.int .u64 (p : Int)] w fun e w' => e = .returned (.bool true) ∧ w' = w := by
  have h1 : (3 : Int) ≤ (p : Int) := by omega
  have h2 : (p : Int) < (4611686018427387904 : Int) := by omega
  have h3 : ((p : Int).tmod 2) = 1 := by have := rtmod_nat p 2; rw [ho] at this; exact this
  clear ho hl hh
  go_enter Try.func10, Try.ntmps10
  go_wp2
  go_ret
  exact ⟨rfl, rfl⟩

set_option maxHeartbeats 1600000 in
theorem rMay_no (p : Nat) (w : World) (h : ¬ (p % 2 = 1 ∧ 3 ≤ p ∧ p < 4611686018427387904)) :
    Calls Try.prog 10 #[.int .u64 (p : Int)] w fun e w' => e = .returned (.bool false) ∧ w' = w := by
  by_cases ho : p % 2 = 1
  · have h3 : ((p : Int).tmod 2) = 1 := by have := rtmod_nat p 2; rw [ho] at this; exact this
    by_cases h1 : (3 : Int) ≤ (p : Int)
    · have h2 : decide ((p : Int) < (4611686018427387904 : Int)) = false := by simp; omega
      clear ho h
      go_enter Try.func10, Try.ntmps10
      go_wp2
      go_ret
      exact ⟨rfl, rfl⟩
    · have h1 : decide ((3 : Int) ≤ (p : Int)) = false := by simp; omega
      clear ho h
      go_enter Try.func10, Try.ntmps10
      go_wp2
      go_ret
      exact ⟨rfl, rfl⟩
  · have h3 : ((p : Int).tmod 2) = 0 := by have := rtmod_nat p 2; rw [show p % 2 = 0 by omega] at this; exact this
    clear ho h
    go_enter Try.func10, Try.ntmps10
    go_wp2
    go_ret
    exact ⟨rfl, rfl⟩

set_option maxHeartbeats 1600000 in
theorem rAdd_any (p a b : Nat) (w : World) (h0 : 0 < p) (hp : p < 18446744073709551616) :
    Calls Try.prog 15 #[.int .u64 (a : Int), .int .u64 (b : Int), .int .u64 (p : Int)] w fun e w' => e = .returned (.int .u64 (ad p a b : Int)) ∧ Below w.heap.size w w' := by
  have h1 : a % p < p := Nat.mod_lt _ h0
  have h2 : b % p < p := Nat.mod_lt _ h0
  have e1 : (a : Int).tmod (p : Int) = ((a % p : Nat) : Int) := rtmod_nat a p
  have e2 : (b : Int).tmod (p : Int) = ((b % p : Nat) : Int) := rtmod_nat b p
  have hz : ¬ (p : Int) = 0 := by omega
  have hc : (a % p + b % p < p ∧ ad p a b = a % p + b % p) ∨ (p ≤ a % p + b % p ∧ ad p a b + p = a % p + b % p) := by
    by_cases hs : a % p + b % p < p
    · exact .inl ⟨hs, ad_less hs⟩
    · have : ad p a b = a % p + b % p - p := ad_ge h0 (Nat.le_of_not_lt hs)
      exact .inr ⟨by omega, by omega⟩
  generalize a % p = x at *
  generalize b % p = y at *
  generalize ad p a b = z at *
  obtain ⟨d, hd⟩ : ∃ d, d + y = p := ⟨p - y, by omega⟩
  have f1 : (p : Int) - (y : Int) = (d : Int) := by omega
  have f2 : IntKind.u64.wrap (d : Int) = (d : Int) := by rw [IntKind.wrap_u64]; omega
  have f3 : IntKind.u64.wrap (z : Int) = (z : Int) := by rw [IntKind.wrap_u64]; omega
  rcases hc with ⟨hc, hz⟩ | ⟨hc, hz⟩
  · have h3 : ¬ (d : Int) ≤ (x : Int) := by omega
    have h4 : (x : Int) + (y : Int) = (z : Int) := by omega
    clear hc hz hd
    have inst := old_some w
    go_enter Try.func15, Try.ntmps15
    go_wp2_with fail
    refine region_old (by kernel_rfl) (by kernel_rfl) ?_
    repeat (go_big_quiet_step (fail))
    refine wpQuiet_nil ?_
    intro w5 hw5
    obtain ⟨u, rfl⟩ := hw5
    go_wp2
    go_ret
    exact ⟨ret_int rfl, u.old⟩
  · have h3 : (d : Int) ≤ (x : Int) := by omega
    have h4 : (x : Int) - (d : Int) = (z : Int) := by omega
    clear hc hz hd
    have inst := old_some w
    go_enter Try.func15, Try.ntmps15
    go_wp2_with fail
    refine region_old (by kernel_rfl) (by kernel_rfl) ?_
    repeat (go_big_quiet_step (fail))
    refine wpQuiet_nil ?_
    intro w5 hw5
    obtain ⟨u, rfl⟩ := hw5
    go_wp2
    go_ret
    exact ⟨ret_int rfl, u.old⟩

set_option maxHeartbeats 1600000 in
theorem rSub_any (p a b : Nat) (w : World) (h0 : 0 < p) (hp : p < 18446744073709551616) :
    Calls Try.prog 19 #[.int .u64 (a : Int), .int .u64 (b : Int), .int .u64 (p : Int)] w fun e w' => e = .returned (.int .u64 (sb p a b : Int)) ∧ Below w.heap.size w w' := by
  have h1 : a % p < p := Nat.mod_lt _ h0
  have h2 : b % p < p := Nat.mod_lt _ h0
  have e1 : (a : Int).tmod (p : Int) = ((a % p : Nat) : Int) := rtmod_nat a p
  have e2 : (b : Int).tmod (p : Int) = ((b % p : Nat) : Int) := rtmod_nat b p
  have hz : ¬ (p : Int) = 0 := by omega
  have hc : (a % p < b % p ∧ sb p a b + b % p = a % p + p) ∨ (b % p ≤ a % p ∧ sb p a b + b % p = a % p) := by
    by_cases hs : a % p < b % p
    · have : sb p a b = a % p + p - b % p := sb_less h0 hs
      exact .inl ⟨hs, by omega⟩
    · have : sb p a b = a % p - b % p := sb_ge h0 (Nat.le_of_not_lt hs)
      exact .inr ⟨by omega, by omega⟩
  generalize a % p = x at *
  generalize b % p = y at *
  generalize sb p a b = z at *
  obtain ⟨d, hd⟩ : ∃ d, d + y = p := ⟨p - y, by omega⟩
  have f1 : (p : Int) - (y : Int) = (d : Int) := by omega
  have f2 : IntKind.u64.wrap (d : Int) = (d : Int) := by rw [IntKind.wrap_u64]; omega
  have f3 : IntKind.u64.wrap (z : Int) = (z : Int) := by rw [IntKind.wrap_u64]; omega
  rcases hc with ⟨hc, hz⟩ | ⟨hc, hz⟩
  · have h3 : ¬ (y : Int) ≤ (x : Int) := by omega
    have h4 : (x : Int) + (d : Int) = (z : Int) := by omega
    clear hc hz hd
    have inst := old_some w
    go_enter Try.func19, Try.ntmps19
    go_wp2_with fail
    refine region_old (by kernel_rfl) (by kernel_rfl) ?_
    repeat (go_big_quiet_step (fail))
    refine wpQuiet_nil ?_
    intro w5 hw5
    obtain ⟨u, rfl⟩ := hw5
    go_wp2
    go_ret
    exact ⟨ret_int rfl, u.old⟩
  · have h3 : (y : Int) ≤ (x : Int) := by omega
    have h4 : (x : Int) - (y : Int) = (z : Int) := by omega
    clear hc hz hd
    have inst := old_some w
    go_enter Try.func19, Try.ntmps19
    go_wp2_with fail
    refine region_old (by kernel_rfl) (by kernel_rfl) ?_
    repeat (go_big_quiet_step (fail))
    refine wpQuiet_nil ?_
    intro w5 hw5
    obtain ⟨u, rfl⟩ := hw5
    go_wp2
    go_ret
    exact ⟨ret_int rfl, u.old⟩

set_option maxHeartbeats 1600000 in
theorem rMul_any (p a b : Nat) (w : World) (h0 : 0 < p) (hp : p < 18446744073709551616) :
    Calls Try.prog 22 #[.int .u64 (a : Int), .int .u64 (b : Int), .int .u64 (p : Int)] w fun e w' => e = .returned (.int .u64 (ml p a b : Int)) ∧ Below w.heap.size w w' := by
  have h1 : a % p < p := Nat.mod_lt _ h0
  have h2 : b % p < p := Nat.mod_lt _ h0
  have e1 : (a : Int).tmod (p : Int) = ((a % p : Nat) : Int) := rtmod_nat a p
  have e2 : (b : Int).tmod (p : Int) = ((b % p : Nat) : Int) := rtmod_nat b p
  have hz : ¬ (p : Int) = 0 := by omega
  have hR : ml p a b = a % p * (b % p) % p := (modmul p a b).symm
  generalize a % p = x at *
  generalize b % p = y at *
  have C2 := hide (fun w => mul64_any x y w (by omega) (by omega))
  have hT := Nat.div_add_mod (x * y) 18446744073709551616
  have hhi := mul_hi_lt h1 h2 (by omega)
  have hlo := Nat.mod_lt (x * y) (show 0 < 18446744073709551616 by omega)
  generalize x * y / 18446744073709551616 = hi at *
  generalize x * y % 18446744073709551616 = lo at *
  rw [← hT] at hR
  have C3 := fun w => div64_nat hi lo p w hhi hlo hp
  rw [← hR] at C3
  have C3 := hide C3
  generalize (18446744073709551616 * hi + lo) / p = Q at *
  generalize ml p a b = z at *
  clear hR hT
  have inst := old_some w
  go_enter Try.func22, Try.ntmps22
  go_wp2_with fail
  refine region_old (by kernel_rfl) (by kernel_rfl) ?_
  repeat (go_big_quiet_step ((go_at_call 42; exact Calls.old_same (unhide C2 _))))
  refine wpQuiet_nil ?_
  intro w5 hw5
  obtain ⟨u, rfl⟩ := hw5
  go_wp2_with fail
  refine (unhide C3 _).mono ?_
  rintro e w2 ⟨rfl, b1⟩
  go_wp2
  go_ret
  exact ⟨ret_int rfl, bstep u.old b1⟩

set_option maxHeartbeats 1600000 in
theorem rGcd_any (a b : Nat) (w : World) :
    Calls Try.prog 28 #[.int .u64 (a : Int), .int .u64 (b : Int)] w fun e w' => e = .returned (.int .u64 (Nat.gcd a b : Int)) ∧ Below w.heap.size w w' := by
  obtain ⟨G, hG⟩ : ∃ G, G = Nat.gcd a b := ⟨_, rfl⟩
  rw [← hG]
  have HG := hide hG.symm
  clear hG
  go_enter Try.func28, Try.ntmps28
  go_wp2
  go_loopw [0, 1] (fun xv yv wr => ∃ (x y : Nat), xv = .int .u64 (x : Int) ∧ yv = .int .u64 (y : Int) ∧ Hid (Nat.gcd x y = G) ∧ Below w.heap.size w wr) (fun _ yv _ => (intOf yv).toNat)
  case atStart => exact ⟨a, b, rfl, rfl, HG, Below.refl _ _⟩
  case round =>
    obtain ⟨x, y, rfl, rfl, hg, hb⟩ := hrel
    by_cases h0 : y = 0
    · subst h0
      have e : (x : Int) = (G : Int) := by rw [← hg.out, Nat.gcd_zero_right]
      have HE := hide e
      clear e hg HG
      go_wp2
      go_ret
      exact ⟨ret_int (unhide HE), hb⟩
    · have e1 : (x : Int).tmod (y : Int) = ((x % y : Nat) : Int) := rtmod_nat x y
      have hz : ¬ (y : Int) = 0 := by omega
      have hpos : (0 : Int) < (y : Int) := by omega
      have hlt : Hid (x % y < y) := Nat.mod_lt _ (by omega)
      have HE : Hid (Nat.gcd y (x % y) = G) := by show _ = _; rw [← hg.out, Nat.gcd_comm x y, Nat.gcd_rec y x, Nat.gcd_comm]
      have inst := old_some wr
      clear hg h0
      generalize x % y = r at *
      go_wp2_with fail
      refine region_old (by kernel_rfl) (by kernel_rfl) ?_
      repeat (go_big_quiet_step (fail))
      refine wpQuiet_nil ?_
      intro w5 hw5
      obtain ⟨u, rfl⟩ := hw5
      go_wp2
      go_roundw
      case rel => exact ⟨y, r, rfl, rfl, HE, bstep hb u.old⟩
      case measure => simp [intOf]; exact unhide hlt

theorem b_eq (p : Nat) : ad p (18446744073709551615 % p) 1 = 18446744073709551616 % p := by
  unfold ad
  rw [Nat.mod_add_mod]

set_option maxHeartbeats 800000 in
theorem rB_any (p : Nat) (w : World) (h0 : 0 < p) (hp : p < 18446744073709551616) :
    Calls Try.prog 29 #[.int .u64 (p : Int)] w fun e w' => e = .returned (.int .u64 ((18446744073709551616 % p : Nat) : Int)) ∧ Below w.heap.size w w' := by
  have e1 : (18446744073709551615 : Int).tmod (p : Int) = ((18446744073709551615 % p : Nat) : Int) := rtmod_nat 18446744073709551615 p
  have C : Hid (∀ w, Calls Try.prog 15 #[.int .u64 ((18446744073709551615 % p : Nat) : Int), .int .u64 1, .int .u64 (p : Int)] w fun e w' => e = .returned (.int .u64 ((18446744073709551616 % p : Nat) : Int)) ∧ Below w.heap.size w w') := fun w => by rw [← b_eq]; exact rAdd_any p _ 1 w h0 hp
  have hz : ¬ (p : Int) = 0 := by omega
  generalize 18446744073709551615 % p = x at *
  generalize 18446744073709551616 % p = z at *
  go_enter Try.func29, Try.ntmps29
  go_wp2_with fail
  refine (unhide C _).mono ?_
  rintro e w1 ⟨rfl, b1⟩
  go_wp2
  go_ret
  exact ⟨ret_int rfl, b1⟩

set_option maxHeartbeats 1600000 in
theorem rPow_any (p a n : Nat) (w : World) (h0 : 0 < p) (hp : p < 18446744073709551616) (hn : n < 18446744073709551616) :
    Calls Try.prog 25 #[.int .u64 (a : Int), .int .u64 (n : Int), .int .u64 (p : Int)] w fun e w' => e = .returned (.int .u64 (pw p a n : Int)) ∧ Below w.heap.size w w' := by
  have CM := hide (fun x y w => rMul_any p x y w h0 hp)
  have e1 : (1 : Int).tmod (p : Int) = ((1 % p : Nat) : Int) := rtmod_nat 1 p
  have hz : ¬ (p : Int) = 0 := by omega
  have H0 := hide (pw_top (p := p) (a := a) hn).symm
  have H1 := hide (fun k => pw_one (p := p) (a := a) (n := n) (k := k))
  have H2 := hide (fun k => pw_nought (p := p) (a := a) (n := n) (k := k))
  have H3 := hide (pw_end p a n)
  generalize 1 % p = o0 at *
  generalize ml p = M at *
  generalize pw p a = P at *
  go_enter Try.func25, Try.ntmps25
  go_wp2
  go_loopw [7, 8] (fun ov iv wr => ∃ (k o : Nat), k ≤ 64 ∧ ov = .int .u64 (o : Int) ∧ iv = .int .i64 ((k : Int) - 1) ∧ Hid (o = P (n / 2 ^ k)) ∧ Below w.heap.size w wr) (fun _ iv _ => (intOf iv + 1).toNat)
  case atStart => exact ⟨64, o0, by omega, rfl, rfl, H0, Below.refl _ _⟩
  case round =>
    obtain ⟨k, o, hk, rfl, rfl, ho, hb⟩ := hrel
    by_cases hk0 : k = 0
    · subst hk0
      have e : (o : Int) = (P n : Int) := by rw [ho.out, unhide H3]
      have HE := hide e
      clear e ho H0 H1 H2 H3
      go_wp2
      go_ret
      exact ⟨ret_int (unhide HE), hb⟩
    · obtain ⟨j, rfl⟩ : ∃ j, k = j + 1 := ⟨k - 1, by omega⟩
      have ej : ((j + 1 : Nat) : Int) - 1 = (j : Int) := by omega
      rw [ej]
      have es := shr_eq n j
      have hy : n / 2 ^ j < 18446744073709551616 := Nat.lt_of_le_of_lt (Nat.div_le_self _ _) hn
      have hm := bits_and_u64_nat (n / 2 ^ j) 1 hy (by omega)
      have e1 : n / 2 ^ j &&& 1 = n / 2 ^ j % 2 := Nat.and_one_is_mod _
      rw [e1] at hm
      clear e1
      obtain ⟨y, hyy⟩ : ∃ y, y = n / 2 ^ j := ⟨_, rfl⟩
      by_cases h1 : n / 2 ^ j % 2 = 1
      · have e := unhide H1 j h1
        rw [← ho.out] at e
        have HE := hide e
        rw [h1] at hm
        rw [← hyy] at hm es hy
        have hm1 : bits .and .u64 (y : Int) 1 = 1 := hm
        clear e h1 ho H0 H1 H2 H3 hm hyy
        go_wp2_with fail
        refine (unhide CM o o _).mono ?_
        rintro e w6 ⟨rfl, b2⟩
        have hb := bstep hb b2
        clear b2
        go_wp2_with fail
        refine (unhide CM _ a _).mono ?_
        rintro e w7 ⟨rfl, b2⟩
        have hb := bstep hb b2
        clear b2
        go_wp2
        go_roundw
        case rel => exact ⟨j, _, by omega, rfl, by go_num, HE, hb⟩
        case measure => simp [intOf]
      · have h1 : n / 2 ^ j % 2 = 0 := by omega
        have e := unhide H2 j h1
        rw [← ho.out] at e
        have HE := hide e
        rw [h1] at hm
        rw [← hyy] at hm es hy
        have hm1 : bits .and .u64 (y : Int) 1 = 0 := hm
        clear e h1 ho H0 H1 H2 H3 hm hyy
        go_wp2_with fail
        refine (unhide CM o o _).mono ?_
        rintro e w6 ⟨rfl, b2⟩
        have hb := bstep hb b2
        clear b2
        go_wp2
        go_roundw
        case rel => exact ⟨j, _, by omega, rfl, by go_num, HE, hb⟩
        case measure => simp [intOf]

/-- The inverse that there is. -/
theorem inv_gcd {p a x : Nat} (h : ml p a x = 1) : Nat.gcd (a % p) p = 1 := by
  have h1 := Nat.gcd_dvd_left (a % p) p
  have h2 := Nat.gcd_dvd_right (a % p) p
  generalize Nat.gcd (a % p) p = d at *
  have h3 : d ∣ a * x % p := by
    have : a * x % p = (a % p) * x % p := by rw [Nat.mod_mul_mod]
    rw [this]
    exact (Nat.dvd_mod_iff h2).2 (Nat.dvd_trans h1 (Nat.dvd_mul_right _ _))
  rw [show a * x % p = 1 from h] at h3
  exact Nat.dvd_one.1 h3

set_option maxHeartbeats 1600000 in
theorem rInv_any (p a x : Nat) (w : World) (h3 : 3 ≤ p) (hp : p < 18446744073709551616) (hx : x < p) (hi : ml p a x = 1) :
    Calls Try.prog 30 #[.int .u64 (a : Int), .int .u64 (p : Int)] w fun e w' => e = .returned (.tuple #[.int .u64 (x : Int), .bool true]) ∧ Below w.heap.size w w' := by
  have e1 : (a : Int).tmod (p : Int) = (rd p a : Int) := rtmod_nat a p
  have hz : ¬ (p : Int) = 0 := by omega
  have CG : Hid (∀ w, Calls Try.prog 28 #[.int .u64 (rd p a : Int), .int .u64 (p : Int)] w fun e w' => e = .returned (.int .u64 1) ∧ Below w.heap.size w w') := fun w => by
    have := rGcd_any (rd p a) p w
    rw [show Nat.gcd (rd p a) p = 1 from inv_gcd hi] at this
    exact this
  have CM := hide (fun x y w => rMul_any p x y w (by omega) hp)
  have CS := hide (fun x y w => rSub_any p x y w (by omega) hp)
  have H0 := hide (eu_start a h3)
  have H1 := hide (fun up lo ut t => eu_step (a := a) (up := up) (lo := lo) (ut := ut) (t := t) (show 0 < p by omega))
  have hgcd : Nat.gcd a p = 1 := (Nat.gcd_comm a p).trans ((Nat.gcd_rec p a).trans (inv_gcd hi))
  have H2 : Hid (∀ up ut t, EuAt p a up 0 ut t → up = 1 ∧ ut = x) := fun up ut t H => by
    obtain ⟨k1, k2⟩ := eu_end h3 H
    have k3 : up = 1 := k1.trans hgcd
    exact ⟨k3, inv_one (k2 k3).1 hx (k2 k3).2 hi⟩
  have ex : (x : Int).tmod (p : Int) = (x : Int) := by rw [rtmod_nat, Nat.mod_eq_of_lt hx]
  have hr : rd p a < p := Nat.mod_lt _ (by omega)
  clear hgcd hi
  generalize rd p a = r at *
  generalize sb p = S at *
  generalize ml p = M at *
  generalize EuAt p a = E at *
  go_enter Try.func30, Try.ntmps30
  go_wp2_with fail
  refine (unhide CG _).mono ?_
  rintro e w1 ⟨rfl, b1⟩
  go_wp2
  go_loopw [6, 7, 8, 9] (fun uv lv utv tv wr => ∃ (up lo ut t : Nat), up ≤ p ∧ lo < p ∧ uv = .int .u64 (up : Int) ∧ lv = .int .u64 (lo : Int) ∧ utv = .int .u64 (ut : Int) ∧ tv = .int .u64 (t : Int) ∧ Hid (E up lo ut t) ∧ Below w.heap.size w wr) (fun _ lv _ _ _ => (intOf lv).toNat)
  case atStart => exact ⟨p, r, 0, 1, by omega, hr, rfl, rfl, rfl, rfl, H0, b1⟩
  case round =>
    clear b1 CG
    obtain ⟨up, lo, ut, t, hup, hlo, rfl, rfl, rfl, rfl, hE, hb⟩ := hrel
    by_cases h0 : lo = 0
    · subst h0
      obtain ⟨rfl, rfl⟩ := unhide H2 _ _ _ hE.out
      clear hE H0 H1 H2
      go_wp2
      go_ret2
      exact ⟨rfl, hb⟩
    · obtain ⟨q, hq⟩ : ∃ q, q = up / lo := ⟨_, rfl⟩
      obtain ⟨T, hT⟩ : ∃ T, T = q * lo := ⟨_, rfl⟩
      obtain ⟨l2, hl2⟩ : ∃ l2, l2 = up % lo := ⟨_, rfl⟩
      have e := unhide H1 _ _ _ _ hE.out
      rw [← hq, ← hl2] at e
      have HE := hide e
      have hdm := Nat.div_add_mod up lo
      rw [← hq, ← hl2, Nat.mul_comm, ← hT] at hdm
      have hlt : l2 < lo := by rw [hl2]; exact Nat.mod_lt _ (by omega)
      have hqu : q ≤ up := by rw [hq]; exact Nat.div_le_self _ _
      have f1 : (up : Int).tdiv (lo : Int) = (q : Int) := by rw [hq]; rfl
      have f2 : (up : Int) / (lo : Int) = (q : Int) := by rw [hq]; rfl
      have f3 : IntKind.u64.wrap (q : Int) = (q : Int) := by rw [IntKind.wrap_u64]; omega
      have f4 : (q : Int) * (lo : Int) = (T : Int) := by rw [hT]; exact (Int.natCast_mul q lo).symm
      have f5 : IntKind.u64.wrap (T : Int) = (T : Int) := by rw [IntKind.wrap_u64]; omega
      have f6 : (up : Int) - (T : Int) = (l2 : Int) := by omega
      have f7 : IntKind.u64.wrap (l2 : Int) = (l2 : Int) := by rw [IntKind.wrap_u64]; omega
      have hpos : (0 : Int) < (lo : Int) := by omega
      have hnz : ¬ (lo : Int) = 0 := by omega
      clear hq hT hl2 hE e hdm h0
      go_wp2_with fail
      refine (unhide CM _ _ _).mono ?_
      rintro e w6 ⟨rfl, b2⟩
      have hb := bstep hb b2
      clear b2
      go_wp2_with fail
      refine (unhide CS _ _ _).mono ?_
      rintro e w7 ⟨rfl, b2⟩
      have hb := bstep hb b2
      clear b2
      go_wp2
      go_roundw
      case rel => exact ⟨lo, l2, t, _, by omega, by omega, rfl, by go_num, rfl, rfl, HE, hb⟩
      case measure => simp [intOf]; omega

end Go.Proofs.Ytnmddjakfhlnnaa
