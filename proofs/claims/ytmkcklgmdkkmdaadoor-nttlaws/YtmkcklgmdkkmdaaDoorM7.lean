/- The document's answers of chapter 6: sums, products, powers, common divisors, inverses of residues, for any modulus above 0. -/
import Derived.Test.YtmkcklgmdkkmdaaDoorM1
import Derived.Test.YtmkcklgmdkkmdaaDoorCWord
import Derived.Test.YtmkcklgmdkkmdaaDoorCOldQ
namespace Go.Proofs.YtmkcklgmdkkmdaaDoor
open Go.RowKit

theorem rtmod_nat (a b : Nat) : (a : Int).tmod (b : Int) = ((a % b : Nat) : Int) := rfl

set_option maxHeartbeats 1600000 in
theorem rMay_yes (p : Nat) (w : World) (ho : p % 2 = 1) (hl : 3 ≤ p) (hh : p < 4611686018427387904) :
    Calls Tryd.prog 35 #[.int .u64 (p : Int)] w fun e w' => e = .returned (.bool true) ∧ w' = w := by
  have h1 : (3 : Int) ≤ (p : Int) := by omega
  have h2 : (p : Int) < (4611686018427387904 : Int) := by omega
  have h3 : ((p : Int).tmod 2) = 1 := by have := rtmod_nat p 2; rw [ho] at this; exact this
  clear ho hl hh
  go_enter Tryd.func35, Tryd.ntmps35
  go_wp2
  go_ret
  exact ⟨rfl, rfl⟩

set_option maxHeartbeats 1600000 in
theorem rMay_no (p : Nat) (w : World) (h : ¬ (p % 2 = 1 ∧ 3 ≤ p ∧ p < 4611686018427387904)) :
    Calls Tryd.prog 35 #[.int .u64 (p : Int)] w fun e w' => e = .returned (.bool false) ∧ w' = w := by
  by_cases ho : p % 2 = 1
  · have h3 : ((p : Int).tmod 2) = 1 := by have := rtmod_nat p 2; rw [ho] at this; exact this
    by_cases h1 : (3 : Int) ≤ (p : Int)
    · have h2 : decide ((p : Int) < (4611686018427387904 : Int)) = false := by simp; omega
      clear ho h
      go_enter Tryd.func35, Tryd.ntmps35
      go_wp2
      go_ret
      exact ⟨rfl, rfl⟩
    · have h1 : decide ((3 : Int) ≤ (p : Int)) = false := by simp; omega
      clear ho h
      go_enter Tryd.func35, Tryd.ntmps35
      go_wp2
      go_ret
      exact ⟨rfl, rfl⟩
  · have h3 : ((p : Int).tmod 2) = 0 := by have := rtmod_nat p 2; rw [show p % 2 = 0 by omega] at this; exact this
    clear ho h
    go_enter Tryd.func35, Tryd.ntmps35
    go_wp2
    go_ret
    exact ⟨rfl, rfl⟩

set_option maxHeartbeats 1600000 in
theorem rAdd_any (p a b : Nat) (w : World) (h0 : 0 < p) (hp : p < 18446744073709551616) :
    Calls Tryd.prog 30 #[.int .u64 (a : Int), .int .u64 (b : Int), .int .u64 (p : Int)] w fun e w' => e = .returned (.int .u64 (ad p a b : Int)) ∧ Below w.heap.size w w' := by
  have h1 : a % p < p := Nat.mod_lt _ h0
  have h2 : b % p < p := Nat.mod_lt _ h0
  have e1 : (a : Int).tmod (p : Int) = ((a % p : Nat) : Int) := rtmod_nat a p
  have e2 : (b : Int).tmod (p : Int) = ((b % p : Nat) : Int) := rtmod_nat b p
  have hz : ¬ (p : Int) = 0 := by omega
  have hc : (a % p + b % p < p ∧ ad p a b = a % p + b % p) ∨ (p ≤ a % p + b % p ∧ ad p a b + p = a % p + b % p) := by
    by_cases hs : a % p + b % p < p
    · exact .inl ⟨hs, ad_less hs⟩
    · have : ad p a b = a % p + b % p - p := ad_ge h0 (Nat.le_of_not_lt hs)
      exact .inr ⟨by omega, by omega⟩
  generalize a % p = x at *
  generalize b % p = y at *
  generalize ad p a b = z at *
  obtain ⟨d, hd⟩ : ∃ d, d + y = p := ⟨p - y, by omega⟩
  have f1 : (p : Int) - (y : Int) = (d : Int) := by omega
  have f2 : IntKind.u64.wrap (d : Int) = (d : Int) := by rw [IntKind.wrap_u64]; omega
  have f3 : IntKind.u64.wrap (z : Int) = (z : Int) := by rw [IntKind.wrap_u64]; omega
  rcases hc with ⟨hc, hz⟩ | ⟨hc, hz⟩
  · have h3 : ¬ (d : Int) ≤ (x : Int) := by omega
    have h4 : (x : Int) + (y : Int) = (z : Int) := by omega
    clear hc hz hd
    have inst := old_some w
    go_enter Tryd.func30, Tryd.ntmps30
    go_wp2_with fail
    refine region_old (by kernel_rfl) (by kernel_rfl) ?_
    repeat (go_big_quiet_step (fail))
    refine wpQuiet_nil ?_
    intro w5 hw5
    obtain ⟨u, rfl⟩ := hw5
    go_wp2
    go_ret
    exact ⟨ret_int rfl, u.old⟩
  · have h3 : (d : Int) ≤ (x : Int) := by omega
    have h4 : (x : Int) - (d : Int) = (z : Int) := by omega
    clear hc hz hd
    have inst := old_some w
    go_enter Tryd.func30, Tryd.ntmps30
    go_wp2_with fail
    refine region_old (by kernel_rfl) (by kernel_rfl) ?_
    repeat (go_big_quiet_step (fail))
    refine wpQuiet_nil ?_
    intro w5 hw5
    obtain ⟨u, rfl⟩ := hw5
    go_wp2
    go_ret
    exact ⟨ret_int rfl, u.old⟩

set_option maxHeartbeats 1600000 in
theorem rMul_any (p a b : Nat) (w : World) (h0 : 0 < p) (hp : p < 18446744073709551616) :
    Calls Tryd.prog 42 #[.int .u64 (a : Int), .int .u64 (b : Int), .int .u64 (p : Int)] w fun e w' => e = .returned (.int .u64 (ml p a b : Int)) ∧ Below w.heap.size w w' := by
  have h1 : a % p < p := Nat.mod_lt _ h0
  have h2 : b % p < p := Nat.mod_lt _ h0
  have e1 : (a : Int).tmod (p : Int) = ((a % p : Nat) : Int) := rtmod_nat a p
  have e2 : (b : Int).tmod (p : Int) = ((b % p : Nat) : Int) := rtmod_nat b p
  have hz : ¬ (p : Int) = 0 := by omega
  have hR : ml p a b = a % p * (b % p) % p := (modmul p a b).symm
  generalize a % p = x at *
  generalize b % p = y at *
  have C2 := hide (fun w => mul64_any x y w (by omega) (by omega))
  have hT := Nat.div_add_mod (x * y) 18446744073709551616
  have hhi := mul_hi_lt h1 h2 (by omega)
  have hlo := Nat.mod_lt (x * y) (show 0 < 18446744073709551616 by omega)
  generalize x * y / 18446744073709551616 = hi at *
  generalize x * y % 18446744073709551616 = lo at *
  rw [← hT] at hR
  have C3 := fun w => div64_nat hi lo p w hhi hlo hp
  rw [← hR] at C3
  have C3 := hide C3
  generalize (18446744073709551616 * hi + lo) / p = Q at *
  generalize ml p a b = z at *
  clear hR hT
  have inst := old_some w
  go_enter Tryd.func42, Tryd.ntmps42
  go_wp2_with fail
  refine region_old (by kernel_rfl) (by kernel_rfl) ?_
  repeat (go_big_quiet_step ((go_at_call 60; exact Calls.old_same (unhide C2 _))))
  refine wpQuiet_nil ?_
  intro w5 hw5
  obtain ⟨u, rfl⟩ := hw5
  go_wp2_with fail
  refine (unhide C3 _).mono ?_
  rintro e w2 ⟨rfl, b1⟩
  go_wp2
  go_ret
  exact ⟨ret_int rfl, bstep u.old b1⟩

theorem b_eq (p : Nat) : ad p (18446744073709551615 % p) 1 = 18446744073709551616 % p := by
  unfold ad
  rw [Nat.mod_add_mod]

set_option maxHeartbeats 1600000 in
theorem rPow_any (p a n : Nat) (w : World) (h0 : 0 < p) (hp : p < 18446744073709551616) (hn : n < 18446744073709551616) :
    Calls Tryd.prog 37 #[.int .u64 (a : Int), .int .u64 (n : Int), .int .u64 (p : Int)] w fun e w' => e = .returned (.int .u64 (pw p a n : Int)) ∧ Below w.heap.size w w' := by
  have CM := hide (fun x y w => rMul_any p x y w h0 hp)
  have e1 : (1 : Int).tmod (p : Int) = ((1 % p : Nat) : Int) := rtmod_nat 1 p
  have hz : ¬ (p : Int) = 0 := by omega
  have H0 := hide (pw_top (p := p) (a := a) hn).symm
  have H1 := hide (fun k => pw_one (p := p) (a := a) (n := n) (k := k))
  have H2 := hide (fun k => pw_nought (p := p) (a := a) (n := n) (k := k))
  have H3 := hide (pw_end p a n)
  generalize 1 % p = o0 at *
  generalize ml p = M at *
  generalize pw p a = P at *
  go_enter Tryd.func37, Tryd.ntmps37
  go_wp2
  go_loopw [7, 8] (fun ov iv wr => ∃ (k o : Nat), k ≤ 64 ∧ ov = .int .u64 (o : Int) ∧ iv = .int .i64 ((k : Int) - 1) ∧ Hid (o = P (n / 2 ^ k)) ∧ Below w.heap.size w wr) (fun _ iv _ => (intOf iv + 1).toNat)
  case atStart => exact ⟨64, o0, by omega, rfl, rfl, H0, Below.refl _ _⟩
  case round =>
    obtain ⟨k, o, hk, rfl, rfl, ho, hb⟩ := hrel
    by_cases hk0 : k = 0
    · subst hk0
      have e : (o : Int) = (P n : Int) := by rw [ho.out, unhide H3]
      have HE := hide e
      clear e ho H0 H1 H2 H3
      go_wp2
      go_ret
      exact ⟨ret_int (unhide HE), hb⟩
    · obtain ⟨j, rfl⟩ : ∃ j, k = j + 1 := ⟨k - 1, by omega⟩
      have ej : ((j + 1 : Nat) : Int) - 1 = (j : Int) := by omega
      rw [ej]
      have es := shr_eq n j
      have hy : n / 2 ^ j < 18446744073709551616 := Nat.lt_of_le_of_lt (Nat.div_le_self _ _) hn
      have hm := bits_and_u64_nat (n / 2 ^ j) 1 hy (by omega)
      have e1 : n / 2 ^ j &&& 1 = n / 2 ^ j % 2 := Nat.and_one_is_mod _
      rw [e1] at hm
      clear e1
      obtain ⟨y, hyy⟩ : ∃ y, y = n / 2 ^ j := ⟨_, rfl⟩
      by_cases h1 : n / 2 ^ j % 2 = 1
      · have e := unhide H1 j h1
        rw [← ho.out] at e
        have HE := hide e
        rw [h1] at hm
        rw [← hyy] at hm es hy
        have hm1 : bits .and .u64 (y : Int) 1 = 1 := hm
        clear e h1 ho H0 H1 H2 H3 hm hyy
        go_wp2_with fail
        refine (unhide CM o o _).mono ?_
        rintro e w6 ⟨rfl, b2⟩
        have hb := bstep hb b2
        clear b2
        go_wp2_with fail
        refine (unhide CM _ a _).mono ?_
        rintro e w7 ⟨rfl, b2⟩
        have hb := bstep hb b2
        clear b2
        go_wp2
        go_roundw
        case rel => exact ⟨j, _, by omega, rfl, by go_num, HE, hb⟩
        case measure => simp [intOf]
      · have h1 : n / 2 ^ j % 2 = 0 := by omega
        have e := unhide H2 j h1
        rw [← ho.out] at e
        have HE := hide e
        rw [h1] at hm
        rw [← hyy] at hm es hy
        have hm1 : bits .and .u64 (y : Int) 1 = 0 := hm
        clear e h1 ho H0 H1 H2 H3 hm hyy
        go_wp2_with fail
        refine (unhide CM o o _).mono ?_
        rintro e w6 ⟨rfl, b2⟩
        have hb := bstep hb b2
        clear b2
        go_wp2
        go_roundw
        case rel => exact ⟨j, _, by omega, rfl, by go_num, HE, hb⟩
        case measure => simp [intOf]

/-- The inverse that there is. -/
theorem inv_gcd {p a x : Nat} (h : ml p a x = 1) : Nat.gcd (a % p) p = 1 := by
  have h1 := Nat.gcd_dvd_left (a % p) p
  have h2 := Nat.gcd_dvd_right (a % p) p
  generalize Nat.gcd (a % p) p = d at *
  have h3 : d ∣ a * x % p := by
    have : a * x % p = (a % p) * x % p := by rw [Nat.mod_mul_mod]
    rw [this]
    exact (Nat.dvd_mod_iff h2).2 (Nat.dvd_trans h1 (Nat.dvd_mul_right _ _))
  rw [show a * x % p = 1 from h] at h3
  exact Nat.dvd_one.1 h3

end Go.Proofs.YtmkcklgmdkkmdaaDoor

/- Package word: Div. -/
namespace Go.Proofs.YtmkcklgmdkkmdaaDoor
open Go.RowKit

set_option maxHeartbeats 800000 in
theorem word_div_no (hi lo d : Nat) (w : World) (h : d ≤ hi) :
    Calls Tryd.prog 50 #[.int .u64 (hi : Int), .int .u64 (lo : Int), .int .u64 (d : Int)] w fun e w' => e = .returned (.tuple #[.int .u64 0, .int .u64 0, .bool false]) ∧ w' = w := by
  have h' : (d : Int) ≤ (hi : Int) := by omega
  go_enter Tryd.func50, Tryd.ntmps50
  go_wp2
  go_ret3
  exact ⟨ret_three rfl rfl rfl, rfl⟩

set_option maxHeartbeats 800000 in
theorem word_div (hi lo d Q R : Nat) (w : World) (h : hi < d) (hl : lo < 18446744073709551616) (hd : d < 18446744073709551616) (hQ : Q = (18446744073709551616 * hi + lo) / d) (hR : R = (18446744073709551616 * hi + lo) % d) :
    Calls Tryd.prog 50 #[.int .u64 (hi : Int), .int .u64 (lo : Int), .int .u64 (d : Int)] w fun e w' => e = .returned (.tuple #[.int .u64 (Q : Int), .int .u64 (R : Int), .bool true]) ∧ Below w.heap.size w w' := by
  have h' : ¬ (d : Int) ≤ (hi : Int) := by omega
  have hc := fun w => div64_nat hi lo d w h hl hd
  rw [← hQ, ← hR] at hc
  have HC := hide hc
  clear hc hQ hR
  go_enter Tryd.func50, Tryd.ntmps50
  go_wp2_with fail
  refine (unhide HC _).mono ?_
  rintro e w1 ⟨rfl, b1⟩
  go_wp2
  go_ret3
  exact ⟨ret_three rfl rfl rfl, b1⟩

end Go.Proofs.YtmkcklgmdkkmdaaDoor
