/- Package prime: Miller's test by one base; the reference's too. -/
import Derived.Test.YtohgekhjaodehaaDoorPTimes
import Derived.Test.YtohgekhjaodehaaDoorQRef
namespace Go.Proofs.YtohgekhjaodehaaDoor
open Go.RowKit

theorem sp_hit {n k x : Nat} (h : x = n - 1) : sp n (k + 1) x = true := by unfold sp; rw [decide_eq_true h]; rfl
theorem sp_step {n k x : Nat} (h : ¬ x = n - 1) : sp n (k + 1) x = sp n k (ml n x x) := by rw [sp, decide_eq_false h]; rfl
theorem sp_nought (n x : Nat) : sp n 0 x = false := rfl
theorem ret_bool {a b : Bool} (h : a = b) : Ending.returned (.bool a) = .returned (.bool b) := by rw [h]

set_option maxHeartbeats 1600000 in
theorem passes_any (n b : Nat) (w : World) (h1 : 1 < n) (hb : b < n) (hn : n < 18446744073709551616) (hT : TB w) :
    Calls Tryd.prog 20 #[.int .u64 (n : Int), .int .u64 (b : Int)] w fun e w' => e = .returned (.bool (pass n b)) ∧ Below w.heap.size w w' := by
  obtain ⟨ht, _, hd⟩ := twos_of h1 hn
  have CT := tz_any (n - 1) w (by omega) (by omega) hT
  have CM : Hid (∀ x w, x < n → Calls Tryd.prog 27 #[.int .u64 ((x : Nat) : Int), .int .u64 ((x : Nat) : Int), .int .u64 (n : Int)] w fun e w' => e = .returned (.int .u64 (ml n x x : Int)) ∧ Below w.heap.size w w') := fun x w hx => times_any n x x w hx hx hn
  have hod : (n - 1) / 2 ^ tw n = od n := rfl
  have htw : Lib.ctz 64 (n - 1) = tw n := rfl
  rw [htw] at CT
  have hodl : od n < 18446744073709551616 := by rw [← hod]; exact Nat.lt_of_le_of_lt (Nat.div_le_self _ _) (by omega)
  have CP := hide (fun w => power_any n b (od n) w h1 hb hn hodl)
  have es := shr_eq (n - 1) (tw n)
  rw [hod] at es
  have hx0 : pw n b (od n) < n := Nat.mod_lt _ (by omega)
  have hA : pass n b = (decide (pw n b (od n) = 1) || sp n (tw n) (pw n b (od n))) := rfl
  generalize pw n b (od n) = x0 at *
  have hP1 : x0 = 1 → pass n b = true := fun h => by rw [hA, decide_eq_true h]; rfl
  have hP2 : ¬ x0 = 1 → pass n b = sp n (tw n) x0 := fun h => by rw [hA, decide_eq_false h]; rfl
  have H1 := hide (fun k x => sp_hit (n := n) (k := k) (x := x))
  have H2 := hide (fun k x => sp_step (n := n) (k := k) (x := x))
  have H3 := hide (sp_nought n)
  have HM : Hid (∀ x, ml n x x < n) := fun x => Nat.mod_lt _ (by omega)
  clear hA hod htw hd hT
  generalize pass n b = Z at *
  generalize od n = d at *
  generalize tw n = t at *
  generalize sp n = S at *
  generalize ml n = M at *
  obtain ⟨N, hN⟩ : ∃ N, N = n - 1 := ⟨_, rfl⟩
  rw [← hN] at es CT H1 H2
  have eN : (n : Int) - 1 = (N : Int) := by omega
  have eNw : IntKind.u64.wrap (N : Int) = (N : Int) := by rw [IntKind.wrap_u64]; omega
  have CT := hide CT
  clear hN
  by_cases hx1 : x0 = 1
  · have HZ := hide (hP1 hx1)
    subst hx1
    clear hP1 hP2 H1 H2 H3
    go_enter Tryd.func20, Tryd.ntmps20
    go_wp2_with fail
    refine (unhide CT).mono ?_
    rintro e w1 ⟨rfl, rfl⟩
    go_wp2_with fail
    refine (unhide CP _).mono ?_
    rintro e w2 ⟨rfl, b1⟩
    go_wp2
    go_ret
    exact ⟨ret_bool (unhide HZ).symm, b1⟩
  · have HZ := hide (hP2 hx1)
    have hne : ((x0 : Int) == 1) = false := by rw [beq_eq_false_iff_ne]; omega
    clear hP1 hP2 hx1
    go_enter Tryd.func20, Tryd.ntmps20
    go_wp2_with fail
    refine (unhide CT).mono ?_
    rintro e w1 ⟨rfl, rfl⟩
    go_wp2_with fail
    refine (unhide CP _).mono ?_
    rintro e w2 ⟨rfl, b1⟩
    clear CT CP es
    go_wp2
    go_loopw [6, 20] (fun xv iv wr => ∃ (x i : Nat), i ≤ t ∧ x < n ∧ xv = .int .u64 (x : Int) ∧ iv = .int .i64 (i : Int) ∧ Hid (Z = S (t - i) x) ∧ Below w1.heap.size w1 wr) (fun _ iv _ => t - (intOf iv).toNat)
    case atStart => exact ⟨x0, 0, by omega, hx0, rfl, rfl, HZ, b1⟩
    case round =>
      clear b1 HZ hx0 hne
      obtain ⟨x, i, hi, hx, rfl, rfl, hz, hb⟩ := hrel
      by_cases h0 : i = t
      · subst h0
        have hz2 := hz.out
        rw [Nat.sub_self, unhide H3] at hz2
        have HZ := hide hz2
        clear hz hz2 H1 H2 H3 CM
        go_wp2
        go_ret
        exact ⟨ret_bool (unhide HZ).symm, hb⟩
      · have hlt : (i : Int) < (t : Int) := by omega
        obtain ⟨k, hk⟩ : ∃ k, t - i = k + 1 := ⟨t - i - 1, by omega⟩
        have hk2 : t - (i + 1) = k := by omega
        rw [hk] at hz
        by_cases hxn : x = N
        · have hz2 := hz.out
          rw [unhide H1 k x hxn] at hz2
          have HZ := hide hz2
          have hxi : (x : Int) = (N : Int) := by omega
          clear hz hz2 H1 H2 H3 CM hk hk2 hxn
          go_wp2
          go_ret
          exact ⟨ret_bool (unhide HZ).symm, hb⟩
        · have hz2 := hz.out
          rw [unhide H2 k x hxn, ← hk2] at hz2
          have HZ := hide hz2
          have hxi : ¬ (x : Int) = (N : Int) := by omega
          have C1 := hide (unhide CM x · hx)
          have hm := unhide HM x
          have hmm : Hid (t - (i + 1) < t - i) := by show _ < _; omega
          clear hz hz2 H1 H2 H3 CM HM hk hk2 hxn
          go_wp2_with fail
          refine (unhide C1 _).mono ?_
          rintro e w6 ⟨rfl, b2⟩
          have hb := bstep hb b2
          clear b2
          go_wp2
          go_roundw
          case rel => exact ⟨_, i + 1, by omega, hm, rfl, by go_num, HZ, hb⟩
          case measure => simp [intOf]; have := unhide hmm; omega

set_option maxHeartbeats 1600000 in
theorem rWitness_any (n b : Nat) (w : World) (h1 : 1 < n) (ho : n % 2 = 1) (hn : n < 18446744073709551616) :
    Calls Tryd.prog 22 #[.int .u64 (b : Int), .int .u64 (od n : Int), .int .i64 (tw n : Int), .int .u64 (n : Int)] w fun e w' => e = .returned (.bool (pass n b)) ∧ Below w.heap.size w w' := by
  obtain ⟨ht, _, hd⟩ := twos_of h1 hn
  have ht1 := twos_one h1 hn ho
  have CM := hide (fun x w => rMul_any n x x w (by omega) hn)
  have hod : (n - 1) / 2 ^ tw n = od n := rfl
  have hodl : od n < 18446744073709551616 := by rw [← hod]; exact Nat.lt_of_le_of_lt (Nat.div_le_self _ _) (by omega)
  have CP := hide (fun w => rPow_any n b (od n) w (by omega) hn hodl)
  have hx0 : pw n b (od n) < n := Nat.mod_lt _ (by omega)
  have hA : pass n b = (decide (pw n b (od n) = 1) || sp n (tw n) (pw n b (od n))) := rfl
  generalize pw n b (od n) = x0 at *
  have hP1 : x0 = 1 → pass n b = true := fun h => by rw [hA, decide_eq_true h]; rfl
  have hP2 : ¬ x0 = 1 → pass n b = sp n (tw n) x0 := fun h => by rw [hA, decide_eq_false h]; rfl
  have H1 := hide (fun k x => sp_hit (n := n) (k := k) (x := x))
  have H2 := hide (fun k x => sp_step (n := n) (k := k) (x := x))
  have H3 := hide (sp_nought n)
  have HM : Hid (∀ x, ml n x x < n) := fun x => Nat.mod_lt _ (by omega)
  clear hA hod hd
  generalize pass n b = Z at *
  generalize od n = d at *
  generalize tw n = t at *
  generalize sp n = S at *
  generalize ml n = M at *
  obtain ⟨N, hN⟩ : ∃ N, N = n - 1 := ⟨_, rfl⟩
  rw [← hN] at H1 H2
  have eN : (n : Int) - 1 = (N : Int) := by omega
  have eNw : IntKind.u64.wrap (N : Int) = (N : Int) := by rw [IntKind.wrap_u64]; omega
  clear hN
  obtain ⟨t', rfl⟩ : ∃ t', t = t' + 1 := ⟨t - 1, by omega⟩
  by_cases hx1 : x0 = 1
  · have HZ := hide (hP1 hx1)
    subst hx1
    clear hP1 hP2 H1 H2 H3
    go_enter Tryd.func22, Tryd.ntmps22
    go_wp2_with fail
    refine (unhide CP _).mono ?_
    rintro e w2 ⟨rfl, b1⟩
    go_wp2
    go_ret
    exact ⟨ret_bool (unhide HZ).symm, b1⟩
  · have hz := hP2 hx1
    have hne : ((x0 : Int) == 1) = false := by rw [beq_eq_false_iff_ne]; omega
    clear hP1 hP2 hx1
    by_cases hxn : x0 = N
    · rw [unhide H1 t' x0 hxn] at hz
      have HZ := hide hz
      have hxi : (x0 : Int) = (N : Int) := by omega
      clear hz H1 H2 H3 CM hxn
      go_enter Tryd.func22, Tryd.ntmps22
      go_wp2_with fail
      refine (unhide CP _).mono ?_
      rintro e w2 ⟨rfl, b1⟩
      go_wp2
      go_ret
      exact ⟨ret_bool (unhide HZ).symm, b1⟩
    · rw [unhide H2 t' x0 hxn] at hz
      have HZ := hide hz
      have hxi : ((x0 : Int) == (N : Int)) = false := by rw [beq_eq_false_iff_ne]; omega
      clear hz hxn
      go_enter Tryd.func22, Tryd.ntmps22
      go_wp2_with fail
      refine (unhide CP _).mono ?_
      rintro e w2 ⟨rfl, b1⟩
      clear CP
      go_wp2
      go_loopw [9, 10] (fun xv iv wr => ∃ (x i : Nat), 1 ≤ i ∧ i ≤ t' + 1 ∧ x < n ∧ xv = .int .u64 (x : Int) ∧ iv = .int .i64 (i : Int) ∧ Hid (Z = S (t' + 1 - i) (M x x)) ∧ Below w.heap.size w wr) (fun _ iv _ => t' + 1 - (intOf iv).toNat)
      case atStart => exact ⟨x0, 1, by omega, by omega, hx0, rfl, rfl, HZ, b1⟩
      case round =>
        clear b1 HZ hx0 hne hxi
        obtain ⟨x, i, hi1, hi, hx, rfl, rfl, hz, hb⟩ := hrel
        by_cases h0 : i = t' + 1
        · subst h0
          have hz2 := hz.out
          rw [Nat.sub_self, unhide H3] at hz2
          have HZ := hide hz2
          clear hz hz2 H1 H2 H3 CM
          go_wp2
          go_ret
          exact ⟨ret_bool (unhide HZ).symm, hb⟩
        · have hlt : (i : Int) < ((t' + 1 : Nat) : Int) := by omega
          obtain ⟨k, hk⟩ : ∃ k, t' + 1 - i = k + 1 := ⟨t' - i, by omega⟩
          have hk2 : t' + 1 - (i + 1) = k := by omega
          rw [hk] at hz
          have C1 := hide (unhide CM x)
          have hm := unhide HM x
          generalize M x x = y at *
          by_cases hxn : y = N
          · have hz2 := hz.out
            rw [unhide H1 k y hxn] at hz2
            have HZ := hide hz2
            have hxi : (y : Int) = (N : Int) := by omega
            clear hz hz2 H1 H2 H3 CM hk hk2 hxn
            go_wp2_with fail
            refine (unhide C1 _).mono ?_
            rintro e w6 ⟨rfl, b2⟩
            have hb := bstep hb b2
            clear b2
            go_wp2
            go_ret
            exact ⟨ret_bool (unhide HZ).symm, hb⟩
          · have hz2 := hz.out
            rw [unhide H2 k y hxn, ← hk2] at hz2
            have HZ := hide hz2
            have hxi : ¬ (y : Int) = (N : Int) := by omega
            have hmm : Hid (t' + 1 - (i + 1) < t' + 1 - i) := by show _ < _; omega
            clear hz hz2 H1 H2 H3 CM HM hk hk2 hxn
            go_wp2_with fail
            refine (unhide C1 _).mono ?_
            rintro e w6 ⟨rfl, b2⟩
            have hb := bstep hb b2
            clear b2
            go_wp2
            go_roundw
            case rel => exact ⟨_, i + 1, by omega, by omega, hm, rfl, by go_num, HZ, hb⟩
            case measure => simp [intOf]; have := unhide hmm; omega

end Go.Proofs.YtohgekhjaodehaaDoor
