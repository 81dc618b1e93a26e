/- ToomThirds: what the law's walk comes to, once the code's Third is what the document asks. -/
import Derived.Test.YteinonbijiokmaaM13
import Derived.Test.YteinonbijiokmaaM5
import Derived.Test.YteinonbijiokmaaM2
import Derived.Test.YteinonbijiokmaaM12
import Derived.Test.YteinonbijiokmaaM6
namespace Go.Proofs.Yteinonbijiokmaa
open Go.RowKit

set_option maxRecDepth 100000 in
set_option maxHeartbeats 6400000 in
theorem toomThirds_yes (SN : SpecTNew) (S3 : SpecThird) (S4 : SpecThirdNo) (ga : Option Addr) (ba oa ca la : Nat) (xs : List Nat) (w : World) (hx : xs.length = la) (hA : Rep w ga ba oa ca xs) (wx : ∀ j, xs.getD j 0 < 18446744073709551616) :
    Calls Try.prog 3 #[.slice ga la ca, .bool true] w fun e w' => e = .returned (.bool true) ∧ Below w.heap.size w w' := by
  obtain ⟨n, hca⟩ : ∃ k, k = min la 30 := ⟨_, rfl⟩
  have Ca : Hid (∀ w, Calls Try.prog 9 #[.slice ga la ca, .int .i64 30] w fun e w' => e = .returned (.slice ga n ca) ∧ w' = w) := fun w => cut_any w ga la ca 30 n (by have := hA.room; omega) (by omega) hca
  obtain ⟨hla, rA⟩ := cut_rep hA 30 n (by rw [hx]; exact hca)
  have dx : WDig (xs.take n) := take_words wx n
  clear hA wx hx
  generalize xs.take n = us at *
  obtain ⟨A, hva⟩ : ∃ k, k = wval us := ⟨_, rfl⟩
  have hA : A < 18446744073709551616 ^ 30 := by rw [hva]; exact pow_up (wval_lt_pow dx) (by omega)
  have CFa := hide (from_toom w ga ba oa ca n A us hla (by omega) rA dx hva)
  obtain ⟨N, hN⟩ : ∃ N, N = A * 3 := ⟨_, rfl⟩
  have hN1 : Hid (N < 18446744073709551616 ^ 31) := by show N < _; omega
  have hN2 : Hid (N < 4294967296 ^ 62) := by have := unhide hN1; rw [wpow] at this; exact this
  have hA2 : Hid (A < 4294967296 ^ 62) := by have := pow_up hA (q := 31) (by omega); rw [wpow] at this; exact this
  have h3 : Hid (3 < 4294967296 ^ 62) := by show _ < _; decide +kernel
  have S3a : Hid (∀ w, Calls Try.prog 12 #[.int .u64 3] w fun e w' => ∃ v, e = .returned v ∧ IsN w' v 3 ∧ Below w.heap.size w w') := fun w => small_any 3 (by decide) (by decide) w
  have HN := hide hN
  have HS3 := hide S3
  have HS4 := hide S4
  have CW := hide (toomWakes_any SN S3 S4)
  have hdm := Nat.div_add_mod N 3
  have hml := Nat.mod_lt N (show 0 < 3 by decide)
  obtain ⟨q, hq⟩ : ∃ q, q = N / 3 := ⟨_, rfl⟩
  obtain ⟨r, hr⟩ : ∃ r, r = N % 3 := ⟨_, rfl⟩
  rw [← hq, ← hr] at hdm
  rw [← hr] at hml
  have HQ := hide hq
  have HR := hide hr
  have hq31 : Hid (q < 18446744073709551616 ^ 31) := by have := unhide hN1; show q < _; omega
  obtain ⟨F, hF⟩ : ∃ F, F = 6148914691236517205 := ⟨_, rfl⟩
  have HF := hide hF
  clear hF hva hA rA dx hca hla SN S3 S4 hN hq hr
  go_enter Try.func3, Try.ntmps3
  go_wp2_with fail
  refine (unhide Ca _).mono ?_
  rintro e wca ⟨rfl, rfl⟩
  clear Ca
  go_wp2_with fail
  refine (unhide CFa).mono ?_
  rintro e w1 ⟨v1, rfl, n1, b⟩
  have bl := b
  clear CFa b
  go_wp2_with fail
  refine (unhide S3a _).mono ?_
  rintro e w2 ⟨v2, rfl, n2, b⟩
  have n1 := n1.next b
  have bl := bstep bl b
  clear b
  go_wp2_with fail
  refine (mul_any _ v1 v2 A 3 62 (by omega) (unhide hA2) (unhide h3) n1 n2).mono ?_
  rintro e w3 ⟨v3, rfl, n3, b⟩
  have bl := bstep bl b
  rw [← unhide HN] at n3
  clear b n1 n2
  go_wp2_with fail
  refine (unhide S3a _).mono ?_
  rintro e w4 ⟨v4, rfl, n4, b⟩
  have n3 := n3.next b
  have bl := bstep bl b
  clear b
  go_wp2_with fail
  refine (divmod_any _ v3 v4 N 3 62 (by omega) (unhide hN2) (unhide h3) (by decide) n3 n4).mono ?_
  rintro e w5 ⟨vq, vr, rfl, nq, nr, b⟩
  rw [← unhide HQ] at nq
  rw [← unhide HR] at nr
  have n3 := n3.next b
  have bl := bstep bl b
  clear b n4
  go_wp2_with fail
  refine (to_can _ v3 N 31 (by omega) (unhide hN1) n3).mono ?_
  rintro e w6 ⟨g1, b1, c1, ws, l, rfl, hl, hlp, rW, dW, hv, b⟩
  have nq := nq.next b
  have nr := nr.next b
  have bl := bstep bl b
  have HWL := hide hl
  have HV := hide hv
  clear b n3 hl hv
  go_wp2_with fail
  refine (lend_any _ g1 b1 0 c1 l ws (unhide HWL) (by omega) rW F (unhide HF)).mono ?_
  rintro e w7 ⟨rfl, o7, b⟩
  obtain ⟨r7, t7⟩ := lent_rep o7 (unhide HWL)
  have nq := nq.next b
  have nr := nr.next b
  have rW := rW.next b
  have bl := bstep bl b
  clear b o7
  obtain ⟨X, hX⟩ : ∃ X, w6.heap.size = X := ⟨_, rfl⟩
  rw [hX] at r7 t7
  by_cases h0 : r = 0
  · have C3 := hide (unhide HS3 w7 _ X 0 (l + 4) l q ws (unhide HWL) r7 dW (by omega) (by rw [unhide HV]; omega))
    have CZ := hide (fun W (h : IsN W vr r) => rZero_any W vr r true (by simp [h0]) h)
    clear HS3 HS4 r7
    go_wp2_with fail
    refine (unhide C3).mono ?_
    rintro e w8 ⟨y, rfl, ny, b⟩
    have nq := nq.next b
    have nr := nr.next b
    have rW := rW.next b
    have t7 := t7.next b
    have bl := bstep bl b
    clear C3 b hX
    go_wp2_with fail
    refine (unhide CZ _ nr).mono ?_
    rintro e w9 ⟨rfl, hw⟩
    obtain rfl := hw.symm
    clear hw CZ
    go_wp2_with fail
    refine (same_new _ _ _ _ _ 31 (by omega) (unhide hq31) nq ny).mono ?_
    rintro e w9 ⟨rfl, b⟩
    have rW := rW.next b
    have t7 := t7.next b
    have bl := bstep bl b
    clear b nq ny nr
    go_wp2_with fail
    refine (intact_any _ g1 X b1 0 c1 l ws (unhide HWL) (by omega) rW F (unhide HF) t7).mono ?_
    rintro e w10 ⟨rfl, b⟩
    have bl := bstep bl b
    clear b
    go_wp2_with fail
    refine (unhide CW _).mono ?_
    rintro e w11 ⟨rfl, b⟩
    have bl := bstep bl b
    go_wp2
    go_ret
    exact ⟨rfl, bl⟩
  · have C3 := hide (unhide HS4 w7 _ X 0 (l + 4) l ws (unhide HWL) r7 dW (by omega) (by rw [unhide HV, ← unhide HR]; exact h0))
    have CZ := hide (fun W (h : IsN W vr r) => rZero_any W vr r false (by simp [h0]) h)
    clear HS3 HS4 r7 nq
    go_wp2_with fail
    refine (unhide C3).mono ?_
    rintro e w8 ⟨⟨gv, cv, rfl⟩, b⟩
    have nr := nr.next b
    have rW := rW.next b
    have t7 := t7.next b
    have bl := bstep bl b
    clear C3 b hX
    go_wp2_with fail
    refine (unhide CZ _ nr).mono ?_
    rintro e w9 ⟨rfl, hw⟩
    obtain rfl := hw.symm
    clear hw CZ nr
    go_wp2_with fail
    refine (intact_any _ g1 X b1 0 c1 l ws (unhide HWL) (by omega) rW F (unhide HF) t7).mono ?_
    rintro e w10 ⟨rfl, b⟩
    have bl := bstep bl b
    clear b
    go_wp2_with fail
    refine (unhide CW _).mono ?_
    rintro e w11 ⟨rfl, b⟩
    have bl := bstep bl b
    go_wp2
    go_ret
    exact ⟨rfl, bl⟩

set_option maxRecDepth 100000 in
set_option maxHeartbeats 6400000 in
theorem toomThirds_no (SN : SpecTNew) (S3 : SpecThird) (S4 : SpecThirdNo) (ga : Option Addr) (ba oa ca la : Nat) (xs : List Nat) (w : World) (hx : xs.length = la) (hA : Rep w ga ba oa ca xs) (wx : ∀ j, xs.getD j 0 < 18446744073709551616) :
    Calls Try.prog 3 #[.slice ga la ca, .bool false] w fun e w' => e = .returned (.bool true) ∧ Below w.heap.size w w' := by
  obtain ⟨n, hca⟩ : ∃ k, k = min la 30 := ⟨_, rfl⟩
  have Ca : Hid (∀ w, Calls Try.prog 9 #[.slice ga la ca, .int .i64 30] w fun e w' => e = .returned (.slice ga n ca) ∧ w' = w) := fun w => cut_any w ga la ca 30 n (by have := hA.room; omega) (by omega) hca
  obtain ⟨hla, rA⟩ := cut_rep hA 30 n (by rw [hx]; exact hca)
  have dx : WDig (xs.take n) := take_words wx n
  clear hA wx hx
  generalize xs.take n = us at *
  obtain ⟨A, hva⟩ : ∃ k, k = wval us := ⟨_, rfl⟩
  have hA : A < 18446744073709551616 ^ 30 := by rw [hva]; exact pow_up (wval_lt_pow dx) (by omega)
  have CFa := hide (from_toom w ga ba oa ca n A us hla (by omega) rA dx hva)
  obtain ⟨N, hN⟩ : ∃ N, N = A := ⟨_, rfl⟩
  have hN1 : Hid (N < 18446744073709551616 ^ 31) := by show N < _; omega
  have hN2 : Hid (N < 4294967296 ^ 62) := by have := unhide hN1; rw [wpow] at this; exact this
  have hA2 : Hid (A < 4294967296 ^ 62) := by have := pow_up hA (q := 31) (by omega); rw [wpow] at this; exact this
  have h3 : Hid (3 < 4294967296 ^ 62) := by show _ < _; decide +kernel
  have S3a : Hid (∀ w, Calls Try.prog 12 #[.int .u64 3] w fun e w' => ∃ v, e = .returned v ∧ IsN w' v 3 ∧ Below w.heap.size w w') := fun w => small_any 3 (by decide) (by decide) w
  have HN := hide hN
  have HS3 := hide S3
  have HS4 := hide S4
  have CW := hide (toomWakes_any SN S3 S4)
  have hdm := Nat.div_add_mod N 3
  have hml := Nat.mod_lt N (show 0 < 3 by decide)
  obtain ⟨q, hq⟩ : ∃ q, q = N / 3 := ⟨_, rfl⟩
  obtain ⟨r, hr⟩ : ∃ r, r = N % 3 := ⟨_, rfl⟩
  rw [← hq, ← hr] at hdm
  rw [← hr] at hml
  have HQ := hide hq
  have HR := hide hr
  have hq31 : Hid (q < 18446744073709551616 ^ 31) := by have := unhide hN1; show q < _; omega
  obtain ⟨F, hF⟩ : ∃ F, F = 6148914691236517205 := ⟨_, rfl⟩
  have HF := hide hF
  clear hF hva hA rA dx hca hla SN S3 S4 hN hq hr
  go_enter Try.func3, Try.ntmps3
  go_wp2_with fail
  refine (unhide Ca _).mono ?_
  rintro e wca ⟨rfl, rfl⟩
  clear Ca
  go_wp2_with fail
  refine (unhide CFa).mono ?_
  rintro e w1 ⟨v1, rfl, n1, b⟩
  have bl := b
  clear CFa b
  have n3 := n1
  rw [← unhide HN] at n3
  clear n1
  go_wp2_with fail
  refine (unhide S3a _).mono ?_
  rintro e w4 ⟨v4, rfl, n4, b⟩
  have n3 := n3.next b
  have bl := bstep bl b
  clear b
  go_wp2_with fail
  refine (divmod_any _ v1 v4 N 3 62 (by omega) (unhide hN2) (unhide h3) (by decide) n3 n4).mono ?_
  rintro e w5 ⟨vq, vr, rfl, nq, nr, b⟩
  rw [← unhide HQ] at nq
  rw [← unhide HR] at nr
  have n3 := n3.next b
  have bl := bstep bl b
  clear b n4
  go_wp2_with fail
  refine (to_can _ v1 N 31 (by omega) (unhide hN1) n3).mono ?_
  rintro e w6 ⟨g1, b1, c1, ws, l, rfl, hl, hlp, rW, dW, hv, b⟩
  have nq := nq.next b
  have nr := nr.next b
  have bl := bstep bl b
  have HWL := hide hl
  have HV := hide hv
  clear b n3 hl hv
  go_wp2_with fail
  refine (lend_any _ g1 b1 0 c1 l ws (unhide HWL) (by omega) rW F (unhide HF)).mono ?_
  rintro e w7 ⟨rfl, o7, b⟩
  obtain ⟨r7, t7⟩ := lent_rep o7 (unhide HWL)
  have nq := nq.next b
  have nr := nr.next b
  have rW := rW.next b
  have bl := bstep bl b
  clear b o7
  obtain ⟨X, hX⟩ : ∃ X, w6.heap.size = X := ⟨_, rfl⟩
  rw [hX] at r7 t7
  by_cases h0 : r = 0
  · have C3 := hide (unhide HS3 w7 _ X 0 (l + 4) l q ws (unhide HWL) r7 dW (by omega) (by rw [unhide HV]; omega))
    have CZ := hide (fun W (h : IsN W vr r) => rZero_any W vr r true (by simp [h0]) h)
    clear HS3 HS4 r7
    go_wp2_with fail
    refine (unhide C3).mono ?_
    rintro e w8 ⟨y, rfl, ny, b⟩
    have nq := nq.next b
    have nr := nr.next b
    have rW := rW.next b
    have t7 := t7.next b
    have bl := bstep bl b
    clear C3 b hX
    go_wp2_with fail
    refine (unhide CZ _ nr).mono ?_
    rintro e w9 ⟨rfl, hw⟩
    obtain rfl := hw.symm
    clear hw CZ
    go_wp2_with fail
    refine (same_new _ _ _ _ _ 31 (by omega) (unhide hq31) nq ny).mono ?_
    rintro e w9 ⟨rfl, b⟩
    have rW := rW.next b
    have t7 := t7.next b
    have bl := bstep bl b
    clear b nq ny nr
    go_wp2_with fail
    refine (intact_any _ g1 X b1 0 c1 l ws (unhide HWL) (by omega) rW F (unhide HF) t7).mono ?_
    rintro e w10 ⟨rfl, b⟩
    have bl := bstep bl b
    clear b
    go_wp2_with fail
    refine (unhide CW _).mono ?_
    rintro e w11 ⟨rfl, b⟩
    have bl := bstep bl b
    go_wp2
    go_ret
    exact ⟨rfl, bl⟩
  · have C3 := hide (unhide HS4 w7 _ X 0 (l + 4) l ws (unhide HWL) r7 dW (by omega) (by rw [unhide HV, ← unhide HR]; exact h0))
    have CZ := hide (fun W (h : IsN W vr r) => rZero_any W vr r false (by simp [h0]) h)
    clear HS3 HS4 r7 nq
    go_wp2_with fail
    refine (unhide C3).mono ?_
    rintro e w8 ⟨⟨gv, cv, rfl⟩, b⟩
    have nr := nr.next b
    have rW := rW.next b
    have t7 := t7.next b
    have bl := bstep bl b
    clear C3 b hX
    go_wp2_with fail
    refine (unhide CZ _ nr).mono ?_
    rintro e w9 ⟨rfl, hw⟩
    obtain rfl := hw.symm
    clear hw CZ nr
    go_wp2_with fail
    refine (intact_any _ g1 X b1 0 c1 l ws (unhide HWL) (by omega) rW F (unhide HF) t7).mono ?_
    rintro e w10 ⟨rfl, b⟩
    have bl := bstep bl b
    clear b
    go_wp2_with fail
    refine (unhide CW _).mono ?_
    rintro e w11 ⟨rfl, b⟩
    have bl := bstep bl b
    go_wp2
    go_ret
    exact ⟨rfl, bl⟩

theorem toomThirds_any (SN : SpecTNew) (S3 : SpecThird) (S4 : SpecThirdNo) (ga : Option Addr) (ba oa ca la : Nat) (xs : List Nat) (th : Bool) (w : World) (hx : xs.length = la) (hA : Rep w ga ba oa ca xs) (wx : ∀ j, xs.getD j 0 < 18446744073709551616) :
    Calls Try.prog 3 #[.slice ga la ca, .bool th] w fun e w' => e = .returned (.bool true) ∧ Below w.heap.size w w' := by
  cases th
  · exact toomThirds_no SN S3 S4 ga ba oa ca la xs w hx hA wx
  · exact toomThirds_yes SN S3 S4 ga ba oa ca la xs w hx hA wx

end Go.Proofs.Yteinonbijiokmaa
