/- KaraHands: what the law's walk comes to, once the code's New is what the document asks. -/
import Derived.Test.YtiojfgcahopfmaaM9
namespace Go.Proofs.Ytiojfgcahopfmaa
open Go.RowKit

set_option maxRecDepth 100000 in
set_option maxHeartbeats 12800000 in
theorem karaHands_any (SN : SpecKNew) (SK : SpecKara) (T : Tab) (ga : Option Addr) (ba oa ca la : Nat) (xs : List Nat) (gb : Option Addr) (bb ob cb lb : Nat) (ys : List Nat) (w : World) (hx : xs.length = la) (hA : Rep w ga ba oa ca xs) (wx : ∀ j, xs.getD j 0 < 18446744073709551616) (hy : ys.length = lb) (hB : Rep w gb bb ob cb ys) (wy : ∀ j, ys.getD j 0 < 18446744073709551616) :
    Calls Try.prog 7 #[T.val, .slice ga la ca, .slice gb lb cb] w fun e w' => e = .returned (.bool true) ∧ Below w.heap.size w w' := by
  obtain ⟨n, hca⟩ : ∃ k, k = min la 20 := ⟨_, rfl⟩
  have Ca : Hid (∀ w, Calls Try.prog 8 #[.slice ga la ca, .int .i64 20] w fun e w' => e = .returned (.slice ga n ca) ∧ w' = w) := fun w => cut_any w ga la ca 20 n (by have := hA.room; omega) (by omega) hca
  obtain ⟨hla, rA⟩ := cut_rep hA 20 n (by rw [hx]; exact hca)
  have dx : WDig (xs.take n) := take_words wx n
  have hma : n ≤ 20 := by omega
  obtain ⟨m, hcb⟩ : ∃ k, k = min lb 20 := ⟨_, rfl⟩
  have Cb : Hid (∀ w, Calls Try.prog 8 #[.slice gb lb cb, .int .i64 20] w fun e w' => e = .returned (.slice gb m cb) ∧ w' = w) := fun w => cut_any w gb lb cb 20 m (by have := hB.room; omega) (by omega) hcb
  obtain ⟨hlb, rB⟩ := cut_rep hB 20 m (by rw [hy]; exact hcb)
  have dy : WDig (ys.take m) := take_words wy m
  have hmb : m ≤ 20 := by omega
  clear hca hA wx hx hcb hB wy hy
  generalize xs.take n = us at *
  generalize ys.take m = vs at *
  obtain ⟨A, hva⟩ : ∃ k, k = wval us := ⟨_, rfl⟩
  have ba' : A < 18446744073709551616 ^ 20 := by rw [hva]; exact pow_up (wval_lt_pow dx) (by omega)
  have Ba : Hid (A < 4294967296 ^ 40) := by have := ba'; rw [wpow] at this; exact this
  have CFa := hide (fun W (r : Rep W ga ba oa ca us) => from_kara W ga ba oa ca n A us hla (by omega) r dx hva)
  have HXL := hide hla
  have HEA := hide hva
  have La : Hid (0 < us.length → ba < w.heap.size) := fun h => rA.lt h
  clear hva hla
  obtain ⟨D, hvb⟩ : ∃ k, k = wval vs := ⟨_, rfl⟩
  have bb' : D < 18446744073709551616 ^ 20 := by rw [hvb]; exact pow_up (wval_lt_pow dy) (by omega)
  have Bb : Hid (D < 4294967296 ^ 40) := by have := bb'; rw [wpow] at this; exact this
  have CFb := hide (fun W (r : Rep W gb bb ob cb vs) => from_kara W gb bb ob cb m D vs hlb (by omega) r dy hvb)
  have HYL := hide hlb
  have HED := hide hvb
  have Lb : Hid (0 < vs.length → bb < w.heap.size) := fun h => rB.lt h
  clear hvb hlb
  have HPR : Hid (A * D < 18446744073709551616 ^ (20 + 20)) := by have := Nat.mul_lt_mul'' ba' bb'; rwa [← Nat.pow_add] at this
  have HPA : Hid (A * A < 18446744073709551616 ^ (20 + 20)) := by have := Nat.mul_lt_mul'' ba' ba'; rwa [← Nat.pow_add] at this
  clear ba' bb'
  have bl := Below.refl w.heap.size w
  have CN := hide (fun w ob => kNew_box SN T w ob)
  unfold Tab.val at CN ⊢
  go_enter Try.func7, Try.ntmps7
  go_wp2_with fail
  refine (unhide Ca _).mono ?_
  rintro e wca ⟨rfl, rfl⟩
  clear Ca
  go_wp2_with fail
  refine (unhide Cb _).mono ?_
  rintro e wcb ⟨rfl, rfl⟩
  clear Cb
  go_wp2_with fail
  refine (unhide CN _ _).mono ?_
  rintro e w1 ⟨gk, ge, g, rfl, K, hk, he, hg, b⟩
  have rA := rA.next b
  have rB := rB.next b
  have bl := bstep bl b
  clear b CN
  have CW := hide (karaWakes_any SN SK)
  have Na : Hid (0 < us.length → ba ≠ g) := fun h => by have := unhide La h; omega
  have Nb : Hid (0 < vs.length → bb ≠ g) := fun h => by have := unhide Lb h; omega
  have ia : InG g w1 (.slice ga n ca) A n := ⟨ga, ba, oa, ca, us, rfl, unhide HXL, rA, dx, (unhide HEA).symm, by have := unhide Na; rw [unhide HXL] at this; exact this⟩
  have ib : InG g w1 (.slice gb m cb) D m := ⟨gb, bb, ob, cb, vs, rfl, unhide HYL, rB, dy, (unhide HED).symm, by have := unhide Nb; rw [unhide HYL] at this; exact this⟩
  obtain ⟨P, hP⟩ : ∃ P, P = n * m := ⟨_, rfl⟩
  have hPb : P ≤ 400 := by rw [hP]; exact Nat.mul_le_mul hma hmb
  have e1 : (n : Int) * (m : Int) = (P : Int) := by rw [hP]; exact (Int.natCast_mul n m).symm
  have e1w : IntKind.i64.wrap (P : Int) = (P : Int) := by rw [IntKind.wrap_i64]; omega
  have e1n : ((P : Int) != (P : Int)) = false := by simp
  obtain ⟨n1', hn1⟩ : ∃ n1, n1 = n + 1 := ⟨_, rfl⟩
  have e2 : (n : Int) + 1 = (n1' : Int) := by omega
  have e2w : IntKind.i64.wrap (n1' : Int) = (n1' : Int) := by rw [IntKind.wrap_i64]; omega
  obtain ⟨Q, hQ⟩ : ∃ Q, Q = n * n1' := ⟨_, rfl⟩
  have hQb : Q ≤ 420 := by rw [hQ]; exact Nat.mul_le_mul hma (show n1' ≤ 21 by omega)
  have e3 : (n : Int) * (n1' : Int) = (Q : Int) := by rw [hQ]; exact (Int.natCast_mul n n1').symm
  have e3w : IntKind.i64.wrap (Q : Int) = (Q : Int) := by rw [IntKind.wrap_i64]; omega
  obtain ⟨H, hH⟩ : ∃ H, H = Q / 2 := ⟨_, rfl⟩
  have e4 : (Q : Int).tdiv 2 = (H : Int) := by rw [hH]; rfl
  have e4' : (Q : Int) / 2 = (H : Int) := by rw [hH]; rfl
  have e4w : IntKind.i64.wrap (H : Int) = (H : Int) := by rw [IntKind.wrap_i64]; omega
  obtain ⟨Z, hZ⟩ : ∃ Z, Z = P + H := ⟨_, rfl⟩
  have e5 : (P : Int) + (H : Int) = (Z : Int) := by omega
  have e5w : IntKind.i64.wrap (Z : Int) = (Z : Int) := by rw [IntKind.wrap_i64]; omega
  have e5n : ((Z : Int) == (Z : Int)) = true := by simp
  have hHH : Hid (H = n * (n + 1) / 2) := by show H = _; rw [hH, hQ, hn1]
  have CM := hide (schoolMul_t K.eng _ _ A D n m ia ib (by omega) (by omega) (by decide) (by decide))
  rw [← hP, Int.zero_add] at CM
  have cK := K.ptr
  have HSM := hide hg
  clear ia ib hP hn1 hQ hH hZ SN SK
  obtain ⟨S1, hS1⟩ : ∃ S1, w1.heap.size = S1 := ⟨_, rfl⟩
  rw [hS1] at CM
  have hsw : w.heap.size ≤ S1 := by rw [← hS1]; exact bl.size
  go_wp2_with fail
  refine (unhide CM).mono ?_
  rintro e w2 ⟨r, rfl, nr, E, T2⟩
  have K := K.step E.met T2
  have rA := rA.but T2.grown (unhide Na)
  have rB := rB.but T2.grown (unhide Nb)
  have bl := below_grown bl T2.grown (unhide HSM) bl.size
  clear CM E T2 cK hS1
  have cK := K.ptr
  have cE := K.eng.ptr
  go_wp2_with fail
  refine (muls_any K.eng.met).mono ?_
  rintro e w3 ⟨rfl, hw⟩
  obtain rfl := hw.symm
  clear hw
  go_wp2_with fail
  refine (unhide CFa _ rA).mono ?_
  rintro e w3 ⟨v1, rfl, n1, b⟩
  have rA := rA.next b
  have rB := rB.next b
  have K := K.next b
  have nr := nr.next b
  have bl := bstep bl b
  clear b
  go_wp2_with fail
  refine (unhide CFb _ rB).mono ?_
  rintro e w4 ⟨v2, rfl, n2, b⟩
  have n1 := n1.next b
  have rA := rA.next b
  have rB := rB.next b
  have K := K.next b
  have nr := nr.next b
  have bl := bstep bl b
  clear b
  go_wp2_with fail
  refine (mul_any _ v1 v2 A D 40 (by omega) (unhide Ba) (unhide Bb) n1 n2).mono ?_
  rintro e w5 ⟨v3, rfl, n3, b⟩
  clear n1 n2
  have rA := rA.next b
  have rB := rB.next b
  have K := K.next b
  have nr := nr.next b
  have bl := bstep bl b
  clear b
  go_wp2_with fail
  refine (same_new _ _ _ _ _ (20 + 20) (by omega) (unhide HPR) n3 nr).mono ?_
  rintro e w6 ⟨rfl, b⟩
  clear n3 nr cK cE
  have rA := rA.next b
  have rB := rB.next b
  have K := K.next b
  have bl := bstep bl b
  clear b
  have cK := K.ptr
  have ia : InG g w6 (.slice ga n ca) A n := ⟨ga, ba, oa, ca, us, rfl, unhide HXL, rA, dx, (unhide HEA).symm, by have := unhide Na; rw [unhide HXL] at this; exact this⟩
  have CQ := hide (schoolSqr_t K.eng _ A n H ia (by omega) (by omega) (by omega) (unhide hHH))
  rw [e5] at CQ
  have BLb : Hid (w.heap.size ≤ w6.heap.size) := bl.size
  clear ia
  go_wp2_with fail
  refine (unhide CQ).mono ?_
  rintro e w7 ⟨q, rfl, nq, E, T7⟩
  have K := K.step E.met T7
  have rA := rA.but T7.grown (unhide Na)
  have bl := below_grown bl T7.grown (unhide HSM) bl.size
  clear CQ E T7 cK
  have cK := K.ptr
  have cE := K.eng.ptr
  go_wp2_with fail
  refine (muls_any K.eng.met).mono ?_
  rintro e w8 ⟨rfl, hw⟩
  obtain rfl := hw.symm
  clear hw
  go_wp2_with fail
  refine (unhide CFa _ rA).mono ?_
  rintro e w8 ⟨v1, rfl, n1, b⟩
  have rA := rA.next b
  have K := K.next b
  have nq := nq.next b
  have bl := bstep bl b
  clear b
  go_wp2_with fail
  refine (unhide CFa _ rA).mono ?_
  rintro e w9 ⟨v2, rfl, n2, b⟩
  have n1 := n1.next b
  have rA := rA.next b
  have K := K.next b
  have nq := nq.next b
  have bl := bstep bl b
  clear b
  go_wp2_with fail
  refine (mul_any _ v1 v2 A A 40 (by omega) (unhide Ba) (unhide Ba) n1 n2).mono ?_
  rintro e w10 ⟨v3, rfl, n3, b⟩
  clear n1 n2
  have K := K.next b
  have nq := nq.next b
  have bl := bstep bl b
  clear b
  go_wp2_with fail
  refine (same_new _ _ _ _ _ (20 + 20) (by omega) (unhide HPA) n3 nq).mono ?_
  rintro e w11 ⟨rfl, b⟩
  clear n3 nq cK cE
  have K := K.next b
  have bl := bstep bl b
  clear b
  have cK := K.ptr
  have cE := K.eng.ptr
  have cB : w11.cell? ⟨g, 3, none⟩ = some (.int .i64 T.clamp.b) := K.tab 0 (by decide)
  have lo : (4 : Int) ≤ T.clamp.b := cl_low (by decide)
  have hi : T.clamp.b ≤ 64 := cl_high
  generalize T.clamp.b = B at *
  go_wp2_with fail
  refine (unhide CW _).mono ?_
  rintro e w12 ⟨rfl, b⟩
  have bl := bstep bl b
  go_wp2
  go_ret
  exact ⟨rfl, bl⟩

end Go.Proofs.Ytiojfgcahopfmaa
