/- SchoolLaws: what the law's walk comes to. -/
import Derived.Test.YtdocljbmmaoenaaSWakes
import Derived.Test.YtdocljbmmaoenaaLSchoolMuls
namespace Go.Proofs.Ytdocljbmmaoenaa
open Go.RowKit

theorem schoolMul_s {w : World} {ge g : Nat} {s : Int} (E : Eng w ge g s) (u v : Value) (m n la lb : Nat) (hu : InG g w u m la) (hv : InG g w v n lb) (ha : la ≤ 1048576) (hb : lb ≤ 1048576) (hs0 : 0 ≤ s) (hs : s ≤ 4611686018427387904) :
    Calls Try.prog 10 #[.pointer (some ⟨ge, 0, none⟩), u, v] w fun e w' => ∃ r s', e = .returned r ∧ NewW w.heap.size w' r (m * n) ∧ Eng w' ge g s' ∧ 0 ≤ s' ∧ s' ≤ s + 1099511627776 ∧ w.grownBy w' (some g) := by
  refine (schoolMul_any E u v m n la lb hu hv ha hb hs0 hs).mono ?_
  rintro e w' ⟨r, h1, h2, h3, h4⟩
  have := mul_fits ha hb
  exact ⟨r, _, h1, h2, h3, by omega, by omega, h4⟩
theorem schoolSqr_s {w : World} {ge g : Nat} {s : Int} (E : Eng w ge g s) (u : Value) (m la : Nat) (hu : InG g w u m la) (ha : la ≤ 1048575) (hs0 : 0 ≤ s) (hs : s ≤ 4611686018427387904) :
    Calls Try.prog 18 #[.pointer (some ⟨ge, 0, none⟩), u] w fun e w' => ∃ r s', e = .returned r ∧ NewW w.heap.size w' r (m * m) ∧ Eng w' ge g s' ∧ 0 ≤ s' ∧ s' ≤ s + 1099511627776 ∧ w.grownBy w' (some g) := by
  refine (schoolSqr_any E u m la _ hu (by omega) hs0 hs rfl).mono ?_
  rintro e w' ⟨r, h1, h2, h3, h4⟩
  have : la * (la + 1) ≤ 1048576 * 1048576 := Nat.mul_le_mul (by omega) (by omega)
  exact ⟨r, _, h1, h2, h3, by omega, by omega, h4⟩
theorem InG.lt {g : Nat} {w : World} {v : Value} {n l : Nat} (h : InG g w v n l) : n < 18446744073709551616 ^ l := by
  obtain ⟨ga, b, o, cap, xs, _, hl, _, hd, hw, _⟩ := h
  rw [← hw, ← hl]; exact wval_lt_pow hd
/-- Two answers that say the same number have the same words. -/
theorem keepSame_new {w : World} {v : Value} {m n B : Nat} {ga : Option Addr} {b cap : Nat} {xs : List Nat} (l : Nat) (hx : xs.length = l) (hr : Rep w ga b 0 cap xs) (hc : WCan xs) (hm : wval xs = m) (hv : NewW B w v n) (hmn : m = n) (hl : xs.length ≤ 1073741824) :
    Calls Try.prog 21 #[.slice ga l cap, v] w fun e w' => e = .returned (.bool true) ∧ Below w.heap.size w w' := by
  subst hx
  obtain ⟨gb, bb, cb, rfl, rb⟩ := new_words hv hc (hm.trans hmn)
  exact keepSame_any w ga gb b 0 cap bb 0 cb _ xs rfl hl hr rb

set_option maxRecDepth 100000 in
set_option maxHeartbeats 12800000 in
theorem schoolLaws_any (T : Tab) (ga : Option Addr) (ba oa ca la : Nat) (xs : List Nat) (gb : Option Addr) (bb ob cb lb : Nat) (ys : List Nat) (gd : Option Addr) (bd od cd ld : Nat) (zs : List Nat) (w : World) (hx : xs.length = la) (hA : Rep w ga ba oa ca xs) (wx : ∀ j, xs.getD j 0 < 18446744073709551616) (hy : ys.length = lb) (hB : Rep w gb bb ob cb ys) (wy : ∀ j, ys.getD j 0 < 18446744073709551616) (hz : zs.length = ld) (hD : Rep w gd bd od cd zs) (wz : ∀ j, zs.getD j 0 < 18446744073709551616) :
    Calls Try.prog 6 #[T.val, .slice ga la ca, .slice gb lb cb, .slice gd ld cd] w fun e w' => e = .returned (.bool true) ∧ Below w.heap.size w w' := by
  obtain ⟨n, hca⟩ : ∃ k, k = min la 14 := ⟨_, rfl⟩
  have Ca : Hid (∀ w, Calls Try.prog 7 #[.slice ga la ca, .int .i64 14] w fun e w' => e = .returned (.slice ga n ca) ∧ w' = w) := fun w => cut_any w ga la ca 14 n (by have := hA.room; omega) (by omega) hca
  obtain ⟨hla, rA⟩ := cut_rep hA 14 n (by rw [hx]; exact hca)
  have dx : WDig (xs.take n) := take_words wx n
  have hma : n ≤ 14 := by omega
  obtain ⟨m, hcb⟩ : ∃ k, k = min lb 14 := ⟨_, rfl⟩
  have Cb : Hid (∀ w, Calls Try.prog 7 #[.slice gb lb cb, .int .i64 14] w fun e w' => e = .returned (.slice gb m cb) ∧ w' = w) := fun w => cut_any w gb lb cb 14 m (by have := hB.room; omega) (by omega) hcb
  obtain ⟨hlb, rB⟩ := cut_rep hB 14 m (by rw [hy]; exact hcb)
  have dy : WDig (ys.take m) := take_words wy m
  have hmb : m ≤ 14 := by omega
  obtain ⟨q, hcd⟩ : ∃ k, k = min ld 14 := ⟨_, rfl⟩
  have Cd : Hid (∀ w, Calls Try.prog 7 #[.slice gd ld cd, .int .i64 14] w fun e w' => e = .returned (.slice gd q cd) ∧ w' = w) := fun w => cut_any w gd ld cd 14 q (by have := hD.room; omega) (by omega) hcd
  obtain ⟨hld, rD⟩ := cut_rep hD 14 q (by rw [hz]; exact hcd)
  have dz : WDig (zs.take q) := take_words wz q
  have hmd : q ≤ 14 := by omega
  clear hca hA wx hx hcb hB wy hy hcd hD wz hz
  generalize xs.take n = us at *
  generalize ys.take m = vs at *
  generalize zs.take q = ts at *
  obtain ⟨A, hva⟩ : ∃ k, k = wval us := ⟨_, rfl⟩
  have ba' : A < 18446744073709551616 ^ 14 := by rw [hva]; exact pow_up (wval_lt_pow dx) (by omega)
  have Ba : Hid (A < 4294967296 ^ 28) := by have := ba'; rw [wpow] at this; exact this
  have CFa := hide (fun W (r : Rep W ga ba oa ca us) => from_school W ga ba oa ca n A us hla (by omega) r dx hva)
  have HXL := hide hla
  have HEA := hide hva
  have La : Hid (0 < us.length → ba < w.heap.size) := fun h => rA.lt h
  clear hva hla
  obtain ⟨D, hvb⟩ : ∃ k, k = wval vs := ⟨_, rfl⟩
  have bb' : D < 18446744073709551616 ^ 14 := by rw [hvb]; exact pow_up (wval_lt_pow dy) (by omega)
  have Bb : Hid (D < 4294967296 ^ 28) := by have := bb'; rw [wpow] at this; exact this
  have CFb := hide (fun W (r : Rep W gb bb ob cb vs) => from_school W gb bb ob cb m D vs hlb (by omega) r dy hvb)
  have HYL := hide hlb
  have HED := hide hvb
  have Lb : Hid (0 < vs.length → bb < w.heap.size) := fun h => rB.lt h
  clear hvb hlb
  obtain ⟨H, hvd⟩ : ∃ k, k = wval ts := ⟨_, rfl⟩
  have bd' : H < 18446744073709551616 ^ 14 := by rw [hvd]; exact pow_up (wval_lt_pow dz) (by omega)
  have Bd : Hid (H < 4294967296 ^ 28) := by have := bd'; rw [wpow] at this; exact this
  have CFd := hide (fun W (r : Rep W gd bd od cd ts) => from_school W gd bd od cd q H ts hld (by omega) r dz hvd)
  have HZL := hide hld
  have HEH := hide hvd
  have Ld : Hid (0 < ts.length → bd < w.heap.size) := fun h => rD.lt h
  clear hvd hld
  have HBa := hide ba'
  have HBb := hide bb'
  have HBd := hide bd'
  clear ba' bb' bd' CFa CFb CFd
  have bl := Below.refl w.heap.size w
  have CN := hide (fun w ob => schoolNew_box T w ob)
  unfold Tab.val at CN ⊢
  go_enter Try.func6, Try.ntmps6
  go_wp2_with fail
  refine (unhide Ca _).mono ?_
  rintro e wca ⟨rfl, rfl⟩
  clear Ca
  go_wp2_with fail
  refine (unhide Cb _).mono ?_
  rintro e wcb ⟨rfl, rfl⟩
  clear Cb
  go_wp2_with fail
  refine (unhide Cd _).mono ?_
  rintro e wcd ⟨rfl, rfl⟩
  clear Cd
  go_wp2_with fail
  refine (unhide CN _ _).mono ?_
  rintro e w1 ⟨ge, g, rfl, E, hg, hge, b⟩
  have Na : Hid (0 < us.length → ba ≠ g) := fun h => by have := unhide La h; omega
  have Nb : Hid (0 < vs.length → bb ≠ g) := fun h => by have := unhide Lb h; omega
  have Nd : Hid (0 < ts.length → bd ≠ g) := fun h => by have := unhide Ld h; omega
  have hgl := E.met.lt
  have rA := rA.next b
  have rB := rB.next b
  have rD := rD.next b
  have bl := bstep bl b
  clear b
  have ia : InG g w1 (.slice ga n ca) A n := ⟨_, _, _, _, us, rfl, unhide HXL, rA, dx, (unhide HEA).symm, by rw [← unhide HXL]; exact unhide Na⟩
  have ib : InG g w1 (.slice gb m cb) D m := ⟨_, _, _, _, vs, rfl, unhide HYL, rB, dy, (unhide HED).symm, by rw [← unhide HYL]; exact unhide Nb⟩
  have id' : InG g w1 (.slice gd q cd) H q := ⟨_, _, _, _, ts, rfl, unhide HZL, rD, dz, (unhide HEH).symm, by rw [← unhide HZL]; exact unhide Nd⟩
  obtain ⟨s, hs⟩ : ∃ s : Int, s = 0 := ⟨_, rfl⟩
  rw [← hs] at E
  have hs0 : 0 ≤ s := by omega
  have hsb : s ≤ 0 := by omega
  clear hs rA rB rD CN La Lb Ld
  have HL1 : Hid (A * D < 18446744073709551616 ^ 56) := pow_up (prod_lt (unhide HBa) (unhide HBb)) (by omega)
  have HL2 : Hid (A * D * H < 18446744073709551616 ^ 56) := pow_up (prod_lt (prod_lt (unhide HBa) (unhide HBb)) (unhide HBd)) (by omega)
  have HL3 : Hid (A * A < 18446744073709551616 ^ 56) := pow_up (prod_lt (unhide HBa) (unhide HBa)) (by omega)
  have HL4 : Hid (D * H < 18446744073709551616 ^ 56) := pow_up (prod_lt (unhide HBb) (unhide HBd)) (by omega)
  go_wp2_with fail
  refine (schoolMul_s E _ _ A D n m ia ib (by omega) (by omega) hs0 (by omega)).mono ?_
  rintro e x1 ⟨p1, s1, rfl, n1, E2, hs0', hsb', G⟩
  have ia := ia.but G
  have ib := ib.but G
  have id' := id'.but G
  have hgl := Nat.lt_of_lt_of_le hgl G.size
  have bl := below_grown bl G hg bl.size
  have hs0 := hs0'
  have hsb : s1 ≤ 1 * 1099511627776 := by omega
  clear hs0' hsb' E G
  have E := E2
  clear E2
  obtain ⟨g1, b1, c1, l1, rfl, r1, wc1, wv1, _⟩ := n1.rep
  have hll1 := wlen_le wc1 (L := 56) (by rw [wv1]; exact unhide HL1)
  obtain ⟨k1, hk1⟩ : ∃ k, k = l1.length := ⟨_, rfl⟩
  rw [← hk1]
  have HK1 := hide hk1.symm
  clear hk1
  clear n1
  go_wp2_with fail
  refine (schoolMul_s E _ _ D A m n ib ia (by omega) (by omega) hs0 (by omega)).mono ?_
  rintro e x2 ⟨p2, s2, rfl, n2, E2, hs0', hsb', G⟩
  have ia := ia.but G
  have ib := ib.but G
  have id' := id'.but G
  have r1 := E.rep G r1
  have hgl := Nat.lt_of_lt_of_le hgl G.size
  have bl := below_grown bl G hg bl.size
  have hs0 := hs0'
  have hsb : s2 ≤ 2 * 1099511627776 := by omega
  clear hs0' hsb' E G
  have E := E2
  clear E2
  go_wp2_with fail
  refine (keepSame_new k1 (unhide HK1) r1 wc1 wv1 n2 (Nat.mul_comm _ _) (by omega)).mono ?_
  rintro e y1 ⟨rfl, b⟩
  have ia := ia.next b
  have ib := ib.next b
  have id' := id'.next b
  have E := E.next b
  have hgl := Nat.lt_of_lt_of_le hgl b.size
  have bl := bstep bl b
  clear b n2 r1 wc1 wv1 hll1
  go_wp2_with fail
  refine (schoolMul_s E _ _ A D n m ia ib (by omega) (by omega) hs0 (by omega)).mono ?_
  rintro e x3 ⟨p3, s3, rfl, n3, E2, hs0', hsb', G⟩
  have ia := ia.but G
  have ib := ib.but G
  have id' := id'.but G
  have hgl := Nat.lt_of_lt_of_le hgl G.size
  have bl := below_grown bl G hg bl.size
  have hs0 := hs0'
  have hsb : s3 ≤ 3 * 1099511627776 := by omega
  clear hs0' hsb' E G
  have E := E2
  clear E2
  obtain ⟨j3, hj3, i3⟩ := n3.toG (by omega) (unhide HL1)
  clear n3
  go_wp2_with fail
  refine (schoolMul_s E _ _ (A * D) H j3 q i3 id' (by omega) (by omega) hs0 (by omega)).mono ?_
  rintro e x4 ⟨p4, s4, rfl, n4, E2, hs0', hsb', G⟩
  have ia := ia.but G
  have ib := ib.but G
  have id' := id'.but G
  have hgl := Nat.lt_of_lt_of_le hgl G.size
  have bl := below_grown bl G hg bl.size
  have hs0 := hs0'
  have hsb : s4 ≤ 4 * 1099511627776 := by omega
  clear hs0' hsb' E G
  have E := E2
  clear E2
  obtain ⟨g2, b2, c2, l2, rfl, r2, wc2, wv2, _⟩ := n4.rep
  have hll2 := wlen_le wc2 (L := 56) (by rw [wv2]; exact unhide HL2)
  obtain ⟨k2, hk2⟩ : ∃ k, k = l2.length := ⟨_, rfl⟩
  rw [← hk2]
  have HK2 := hide hk2.symm
  clear hk2
  clear n4 i3
  go_wp2_with fail
  refine (schoolMul_s E _ _ D H m q ib id' (by omega) (by omega) hs0 (by omega)).mono ?_
  rintro e x5 ⟨p5, s5, rfl, n5, E2, hs0', hsb', G⟩
  have ia := ia.but G
  have ib := ib.but G
  have id' := id'.but G
  have r2 := E.rep G r2
  have hgl := Nat.lt_of_lt_of_le hgl G.size
  have bl := below_grown bl G hg bl.size
  have hs0 := hs0'
  have hsb : s5 ≤ 5 * 1099511627776 := by omega
  clear hs0' hsb' E G
  have E := E2
  clear E2
  obtain ⟨j5, hj5, i5⟩ := n5.toG (by omega) (unhide HL4)
  clear n5
  go_wp2_with fail
  refine (schoolMul_s E _ _ A (D * H) n j5 ia i5 (by omega) (by omega) hs0 (by omega)).mono ?_
  rintro e x6 ⟨p6, s6, rfl, n6, E2, hs0', hsb', G⟩
  have ia := ia.but G
  have ib := ib.but G
  have id' := id'.but G
  have r2 := E.rep G r2
  have hgl := Nat.lt_of_lt_of_le hgl G.size
  have bl := below_grown bl G hg bl.size
  have hs0 := hs0'
  have hsb : s6 ≤ 6 * 1099511627776 := by omega
  clear hs0' hsb' E G
  have E := E2
  clear E2
  clear i5
  go_wp2_with fail
  refine (keepSame_new k2 (unhide HK2) r2 wc2 wv2 n6 (Nat.mul_assoc _ _ _) (by omega)).mono ?_
  rintro e y2 ⟨rfl, b⟩
  have ia := ia.next b
  have ib := ib.next b
  have id' := id'.next b
  have E := E.next b
  have hgl := Nat.lt_of_lt_of_le hgl b.size
  have bl := bstep bl b
  clear b n6 r2 wc2 wv2 hll2
  go_wp2_with fail
  refine (schoolSqr_s E _ A n ia (by omega) hs0 (by omega)).mono ?_
  rintro e x7 ⟨p7, s7, rfl, n7, E2, hs0', hsb', G⟩
  have ia := ia.but G
  have ib := ib.but G
  have id' := id'.but G
  have hgl := Nat.lt_of_lt_of_le hgl G.size
  have bl := below_grown bl G hg bl.size
  have hs0 := hs0'
  have hsb : s7 ≤ 7 * 1099511627776 := by omega
  clear hs0' hsb' E G
  have E := E2
  clear E2
  obtain ⟨g3, b3, c3, l3, rfl, r3, wc3, wv3, _⟩ := n7.rep
  have hll3 := wlen_le wc3 (L := 56) (by rw [wv3]; exact unhide HL3)
  obtain ⟨k3, hk3⟩ : ∃ k, k = l3.length := ⟨_, rfl⟩
  rw [← hk3]
  have HK3 := hide hk3.symm
  clear hk3
  clear n7
  go_wp2_with fail
  refine (schoolMul_s E _ _ A A n n ia ia (by omega) (by omega) hs0 (by omega)).mono ?_
  rintro e x8 ⟨p8, s8, rfl, n8, E2, hs0', hsb', G⟩
  have ia := ia.but G
  have ib := ib.but G
  have id' := id'.but G
  have r3 := E.rep G r3
  have hgl := Nat.lt_of_lt_of_le hgl G.size
  have bl := below_grown bl G hg bl.size
  have hs0 := hs0'
  have hsb : s8 ≤ 8 * 1099511627776 := by omega
  clear hs0' hsb' E G
  have E := E2
  clear E2
  go_wp2_with fail
  refine (keepSame_new k3 (unhide HK3) r3 wc3 wv3 n8 (rfl) (by omega)).mono ?_
  rintro e y3 ⟨rfl, b⟩
  have ia := ia.next b
  have ib := ib.next b
  have id' := id'.next b
  have E := E.next b
  have hgl := Nat.lt_of_lt_of_le hgl b.size
  have bl := bstep bl b
  clear b n8 r3 wc3 wv3 hll3
  have cE := E.ptr
  obtain ⟨t, ht⟩ : ∃ t : Int, t = s8 + 5 := ⟨_, rfl⟩
  have ht' : s8 + 5 = t := ht.symm
  have htt : (t != t) = false := by simp
  have hwt : IntKind.i64.wrap t = t := by rw [IntKind.wrap_i64]; omega
  have CS := hide (fun W (h : Met W g 0 s8 0 0) => spend_any 5 t h (by omega) (by omega) (by omega))
  clear ht
  go_wp2_with fail
  refine (muls_any E.met).mono ?_
  rintro e z1 ⟨rfl, rfl⟩
  go_wp2_with fail
  refine (unhide CS _ E.met).mono ?_
  rintro e z2 ⟨rfl, M2, T2⟩
  have E := E.step M2 T2
  have bl := below_grown bl T2.grown hg bl.size
  have cE := E.ptr
  clear M2 T2 CS
  go_wp2_with fail
  refine (muls_any E.met).mono ?_
  rintro e z3 ⟨rfl, rfl⟩
  go_wp2_with fail
  refine (muls_any E.met).mono ?_
  rintro e z4 ⟨rfl, rfl⟩
  go_wp2_with fail
  refine (reset_any E.met).mono ?_
  rintro e z5 ⟨rfl, M5, T5⟩
  have E := E.step M5 T5
  have bl := below_grown bl T5.grown hg bl.size
  have cE := E.ptr
  clear M5 T5
  go_wp2_with fail
  refine (muls_any E.met).mono ?_
  rintro e z6 ⟨rfl, rfl⟩
  clear cE E
  go_wp2_with fail
  refine (schoolWakes_any _).mono ?_
  rintro e z7 ⟨rfl, b⟩
  have bl := bstep bl b
  clear b
  go_wp2
  go_ret
  exact ⟨rfl, bl⟩

end Go.Proofs.Ytdocljbmmaoenaa
