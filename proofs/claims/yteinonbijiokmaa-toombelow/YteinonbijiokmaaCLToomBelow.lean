/- ToomBelow: what the law's walk comes to, once the code's calls are what the document asks. -/
import Derived.Test.YteinonbijiokmaaM12
import Derived.Test.YteinonbijiokmaaM5
namespace Go.Proofs.Yteinonbijiokmaa
open Go.RowKit

set_option maxRecDepth 100000 in
set_option maxHeartbeats 12800000 in
theorem toomBelow_any (SN : SpecTNew) (S3 : SpecThird) (S4 : SpecThirdNo) (SB : SpecBoth) (T : Tab) (ga : Option Addr) (ba oa ca la : Nat) (xs : List Nat) (gb : Option Addr) (bb ob cb lb : Nat) (ys : List Nat) (w : World) (hx : xs.length = la) (hA : Rep w ga ba oa ca xs) (wx : ∀ j, xs.getD j 0 < 18446744073709551616) (hy : ys.length = lb) (hB : Rep w gb bb ob cb ys) (wy : ∀ j, ys.getD j 0 < 18446744073709551616) :
    Calls Try.prog 8 #[T.val, .slice ga la ca, .slice gb lb cb] w fun e w' => e = .returned (.bool true) ∧ Below w.heap.size w w' := by
  obtain ⟨n, hca⟩ : ∃ k, k = min la 24 := ⟨_, rfl⟩
  have Ca : Hid (∀ w, Calls Try.prog 9 #[.slice ga la ca, .int .i64 24] w fun e w' => e = .returned (.slice ga n ca) ∧ w' = w) := fun w => cut_any w ga la ca 24 n (by have := hA.room; omega) (by omega) hca
  obtain ⟨hla, rA⟩ := cut_rep hA 24 n (by rw [hx]; exact hca)
  have dx : WDig (xs.take n) := take_words wx n
  have hma : n ≤ 24 := by omega
  obtain ⟨m, hcb⟩ : ∃ k, k = min lb 24 := ⟨_, rfl⟩
  have Cb : Hid (∀ w, Calls Try.prog 9 #[.slice gb lb cb, .int .i64 24] w fun e w' => e = .returned (.slice gb m cb) ∧ w' = w) := fun w => cut_any w gb lb cb 24 m (by have := hB.room; omega) (by omega) hcb
  obtain ⟨hlb, rB⟩ := cut_rep hB 24 m (by rw [hy]; exact hcb)
  have dy : WDig (ys.take m) := take_words wy m
  have hmb : m ≤ 24 := by omega
  clear hca hA wx hx hcb hB wy hy
  generalize xs.take n = us at *
  generalize ys.take m = vs at *
  obtain ⟨A, hva⟩ : ∃ k, k = wval us := ⟨_, rfl⟩
  have ba' : A < 18446744073709551616 ^ 24 := by rw [hva]; exact pow_up (wval_lt_pow dx) (by omega)
  have Ba : Hid (A < 4294967296 ^ 48) := by have := ba'; rw [wpow] at this; exact this
  have CFa := hide (fun W (r : Rep W ga ba oa ca us) => from_toom W ga ba oa ca n A us hla (by omega) r dx hva)
  have HXL := hide hla
  have HEA := hide hva
  have La : Hid (0 < us.length → ba < w.heap.size) := fun h => rA.lt h
  clear hva hla
  obtain ⟨D, hvb⟩ : ∃ k, k = wval vs := ⟨_, rfl⟩
  have bb' : D < 18446744073709551616 ^ 24 := by rw [hvb]; exact pow_up (wval_lt_pow dy) (by omega)
  have Bb : Hid (D < 4294967296 ^ 48) := by have := bb'; rw [wpow] at this; exact this
  have CFb := hide (fun W (r : Rep W gb bb ob cb vs) => from_toom W gb bb ob cb m D vs hlb (by omega) r dy hvb)
  have HYL := hide hlb
  have HED := hide hvb
  have Lb : Hid (0 < vs.length → bb < w.heap.size) := fun h => rB.lt h
  clear hvb hlb
  have HPR : Hid (A * D < 18446744073709551616 ^ (24 + 24)) := by have := Nat.mul_lt_mul'' ba' bb'; rwa [← Nat.pow_add] at this
  clear ba' bb'
  have bl := Below.refl w.heap.size w
  have CN := hide (fun w ob => tNew_box SN T w ob)
  unfold Tab.val at CN ⊢
  go_enter Try.func8, Try.ntmps8
  go_wp2_with fail
  refine (unhide Ca _).mono ?_
  rintro e wca ⟨rfl, rfl⟩
  clear Ca
  go_wp2_with fail
  refine (unhide Cb _).mono ?_
  rintro e wcb ⟨rfl, rfl⟩
  clear Cb
  go_wp2_with fail
  refine (unhide CN _ _).mono ?_
  rintro e w1 ⟨gt, gk, ge, g, rfl, K, ht, hk, he, hg, b⟩
  have rA := rA.next b
  have rB := rB.next b
  have bl := bstep bl b
  clear b CN
  have CW := hide (toomWakes_any SN S3 S4)
  have HSB := hide SB
  have Na : Hid (0 < us.length → ba ≠ g) := fun h => by have := unhide La h; omega
  have Nb : Hid (0 < vs.length → bb ≠ g) := fun h => by have := unhide Lb h; omega
  have HG := hide hg
  clear SN S3 S4 SB La Lb
  go_wp2_with fail
  refine (unhide CFa _ rA).mono ?_
  rintro e w2 ⟨v1, rfl, n1, b⟩
  have rA := rA.next b
  have rB := rB.next b
  have K := K.next b
  have bl := bstep bl b
  clear b
  go_wp2_with fail
  refine (unhide CFb _ rB).mono ?_
  rintro e w3 ⟨v2, rfl, n2, b⟩
  have n1 := n1.next b
  have rA := rA.next b
  have rB := rB.next b
  have K := K.next b
  have bl := bstep bl b
  clear b
  go_wp2_with fail
  refine (mul_any _ v1 v2 A D 48 (by omega) (unhide Ba) (unhide Bb) n1 n2).mono ?_
  rintro e w4 ⟨v3, rfl, n3, b⟩
  clear n1 n2
  have rA := rA.next b
  have rB := rB.next b
  have K := K.next b
  have bl := bstep bl b
  clear b CFa CFb
  have CB := hide (unhide HSB w4 gk ge g 0 0 0 T ga gb ba oa ca n bb ob cb m us vs K.kara (by decide) (by decide) (by decide) (by decide) (unhide HXL) rA dx (unhide HYL) rB dy (by omega) (by omega))
  rw [← unhide HEA, ← unhide HED] at CB
  have cT := K.ptr
  clear HSB
  go_wp2_with fail
  refine (unhide CB).mono ?_
  rintro e w5 ⟨p, s5, m5, rfl, np, K5, hD, hs0, hs1⟩
  have n3x := K.kara.eng.isN hD.grown n3
  have K := K.kept hD K5
  have n3 := n3x
  clear n3x
  have rA := hD.rep rA (fun h0 (e : ba = g) => unhide Na h0 e)
  have rB := hD.rep rB (fun h0 (e : bb = g) => unhide Nb h0 e)
  have bl := bl.trans (hD.below (B := w.heap.size) bl.size (fun k (hk : k = g) => by rw [hk]; exact unhide HG))
  clear CB hD K5 cT
  go_wp2_with fail
  refine (same_new _ _ _ _ _ (24 + 24) (by omega) (unhide HPR) n3 np).mono ?_
  rintro e w6 ⟨rfl, b⟩
  have n3 := n3.next b
  have rA := rA.next b
  have rB := rB.next b
  have K := K.next b
  have bl := bstep bl b
  clear b np
  have hnm : n * m ≤ 576 := Nat.mul_le_mul (show n ≤ 24 by omega) (show m ≤ 24 by omega)
  have hPi : ((n * m : Nat) : Int) ≤ 576 := by omega
  have ia : InG g w6 (.slice ga n ca) A n := ⟨ga, ba, oa, ca, us, rfl, unhide HXL, rA, dx, (unhide HEA).symm, by have := unhide Na; rw [unhide HXL] at this; exact this⟩
  have ib : InG g w6 (.slice gb m cb) D m := ⟨gb, bb, ob, cb, vs, rfl, unhide HYL, rB, dy, (unhide HED).symm, by have := unhide Nb; rw [unhide HYL] at this; exact this⟩
  have CM := hide (schoolMul_t K.kara.eng _ _ A D n m ia ib (by omega) (by omega) (by omega) (by omega))
  have cT := K.ptr
  have cK := K.kara.ptr
  clear ia ib
  go_wp2_with fail
  refine (unhide CM).mono ?_
  rintro e w7 ⟨p, rfl, np, E, T2⟩
  have n3 := K.kara.eng.isN T2.grown n3
  have K := K.step E.met T2
  have rA := rA.but T2.grown (unhide Na)
  have rB := rB.but T2.grown (unhide Nb)
  have bl := below_grown bl T2.grown (unhide HG) bl.size
  clear CM E T2 cT cK
  go_wp2_with fail
  refine (same_new _ _ _ _ _ (24 + 24) (by omega) (unhide HPR) n3 np).mono ?_
  rintro e w8 ⟨rfl, b⟩
  have n3 := n3.next b
  have rA := rA.next b
  have rB := rB.next b
  have K := K.next b
  have bl := bstep bl b
  clear b np
  have ia : InG g w8 (.slice ga n ca) A n := ⟨ga, ba, oa, ca, us, rfl, unhide HXL, rA, dx, (unhide HEA).symm, by have := unhide Na; rw [unhide HXL] at this; exact this⟩
  have ib : InG g w8 (.slice gb m cb) D m := ⟨gb, bb, ob, cb, vs, rfl, unhide HYL, rB, dy, (unhide HED).symm, by have := unhide Nb; rw [unhide HYL] at this; exact this⟩
  have CM := hide (schoolMul_t K.kara.eng _ _ D A m n ib ia (by omega) (by omega) (by omega) (by omega))
  rw [Nat.mul_comm D A] at CM
  have cT := K.ptr
  have cK := K.kara.ptr
  clear ia ib
  go_wp2_with fail
  refine (unhide CM).mono ?_
  rintro e w9 ⟨p, rfl, np, E, T2⟩
  have n3 := K.kara.eng.isN T2.grown n3
  have K := K.step E.met T2
  have rA := rA.but T2.grown (unhide Na)
  have rB := rB.but T2.grown (unhide Nb)
  have bl := below_grown bl T2.grown (unhide HG) bl.size
  clear CM E T2 cT cK
  go_wp2_with fail
  refine (same_new _ _ _ _ _ (24 + 24) (by omega) (unhide HPR) n3 np).mono ?_
  rintro e w10 ⟨rfl, b⟩
  have n3 := n3.next b
  have rA := rA.next b
  have rB := rB.next b
  have K := K.next b
  have bl := bstep bl b
  clear b np
  go_wp2_with fail
  refine (unhide CW _).mono ?_
  rintro e w11 ⟨rfl, b⟩
  have bl := bstep bl b
  go_wp2
  go_ret
  exact ⟨rfl, bl⟩

end Go.Proofs.Yteinonbijiokmaa
