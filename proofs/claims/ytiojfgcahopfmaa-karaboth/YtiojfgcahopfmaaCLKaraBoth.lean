/- KaraBoth: what the law's walk comes to, once the code's Both is what the document asks. -/
import Derived.Test.YtiojfgcahopfmaaM9
import Derived.Test.YtiojfgcahopfmaaM5
namespace Go.Proofs.Ytiojfgcahopfmaa
open Go.RowKit

set_option maxRecDepth 100000 in
set_option maxHeartbeats 12800000 in
theorem karaBoth_any (SN : SpecKNew) (SK : SpecKara) (SB : SpecBoth) (T : Tab) (ga : Option Addr) (ba oa ca la : Nat) (xs : List Nat) (gb : Option Addr) (bb ob cb lb : Nat) (ys : List Nat) (w : World) (hx : xs.length = la) (hA : Rep w ga ba oa ca xs) (wx : ∀ j, xs.getD j 0 < 18446744073709551616) (hy : ys.length = lb) (hB : Rep w gb bb ob cb ys) (wy : ∀ j, ys.getD j 0 < 18446744073709551616) :
    Calls Try.prog 5 #[T.val, .slice ga la ca, .slice gb lb cb] w fun e w' => e = .returned (.bool true) ∧ Below w.heap.size w w' := by
  obtain ⟨n, hca⟩ : ∃ k, k = min la 60 := ⟨_, rfl⟩
  have Ca : Hid (∀ w, Calls Try.prog 8 #[.slice ga la ca, .int .i64 60] w fun e w' => e = .returned (.slice ga n ca) ∧ w' = w) := fun w => cut_any w ga la ca 60 n (by have := hA.room; omega) (by omega) hca
  obtain ⟨hla, rA⟩ := cut_rep hA 60 n (by rw [hx]; exact hca)
  have dx : WDig (xs.take n) := take_words wx n
  have hma : n ≤ 60 := by omega
  obtain ⟨m, hcb⟩ : ∃ k, k = min lb 60 := ⟨_, rfl⟩
  have Cb : Hid (∀ w, Calls Try.prog 8 #[.slice gb lb cb, .int .i64 60] w fun e w' => e = .returned (.slice gb m cb) ∧ w' = w) := fun w => cut_any w gb lb cb 60 m (by have := hB.room; omega) (by omega) hcb
  obtain ⟨hlb, rB⟩ := cut_rep hB 60 m (by rw [hy]; exact hcb)
  have dy : WDig (ys.take m) := take_words wy m
  have hmb : m ≤ 60 := by omega
  clear hca hA wx hx hcb hB wy hy
  generalize xs.take n = us at *
  generalize ys.take m = vs at *
  obtain ⟨A, hva⟩ : ∃ k, k = wval us := ⟨_, rfl⟩
  have ba' : A < 18446744073709551616 ^ 60 := by rw [hva]; exact pow_up (wval_lt_pow dx) (by omega)
  have Ba : Hid (A < 4294967296 ^ 120) := by have := ba'; rw [wpow] at this; exact this
  have CFa := hide (fun W (r : Rep W ga ba oa ca us) => from_kara W ga ba oa ca n A us hla (by omega) r dx hva)
  have HXL := hide hla
  have HEA := hide hva
  have La : Hid (0 < us.length → ba < w.heap.size) := fun h => rA.lt h
  clear hva hla
  obtain ⟨D, hvb⟩ : ∃ k, k = wval vs := ⟨_, rfl⟩
  have bb' : D < 18446744073709551616 ^ 60 := by rw [hvb]; exact pow_up (wval_lt_pow dy) (by omega)
  have Bb : Hid (D < 4294967296 ^ 120) := by have := bb'; rw [wpow] at this; exact this
  have CFb := hide (fun W (r : Rep W gb bb ob cb vs) => from_kara W gb bb ob cb m D vs hlb (by omega) r dy hvb)
  have HYL := hide hlb
  have HED := hide hvb
  have Lb : Hid (0 < vs.length → bb < w.heap.size) := fun h => rB.lt h
  clear hvb hlb
  have HPR : Hid (A * D < 18446744073709551616 ^ (60 + 60)) := by have := Nat.mul_lt_mul'' ba' bb'; rwa [← Nat.pow_add] at this
  clear ba' bb'
  obtain ⟨F, hF⟩ : ∃ F, F = 6148914691236517205 := ⟨_, rfl⟩
  have HF := hide hF
  clear hF
  have bl := Below.refl w.heap.size w
  have CN := hide (fun w ob => kNew_box SN T w ob)
  unfold Tab.val at CN ⊢
  have hmf : ∀ (fn : Fn) (first cap : Array Value) (w : World), (Instr.makeFunc fn first cap).run Try.prog w = .ok (.func fn first cap) w := fun _ _ _ _ => rfl
  go_enter Try.func5, Try.ntmps5
  go_wp2_with fail
  refine (unhide Ca _).mono ?_
  rintro e wca ⟨rfl, rfl⟩
  clear Ca
  go_wp2_with fail
  refine (unhide Cb _).mono ?_
  rintro e wcb ⟨rfl, rfl⟩
  clear Cb
  go_wp2_with fail
  refine (unhide CN _ _).mono ?_
  rintro e w1 ⟨gk, ge, g, rfl, K, hk, he, hg, b⟩
  have rA := rA.next b
  have rB := rB.next b
  have bl := bstep bl b
  have lg := K.eng.met.lt
  clear b CN
  go_wp2_with fail
  refine (lend_any _ ga ba oa ca n us (unhide HXL) (by omega) rA F (unhide HF)).mono ?_
  rintro e w4 ⟨rfl, o4, b⟩
  obtain ⟨r4, t4⟩ := lent_rep o4 (unhide HXL)
  have l4 : w1.heap.size < w4.heap.size := t4.lt (by simp)
  have rA := rA.next b
  have rB := rB.next b
  have K := K.next b
  have bl := bstep bl b
  clear b o4
  go_wp2_with fail
  refine (lend_any _ gb bb ob cb m vs (unhide HYL) (by omega) rB F (unhide HF)).mono ?_
  rintro e w5 ⟨rfl, o5, b⟩
  obtain ⟨r5, t5⟩ := lent_rep o5 (unhide HYL)
  have l5 : w4.heap.size < w5.heap.size := t5.lt (by simp)
  have rA := rA.next b
  have rB := rB.next b
  have K := K.next b
  have r4 := r4.next b
  have t4 := t4.next b
  have bl := bstep bl b
  clear b o5
  obtain ⟨X, hX⟩ : ∃ X, w1.heap.size = X := ⟨_, rfl⟩
  obtain ⟨Y, hY⟩ : ∃ Y, w4.heap.size = Y := ⟨_, rfl⟩
  obtain ⟨S5, hS5⟩ : ∃ S5, w5.heap.size = S5 := ⟨_, rfl⟩
  rw [hX] at r4 t4 l4 lg
  rw [hY] at r5 t5 l4 l5
  rw [hS5] at l5
  have hsw : w.heap.size ≤ S5 := by rw [← hS5]; exact bl.size
  have CB := hide (SB w5 gk ge g 0 0 0 T (some ⟨X, 0, none⟩) (some ⟨Y, 0, none⟩) X 0 (n + 4) n Y 0 (m + 4) m us vs K (by decide) (by decide) (by decide) (by decide) (unhide HXL) r4 dx (unhide HYL) r5 dy hma hmb)
  rw [← unhide HEA, ← unhide HED, hS5] at CB
  have CW := hide (karaWakes_any SN SK)
  clear r4 r5 K SN SK SB
  go_wp2_with fail
  refine (unhide CB).mono ?_
  rintro e w8 ⟨v, s', m', rfl, nv, K, hD, _⟩
  have rA := hD.rep rA (fun h0 => by have := unhide La h0; show ¬ ba = g; omega)
  have rB := hD.rep rB (fun h0 => by have := unhide Lb h0; show ¬ bb = g; omega)
  have t4 := hD.rep t4 (fun _ => by show ¬ X = g; omega)
  have t5 := hD.rep t5 (fun _ => by show ¬ Y = g; omega)
  have bl := bl.trans (hD.below (B := w.heap.size) bl.size (fun k (hk : k = g) => by omega))
  clear CB hD
  go_wp2_with fail
  refine (unhide CFa _ rA).mono ?_
  rintro e w9 ⟨v1, rfl, n1, b⟩
  have rA := rA.next b
  have rB := rB.next b
  have t4 := t4.next b
  have t5 := t5.next b
  have K := K.next b
  have nv := nv.next b
  have bl := bstep bl b
  clear b
  go_wp2_with fail
  refine (unhide CFb _ rB).mono ?_
  rintro e w10 ⟨v2, rfl, n2, b⟩
  have n1 := n1.next b
  have rA := rA.next b
  have rB := rB.next b
  have t4 := t4.next b
  have t5 := t5.next b
  have K := K.next b
  have nv := nv.next b
  have bl := bstep bl b
  clear b
  go_wp2_with fail
  refine (mul_any _ v1 v2 A D 120 (by omega) (unhide Ba) (unhide Bb) n1 n2).mono ?_
  rintro e w11 ⟨v3, rfl, n3, b⟩
  clear n1 n2
  have rA := rA.next b
  have rB := rB.next b
  have t4 := t4.next b
  have t5 := t5.next b
  have K := K.next b
  have nv := nv.next b
  have bl := bstep bl b
  clear b
  go_wp2_with fail
  refine (same_new _ _ _ S5 _ 120 (by omega) (unhide HPR) n3 nv).mono ?_
  rintro e w12 ⟨rfl, b⟩
  clear n3
  have rA := rA.next b
  have rB := rB.next b
  have t4 := t4.next b
  have t5 := t5.next b
  have K := K.next b
  have nv := nv.next b
  have bl := bstep bl b
  clear b
  have cK := K.ptr
  have cE := K.eng.ptr
  go_wp2_with fail
  refine (now_any K.eng.met).mono ?_
  rintro e w13 ⟨rfl, hw⟩
  obtain rfl := hw.symm
  clear hw cK cE
  go_wp2_with fail
  refine (spoil_new _ _ _ _ nv).mono ?_
  rintro e w14 ⟨rfl, gs, hgs, g9, _⟩
  have bl := below_grown bl g9 (Nat.le_trans hsw hgs) bl.size
  have rA := rA.but g9 (fun h0 => by have := unhide La h0; omega)
  have rB := rB.but g9 (fun h0 => by have := unhide Lb h0; omega)
  have t4 := t4.but g9 (fun _ => by omega)
  have t5 := t5.but g9 (fun _ => by omega)
  clear nv g9 K
  go_wp2_with fail
  refine (intact_any _ ga X ba oa ca n us (unhide HXL) (by omega) rA F (unhide HF) t4).mono ?_
  rintro e w15 ⟨rfl, b⟩
  have rB := rB.next b
  have t5 := t5.next b
  have bl := bstep bl b
  clear b
  go_wp2_with fail
  refine (intact_any _ gb Y bb ob cb m vs (unhide HYL) (by omega) rB F (unhide HF) t5).mono ?_
  rintro e w16 ⟨rfl, b⟩
  have bl := bstep bl b
  clear b
  go_wp2_with fail
  refine (unhide CW _).mono ?_
  rintro e w17 ⟨rfl, b⟩
  have bl := bstep bl b
  go_wp2
  go_ret
  exact ⟨rfl, bl⟩

end Go.Proofs.Ytiojfgcahopfmaa
