/- RecipBounds: what the law's walk comes to, once the code is what the document asks. Written by gen_recip.py. -/
import Derived.Test.YtpcfghnenhnlpaaGreatDoorB39
import Derived.Test.YtpcfghnenhnlpaaGreatDoorB12
import Derived.Test.YtpcfghnenhnlpaaGreatDoorB14
import Derived.Test.YtpcfghnenhnlpaaGreatDoorB5
import Derived.Test.YtpcfghnenhnlpaaGreatDoorB3
namespace Go.Proofs.YtpcfghnenhnlpaaGreatDoor
open Go.RowKit

set_option maxRecDepth 100000 in
set_option maxHeartbeats 12800000 in
theorem recipBounds_any (SN : SpecRNew) (SR : SpecRecip) (T : Tab) (gb : Option Addr) (bb ob cb lb : Nat) (ys : List Nat) (w : World) (hys : ys.length = lb) (HrB : Rep w gb bb ob cb ys) (kys : ∀ j, ys.getD j 0 < 18446744073709551616) (z : Int) (hz1 : -9223372036854775808 ≤ z) (hz2 : z ≤ 9223372036854775807) (hT : TB w) :
    Calls Tryz.prog 5 #[T.val, .slice gb lb cb, .int .i64 z] w fun e w' => e = .returned (.bool true) ∧ Below w.heap.size w w' := by
  obtain ⟨m, hcb⟩ : ∃ k, k = min lb 60 := ⟨_, rfl⟩
  have Cb : Hid (∀ w, Calls Tryz.prog 7 #[.slice gb lb cb, .int .i64 60] w fun e w' => e = .returned (.slice gb m cb) ∧ w' = w) := fun w => cut_any w gb lb cb 60 m (by have := HrB.room; omega) (by omega) hcb
  obtain ⟨hlb, rB⟩ := cut_rep HrB 60 m (by rw [hys]; exact hcb)
  have dy : WDig (ys.take m) := take_words kys m
  have hmb : m ≤ 60 := by omega
  clear hcb HrB kys hys
  generalize ys.take m = vs at *
  obtain ⟨D, hvb⟩ : ∃ k, k = wval vs := ⟨_, rfl⟩
  have LD : Hid (D < 18446744073709551616 ^ 60) := by show _ < _; rw [hvb]; exact pow_up (wval_lt_pow dy) (by omega)
  have BD : Hid (D < 4294967296 ^ 120) := by have := unhide LD; rw [wpow] at this; exact this
  have CFb := hide (fun W (r : Rep W gb bb ob cb vs) => from_recip W gb bb ob cb m D vs hlb (by omega) r dy hvb)
  have wlD : wl D ≤ 60 := by rw [hvb]; exact Nat.le_trans (wl_le_len dy) (by omega)
  have HLb := hide hlb
  have HEb := hide hvb
  clear hvb hlb
  have bl := Below.refl w.heap.size w
  rcases Nat.eq_zero_or_pos D with hD0 | h0
  case inl =>
    subst hD0
    have b0 : Below w.heap.size w (w.alloc (.cells #[.int .i64 T.b, .int .i64 T.t, .int .i64 T.n, .int .i64 T.d, .int .i64 T.r, .int .i64 T.l, .int .i64 T.x, .int .i64 T.p, .int .i64 T.k, .int .i64 T.s, .int .i64 T.e] 23)) := (Below.refl _ _).alloc (Nat.le_refl _) _
    have tA := tabAt_new w T 23
    obtain ⟨W1, hW1⟩ : ∃ W, w.alloc (.cells #[.int .i64 T.b, .int .i64 T.t, .int .i64 T.n, .int .i64 T.d, .int .i64 T.r, .int .i64 T.l, .int .i64 T.x, .int .i64 T.p, .int .i64 T.k, .int .i64 T.s, .int .i64 T.e] 23) = W := ⟨_, rfl⟩
    rw [hW1] at b0 tA
    obtain ⟨P0, hP0⟩ : ∃ P, w.heap.size = P := ⟨_, rfl⟩
    rw [hP0] at tA
    have lP : P0 < W1.heap.size := tA.lt
    have HT := hide hT
    clear hT
    have rB := rB.next b0
    have bl := bstep bl b0
    clear b0
    have CN := hide (fun W => SN T W)
    have CK := hide (fun W h => recipWakes_any SN SR W h)
    have HR := hide SR
    clear SN SR
    unfold Tab.val at CN ⊢
    go_enter Tryz.func5, Tryz.ntmps5
    go_wp2_with fail
    refine (unhide Cb _).mono ?_
    rintro e wcb ⟨rfl, rfl⟩
    clear Cb
    have tX0 := tA
    obtain ⟨p0, p1, p2, p3, p4, p5, p6, p7, p8, p9, p10⟩ := tX0
    go_wp2_with fail
    refine (unhide CN _).mono ?_
    rintro e w1 ⟨gr, gd, gm, gt, gk, ge, g, rfl, E, hn, b⟩
    clear p0 p1 p2 p3 p4 p5 p6 p7 p8 p9 p10
    have hg : w.heap.size ≤ g := by omega
    clear hn tA lP CN
    have rB := rB.next b
    have bl := bstep bl b
    clear b
    have CZ := hide (zero_in (inM_rep rB dy (unhide HLb) (unhide HEb) (by omega)).inW true (by simp))
    go_wp2_with fail
    refine (unhide CZ).mono ?_
    rintro e wz ⟨rfl, hw⟩
    obtain rfl := hw.symm
    clear hw CZ
    go_wp2_with fail
    refine (unhide CK _ ((unhide HT).next bl)).mono ?_
    rintro e w2 ⟨rfl, b⟩
    have bl := bstep bl b
    clear b
    go_wp2
    go_ret
    exact ⟨rfl, bl⟩
  case inr =>
    obtain ⟨k, hk⟩ : ∃ k : Nat, (k : Int) = z % 9000 := ⟨(z % 9000).toNat, by omega⟩
    have hk2 : k < 9000 := by omega
    have CIn := hide (fun W => within_any z 9000 W hz1 hz2 (by omega) (by omega))
    rw [← hk] at CIn
    obtain ⟨P, hP⟩ : ∃ P, P = 2 ^ k := ⟨_, rfl⟩
    have LP : Hid (P < 18446744073709551616 ^ 141) := by show _ < _; rw [hP]; exact two_pow_lt (by omega)
    obtain ⟨Q, hQ⟩ : ∃ Q, Q = P / D := ⟨_, rfl⟩
    have hQ1 : Q * D ≤ P := by rw [hQ]; exact Nat.div_mul_le_self _ _
    have hQ2 : P < Q * D + D := by have := Nat.lt_div_mul_add h0 (a := P); rw [← hQ] at this; exact this
    have LQ : Hid (Q < 18446744073709551616 ^ 141) := by show _ < _; rw [hQ]; exact Nat.lt_of_le_of_lt (Nat.div_le_self _ _) (unhide LP)
    obtain ⟨L, hL⟩ : ∃ L, L = 2 * 141 := ⟨_, rfl⟩
    have hLb : L ≤ 1000 := by omega
    have LQ2 : Hid (Q < 4294967296 ^ L) := by have := unhide LQ; rw [wpow, ← hL] at this; exact this
    have LD2 : Hid (D < 4294967296 ^ L) := Nat.lt_of_lt_of_le (unhide BD) (Nat.pow_le_pow_right (by omega) (by omega))
    have LP2 : Hid (P < 4294967296 ^ (L + 1)) := Nat.lt_of_lt_of_le (by have := unhide LP; rw [wpow, ← hL] at this; exact this) (Nat.pow_le_pow_right (by omega) (by omega))
    have LQD : Hid (Q * D < 4294967296 ^ (L + 1)) := Nat.lt_of_le_of_lt hQ1 (unhide LP2)
    have LD3 : Hid (D < 4294967296 ^ (L + 1)) := Nat.lt_of_lt_of_le (unhide LD2) (Nat.pow_le_pow_right (by omega) (by omega))
    have LS : Hid (Q * D + D < 4294967296 ^ (L + 2)) := by
      have h1 := unhide LQD
      have h2 := unhide LD3
      show _ < _
      rw [show L + 2 = L + 1 + 1 from rfl, Nat.pow_succ]
      omega
    have LP4 : Hid (P < 4294967296 ^ (L + 2)) := Nat.lt_of_lt_of_le (unhide LP2) (Nat.pow_le_pow_right (by omega) (by omega))
    clear hL
    obtain ⟨c1, hc1⟩ : ∃ c, c = cmpN (Q * D) P := ⟨_, rfl⟩
    obtain ⟨c2, hc2⟩ : ∃ c, c = cmpN (Q * D + D) P := ⟨_, rfl⟩
    have g1 : c1 ≤ 0 := by rw [hc1]; rcases Nat.lt_or_ge (Q * D) P with h | h; · rw [cmpN_lt h]; decide
                           · rw [cmpN_eq (by omega)]; decide
    have g2 : c2 = 1 := by rw [hc2]; exact cmpN_gt hQ2
    have CMu : Hid (∀ W u v, IsN W u Q → IsN W v D → Calls Tryz.prog 25 #[u, v] W fun e w' => ∃ r, e = .returned r ∧ IsN w' r (Q * D) ∧ Below W.heap.size W w') := fun W u v a b => mul_any W u v Q D L (by omega) (unhide LQ2) (unhide LD2) a b
    have CAd : Hid (∀ W u v, IsN W u (Q * D) → IsN W v D → Calls Tryz.prog 23 #[u, v] W fun e w' => ∃ r, e = .returned r ∧ IsN w' r (Q * D + D) ∧ Below W.heap.size W w') := fun W u v a b => add_any W u v (Q * D) D (L + 1) (by omega) (unhide LQD) (unhide LD3) a b
    have CC1 : Hid (∀ W u v, IsN W u (Q * D) → IsN W v P → Calls Tryz.prog 21 #[u, v] W fun e w' => e = .returned (.int .i64 c1) ∧ Below W.heap.size W w') := fun W u v a b => by rw [hc1]; exact cmp_any W u v (Q * D) P (L + 1) (by omega) (unhide LQD) (unhide LP2) a b
    have CC2 : Hid (∀ W u v, IsN W u (Q * D + D) → IsN W v P → Calls Tryz.prog 21 #[u, v] W fun e w' => e = .returned (.int .i64 c2) ∧ Below W.heap.size W w') := fun W u v a b => by rw [hc2]; exact cmp_any W u v (Q * D + D) P (L + 2) (by omega) (unhide LS) (unhide LP4) a b
    have CPw := hide (fun W => power_any2 W k P (by omega) hP)
    rw [g2] at CC2
    have HQ := hide hQ
    have HP := hide hP
    have H0 := hide h0
    have g1' : decide (c1 ≤ 0) = true := by simp; omega
    have kb : (k : Int) < 9000 := by omega
    generalize hX : Q * D = X at *
    generalize hY : X + D = Y at *
    clear hk hz1 hz2 hQ hP hc1 hc2 g2 hQ1 hQ2 hX hY
    have b0 : Below w.heap.size w (w.alloc (.cells #[.int .i64 T.b, .int .i64 T.t, .int .i64 T.n, .int .i64 T.d, .int .i64 T.r, .int .i64 T.l, .int .i64 T.x, .int .i64 T.p, .int .i64 T.k, .int .i64 T.s, .int .i64 T.e] 23)) := (Below.refl _ _).alloc (Nat.le_refl _) _
    have tA := tabAt_new w T 23
    obtain ⟨W1, hW1⟩ : ∃ W, w.alloc (.cells #[.int .i64 T.b, .int .i64 T.t, .int .i64 T.n, .int .i64 T.d, .int .i64 T.r, .int .i64 T.l, .int .i64 T.x, .int .i64 T.p, .int .i64 T.k, .int .i64 T.s, .int .i64 T.e] 23) = W := ⟨_, rfl⟩
    rw [hW1] at b0 tA
    obtain ⟨P0, hP0⟩ : ∃ P, w.heap.size = P := ⟨_, rfl⟩
    rw [hP0] at tA
    have lP : P0 < W1.heap.size := tA.lt
    have HT := hide hT
    clear hT
    have rB := rB.next b0
    have bl := bstep bl b0
    clear b0
    have CN := hide (fun W => SN T W)
    have CK := hide (fun W h => recipWakes_any SN SR W h)
    have HR := hide SR
    clear SN SR
    unfold Tab.val at CN ⊢
    go_enter Tryz.func5, Tryz.ntmps5
    go_wp2_with fail
    refine (unhide Cb _).mono ?_
    rintro e wcb ⟨rfl, rfl⟩
    clear Cb
    have tX0 := tA
    obtain ⟨p0, p1, p2, p3, p4, p5, p6, p7, p8, p9, p10⟩ := tX0
    go_wp2_with fail
    refine (unhide CN _).mono ?_
    rintro e w1 ⟨gr, gd, gm, gt, gk, ge, g, rfl, E, hn, b⟩
    clear p0 p1 p2 p3 p4 p5 p6 p7 p8 p9 p10
    have hg : w.heap.size ≤ g := by omega
    clear hn tA lP CN
    have rB := rB.next b
    have bl := bstep bl b
    clear b
    have hD0 : ¬ D = 0 := by have := unhide H0; omega
    have CZ := hide (zero_in (inM_rep rB dy (unhide HLb) (unhide HEb) (by omega)).inW false (by simp; omega))
    go_wp2_with fail
    refine (unhide CZ).mono ?_
    rintro e wz ⟨rfl, hw⟩
    obtain rfl := hw.symm
    clear hw CZ
    go_wp2_with fail
    refine (unhide CIn _).mono ?_
    rintro e wi ⟨rfl, rfl⟩
    have CR := hide (unhide HR _ gr gd gm gt gk ge g 0 0 0 T _ D k E ((unhide HT).next bl) (by decide) (by decide) (by decide) (by decide) (inM_rep rB dy (unhide HLb) (unhide HEb) (by omega)) (unhide H0) (by omega) (by omega))
    rw [← unhide HP, ← unhide HQ] at CR
    clear CIn HR
    go_wp2_with fail
    refine (unhide CR).mono ?_
    rintro e w2 ⟨v, gq, s', m', rfl, nv, hgq, E2, _, o⟩
    clear CR
    have rB := E.rep o rB
    have bl := bl.trans (o.below (B := w.heap.size) bl.size (fun k hk => by rw [hk]; exact hg))
    have E := E2
    clear o E2
    have nv := nv.toW
    clear hgq E
    obtain ⟨va, vl, vc, rfl⟩ := nv.shape
    go_wp2_with fail
    refine (from_newr _ _ _ _ 141 (by omega) (unhide LQ) nv).mono ?_
    rintro e w3 ⟨v1, rfl, n1, b⟩
    clear nv
    have rB := rB.next b
    have bl := bstep bl b
    clear b
    go_wp2_with fail
    refine (unhide CFb _ rB).mono ?_
    rintro e w4 ⟨v2, rfl, n2, b⟩
    have rB := rB.next b
    have n1 := n1.next b
    have bl := bstep bl b
    clear b
    go_wp2_with fail
    refine (unhide CMu _ _ _ n1 n2).mono ?_
    rintro e w5 ⟨v3, rfl, n3, b⟩
    clear n1 n2
    have rB := rB.next b
    have bl := bstep bl b
    clear b
    go_wp2_with fail
    refine (unhide CPw _).mono ?_
    rintro e w6 ⟨v4, rfl, n4, b⟩
    have rB := rB.next b
    have n3 := n3.next b
    have bl := bstep bl b
    clear b
    go_wp2_with fail
    refine (unhide CC1 _ _ _ n3 n4).mono ?_
    rintro e w7 ⟨rfl, b⟩
    clear n4
    have rB := rB.next b
    have n3 := n3.next b
    have bl := bstep bl b
    clear b
    go_wp2_with fail
    refine (unhide CFb _ rB).mono ?_
    rintro e w8 ⟨v5, rfl, n5, b⟩
    have rB := rB.next b
    have n3 := n3.next b
    have bl := bstep bl b
    clear b
    go_wp2_with fail
    refine (unhide CAd _ _ _ n3 n5).mono ?_
    rintro e w9 ⟨v6, rfl, n6, b⟩
    clear n3 n5
    have rB := rB.next b
    have bl := bstep bl b
    clear b
    go_wp2_with fail
    refine (unhide CPw _).mono ?_
    rintro e w10 ⟨v7, rfl, n7, b⟩
    have rB := rB.next b
    have n6 := n6.next b
    have bl := bstep bl b
    clear b
    go_wp2_with fail
    refine (unhide CC2 _ _ _ n6 n7).mono ?_
    rintro e w11 ⟨rfl, b⟩
    clear n6 n7
    have rB := rB.next b
    have bl := bstep bl b
    clear b
    go_wp2_with fail
    refine (unhide CK _ ((unhide HT).next bl)).mono ?_
    rintro e w12 ⟨rfl, b⟩
    have bl := bstep bl b
    clear b
    go_wp2
    go_ret
    exact ⟨rfl, bl⟩

end Go.Proofs.YtpcfghnenhnlpaaGreatDoor
