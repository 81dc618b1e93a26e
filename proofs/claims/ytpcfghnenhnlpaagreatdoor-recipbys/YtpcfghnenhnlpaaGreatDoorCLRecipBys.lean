/- RecipBys: what the law's walk comes to, once the code is what the document asks. Written by gen_recip.py. -/
import Derived.Test.YtpcfghnenhnlpaaGreatDoorB39
import Derived.Test.YtpcfghnenhnlpaaGreatDoorB25
import Derived.Test.YtpcfghnenhnlpaaGreatDoorB12
import Derived.Test.YtpcfghnenhnlpaaGreatDoorB14
import Derived.Test.YtpcfghnenhnlpaaGreatDoorB5
import Derived.Test.YtpcfghnenhnlpaaGreatDoorB3
namespace Go.Proofs.YtpcfghnenhnlpaaGreatDoor
open Go.RowKit

theorem inM_nil2 (w : World) : InM w (.slice none 0 0) 0 := ⟨none, 0, 0, 0, [], rfl, Rep.nil _ _ _ _ _, wDig_nil, rfl, by simp⟩

set_option maxRecDepth 100000 in
set_option maxHeartbeats 12800000 in
theorem recipBys_any (SN : SpecRNew) (SR : SpecRecip) (SB : SpecRBy) (SZ : SpecRByZero) (SA : SpecRByArg) (T : Tab) (ga : Option Addr) (ba oa ca la : Nat) (xs : List Nat) (gb : Option Addr) (bb ob cb lb : Nat) (ys : List Nat) (w : World) (hxs : xs.length = la) (HrA : Rep w ga ba oa ca xs) (kxs : ∀ j, xs.getD j 0 < 18446744073709551616) (hys : ys.length = lb) (HrB : Rep w gb bb ob cb ys) (kys : ∀ j, ys.getD j 0 < 18446744073709551616) (z : Int) (hz1 : -9223372036854775808 ≤ z) (hz2 : z ≤ 9223372036854775807) (y : Nat) (hy : y < 18446744073709551616) (hT : TB w) :
    Calls Tryz.prog 4 #[T.val, .slice ga la ca, .slice gb lb cb, .int .i64 z, .int .u64 (y : Int)] w fun e w' => e = .returned (.bool true) ∧ Below w.heap.size w w' := by
  obtain ⟨n, hca⟩ : ∃ k, k = min la 24 := ⟨_, rfl⟩
  have Ca : Hid (∀ w, Calls Tryz.prog 7 #[.slice ga la ca, .int .i64 24] w fun e w' => e = .returned (.slice ga n ca) ∧ w' = w) := fun w => cut_any w ga la ca 24 n (by have := HrA.room; omega) (by omega) hca
  obtain ⟨hla, rA⟩ := cut_rep HrA 24 n (by rw [hxs]; exact hca)
  have dx : WDig (xs.take n) := take_words kxs n
  have hma : n ≤ 24 := by omega
  clear hca HrA kxs hxs
  generalize xs.take n = us at *
  obtain ⟨m, hcb⟩ : ∃ k, k = min lb 16 := ⟨_, rfl⟩
  have Cb : Hid (∀ w, Calls Tryz.prog 7 #[.slice gb lb cb, .int .i64 16] w fun e w' => e = .returned (.slice gb m cb) ∧ w' = w) := fun w => cut_any w gb lb cb 16 m (by have := HrB.room; omega) (by omega) hcb
  obtain ⟨hlb, rB⟩ := cut_rep HrB 16 m (by rw [hys]; exact hcb)
  have dy : WDig (ys.take m) := take_words kys m
  have hmb : m ≤ 16 := by omega
  clear hcb HrB kys hys
  generalize ys.take m = vs at *
  obtain ⟨A, hva⟩ : ∃ k, k = wval us := ⟨_, rfl⟩
  have LA : Hid (A < 18446744073709551616 ^ 24) := by show _ < _; rw [hva]; exact pow_up (wval_lt_pow dx) (by omega)
  have BA : Hid (A < 4294967296 ^ 48) := by have := unhide LA; rw [wpow] at this; exact this
  have CFa := hide (fun W (r : Rep W ga ba oa ca us) => from_recip W ga ba oa ca n A us hla (by omega) r dx hva)
  have wlA : wl A ≤ 24 := by rw [hva]; exact Nat.le_trans (wl_le_len dx) (by omega)
  have HLa := hide hla
  have HEa := hide hva
  clear hva hla
  obtain ⟨D, hvb⟩ : ∃ k, k = wval vs := ⟨_, rfl⟩
  have LD : Hid (D < 18446744073709551616 ^ 16) := by show _ < _; rw [hvb]; exact pow_up (wval_lt_pow dy) (by omega)
  have BD : Hid (D < 4294967296 ^ 32) := by have := unhide LD; rw [wpow] at this; exact this
  have CFb := hide (fun W (r : Rep W gb bb ob cb vs) => from_recip W gb bb ob cb m D vs hlb (by omega) r dy hvb)
  have wlD : wl D ≤ 16 := by rw [hvb]; exact Nat.le_trans (wl_le_len dy) (by omega)
  have HLb := hide hlb
  have HEb := hide hvb
  clear hvb hlb
  have bl := Below.refl w.heap.size w
  obtain ⟨k, hk⟩ : ∃ k : Nat, (k : Int) = z % 2000 := ⟨(z % 2000).toNat, by omega⟩
  have hk2 : k < 2000 := by omega
  have CIn := hide (fun W => within_any z 2000 W hz1 hz2 (by omega) (by omega))
  rw [← hk] at CIn
  have kb : (k : Int) < 2000 := by omega
  clear hk hz1 hz2
  rcases Nat.eq_zero_or_pos D with hD0 | h0
  case inl =>
    subst hD0
    have b0 : Below w.heap.size w (w.alloc (.cells #[.int .i64 T.b, .int .i64 T.t, .int .i64 T.n, .int .i64 T.d, .int .i64 T.r, .int .i64 T.l, .int .i64 T.x, .int .i64 T.p, .int .i64 T.k, .int .i64 T.s, .int .i64 T.e] 23)) := (Below.refl _ _).alloc (Nat.le_refl _) _
    have tA := tabAt_new w T 23
    obtain ⟨W1, hW1⟩ : ∃ W, w.alloc (.cells #[.int .i64 T.b, .int .i64 T.t, .int .i64 T.n, .int .i64 T.d, .int .i64 T.r, .int .i64 T.l, .int .i64 T.x, .int .i64 T.p, .int .i64 T.k, .int .i64 T.s, .int .i64 T.e] 23) = W := ⟨_, rfl⟩
    rw [hW1] at b0 tA
    obtain ⟨P0, hP0⟩ : ∃ P, w.heap.size = P := ⟨_, rfl⟩
    rw [hP0] at tA
    have lP : P0 < W1.heap.size := tA.lt
    have HT := hide hT
    clear hT
    have rA := rA.next b0
    have rB := rB.next b0
    have bl := bstep bl b0
    clear b0
    have CN := hide (fun W => SN T W)
    have CK := hide (fun W h => recipWakes_any SN SR W h)
    have HR := hide SR
    have HB := hide SB
    have HZ := hide SZ
    have HA := hide SA
    clear SN SR SB SZ SA
    unfold Tab.val at CN ⊢
    go_enter Tryz.func4, Tryz.ntmps4
    go_wp2_with fail
    refine (unhide Ca _).mono ?_
    rintro e wca ⟨rfl, rfl⟩
    clear Ca
    go_wp2_with fail
    refine (unhide Cb _).mono ?_
    rintro e wcb ⟨rfl, rfl⟩
    clear Cb
    have tX0 := tA
    obtain ⟨p0, p1, p2, p3, p4, p5, p6, p7, p8, p9, p10⟩ := tX0
    go_wp2_with fail
    refine (unhide CN _).mono ?_
    rintro e w1 ⟨gr, gd, gm, gt, gk, ge, g, rfl, E, hn, b⟩
    clear p0 p1 p2 p3 p4 p5 p6 p7 p8 p9 p10
    have hg : w.heap.size ≤ g := by omega
    clear hn tA lP CN
    have rA := rA.next b
    have rB := rB.next b
    have bl := bstep bl b
    clear b
    go_wp2_with fail
    refine (unhide CIn _).mono ?_
    rintro e wi ⟨rfl, rfl⟩
    clear CIn
    have CZ := hide (zero_in (inM_rep rB dy (unhide HLb) (unhide HEb) (by omega)).inW true (by simp))
    go_wp2_with fail
    refine (unhide CZ).mono ?_
    rintro e wz ⟨rfl, hw⟩
    obtain rfl := hw.symm
    clear hw CZ
    have CR := hide (unhide HZ _ gr gd gm gt gk ge g 0 0 0 T _ _ _ A 0 (k : Int) E (inM_rep rA dx (unhide HLa) (unhide HEa) (by omega)) (inM_rep rB dy (unhide HLb) (unhide HEb) (by omega)) (inM_nil2 _) (by omega) (by omega))
    go_wp2_with fail
    refine (unhide CR).mono ?_
    rintro e w2 ⟨qa, qc, ra, rc, rfl, E2, b⟩
    clear CR E E2
    have rA := rA.next b
    have rB := rB.next b
    have bl := bstep bl b
    clear b
    go_wp2_with fail
    refine (unhide CK _ ((unhide HT).next bl)).mono ?_
    rintro e w3 ⟨rfl, b⟩
    have bl := bstep bl b
    clear b
    go_wp2
    go_ret
    exact ⟨rfl, bl⟩
  case inr =>
    have hD0 : ¬ D = 0 := by omega
    obtain ⟨P, hP⟩ : ∃ P, P = 2 ^ k := ⟨_, rfl⟩
    have LP : Hid (P < 18446744073709551616 ^ 32) := by show _ < _; rw [hP]; exact two_pow_lt (by omega)
    have LP2 : Hid (P < 4294967296 ^ 64) := by have := unhide LP; rw [wpow] at this; exact this
    have BA2 : Hid (A < 4294967296 ^ 64) := Nat.lt_of_lt_of_le (unhide BA) (Nat.pow_le_pow_right (by omega) (by omega))
    have BD2 : Hid (D < 4294967296 ^ 64) := Nat.lt_of_lt_of_le (unhide BD) (Nat.pow_le_pow_right (by omega) (by omega))
    obtain ⟨Q, hQ⟩ : ∃ Q, Q = P / D := ⟨_, rfl⟩
    have LQ : Hid (Q < 18446744073709551616 ^ 32) := by show _ < _; rw [hQ]; exact Nat.lt_of_le_of_lt (Nat.div_le_self _ _) (unhide LP)
    have LQ2 : Hid (Q < 4294967296 ^ 64) := by have := unhide LQ; rw [wpow] at this; exact this
    obtain ⟨X, hX⟩ : ∃ X, X = A / D := ⟨_, rfl⟩
    obtain ⟨Y, hY⟩ : ∃ Y, Y = A % D := ⟨_, rfl⟩
    have LX : Hid (X < 18446744073709551616 ^ 24) := by show _ < _; rw [hX]; exact Nat.lt_of_le_of_lt (Nat.div_le_self _ _) (unhide LA)
    have LY : Hid (Y < 18446744073709551616 ^ 24) := by show _ < _; rw [hY]; exact Nat.lt_of_le_of_lt (Nat.mod_le _ _) (unhide LA)
    have CM : Hid (∀ w u v, IsN w u A → IsN w v D → Calls Tryz.prog 14 #[u, v] w fun e w' => ∃ q r, e = .returned (.tuple #[q, r]) ∧ IsN w' q X ∧ IsN w' r Y ∧ Below w.heap.size w w') := fun w u v h1 h2 => by rw [hX, hY]; exact divmod_any w u v A D 64 (by omega) (unhide BA2) (unhide BD2) h0 h1 h2
    have CPw := hide (fun W => power_any2 W k P (by omega) hP)
    have CSm := hide (fun W => small_any (y : Int) (by omega) (by omega) W)
    simp only [Int.toNat_natCast] at CSm
    have Ly : Hid (y < 4294967296 ^ 64) := Nat.lt_of_lt_of_le hy (by rw [show (64 : Nat) = 2 + 62 from rfl, Nat.pow_add]; exact Nat.le_mul_of_pos_right _ (Nat.pow_pos (by omega)))
    have LV : Hid (Q + y < 18446744073709551616 ^ 33) := by
      have h1 := unhide LQ
      have h2 : y < 18446744073709551616 ^ 32 := Nat.lt_of_lt_of_le hy (by rw [show (32 : Nat) = 1 + 31 from rfl, Nat.pow_add]; exact Nat.le_mul_of_pos_right _ (Nat.pow_pos (by omega)))
      show _ < _
      rw [show (33 : Nat) = 32 + 1 from rfl, Nat.pow_succ]
      omega
    have CAd : Hid (∀ W u v, IsN W u Q → IsN W v y → Calls Tryz.prog 23 #[u, v] W fun e w' => ∃ r, e = .returned r ∧ IsN w' r (Q + y) ∧ Below W.heap.size W w') := fun W u v a b => add_any W u v Q y 64 (by omega) (unhide LQ2) (unhide Ly) a b
    obtain ⟨c1, hc1⟩ : ∃ c, c = cmpN A P := ⟨_, rfl⟩
    have CC1 : Hid (∀ W u v, IsN W u A → IsN W v P → Calls Tryz.prog 21 #[u, v] W fun e w' => e = .returned (.int .i64 c1) ∧ Below W.heap.size W w') := fun W u v a b => by rw [hc1]; exact cmp_any W u v A P 64 (by omega) (unhide BA2) (unhide LP2) a b
    have HQ := hide hQ
    have HP := hide hP
    have HX := hide hX
    have HY := hide hY
    have H0 := hide h0
    have HC1 := hide hc1
    clear hQ hP hX hY hc1
    have b0 : Below w.heap.size w (w.alloc (.cells #[.int .i64 T.b, .int .i64 T.t, .int .i64 T.n, .int .i64 T.d, .int .i64 T.r, .int .i64 T.l, .int .i64 T.x, .int .i64 T.p, .int .i64 T.k, .int .i64 T.s, .int .i64 T.e] 23)) := (Below.refl _ _).alloc (Nat.le_refl _) _
    have tA := tabAt_new w T 23
    obtain ⟨W1, hW1⟩ : ∃ W, w.alloc (.cells #[.int .i64 T.b, .int .i64 T.t, .int .i64 T.n, .int .i64 T.d, .int .i64 T.r, .int .i64 T.l, .int .i64 T.x, .int .i64 T.p, .int .i64 T.k, .int .i64 T.s, .int .i64 T.e] 23) = W := ⟨_, rfl⟩
    rw [hW1] at b0 tA
    obtain ⟨P0, hP0⟩ : ∃ P, w.heap.size = P := ⟨_, rfl⟩
    rw [hP0] at tA
    have lP : P0 < W1.heap.size := tA.lt
    have HT := hide hT
    clear hT
    have rA := rA.next b0
    have rB := rB.next b0
    have bl := bstep bl b0
    clear b0
    have CN := hide (fun W => SN T W)
    have CK := hide (fun W h => recipWakes_any SN SR W h)
    have HR := hide SR
    have HB := hide SB
    have HZ := hide SZ
    have HA := hide SA
    clear SN SR SB SZ SA
    unfold Tab.val at CN ⊢
    go_enter Tryz.func4, Tryz.ntmps4
    go_wp2_with fail
    refine (unhide Ca _).mono ?_
    rintro e wca ⟨rfl, rfl⟩
    clear Ca
    go_wp2_with fail
    refine (unhide Cb _).mono ?_
    rintro e wcb ⟨rfl, rfl⟩
    clear Cb
    have tX0 := tA
    obtain ⟨p0, p1, p2, p3, p4, p5, p6, p7, p8, p9, p10⟩ := tX0
    go_wp2_with fail
    refine (unhide CN _).mono ?_
    rintro e w1 ⟨gr, gd, gm, gt, gk, ge, g, rfl, E, hn, b⟩
    clear p0 p1 p2 p3 p4 p5 p6 p7 p8 p9 p10
    have hg : w.heap.size ≤ g := by omega
    clear hn tA lP CN
    have rA := rA.next b
    have rB := rB.next b
    have bl := bstep bl b
    clear b
    have lg := E.met.lt
    obtain ⟨S1, hS1⟩ : ∃ S1, S1 = w1.heap.size := ⟨_, rfl⟩
    rw [← hS1] at lg
    have sz : S1 ≤ w1.heap.size := Nat.le_of_eq hS1
    clear hS1
    go_wp2_with fail
    refine (unhide CIn _).mono ?_
    rintro e wi ⟨rfl, rfl⟩
    clear CIn
    have CZ := hide (zero_in (inM_rep rB dy (unhide HLb) (unhide HEb) (by omega)).inW false (by simp; omega))
    go_wp2_with fail
    refine (unhide CZ).mono ?_
    rintro e wz ⟨rfl, hw⟩
    obtain rfl := hw.symm
    clear hw CZ
    have CR := hide (unhide HR _ gr gd gm gt gk ge g 0 0 0 T _ D k E ((unhide HT).next bl) (by decide) (by decide) (by decide) (by decide) (inM_rep rB dy (unhide HLb) (unhide HEb) (by omega)) (unhide H0) (by omega) (by omega))
    rw [← unhide HP, ← unhide HQ] at CR
    go_wp2_with fail
    refine (unhide CR).mono ?_
    rintro e w2 ⟨v, gq, s1, m1, rfl, nv, hgq, E2, ⟨sa, sb⟩, o⟩
    clear CR
    have nv := nv.toW.mono (Nat.le_trans sz hgq)
    clear hgq
    have rA := E.rep o rA
    have rB := E.rep o rB
    have sz := Nat.le_trans sz o.size
    have bl := bl.trans (o.below (B := w.heap.size) bl.size (fun k hk => by rw [hk]; exact hg))
    have E := E2
    clear o E2
    obtain ⟨va, vl, vc, rfl⟩ := nv.shape
    rcases Nat.lt_or_ge P A with hPA | hPA
    case inl =>
      have g1 : c1 = 1 := by rw [unhide HC1]; exact cmpN_gt hPA
      rw [g1] at CC1
      have CR := hide (unhide HA _ gr gd gm gt gk ge g s1 0 m1 T _ _ _ A D Q k E ((unhide HT).next bl) sa (by omega) (by decide) (by decide) (inM_rep rA dx (unhide HLa) (unhide HEa) (by omega)) (inM_rep rB dy (unhide HLb) (unhide HEb) (by omega)) (nv.toM (unhide LQ) (by omega)) (unhide H0) (by omega) (by omega) (Or.inr (by rw [← unhide HP]; exact hPA)))
      clear HC1 hPA g1
      go_wp2_with fail
      refine (unhide CR).mono ?_
      rintro e w3 ⟨qa, qc, ra, rc, s2, m2, rfl, E2, _, o⟩
      clear CR
      have rA := E.rep o rA
      have rB := E.rep o rB
      have nv := o.newW nv (fun k e => by rw [e]; exact lg)
      have sz := Nat.le_trans sz o.size
      have bl := bl.trans (o.below (B := w.heap.size) bl.size (fun k hk => by rw [hk]; exact hg))
      have E := E2
      clear o E2
      clear E nv
      go_wp2_with fail
      refine (unhide CFa _ rA).mono ?_
      rintro e w4 ⟨v1, rfl, n1, b⟩
      have rA := rA.next b
      have rB := rB.next b
      have sz := Nat.le_trans sz b.size
      have bl := bstep bl b
      clear b
      go_wp2_with fail
      refine (unhide CPw _).mono ?_
      rintro e w5 ⟨v2, rfl, n2, b⟩
      have rA := rA.next b
      have rB := rB.next b
      have n1 := n1.next b
      have sz := Nat.le_trans sz b.size
      have bl := bstep bl b
      clear b
      go_wp2_with fail
      refine (unhide CC1 _ _ _ n1 n2).mono ?_
      rintro e w6 ⟨rfl, b⟩
      clear n1 n2
      have rA := rA.next b
      have rB := rB.next b
      have sz := Nat.le_trans sz b.size
      have bl := bstep bl b
      clear b
      go_wp2_with fail
      refine (unhide CK _ ((unhide HT).next bl)).mono ?_
      rintro e w7 ⟨rfl, b⟩
      have bl := bstep bl b
      clear b
      go_wp2
      go_ret
      exact ⟨rfl, bl⟩
    case inr =>
      have g1 : c1 ≤ 0 := by
        rw [unhide HC1]
        rcases Nat.lt_or_ge A P with h | h
        · rw [cmpN_lt h]; decide
        · rw [cmpN_eq (by omega)]; decide
      have g2 : decide ((0 : Int) < c1) = false := by simp; omega
      have HPA := hide hPA
      have CR := hide (unhide HB _ gr gd gm gt gk ge g s1 0 m1 T _ _ _ A D Q k E ((unhide HT).next bl) sa (by omega) (by decide) (by decide) (inM_rep rA dx (unhide HLa) (unhide HEa) (by omega)) (inM_rep rB dy (unhide HLb) (unhide HEb) (by omega)) (nv.toM (unhide LQ) (by omega)) (unhide H0) (by omega) (by omega) (by rw [← unhide HP]; exact unhide HQ) (by rw [← unhide HP]; exact hPA))
      rw [← unhide HX, ← unhide HY] at CR
      clear HC1 hPA g1
      go_wp2_with fail
      refine (unhide CR).mono ?_
      rintro e w3 ⟨q, r, gq2, gx, s2, m2, rfl, nq, nr, ⟨_, hq2, hx2⟩, E2, ⟨sc, sd⟩, o⟩
      clear CR
      have nq := nq.toW.mono (Nat.le_trans sz hq2)
      have nr := nr.toW.mono (Nat.le_trans sz hx2)
      clear hq2 hx2
      have rA := E.rep o rA
      have rB := E.rep o rB
      have nv := o.newW nv (fun k e => by rw [e]; exact lg)
      have sz := Nat.le_trans sz o.size
      have bl := bl.trans (o.below (B := w.heap.size) bl.size (fun k hk => by rw [hk]; exact hg))
      have E := E2
      clear o E2
      obtain ⟨qa, ql, qc, rfl⟩ := nq.shape
      obtain ⟨ra, rl, rc, rfl⟩ := nr.shape
      go_wp2_with fail
      refine (unhide CFa _ rA).mono ?_
      rintro e w4 ⟨v1, rfl, n1, b⟩
      have rA := rA.next b
      have rB := rB.next b
      have E := E.next b
      have nv := nv.next b
      have nq := nq.next b
      have nr := nr.next b
      have sz := Nat.le_trans sz b.size
      have bl := bstep bl b
      clear b
      go_wp2_with fail
      refine (unhide CPw _).mono ?_
      rintro e w5 ⟨v2, rfl, n2, b⟩
      have rA := rA.next b
      have rB := rB.next b
      have E := E.next b
      have nv := nv.next b
      have nq := nq.next b
      have nr := nr.next b
      have n1 := n1.next b
      have sz := Nat.le_trans sz b.size
      have bl := bstep bl b
      clear b
      go_wp2_with fail
      refine (unhide CC1 _ _ _ n1 n2).mono ?_
      rintro e w6 ⟨rfl, b⟩
      clear n1 n2
      have rA := rA.next b
      have rB := rB.next b
      have E := E.next b
      have nv := nv.next b
      have nq := nq.next b
      have nr := nr.next b
      have sz := Nat.le_trans sz b.size
      have bl := bstep bl b
      clear b
      go_wp2_with fail
      refine (unhide CFa _ rA).mono ?_
      rintro e w7 ⟨v3, rfl, n3, b⟩
      have rA := rA.next b
      have rB := rB.next b
      have E := E.next b
      have nv := nv.next b
      have nq := nq.next b
      have nr := nr.next b
      have sz := Nat.le_trans sz b.size
      have bl := bstep bl b
      clear b
      go_wp2_with fail
      refine (unhide CFb _ rB).mono ?_
      rintro e w8 ⟨v4, rfl, n4, b⟩
      have rA := rA.next b
      have rB := rB.next b
      have E := E.next b
      have nv := nv.next b
      have nq := nq.next b
      have nr := nr.next b
      have n3 := n3.next b
      have sz := Nat.le_trans sz b.size
      have bl := bstep bl b
      clear b
      go_wp2_with fail
      refine (unhide CM _ _ _ n3 n4).mono ?_
      rintro e w9 ⟨v5, v6, rfl, n5, n6, b⟩
      clear n3 n4
      have rA := rA.next b
      have rB := rB.next b
      have E := E.next b
      have nv := nv.next b
      have nq := nq.next b
      have nr := nr.next b
      have sz := Nat.le_trans sz b.size
      have bl := bstep bl b
      clear b
      go_wp2_with fail
      refine (same_new _ _ _ _ _ 24 (by omega) (unhide LX) n5 nq).mono ?_
      rintro e w10 ⟨rfl, b⟩
      clear n5 nq
      have rA := rA.next b
      have rB := rB.next b
      have E := E.next b
      have nv := nv.next b
      have nr := nr.next b
      have n6 := n6.next b
      have sz := Nat.le_trans sz b.size
      have bl := bstep bl b
      clear b
      go_wp2_with fail
      refine (same_new _ _ _ _ _ 24 (by omega) (unhide LY) n6 nr).mono ?_
      rintro e w11 ⟨rfl, b⟩
      clear n6 nr
      have rA := rA.next b
      have rB := rB.next b
      have E := E.next b
      have nv := nv.next b
      have sz := Nat.le_trans sz b.size
      have bl := bstep bl b
      clear b
      go_wp2_with fail
      refine (from_newr _ _ _ _ 32 (by omega) (unhide LQ) nv).mono ?_
      rintro e w12 ⟨v7, rfl, n7, b⟩
      clear nv
      have rA := rA.next b
      have rB := rB.next b
      have E := E.next b
      have sz := Nat.le_trans sz b.size
      have bl := bstep bl b
      clear b
      go_wp2_with fail
      refine (unhide CSm _).mono ?_
      rintro e w13 ⟨v8, rfl, n8, b⟩
      have rA := rA.next b
      have rB := rB.next b
      have E := E.next b
      have n7 := n7.next b
      have sz := Nat.le_trans sz b.size
      have bl := bstep bl b
      clear b
      go_wp2_with fail
      refine (unhide CAd _ _ _ n7 n8).mono ?_
      rintro e w14 ⟨v9, rfl, n9, b⟩
      clear n7 n8
      have rA := rA.next b
      have rB := rB.next b
      have E := E.next b
      have sz := Nat.le_trans sz b.size
      have bl := bstep bl b
      clear b
      go_wp2_with fail
      refine (to_can_m _ _ _ 33 (by decide) (unhide LV) n9).mono ?_
      rintro e w15 ⟨rs, rfl, is, b⟩
      clear n9
      have rA := rA.next b
      have rB := rB.next b
      have E := E.next b
      have sz := Nat.le_trans sz b.size
      have bl := bstep bl b
      clear b
      obtain ⟨ta, tl, tc, rfl⟩ := is.inW.shp
      rcases Nat.eq_zero_or_pos y with hy0 | hy0
      case inl =>
        subst hy0
        rw [Nat.add_zero] at is
        have CR := hide (unhide HB _ gr gd gm gt gk ge g s2 0 m2 T _ _ _ A D Q k E ((unhide HT).next bl) sc (by omega) (by decide) (by decide) (inM_rep rA dx (unhide HLa) (unhide HEa) (by omega)) (inM_rep rB dy (unhide HLb) (unhide HEb) (by omega)) is (unhide H0) (by omega) (by omega) (by rw [← unhide HP]; exact unhide HQ) (by rw [← unhide HP]; exact unhide HPA))
        clear is
        go_wp2_with fail
        refine (unhide CR).mono ?_
        rintro e w16 ⟨q3, r3, gq3, gx3, s3, m3, rfl, nq, nr, _, E2, _, o⟩
        clear CR
        obtain ⟨qa3, ql3, qc3, rfl⟩ := nq.toW.shape
        obtain ⟨ra3, rl3, rc3, rfl⟩ := nr.toW.shape
        clear nq nr
        have rA := E.rep o rA
        have rB := E.rep o rB
        have sz := Nat.le_trans sz o.size
        have bl := bl.trans (o.below (B := w.heap.size) bl.size (fun k hk => by rw [hk]; exact hg))
        have E := E2
        clear o E2
        clear E
        go_wp2_with fail
        refine (unhide CK _ ((unhide HT).next bl)).mono ?_
        rintro e w17 ⟨rfl, b⟩
        have bl := bstep bl b
        clear b
        go_wp2
        go_ret
        exact ⟨rfl, bl⟩
      case inr =>
        have yz : ((y : Int) == 0) = false := by simp; omega
        have CR := hide (unhide HA _ gr gd gm gt gk ge g s2 0 m2 T _ _ _ A D (Q + y) k E ((unhide HT).next bl) sc (by omega) (by decide) (by decide) (inM_rep rA dx (unhide HLa) (unhide HEa) (by omega)) (inM_rep rB dy (unhide HLb) (unhide HEb) (by omega)) is (unhide H0) (by omega) (by omega) (Or.inl (by rw [← unhide HP, ← unhide HQ]; omega)))
        clear is hy0
        go_wp2_with fail
        refine (unhide CR).mono ?_
        rintro e w16 ⟨qa3, qc3, ra3, rc3, s3, m3, rfl, E2, _, o⟩
        clear CR
        have rA := E.rep o rA
        have rB := E.rep o rB
        have sz := Nat.le_trans sz o.size
        have bl := bl.trans (o.below (B := w.heap.size) bl.size (fun k hk => by rw [hk]; exact hg))
        have E := E2
        clear o E2
        clear E
        go_wp2_with fail
        refine (unhide CK _ ((unhide HT).next bl)).mono ?_
        rintro e w17 ⟨rfl, b⟩
        have bl := bstep bl b
        clear b
        go_wp2
        go_ret
        exact ⟨rfl, bl⟩

end Go.Proofs.YtpcfghnenhnlpaaGreatDoor
