/- DivsLongs: what the law's walk comes to, once the code is what the document asks. Written by gen_longs.py. -/
import Derived.Test.YtofgbmfaehnmnaaB28
import Derived.Test.YtofgbmfaehnmnaaB11
import Derived.Test.YtofgbmfaehnmnaaB12
import Derived.Test.YtofgbmfaehnmnaaB26
import Derived.Test.YtofgbmfaehnmnaaB14
import Derived.Test.YtofgbmfaehnmnaaB2
import Derived.Deep.QuietTactic
import Derived.BigQuiet
import Derived.WalkSmall
namespace Go.Proofs.Ytofgbmfaehnmnaa
open Go.RowKit

set_option maxRecDepth 100000 in
set_option maxHeartbeats 12800000 in
theorem divsLongs_any (SN : SpecDNew) (SL : SpecLong) (SO : SpecLongNo) (T : Tab) (ga : Option Addr) (ba oa ca la : Nat) (xs : List Nat) (gb : Option Addr) (bb ob cb lb : Nat) (ys : List Nat) (w : World) (hxs : xs.length = la) (HrA : Rep w ga ba oa ca xs) (kxs : ∀ j, xs.getD j 0 < 18446744073709551616) (hys : ys.length = lb) (HrB : Rep w gb bb ob cb ys) (kys : ∀ j, ys.getD j 0 < 18446744073709551616) :
    Calls Try.prog 3 #[T.val, .slice ga la ca, .slice gb lb cb] w fun e w' => e = .returned (.bool true) ∧ Below w.heap.size w w' := by
  obtain ⟨n, hca⟩ : ∃ k, k = min la 40 := ⟨_, rfl⟩
  have Ca : Hid (∀ w, Calls Try.prog 6 #[.slice ga la ca, .int .i64 40] w fun e w' => e = .returned (.slice ga n ca) ∧ w' = w) := fun w => cut_any w ga la ca 40 n (by have := HrA.room; omega) (by omega) hca
  obtain ⟨hla, rA⟩ := cut_rep HrA 40 n (by rw [hxs]; exact hca)
  have dx : WDig (xs.take n) := take_words kxs n
  have hma : n ≤ 40 := by omega
  clear hca HrA kxs hxs
  generalize xs.take n = us at *
  obtain ⟨m, hcb⟩ : ∃ k, k = min lb 30 := ⟨_, rfl⟩
  have Cb : Hid (∀ w, Calls Try.prog 6 #[.slice gb lb cb, .int .i64 30] w fun e w' => e = .returned (.slice gb m cb) ∧ w' = w) := fun w => cut_any w gb lb cb 30 m (by have := HrB.room; omega) (by omega) hcb
  obtain ⟨hlb, rB⟩ := cut_rep HrB 30 m (by rw [hys]; exact hcb)
  have dy : WDig (ys.take m) := take_words kys m
  have hmb : m ≤ 30 := by omega
  clear hcb HrB kys hys
  generalize ys.take m = vs at *
  obtain ⟨A, hva⟩ : ∃ k, k = wval us := ⟨_, rfl⟩
  have LA : Hid (A < 18446744073709551616 ^ 40) := by show _ < _; rw [hva]; exact pow_up (wval_lt_pow dx) (by omega)
  have BA : Hid (A < 4294967296 ^ 80) := by have := unhide LA; rw [wpow] at this; exact this
  have CFa := hide (fun W (r : Rep W ga ba oa ca us) => from_divs W ga ba oa ca n A us hla (by omega) r dx hva)
  have CWa := hide (fun W (r : Rep W ga ba oa ca us) => dwords_any W ga ba oa ca n A us hla (by omega) r dx hva)
  have wlA : wl A ≤ 40 := by rw [hva]; exact Nat.le_trans (wl_le_len dx) (by omega)
  have HLa := hide hla
  have HEa := hide hva
  clear hva hla
  obtain ⟨D, hvb⟩ : ∃ k, k = wval vs := ⟨_, rfl⟩
  have LD : Hid (D < 18446744073709551616 ^ 30) := by show _ < _; rw [hvb]; exact pow_up (wval_lt_pow dy) (by omega)
  have BD : Hid (D < 4294967296 ^ 60) := by have := unhide LD; rw [wpow] at this; exact this
  have CFb := hide (fun W (r : Rep W gb bb ob cb vs) => from_divs W gb bb ob cb m D vs hlb (by omega) r dy hvb)
  have CWb := hide (fun W (r : Rep W gb bb ob cb vs) => dwords_any W gb bb ob cb m D vs hlb (by omega) r dy hvb)
  have wlD : wl D ≤ 30 := by rw [hvb]; exact Nat.le_trans (wl_le_len dy) (by omega)
  have HLb := hide hlb
  have HEb := hide hvb
  clear hvb hlb
  have bl := Below.refl w.heap.size w
  obtain ⟨F, hF⟩ : ∃ F, F = 6148914691236517205 := ⟨_, rfl⟩
  have HF := hide hF
  clear hF
  rcases Nat.eq_zero_or_pos D with hD0 | h0
  case inl =>
    subst hD0
    have HLN := hide SO
    clear SO
    rw [wl_zero] at CWb
    have b0 : Below w.heap.size w (w.alloc (.cells #[.int .i64 T.b, .int .i64 T.t, .int .i64 T.n, .int .i64 T.d, .int .i64 T.r, .int .i64 T.l, .int .i64 T.x, .int .i64 T.p, .int .i64 T.k, .int .i64 T.s, .int .i64 T.e] 23)) := (Below.refl _ _).alloc (Nat.le_refl _) _
    have tA := tabAt_new w T 23
    obtain ⟨W1, hW1⟩ : ∃ W, w.alloc (.cells #[.int .i64 T.b, .int .i64 T.t, .int .i64 T.n, .int .i64 T.d, .int .i64 T.r, .int .i64 T.l, .int .i64 T.x, .int .i64 T.p, .int .i64 T.k, .int .i64 T.s, .int .i64 T.e] 23) = W := ⟨_, rfl⟩
    rw [hW1] at b0 tA
    obtain ⟨P0, hP0⟩ : ∃ P, w.heap.size = P := ⟨_, rfl⟩
    rw [hP0] at tA
    have lP : P0 < W1.heap.size := tA.lt
    have rA := rA.next b0
    have rB := rB.next b0
    have bl := bstep bl b0
    clear b0
    have CN := hide (fun W => SN T W)
    have HLG := hide SL
    have CK := hide (fun W => divsWakes_any SN SL W)
    clear SN SL
    unfold Tab.val at CN ⊢
    go_enter Try.func3, Try.ntmps3
    go_wp2_with fail
    refine (unhide Ca _).mono ?_
    rintro e wca ⟨rfl, rfl⟩
    clear Ca
    go_wp2_with fail
    refine (unhide Cb _).mono ?_
    rintro e wcb ⟨rfl, rfl⟩
    clear Cb
    have tX0 := tA
    obtain ⟨p0, p1, p2, p3, p4, p5, p6, p7, p8, p9, p10⟩ := tX0
    go_wp2_with fail
    refine (unhide CN _).mono ?_
    rintro e w1 ⟨gv, gm, gt, gk, ge, g, rfl, E, hn, b⟩
    clear p0 p1 p2 p3 p4 p5 p6 p7 p8 p9 p10
    have hg : w.heap.size ≤ g := by omega
    clear hn
    clear tA lP
    have rA := rA.next b
    have rB := rB.next b
    have bl := bstep bl b
    clear b
    go_wp2_with fail
    refine (lend_any _ ga ba oa ca n us (unhide HLa) (by omega) rA F (unhide HF)).mono ?_
    rintro e w2 ⟨rfl, ol, b⟩
    obtain ⟨rX, tX⟩ := lent_rep ol (unhide HLa)
    clear ol
    have rA := rA.next b
    have rB := rB.next b
    have E := E.next b
    have bl := bstep bl b
    clear b
    go_wp2_with fail
    refine (lend_any _ gb bb ob cb m vs (unhide HLb) (by omega) rB F (unhide HF)).mono ?_
    rintro e w3 ⟨rfl, ol, b⟩
    obtain ⟨rY, tY⟩ := lent_rep ol (unhide HLb)
    clear ol
    have rA := rA.next b
    have rB := rB.next b
    have E := E.next b
    have rX := rX.next b
    have tX := tX.next b
    have bl := bstep bl b
    clear b
    have ix := inM_rep rX dx (unhide HLa) (unhide HEa) (by omega)
    have iy := inM_rep rY dy (unhide HLb) (unhide HEb) (by omega)
    clear rX rY
    have CL := hide (unhide HLN _ gv gm gt gk ge g 0 0 0 T _ _ A E (by decide) (by decide) (by decide) (by decide) ix iy)
    clear ix iy
    go_wp2_with fail
    refine (unhide CL).mono ?_
    rintro e w4 ⟨qa, qc, ra, rc, s', m', rfl, E2, _, _, o⟩
    clear CL
    have rA := E.rep o rA
    have rB := E.rep o rB
    have tX := E.rep o tX
    have tY := E.rep o tY
    have bl := bl.trans (o.below (B := w.heap.size) bl.size (fun k hk => by rw [hk]; exact hg))
    have E := E2
    clear o E2
    go_wp2_with fail
    refine (unhide CWa _ rA).mono ?_
    rintro e wa ⟨rfl, rfl⟩
    go_wp2_with fail
    refine (unhide CWb _ rB).mono ?_
    rintro e wb ⟨rfl, rfl⟩
    go_wp2_with fail
    refine (unhide CK _).mono ?_
    rintro e w5 ⟨rfl, b⟩
    have bl := bstep bl b
    clear b
    go_wp2
    go_ret
    exact ⟨rfl, bl⟩
  case inr =>
    clear SO
    have hwD : wl D ≠ 0 := fun e => by have := wl_eq_zero.1 e; omega
    have hwI : ((wl D : Int) == 0) = false := by simp only [beq_eq_false_iff_ne]; omega
    obtain ⟨Q, hQ⟩ : ∃ Q, Q = A / D := ⟨_, rfl⟩
    obtain ⟨R, hR⟩ : ∃ R, R = A % D := ⟨_, rfl⟩
    have HQb : Hid (Q < 18446744073709551616 ^ 40) := by show _ < _; rw [hQ]; exact Nat.lt_of_le_of_lt (Nat.div_le_self _ _) (unhide LA)
    have HRb : Hid (R < 18446744073709551616 ^ 40) := by show _ < _; rw [hR]; exact Nat.lt_of_le_of_lt (Nat.mod_le _ _) (unhide LA)
    have BD2 : Hid (D < 4294967296 ^ 80) := by show _ < _; exact Nat.lt_of_lt_of_le (unhide BD) (Nat.pow_le_pow_right (by omega) (by omega))
    have CM : Hid (∀ w u v, IsN w u A → IsN w v D → Calls Try.prog 12 #[u, v] w fun e w' => ∃ q r, e = .returned (.tuple #[q, r]) ∧ IsN w' q Q ∧ IsN w' r R ∧ Below w.heap.size w w') := fun w u v h1 h2 => by rw [hQ, hR]; exact divmod_any w u v A D 80 (by omega) (unhide BA) (unhide BD2) h0 h1 h2
    obtain ⟨K, hK⟩ : ∃ K, K = lgc A D := ⟨_, rfl⟩
    have HK := hide hK
    have HQ := hide hQ
    have HR := hide hR
    have H0 := hide h0
    clear hQ hR hK h0
    have b0 : Below w.heap.size w (w.alloc (.cells #[.int .i64 T.b, .int .i64 T.t, .int .i64 T.n, .int .i64 T.d, .int .i64 T.r, .int .i64 T.l, .int .i64 T.x, .int .i64 T.p, .int .i64 T.k, .int .i64 T.s, .int .i64 T.e] 23)) := (Below.refl _ _).alloc (Nat.le_refl _) _
    have tA := tabAt_new w T 23
    obtain ⟨W1, hW1⟩ : ∃ W, w.alloc (.cells #[.int .i64 T.b, .int .i64 T.t, .int .i64 T.n, .int .i64 T.d, .int .i64 T.r, .int .i64 T.l, .int .i64 T.x, .int .i64 T.p, .int .i64 T.k, .int .i64 T.s, .int .i64 T.e] 23) = W := ⟨_, rfl⟩
    rw [hW1] at b0 tA
    obtain ⟨P0, hP0⟩ : ∃ P, w.heap.size = P := ⟨_, rfl⟩
    rw [hP0] at tA
    have lP : P0 < W1.heap.size := tA.lt
    have rA := rA.next b0
    have rB := rB.next b0
    have bl := bstep bl b0
    clear b0
    have CN := hide (fun W => SN T W)
    have HLG := hide SL
    have CK := hide (fun W => divsWakes_any SN SL W)
    clear SN SL
    unfold Tab.val at CN ⊢
    go_enter Try.func3, Try.ntmps3
    go_wp2_with fail
    refine (unhide Ca _).mono ?_
    rintro e wca ⟨rfl, rfl⟩
    clear Ca
    go_wp2_with fail
    refine (unhide Cb _).mono ?_
    rintro e wcb ⟨rfl, rfl⟩
    clear Cb
    have tX0 := tA
    obtain ⟨p0, p1, p2, p3, p4, p5, p6, p7, p8, p9, p10⟩ := tX0
    go_wp2_with fail
    refine (unhide CN _).mono ?_
    rintro e w1 ⟨gv, gm, gt, gk, ge, g, rfl, E, hn, b⟩
    clear p0 p1 p2 p3 p4 p5 p6 p7 p8 p9 p10
    have hg : w.heap.size ≤ g := by omega
    clear hn
    clear tA lP
    have rA := rA.next b
    have rB := rB.next b
    have bl := bstep bl b
    clear b
    go_wp2_with fail
    refine (lend_any _ ga ba oa ca n us (unhide HLa) (by omega) rA F (unhide HF)).mono ?_
    rintro e w2 ⟨rfl, ol, b⟩
    obtain ⟨rX, tX⟩ := lent_rep ol (unhide HLa)
    clear ol
    have rA := rA.next b
    have rB := rB.next b
    have E := E.next b
    have bl := bstep bl b
    clear b
    go_wp2_with fail
    refine (lend_any _ gb bb ob cb m vs (unhide HLb) (by omega) rB F (unhide HF)).mono ?_
    rintro e w3 ⟨rfl, ol, b⟩
    obtain ⟨rY, tY⟩ := lent_rep ol (unhide HLb)
    clear ol
    have rA := rA.next b
    have rB := rB.next b
    have E := E.next b
    have rX := rX.next b
    have tX := tX.next b
    have bl := bstep bl b
    clear b
    have ix := inM_rep rX dx (unhide HLa) (unhide HEa) (by omega)
    have iy := inM_rep rY dy (unhide HLb) (unhide HEb) (by omega)
    clear rX rY
    have CL := hide (unhide HLG _ gv gm gt gk ge g 0 0 0 T _ _ A D E (by decide) (by decide) (by decide) (by decide) ix iy (unhide H0))
    clear ix iy
    rw [← unhide HK, ← unhide HQ, ← unhide HR, Int.zero_add] at CL
    obtain ⟨g1, hg1⟩ : ∃ g1, g1 = w1.heap.size := ⟨_, rfl⟩
    obtain ⟨g2, hg2⟩ : ∃ g2, g2 = w2.heap.size := ⟨_, rfl⟩
    rw [← hg1] at tX CL ⊢
    rw [← hg2] at tY CL ⊢
    obtain ⟨S4, hS4⟩ : ∃ S4, S4 = w3.heap.size := ⟨_, rfl⟩
    have hl1 : g1 < S4 := by rw [hS4]; exact tX.lt (by simp)
    have hl2 : g2 < S4 := by rw [hS4]; exact tY.lt (by simp)
    have hSw : w.heap.size ≤ S4 := by rw [hS4]; exact bl.size
    have hAb : Hid (0 < us.length → ba < S4) := fun h => by rw [hS4]; exact rA.lt h
    have hBb : Hid (0 < vs.length → bb < S4) := fun h => by rw [hS4]; exact rB.lt h
    rw [← hS4] at CL
    clear hg1 hg2 hS4
    go_wp2_with fail
    refine (unhide CL).mono ?_
    rintro e w4 ⟨q, r, gq, gr, m', rfl, nq, nr, ⟨nqr, hq4, hr4⟩, E2, _, o⟩
    clear CL
    have rA := E.rep o rA
    have rB := E.rep o rB
    have tX := E.rep o tX
    have tY := E.rep o tY
    have bl := bl.trans (o.below (B := w.heap.size) bl.size (fun k hk => by rw [hk]; exact hg))
    have E := E2
    clear o E2
    go_wp2_with fail
    refine (unhide CWa _ rA).mono ?_
    rintro e wa ⟨rfl, rfl⟩
    go_wp2_with fail
    refine (unhide CWb _ rB).mono ?_
    rintro e wb ⟨rfl, rfl⟩
    clear CWa CWb
    go_wp2_with fail
    refine (unhide CFa _ rA).mono ?_
    rintro e w5 ⟨v1, rfl, n1, b⟩
    have rA := rA.next b
    have rB := rB.next b
    have E := E.next b
    have tX := tX.next b
    have tY := tY.next b
    have nq := nq.next b
    have nr := nr.next b
    have bl := bstep bl b
    clear b
    go_wp2_with fail
    refine (unhide CFb _ rB).mono ?_
    rintro e w6 ⟨v2, rfl, n2, b⟩
    have rA := rA.next b
    have rB := rB.next b
    have E := E.next b
    have tX := tX.next b
    have tY := tY.next b
    have nq := nq.next b
    have nr := nr.next b
    have n1 := n1.next b
    have bl := bstep bl b
    clear b
    go_wp2_with fail
    refine (unhide CM _ _ _ n1 n2).mono ?_
    rintro e w7 ⟨v3, v4, rfl, n3, n4, b⟩
    have rA := rA.next b
    have rB := rB.next b
    have E := E.next b
    have tX := tX.next b
    have tY := tY.next b
    have nq := nq.next b
    have nr := nr.next b
    have n1 := n1.next b
    have n2 := n2.next b
    have bl := bstep bl b
    clear b
    clear n1 n2
    clear CFa CFb CM
    rcases Nat.lt_or_ge (wl A) (wl D) with hlt | hge
    case inl =>
      have hd : ((wl D : Int) ≤ (wl A : Int)) = False := by simp only [eq_iff_iff, iff_false]; omega
      have hKi : (K : Int) = 0 := by rw [unhide HK]; unfold lgc; rw [if_pos hlt]; rfl
      go_wp2_with fail
      refine (same_new _ _ _ _ _ 40 (by omega) (unhide HQb) n3 nq.toW).mono ?_
      rintro e w8 ⟨rfl, b⟩
      have rA := rA.next b
      have rB := rB.next b
      have E := E.next b
      have tX := tX.next b
      have tY := tY.next b
      have nq := nq.next b
      have nr := nr.next b
      have n3 := n3.next b
      have n4 := n4.next b
      have bl := bstep bl b
      clear b
      go_wp2_with fail
      refine (same_new _ _ _ _ _ 40 (by omega) (unhide HRb) n4 nr.toW).mono ?_
      rintro e w9 ⟨rfl, b⟩
      have rA := rA.next b
      have rB := rB.next b
      have E := E.next b
      have tX := tX.next b
      have tY := tY.next b
      have nq := nq.next b
      have nr := nr.next b
      have n3 := n3.next b
      have n4 := n4.next b
      have bl := bstep bl b
      clear b
      clear n3 n4
      obtain ⟨z0, z1, z2, z3, z4⟩ := E.way
      go_wp2_with fail
      refine (muls_any E.met).mono ?_
      rintro e wk ⟨rfl, hq⟩
      obtain rfl := hq.symm
      clear hq
      rw [hKi]
      clear z0 z1 z2 z3 z4 hKi hd
      go_wp2_with fail
      refine (spoil_any _ _ _ _ _ nq).mono ?_
      rintro e w10 ⟨rfl, sp⟩
      have rA := rA.spoilt sp (fun h => Or.inl (Nat.lt_of_lt_of_le (unhide hAb h) hq4))
      have rB := rB.spoilt sp (fun h => Or.inl (Nat.lt_of_lt_of_le (unhide hBb h) hq4))
      have tX := tX.spoilt sp (fun h => Or.inl (Nat.lt_of_lt_of_le hl1 hq4))
      have tY := tY.spoilt sp (fun h => Or.inl (Nat.lt_of_lt_of_le hl2 hq4))
      have nr := nr.spoilt sp (by omega)
      have bl := below_spoilt bl sp (by omega) bl.size
      clear nq sp E
      go_wp2_with fail
      refine (spoil_any _ _ _ _ _ nr).mono ?_
      rintro e w11 ⟨rfl, sp⟩
      have rA := rA.spoilt sp (fun h => Or.inl (Nat.lt_of_lt_of_le (unhide hAb h) hr4))
      have rB := rB.spoilt sp (fun h => Or.inl (Nat.lt_of_lt_of_le (unhide hBb h) hr4))
      have tX := tX.spoilt sp (fun h => Or.inl (Nat.lt_of_lt_of_le hl1 hr4))
      have tY := tY.spoilt sp (fun h => Or.inl (Nat.lt_of_lt_of_le hl2 hr4))
      have bl := below_spoilt bl sp (by omega) bl.size
      clear nr sp
      go_wp2_with fail
      refine (intact_any _ ga g1 ba oa ca n us (unhide HLa) (by omega) rA F (unhide HF) tX).mono ?_
      rintro e w12 ⟨rfl, b⟩
      have rA := rA.next b
      have rB := rB.next b
      have tX := tX.next b
      have tY := tY.next b
      have bl := bstep bl b
      clear b
      go_wp2_with fail
      refine (intact_any _ gb g2 bb ob cb m vs (unhide HLb) (by omega) rB F (unhide HF) tY).mono ?_
      rintro e w13 ⟨rfl, b⟩
      have rA := rA.next b
      have rB := rB.next b
      have tX := tX.next b
      have tY := tY.next b
      have bl := bstep bl b
      clear b
      go_wp2_with fail
      refine (unhide CK _).mono ?_
      rintro e w14 ⟨rfl, b⟩
      have bl := bstep bl b
      clear b
      go_wp2
      go_ret
      exact ⟨rfl, bl⟩
    case inr =>
      have hd : ((wl D : Int) ≤ (wl A : Int)) = True := by simp only [eq_iff_iff, iff_true]; omega
      have hKn : K = (wl A - wl D + 1) * (wl D + 1) := by rw [unhide HK]; unfold lgc; rw [if_neg (by omega)]
      have hKl : K ≤ 41 * 31 := by rw [hKn]; exact Nat.mul_le_mul (by omega) (by omega)
      have hKi : wrap64 (((wl A : Int) - (wl D : Int) + 1) * ((wl D : Int) + 1)) = (K : Int) := by
        have e : ((wl A : Int) - (wl D : Int) + 1) * ((wl D : Int) + 1) = (K : Int) := by
          rw [hKn, Int.natCast_mul]
          congr 1
          omega
        rw [e]
        unfold wrap64
        omega
      clear hKn hKl
      go_wp2_with fail
      refine (same_new _ _ _ _ _ 40 (by omega) (unhide HQb) n3 nq.toW).mono ?_
      rintro e w8 ⟨rfl, b⟩
      have rA := rA.next b
      have rB := rB.next b
      have E := E.next b
      have tX := tX.next b
      have tY := tY.next b
      have nq := nq.next b
      have nr := nr.next b
      have n3 := n3.next b
      have n4 := n4.next b
      have bl := bstep bl b
      clear b
      go_wp2_with fail
      refine (same_new _ _ _ _ _ 40 (by omega) (unhide HRb) n4 nr.toW).mono ?_
      rintro e w9 ⟨rfl, b⟩
      have rA := rA.next b
      have rB := rB.next b
      have E := E.next b
      have tX := tX.next b
      have tY := tY.next b
      have nq := nq.next b
      have nr := nr.next b
      have n3 := n3.next b
      have n4 := n4.next b
      have bl := bstep bl b
      clear b
      clear n3 n4
      obtain ⟨z0, z1, z2, z3, z4⟩ := E.way
      go_wp2_with fail
      refine (muls_any E.met).mono ?_
      rintro e wk ⟨rfl, hq⟩
      obtain rfl := hq.symm
      clear hq
      clear z0 z1 z2 z3 z4 hd
      go_wp2_with fail
      refine (spoil_any _ _ _ _ _ nq).mono ?_
      rintro e w10 ⟨rfl, sp⟩
      have rA := rA.spoilt sp (fun h => Or.inl (Nat.lt_of_lt_of_le (unhide hAb h) hq4))
      have rB := rB.spoilt sp (fun h => Or.inl (Nat.lt_of_lt_of_le (unhide hBb h) hq4))
      have tX := tX.spoilt sp (fun h => Or.inl (Nat.lt_of_lt_of_le hl1 hq4))
      have tY := tY.spoilt sp (fun h => Or.inl (Nat.lt_of_lt_of_le hl2 hq4))
      have nr := nr.spoilt sp (by omega)
      have bl := below_spoilt bl sp (by omega) bl.size
      clear nq sp E
      go_wp2_with fail
      refine (spoil_any _ _ _ _ _ nr).mono ?_
      rintro e w11 ⟨rfl, sp⟩
      have rA := rA.spoilt sp (fun h => Or.inl (Nat.lt_of_lt_of_le (unhide hAb h) hr4))
      have rB := rB.spoilt sp (fun h => Or.inl (Nat.lt_of_lt_of_le (unhide hBb h) hr4))
      have tX := tX.spoilt sp (fun h => Or.inl (Nat.lt_of_lt_of_le hl1 hr4))
      have tY := tY.spoilt sp (fun h => Or.inl (Nat.lt_of_lt_of_le hl2 hr4))
      have bl := below_spoilt bl sp (by omega) bl.size
      clear nr sp
      go_wp2_with fail
      refine (intact_any _ ga g1 ba oa ca n us (unhide HLa) (by omega) rA F (unhide HF) tX).mono ?_
      rintro e w12 ⟨rfl, b⟩
      have rA := rA.next b
      have rB := rB.next b
      have tX := tX.next b
      have tY := tY.next b
      have bl := bstep bl b
      clear b
      go_wp2_with fail
      refine (intact_any _ gb g2 bb ob cb m vs (unhide HLb) (by omega) rB F (unhide HF) tY).mono ?_
      rintro e w13 ⟨rfl, b⟩
      have rA := rA.next b
      have rB := rB.next b
      have tX := tX.next b
      have tY := tY.next b
      have bl := bstep bl b
      clear b
      go_wp2_with fail
      refine (unhide CK _).mono ?_
      rintro e w14 ⟨rfl, b⟩
      have bl := bstep bl b
      clear b
      go_wp2
      go_ret
      exact ⟨rfl, bl⟩

end Go.Proofs.Ytofgbmfaehnmnaa

/- Within of keep. -/
namespace Go.Proofs.Ytofgbmfaehnmnaa
open Go.RowKit

theorem tmod_to {v n : Int} (hn : 0 < n) : -n < v.tmod n ∧ v.tmod n < n ∧ (0 ≤ v.tmod n → v % n = v.tmod n) ∧ (v.tmod n < 0 → v % n = v.tmod n + n) := by
  have h1 := Int.tmod_lt_of_pos v hn
  have h2 := Int.lt_tmod_of_pos v hn
  have e : v % n = v.tmod n % n := by
    conv => lhs; rw [← Int.mul_tdiv_add_tmod v n]
    rw [Int.mul_add_emod_self_left]
  refine ⟨h2, h1, fun h => ?_, fun h => ?_⟩
  · rw [e, Int.emod_eq_of_lt h h1]
  · rw [e, ← Int.add_emod_right, Int.emod_eq_of_lt (by omega) (by omega)]

set_option maxHeartbeats 800000 in
theorem within_any (v n : Int) (w : World) (_h1 : -9223372036854775808 ≤ v) (_h2 : v ≤ 9223372036854775807) (hn : 1 ≤ n) (hn2 : n ≤ 4611686018427387904) :
    Calls Try.prog 22 #[.int .i64 v, .int .i64 n] w fun e w' => e = .returned (.int .i64 (v % n)) ∧ w' = w := by
  have hn1 : ¬ n < 1 := by omega
  obtain ⟨t1, t2, t3, t4⟩ := tmod_to (v := v) (n := n) (by omega)
  have T3 := hide t3
  have T4 := hide t4
  clear t3 t4
  go_enter Try.func22, Try.ntmps22
  go_wp2
  · go_ret
    exact ⟨ret_int (by rw [unhide T4 (by assumption)]), rfl⟩
  · go_ret
    exact ⟨ret_int (by rw [unhide T3 (by assumption)]), rfl⟩

end Go.Proofs.Ytofgbmfaehnmnaa

/- Rows that are made, and filled place by place. -/
namespace Go.Proofs.Ytofgbmfaehnmnaa
open Go.RowKit

theorem set_at (zs : List Nat) (k v i : Nat) (hk : k < zs.length) : (zs.set k v).getD i 0 = if i = k then v else zs.getD i 0 := by
  by_cases e : i = k
  · subst e; simp [hk]
  · rw [if_neg e]; simp [List.getElem?_set_ne (Ne.symm e)]
theorem list_of {xs ys : List Nat} (hl : xs.length = ys.length) (h : ∀ k, k < ys.length → xs.getD k 0 = ys.getD k 0) : xs = ys := by
  apply List.ext_getElem hl
  intro k h1 h2
  have := h k h2
  simpa [h1, h2] using this
theorem range_at (f : Nat → Nat) {n i : Nat} (h : i < n) : ((List.range n).map f).getD i 0 = f i := by simp [h]
theorem blk_zeros (w : World) (n : Nat) : Blk (w.alloc (.cells (zlist n).toArray 72)) w.heap.size (List.replicate n 0) := heap_alloc_new w _
theorem make_su (n cp : Nat) (z : Int) (hz : z = (cp : Int)) (h : cp = n) (hb : cp ≤ 2199023255552) : ∀ w, (Instr.makeSlice 24 (.int .i64 z) (.int .i64 z)).run Try.prog w = .ok (.slice (some ⟨w.heap.size, 0, none⟩) n n) (w.alloc (.cells (zlist n).toArray 72)) := fun w => by
  obtain ⟨i0, hi, hz0, hz1, hz2⟩ := info_parts Try.infoU
  subst hz h
  have h := run_make (P := Try.prog) w 24 72 i0 (.int .u64 0) Try.underlying24 hi hz0 .i64 .i64 (cp : Int) (cp : Int) (by omega) (by omega) (by rw [hz2]; omega) (by omega)
  rw [h]
  have e1 : ((cp : Int)).toNat = cp := by omega
  rw [e1, hz1, Nat.mul_one, made_zlist]

/-- A row in which the first k have been turned. -/
def MapRow (f : Nat → Nat) (z0 zs : List Nat) (k : Nat) : Prop := zs.length = z0.length ∧ ∀ i, i < z0.length → zs.getD i 0 = if i < k then f i else z0.getD i 0
theorem mapRow_start (f : Nat → Nat) (z0 : List Nat) : MapRow f z0 z0 0 := ⟨rfl, fun i _ => by rw [if_neg (by omega)]⟩
theorem mapRow_at {f : Nat → Nat} {z0 zs : List Nat} {k : Nat} (h : MapRow f z0 zs k) (hk : k < z0.length) : zs.getD k 0 = z0.getD k 0 := by rw [h.2 k hk, if_neg (by omega)]
theorem mapRow_step {f : Nat → Nat} {z0 zs : List Nat} {k : Nat} (h : MapRow f z0 zs k) (hk : k < z0.length) : MapRow f z0 (zs.set k (f k)) (k + 1) := by
  refine ⟨by simpa using h.1, fun i hi => ?_⟩
  rw [set_at _ _ _ _ (by rw [h.1]; exact hk)]
  by_cases e : i = k
  · rw [if_pos e, if_pos (by omega), e]
  · rw [if_neg e, h.2 i hi]
    by_cases c : i < k
    · rw [if_pos c, if_pos (by omega)]
    · rw [if_neg c, if_neg (by omega)]
theorem mapRow_end {f : Nat → Nat} {z0 zs : List Nat} (h : MapRow f z0 zs z0.length) : zs = (List.range z0.length).map f := by
  refine list_of (by rw [h.1]; simp) fun k hk => ?_
  have hk2 : k < z0.length := by simpa using hk
  rw [range_at f hk2, h.2 k hk2, if_pos hk2]


theorem great_map (N : Nat) : (List.range N).map (fun _ => 18446744073709551615) = List.replicate N 18446744073709551615 := by
  rw [List.map_const', List.length_range]
theorem great_dig (n : Nat) : WDig (List.replicate n 18446744073709551615) := fun j => by
  rw [List.getD_eq_getElem?_getD, List.getElem?_replicate]
  split
  · exact Nat.lt_of_sub_eq_succ rfl
  · exact Nat.zero_lt_succ _

theorem blk_first (w : World) (n m : Nat) : Blk ((w.alloc (.cells (zlist n).toArray 72)).alloc (.cells (zlist m).toArray 72)).drew w.heap.size (List.replicate n 0) :=
  (Blk.next (blk_zeros w n) ((Below.refl _ _).alloc (Nat.le_refl _) (.cells (zlist m).toArray 72))).drewN 1
theorem blk_second (w : World) (n m : Nat) : Blk ((w.alloc (.cells (zlist n).toArray 72)).alloc (.cells (zlist m).toArray 72)).drew (w.heap.size + 1) (List.replicate m 0) := by
  have h := blk_zeros (w.alloc (.cells (zlist n).toArray 72)) m
  have e : (w.alloc (.cells (zlist n).toArray 72)).heap.size = w.heap.size + 1 := by simp
  rw [e] at h
  exact h.drewN 1

end Go.Proofs.Ytofgbmfaehnmnaa
