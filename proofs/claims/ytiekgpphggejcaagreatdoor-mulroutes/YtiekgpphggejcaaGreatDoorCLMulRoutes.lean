/- MulRoutes: what the law's walk comes to, once the code is what the document asks. Written by gen_routes.py. -/
import Derived.Test.YtiekgpphggejcaaGreatDoorB45
import Derived.Test.YtiekgpphggejcaaGreatDoorB10
import Derived.Test.YtiekgpphggejcaaGreatDoorB14
import Derived.Test.YtiekgpphggejcaaGreatDoorB5
namespace Go.Proofs.YtiekgpphggejcaaGreatDoor
open Go.RowKit

set_option maxRecDepth 100000 in
set_option maxHeartbeats 12800000 in
theorem mulRoutes_any (SN : SpecMNew) (SB : SpecMBy) (SBN : SpecMByNo) (SP : SpecMProd) (T : Tab) (ga : Option Addr) (ba oa ca la : Nat) (xs : List Nat) (gb : Option Addr) (bb ob cb lb : Nat) (ys : List Nat) (w : World) (hxs : xs.length = la) (HrA : Rep w ga ba oa ca xs) (kxs : ∀ j, xs.getD j 0 < 18446744073709551616) (hys : ys.length = lb) (HrB : Rep w gb bb ob cb ys) (kys : ∀ j, ys.getD j 0 < 18446744073709551616) (ro : Int) (hr1 : -9223372036854775808 ≤ ro) (hr2 : ro ≤ 9223372036854775807) (hT : TB w) :
    Calls Tryz.prog 7 #[T.val, .slice ga la ca, .slice gb lb cb, .int .i64 ro] w fun e w' => e = .returned (.bool true) ∧ Below w.heap.size w w' := by
  obtain ⟨n, hca⟩ : ∃ k, k = min la 60 := ⟨_, rfl⟩
  have Ca : Hid (∀ w, Calls Tryz.prog 9 #[.slice ga la ca, .int .i64 60] w fun e w' => e = .returned (.slice ga n ca) ∧ w' = w) := fun w => cut_any w ga la ca 60 n (by have := HrA.room; omega) (by omega) hca
  obtain ⟨hla, rA⟩ := cut_rep HrA 60 n (by rw [hxs]; exact hca)
  have dx : WDig (xs.take n) := take_words kxs n
  have hma : n ≤ 60 := by omega
  clear hca HrA kxs hxs
  generalize xs.take n = us at *
  obtain ⟨m, hcb⟩ : ∃ k, k = min lb 60 := ⟨_, rfl⟩
  have Cb : Hid (∀ w, Calls Tryz.prog 9 #[.slice gb lb cb, .int .i64 60] w fun e w' => e = .returned (.slice gb m cb) ∧ w' = w) := fun w => cut_any w gb lb cb 60 m (by have := HrB.room; omega) (by omega) hcb
  obtain ⟨hlb, rB⟩ := cut_rep HrB 60 m (by rw [hys]; exact hcb)
  have dy : WDig (ys.take m) := take_words kys m
  have hmb : m ≤ 60 := by omega
  clear hcb HrB kys hys
  generalize ys.take m = vs at *
  obtain ⟨A, hva⟩ : ∃ k, k = wval us := ⟨_, rfl⟩
  have LA : Hid (A < 18446744073709551616 ^ 60) := by show _ < _; rw [hva]; exact pow_up (wval_lt_pow dx) (by omega)
  have BA : Hid (A < 4294967296 ^ 120) := by have := unhide LA; rw [wpow] at this; exact this
  have CFa := hide (fun W (r : Rep W ga ba oa ca us) => from_mul W ga ba oa ca n A us hla (by omega) r dx hva)
  have CWa := hide (fun W (r : Rep W ga ba oa ca us) => lwords_any W ga ba oa ca n A us hla (by omega) r dx hva)
  have wlA : wl A ≤ 60 := by rw [hva]; exact Nat.le_trans (wl_le_len dx) (by omega)
  have HLa := hide hla
  have HEa := hide hva
  clear hva hla
  obtain ⟨D, hvb⟩ : ∃ k, k = wval vs := ⟨_, rfl⟩
  have LD : Hid (D < 18446744073709551616 ^ 60) := by show _ < _; rw [hvb]; exact pow_up (wval_lt_pow dy) (by omega)
  have BD : Hid (D < 4294967296 ^ 120) := by have := unhide LD; rw [wpow] at this; exact this
  have CFb := hide (fun W (r : Rep W gb bb ob cb vs) => from_mul W gb bb ob cb m D vs hlb (by omega) r dy hvb)
  have CWb := hide (fun W (r : Rep W gb bb ob cb vs) => lwords_any W gb bb ob cb m D vs hlb (by omega) r dy hvb)
  have wlD : wl D ≤ 60 := by rw [hvb]; exact Nat.le_trans (wl_le_len dy) (by omega)
  have HLb := hide hlb
  have HEb := hide hvb
  clear hvb hlb
  have bl := Below.refl w.heap.size w
  have b0 : Below w.heap.size w (w.alloc (.cells #[.int .i64 T.b, .int .i64 T.t, .int .i64 T.n, .int .i64 T.d, .int .i64 T.r, .int .i64 T.l, .int .i64 T.x, .int .i64 T.p, .int .i64 T.k, .int .i64 T.s, .int .i64 T.e] 23)) := (Below.refl _ _).alloc (Nat.le_refl _) _
  have tA := tabAt_new w T 23
  obtain ⟨W1, hW1⟩ : ∃ W, w.alloc (.cells #[.int .i64 T.b, .int .i64 T.t, .int .i64 T.n, .int .i64 T.d, .int .i64 T.r, .int .i64 T.l, .int .i64 T.x, .int .i64 T.p, .int .i64 T.k, .int .i64 T.s, .int .i64 T.e] 23) = W := ⟨_, rfl⟩
  rw [hW1] at b0 tA
  obtain ⟨P0, hP0⟩ : ∃ P, w.heap.size = P := ⟨_, rfl⟩
  rw [hP0] at tA
  have lP : P0 < W1.heap.size := tA.lt
  have HT := hide hT
  clear hT
  have rA := rA.next b0
  have rB := rB.next b0
  have bl := bstep bl b0
  clear b0
  have CN := hide (fun W => SN T W)
  have HB := hide SB
  have HBN := hide SBN
  have CK := hide (fun W h => mulWakes_any SN SP W h)
  have HPR : Hid (A * D < 18446744073709551616 ^ (60 + 60)) := by have := Nat.mul_lt_mul'' (unhide LA) (unhide LD); rwa [← Nat.pow_add] at this
  have QIa : Hid (∀ W, Rep W ga ba oa ca us → InM W (.slice ga n ca) A) := fun W q => inM_rep q dx (unhide HLa) (unhide HEa) (by omega)
  have QIb : Hid (∀ W, Rep W gb bb ob cb vs → InM W (.slice gb m cb) D) := fun W q => inM_rep q dy (unhide HLb) (unhide HEb) (by omega)
  clear SN SB SBN SP
  unfold Tab.val at CN ⊢
  go_enter Tryz.func7, Tryz.ntmps7
  go_wp2_with fail
  refine (unhide Ca _).mono ?_
  rintro e wca ⟨rfl, rfl⟩
  clear Ca
  go_wp2_with fail
  refine (unhide Cb _).mono ?_
  rintro e wcb ⟨rfl, rfl⟩
  clear Cb
  have tX0 := tA
  obtain ⟨p0, p1, p2, p3, p4, p5, p6, p7, p8, p9, p10⟩ := tX0
  go_wp2_with fail
  refine (unhide CN _).mono ?_
  rintro e w1 ⟨gm, gt, gk, ge, g, rfl, E, hn, b⟩
  clear p0 p1 p2 p3 p4 p5 p6 p7 p8 p9 p10
  have hg : w.heap.size ≤ g := by omega
  clear hn tA CN
  have lg := E.met.lt
  have rA := rA.next b
  have rB := rB.next b
  have bl := bstep bl b
  clear b
  go_wp2_with fail
  refine (unhide CFa _ rA).mono ?_
  rintro e w2 ⟨v1, rfl, n1, b⟩
  have rA := rA.next b
  have rB := rB.next b
  have E := E.next b
  have bl := bstep bl b
  clear b
  go_wp2_with fail
  refine (unhide CFb _ rB).mono ?_
  rintro e w3 ⟨v2, rfl, n2, b⟩
  have rA := rA.next b
  have rB := rB.next b
  have E := E.next b
  have n1 := n1.next b
  have bl := bstep bl b
  clear b
  go_wp2_with fail
  refine (mul_any _ v1 v2 A D 120 (by omega) (unhide BA) (unhide BD) n1 n2).mono ?_
  rintro e w4 ⟨v3, rfl, n3, b⟩
  clear n1 n2
  have rA := rA.next b
  have rB := rB.next b
  have E := E.next b
  have bl := bstep bl b
  clear b
  clear CFa CFb
  go_wp2_with fail
  refine (unhide CWa _ rA).mono ?_
  rintro e ww4 ⟨rfl, rfl⟩
  go_wp2_with fail
  refine (unhide CWb _ rB).mono ?_
  rintro e ww5 ⟨rfl, rfl⟩
  go_wp2_with fail
  refine (unhide CWa _ rA).mono ?_
  rintro e ww6 ⟨rfl, rfl⟩
  go_wp2_with fail
  refine (unhide CWb _ rB).mono ?_
  rintro e ww7 ⟨rfl, rfl⟩
  clear CWa CWb
  obtain ⟨N, hN⟩ : ∃ N, N = max (wl A) (wl D) := ⟨_, rfl⟩
  obtain ⟨M, hM⟩ : ∃ M, M = min (wl A) (wl D) := ⟨_, rfl⟩
  have eN : max (wl A : Int) (wl D : Int) = (N : Int) := by omega
  have eM : min (wl A : Int) (wl D : Int) = (M : Int) := by omega
  obtain ⟨N1, hN1⟩ : ∃ N1, N1 = N + 1 := ⟨_, rfl⟩
  obtain ⟨N2, hN2⟩ : ∃ N2, N2 = N + 2 := ⟨_, rfl⟩
  obtain ⟨H, hH⟩ : ∃ H, H = N1 / 2 := ⟨_, rfl⟩
  obtain ⟨G, hG⟩ : ∃ G, G = N2 / 3 := ⟨_, rfl⟩
  obtain ⟨G2, hG2⟩ : ∃ G2, G2 = 2 * G := ⟨_, rfl⟩
  have f1 : (N : Int) + 1 = (N1 : Int) := by omega
  have f2 : (N : Int) + 2 = (N2 : Int) := by omega
  have f3 : IntKind.i64.wrap (N1 : Int) = (N1 : Int) := by rw [IntKind.wrap_i64]; omega
  have f4 : IntKind.i64.wrap (N2 : Int) = (N2 : Int) := by rw [IntKind.wrap_i64]; omega
  have f5 : (N1 : Int).tdiv 2 = (H : Int) := by rw [Int.tdiv_eq_ediv_of_nonneg (by omega)]; omega
  have f6 : (N2 : Int).tdiv 3 = (G : Int) := by rw [Int.tdiv_eq_ediv_of_nonneg (by omega)]; omega
  have f7 : IntKind.i64.wrap (H : Int) = (H : Int) := by rw [IntKind.wrap_i64]; omega
  have f8 : IntKind.i64.wrap (G : Int) = (G : Int) := by rw [IntKind.wrap_i64]; omega
  have f9 : 2 * (G : Int) = (G2 : Int) := by omega
  have f10 : IntKind.i64.wrap (G2 : Int) = (G2 : Int) := by rw [IntKind.wrap_i64]; omega
  have f11 : (N1 : Int) / 2 = (H : Int) := by omega
  have f12 : (N2 : Int) / 3 = (G : Int) := by omega
  skip
  have HN := hide hN
  have HM := hide hM
  have hmay : ∀ (r : Int), may r (max (wl A) (wl D)) (min (wl A) (wl D)) = may r N M := fun r => by rw [← hN, ← hM]
  have HMY := hide hmay
  have hnum : H = (N + 1) / 2 ∧ G2 = 2 * ((N + 2) / 3) := by subst hN1 hN2; omega
  have HNU := hide hnum
  clear hN hM hN1 hN2 hH hG hG2 hmay hnum
  obtain ⟨GB, hGB⟩ : ∃ GB, ww7.heap.size = GB := ⟨_, rfl⟩
  by_cases hm0 : 0 < M
  · skip
    have m1 : decide ((0 : Int) < (M : Int)) = true := decide_eq_true (by omega)
    have m2 : (0 : Int) < (M : Int) := by omega
    obtain ⟨b3, hb3⟩ : ∃ b3, decide ((H : Int) < (M : Int)) = b3 := ⟨_, rfl⟩
    obtain ⟨b4, hb4⟩ : ∃ b4, decide ((G2 : Int) < (M : Int)) = b4 := ⟨_, rfl⟩
    have hb3n : decide (H < M) = b3 := by rw [← hb3]; exact decide_eq_decide.2 (by omega)
    have hb4n : decide (G2 < M) = b4 := by rw [← hb4]; exact decide_eq_decide.2 (by omega)
    have HML : Hid (∀ j : Nat, j < 6 → (#[.bool false, .bool true, .bool true, .bool b3, .bool b4, .bool true] : Array Value)[j]? = some (.bool (may (j : Int) N M))) := fun j hj => by
      obtain ⟨u1, u2⟩ := unhide HNU
      have e3 : decide (0 < M ∧ (N + 1) / 2 < M) = b3 := by rw [← hb3]; exact decide_eq_decide.2 (by omega)
      have e4 : decide (0 < M ∧ 2 * ((N + 2) / 3) < M) = b4 := by rw [← hb4]; exact decide_eq_decide.2 (by omega)
      match j, hj with
      | 0, _ => rfl
      | 1, _ => simp [may, hm0]
      | 2, _ => simp [may, hm0]
      | 3, _ => simp only [may, ← e3]; rfl
      | 4, _ => simp only [may, ← e4]; rfl
      | 5, _ => simp [may, hm0]
    have d0 : Below ww7.heap.size ww7 (ww7.alloc (.cells #[.bool false, .bool true, .bool true, .bool b3, .bool b4, .bool true] 71)) := (Below.refl _ _).alloc (Nat.le_refl _) _
    have kB := heap_alloc_new ww7 (.cells #[.bool false, .bool true, .bool true, .bool b3, .bool b4, .bool true] 71)
    skip
    obtain ⟨W5, hW5⟩ : ∃ W5, ww7.alloc (.cells #[.bool false, .bool true, .bool true, .bool b3, .bool b4, .bool true] 71) = W5 := ⟨_, rfl⟩
    rw [hW5] at d0 kB
    rw [hGB] at kB
    have hMC : ∀ j : Nat, j < 6 → W5.cell? ⟨GB, j, none⟩ = some (.bool (may (j : Int) N M)) := fun j hj => by
      rw [cell_of_row W5 GB j _ _ (0, 0) kB]
      exact unhide HML j hj
    have rA := rA.next d0
    have rB := rB.next d0
    have E := E.next d0
    have n3 := n3.next d0
    have bl := bstep bl d0
    have R0 : Hid (∃ (q : Nat) (s' m' : Int), q ≤ 6 ∧ (.int .i64 0 : Value) = .int .i64 (q : Int) ∧ MEng W5 gm gt gk ge g s' 0 m' T ∧ 0 ≤ s' ∧ s' ≤ 1125899906842624 * (q : Int) ∧ Rep W5 ga ba oa ca us ∧ Rep W5 gb bb ob cb vs ∧ IsN W5 v3 (A * D) ∧ (∀ j : Nat, j < 6 → W5.cell? ⟨GB, j, none⟩ = some (.bool (may (j : Int) N M))) ∧ Below w.heap.size w W5) := ⟨0, 0, 0, by omega, rfl, E, by omega, by omega, rA, rB, n3, hMC, bl⟩
    clear E rA rB n3 hMC bl kB d0 HML HNU
    go_wp2
    clear hW5
    go_loopw [14] (fun i wr => ∃ (q : Nat) (s' m' : Int), q ≤ 6 ∧ i = .int .i64 (q : Int) ∧ MEng wr gm gt gk ge g s' 0 m' T ∧ 0 ≤ s' ∧ s' ≤ 1125899906842624 * (q : Int) ∧ Rep wr ga ba oa ca us ∧ Rep wr gb bb ob cb vs ∧ IsN wr v3 (A * D) ∧ (∀ j : Nat, j < 6 → wr.cell? ⟨GB, j, none⟩ = some (.bool (may (j : Int) N M))) ∧ Below w.heap.size w wr) (fun i _ => 6 - (intOf i).toNat)
    case atStart => exact unhide R0
    case round =>
      obtain ⟨q, s', m', hq, rfl, E, s0, s1, rA, rB, n3, hMC, bl⟩ := hrel
      clear R0
      obtain ⟨ga3, ba3, oa3, ca3, xs3, rfl, n3r⟩ := n3
      have n3 : IsN wr (.slice ga3 xs3.length ca3) (A * D) := ⟨ga3, ba3, oa3, ca3, xs3, rfl, n3r⟩
      clear n3r
      generalize xs3.length = l3 at *
      by_cases hlt : q < 6
      · have hqi : (q : Int) < 6 := by omega
        have cq := hMC q hlt
        obtain ⟨q1, hq1⟩ : ∃ q1, q + 1 = q1 := ⟨_, rfl⟩
        have i1 : (q : Int) + 1 = (q1 : Int) := by omega
        have i2 : IntKind.i64.wrap (q1 : Int) = (q1 : Int) := by rw [IntKind.wrap_i64]; omega
        have HMC := hide hMC
        clear hMC
        obtain ⟨mb, hmb⟩ : ∃ mb, may (q : Int) N M = mb := ⟨_, rfl⟩
        rw [hmb] at cq
        cases mb with
        | true =>
          have CB := hide (unhide HB wr gm gt gk ge g s' 0 m' T _ _ A D (q : Int) E ((unhide HT).next bl) s0 (by omega) (by omega) (by omega) (unhide QIa _ rA) (unhide QIb _ rB) (by rw [unhide HMY]; exact hmb) (by omega) (by omega))
          go_wp2_with fail
          refine (unhide CB).mono ?_
          rintro e w2 ⟨qv, s2, m2', rfl, nq, E2, k1, k2, o⟩
          clear CB
          have rA := E.rep o rA
          have rB := E.rep o rB
          have n3 := E.isN o n3
          have HMC2 : Hid (∀ j : Nat, j < 6 → w2.cell? ⟨GB, j, none⟩ = some (.bool (may (j : Int) N M))) := fun j hj => E.cell o (unhide HMC j hj) rfl (fun z e => by cases e)
          have cq : w2.cell? ⟨GB, q, none⟩ = some (.bool true) := E.cell o cq rfl (fun z e => by cases e)
          have bl := bl.trans (o.below (B := w.heap.size) bl.size (fun k hk => by rw [hk]; exact hg))
          have CS := hide (same_new w2 _ qv _ _ (60 + 60) (by omega) (unhide HPR) n3 nq)
          obtain ⟨qa, ql, qc, rfl⟩ := nq.shape
          clear E o HMC nq
          go_wp2_with fail
          refine (unhide CS).mono ?_
          rintro e w3 ⟨rfl, b⟩
          have E3 := E2.next b
          have rA := rA.next b
          have rB := rB.next b
          have n3 := n3.next b
          have HMC3 : Hid (∀ j : Nat, j < 6 → w3.cell? ⟨GB, j, none⟩ = some (.bool (may (j : Int) N M))) := fun j hj => (b.cell (World.block_lt_of_cell? _ _ (unhide HMC2 j hj))).trans (unhide HMC2 j hj)
          have bl := bstep bl b
          clear CS E2 HMC2 b cq
          go_wp2
          go_roundw
          case rel => exact ⟨q1, s2, m2', by omega, rfl, E3, k1, by omega, rA, rB, n3, unhide HMC3, bl⟩
          case measure => simp [intOf]; omega
        | false =>
          have CB := hide (unhide HBN wr gm gt gk ge g s' 0 m' T _ _ A D (q : Int) E ((unhide HT).next bl) s0 (by omega) (by omega) (by omega) (unhide QIa _ rA) (unhide QIb _ rB) (by rw [unhide HMY]; exact hmb) (by omega) (by omega))
          go_wp2_with fail
          refine (unhide CB).mono ?_
          rintro e w2 ⟨qa, qc, s2, m2', rfl, E2, k1, k2, o⟩
          clear CB
          have rA := E.rep o rA
          have rB := E.rep o rB
          have n3 := E.isN o n3
          have HMC3 : Hid (∀ j : Nat, j < 6 → w2.cell? ⟨GB, j, none⟩ = some (.bool (may (j : Int) N M))) := fun j hj => E.cell o (unhide HMC j hj) rfl (fun z e => by cases e)
          have cq : w2.cell? ⟨GB, q, none⟩ = some (.bool false) := E.cell o cq rfl (fun z e => by cases e)
          have bl := bl.trans (o.below (B := w.heap.size) bl.size (fun k hk => by rw [hk]; exact hg))
          clear E o HMC
          go_wp2
          go_roundw
          case rel => exact ⟨q1, s2, m2', by omega, rfl, E2, k1, by omega, rA, rB, n3, unhide HMC3, bl⟩
          case measure => simp [intOf]; omega
      · have hqi : ¬ (q : Int) < 6 := by omega
        have HMC := hide hMC
        clear hMC n3
        by_cases hout : ro < 1 ∨ 5 < ro
        · have hmf : may ro N M = false := by unfold may; rw [if_neg (by omega), if_neg (by omega), if_neg (by omega)]
          have CB := hide (unhide HBN wr gm gt gk ge g s' 0 m' T _ _ A D ro E ((unhide HT).next bl) s0 (by omega) (by omega) (by omega) (unhide QIa _ rA) (unhide QIb _ rB) (by rw [unhide HMY]; exact hmf) hr1 hr2)
          go_wp2_with fail
          refine (unhide CB).mono ?_
          rintro e w2 ⟨qa, qc, s2, m2', rfl, E2, k1, k2, o⟩
          have bl := bl.trans (o.below (B := w.heap.size) bl.size (fun k hk => by rw [hk]; exact hg))
          clear CB E o HMC rA rB
          by_cases hlo : ro < 1
          · go_wp2_with fail
            refine (unhide CK _ ((unhide HT).next bl)).mono ?_
            rintro e w3 ⟨rfl, b⟩
            have bl := bstep bl b
            go_wp2
            go_ret
            exact ⟨rfl, bl⟩
          · have hhi : (5 : Int) < ro := by omega
            go_wp2_with fail
            refine (unhide CK _ ((unhide HT).next bl)).mono ?_
            rintro e w3 ⟨rfl, b⟩
            have bl := bstep bl b
            go_wp2
            go_ret
            exact ⟨rfl, bl⟩
        · obtain ⟨R, hR⟩ : ∃ R : Nat, ro = (R : Int) := ⟨ro.toNat, by omega⟩
          subst hR
          have hlo : ¬ (R : Int) < 1 := by omega
          have hhi : ¬ (5 : Int) < (R : Int) := by omega
          have hR6 : (R : Int) < 6 := by omega
          obtain ⟨mb, hmb⟩ : ∃ mb, may (R : Int) N M = mb := ⟨_, rfl⟩
          have cR := unhide HMC R (by omega)
          rw [hmb] at cR
          cases mb with
          | true =>
            have CB := hide (unhide HB wr gm gt gk ge g s' 0 m' T _ _ A D (R : Int) E ((unhide HT).next bl) s0 (by omega) (by omega) (by omega) (unhide QIa _ rA) (unhide QIb _ rB) (by rw [unhide HMY]; exact hmb) hr1 hr2)
            go_wp2_with fail
            refine (unhide CB).mono ?_
            rintro e w2 ⟨qv, s2, m2', rfl, nq, E2, k1, k2, o⟩
            have cR : w2.cell? ⟨GB, R, none⟩ = some (.bool true) := E.cell o cR rfl (fun z e => by cases e)
            have bl := bl.trans (o.below (B := w.heap.size) bl.size (fun k hk => by rw [hk]; exact hg))
            obtain ⟨qa, ql, qc, rfl⟩ := nq.shape
            clear CB E o HMC rA rB nq
            go_wp2_with fail
            refine (unhide CK _ ((unhide HT).next bl)).mono ?_
            rintro e w3 ⟨rfl, b⟩
            have bl := bstep bl b
            go_wp2
            go_ret
            exact ⟨rfl, bl⟩
          | false =>
            have CB := hide (unhide HBN wr gm gt gk ge g s' 0 m' T _ _ A D (R : Int) E ((unhide HT).next bl) s0 (by omega) (by omega) (by omega) (unhide QIa _ rA) (unhide QIb _ rB) (by rw [unhide HMY]; exact hmb) hr1 hr2)
            go_wp2_with fail
            refine (unhide CB).mono ?_
            rintro e w2 ⟨qa, qc, s2, m2', rfl, E2, k1, k2, o⟩
            have cR : w2.cell? ⟨GB, R, none⟩ = some (.bool false) := E.cell o cR rfl (fun z e => by cases e)
            have bl := bl.trans (o.below (B := w.heap.size) bl.size (fun k hk => by rw [hk]; exact hg))
            clear CB E o HMC rA rB
            go_wp2_with fail
            refine (unhide CK _ ((unhide HT).next bl)).mono ?_
            rintro e w3 ⟨rfl, b⟩
            have bl := bstep bl b
            go_wp2
            go_ret
            exact ⟨rfl, bl⟩
  · skip
    have m1 : decide ((0 : Int) < (M : Int)) = false := decide_eq_false (by omega)
    have m2 : ¬ (0 : Int) < (M : Int) := by omega
    have HML : Hid (∀ j : Nat, j < 6 → (#[.bool false, .bool false, .bool false, .bool false, .bool false, .bool false] : Array Value)[j]? = some (.bool (may (j : Int) N M))) := fun j hj => by
      have h0 : M = 0 := by omega
      match j, hj with
      | 0, _ => rfl
      | 1, _ => simp [may, h0]
      | 2, _ => simp [may, h0]
      | 3, _ => simp [may, h0]
      | 4, _ => simp [may, h0]
      | 5, _ => simp [may, h0]
    have d0 : Below ww7.heap.size ww7 (ww7.alloc (.cells #[.bool false, .bool false, .bool false, .bool false, .bool false, .bool false] 71)) := (Below.refl _ _).alloc (Nat.le_refl _) _
    have kB := heap_alloc_new ww7 (.cells #[.bool false, .bool false, .bool false, .bool false, .bool false, .bool false] 71)
    go_wp2
    obtain ⟨W5, hW5⟩ : ∃ W5, ww7.alloc (.cells #[.bool false, .bool false, .bool false, .bool false, .bool false, .bool false] 71) = W5 := ⟨_, rfl⟩
    rw [hW5] at d0 kB ⊢
    rw [hGB] at kB
    have hMC : ∀ j : Nat, j < 6 → W5.cell? ⟨GB, j, none⟩ = some (.bool (may (j : Int) N M)) := fun j hj => by
      rw [cell_of_row W5 GB j _ _ (0, 0) kB]
      exact unhide HML j hj
    have rA := rA.next d0
    have rB := rB.next d0
    have E := E.next d0
    have n3 := n3.next d0
    have bl := bstep bl d0
    have R0 : Hid (∃ (q : Nat) (s' m' : Int), q ≤ 6 ∧ (.int .i64 0 : Value) = .int .i64 (q : Int) ∧ MEng W5 gm gt gk ge g s' 0 m' T ∧ 0 ≤ s' ∧ s' ≤ 1125899906842624 * (q : Int) ∧ Rep W5 ga ba oa ca us ∧ Rep W5 gb bb ob cb vs ∧ IsN W5 v3 (A * D) ∧ (∀ j : Nat, j < 6 → W5.cell? ⟨GB, j, none⟩ = some (.bool (may (j : Int) N M))) ∧ Below w.heap.size w W5) := ⟨0, 0, 0, by omega, rfl, E, by omega, by omega, rA, rB, n3, hMC, bl⟩
    clear E rA rB n3 hMC bl kB d0 HML HNU
    skip
    clear hW5
    go_loopw [14] (fun i wr => ∃ (q : Nat) (s' m' : Int), q ≤ 6 ∧ i = .int .i64 (q : Int) ∧ MEng wr gm gt gk ge g s' 0 m' T ∧ 0 ≤ s' ∧ s' ≤ 1125899906842624 * (q : Int) ∧ Rep wr ga ba oa ca us ∧ Rep wr gb bb ob cb vs ∧ IsN wr v3 (A * D) ∧ (∀ j : Nat, j < 6 → wr.cell? ⟨GB, j, none⟩ = some (.bool (may (j : Int) N M))) ∧ Below w.heap.size w wr) (fun i _ => 6 - (intOf i).toNat)
    case atStart => exact unhide R0
    case round =>
      obtain ⟨q, s', m', hq, rfl, E, s0, s1, rA, rB, n3, hMC, bl⟩ := hrel
      clear R0
      obtain ⟨ga3, ba3, oa3, ca3, xs3, rfl, n3r⟩ := n3
      have n3 : IsN wr (.slice ga3 xs3.length ca3) (A * D) := ⟨ga3, ba3, oa3, ca3, xs3, rfl, n3r⟩
      clear n3r
      generalize xs3.length = l3 at *
      by_cases hlt : q < 6
      · have hqi : (q : Int) < 6 := by omega
        have cq := hMC q hlt
        obtain ⟨q1, hq1⟩ : ∃ q1, q + 1 = q1 := ⟨_, rfl⟩
        have i1 : (q : Int) + 1 = (q1 : Int) := by omega
        have i2 : IntKind.i64.wrap (q1 : Int) = (q1 : Int) := by rw [IntKind.wrap_i64]; omega
        have HMC := hide hMC
        clear hMC
        obtain ⟨mb, hmb⟩ : ∃ mb, may (q : Int) N M = mb := ⟨_, rfl⟩
        rw [hmb] at cq
        cases mb with
        | true =>
          have CB := hide (unhide HB wr gm gt gk ge g s' 0 m' T _ _ A D (q : Int) E ((unhide HT).next bl) s0 (by omega) (by omega) (by omega) (unhide QIa _ rA) (unhide QIb _ rB) (by rw [unhide HMY]; exact hmb) (by omega) (by omega))
          go_wp2_with fail
          refine (unhide CB).mono ?_
          rintro e w2 ⟨qv, s2, m2', rfl, nq, E2, k1, k2, o⟩
          clear CB
          have rA := E.rep o rA
          have rB := E.rep o rB
          have n3 := E.isN o n3
          have HMC2 : Hid (∀ j : Nat, j < 6 → w2.cell? ⟨GB, j, none⟩ = some (.bool (may (j : Int) N M))) := fun j hj => E.cell o (unhide HMC j hj) rfl (fun z e => by cases e)
          have cq : w2.cell? ⟨GB, q, none⟩ = some (.bool true) := E.cell o cq rfl (fun z e => by cases e)
          have bl := bl.trans (o.below (B := w.heap.size) bl.size (fun k hk => by rw [hk]; exact hg))
          have CS := hide (same_new w2 _ qv _ _ (60 + 60) (by omega) (unhide HPR) n3 nq)
          obtain ⟨qa, ql, qc, rfl⟩ := nq.shape
          clear E o HMC nq
          go_wp2_with fail
          refine (unhide CS).mono ?_
          rintro e w3 ⟨rfl, b⟩
          have E3 := E2.next b
          have rA := rA.next b
          have rB := rB.next b
          have n3 := n3.next b
          have HMC3 : Hid (∀ j : Nat, j < 6 → w3.cell? ⟨GB, j, none⟩ = some (.bool (may (j : Int) N M))) := fun j hj => (b.cell (World.block_lt_of_cell? _ _ (unhide HMC2 j hj))).trans (unhide HMC2 j hj)
          have bl := bstep bl b
          clear CS E2 HMC2 b cq
          go_wp2
          go_roundw
          case rel => exact ⟨q1, s2, m2', by omega, rfl, E3, k1, by omega, rA, rB, n3, unhide HMC3, bl⟩
          case measure => simp [intOf]; omega
        | false =>
          have CB := hide (unhide HBN wr gm gt gk ge g s' 0 m' T _ _ A D (q : Int) E ((unhide HT).next bl) s0 (by omega) (by omega) (by omega) (unhide QIa _ rA) (unhide QIb _ rB) (by rw [unhide HMY]; exact hmb) (by omega) (by omega))
          go_wp2_with fail
          refine (unhide CB).mono ?_
          rintro e w2 ⟨qa, qc, s2, m2', rfl, E2, k1, k2, o⟩
          clear CB
          have rA := E.rep o rA
          have rB := E.rep o rB
          have n3 := E.isN o n3
          have HMC3 : Hid (∀ j : Nat, j < 6 → w2.cell? ⟨GB, j, none⟩ = some (.bool (may (j : Int) N M))) := fun j hj => E.cell o (unhide HMC j hj) rfl (fun z e => by cases e)
          have cq : w2.cell? ⟨GB, q, none⟩ = some (.bool false) := E.cell o cq rfl (fun z e => by cases e)
          have bl := bl.trans (o.below (B := w.heap.size) bl.size (fun k hk => by rw [hk]; exact hg))
          clear E o HMC
          go_wp2
          go_roundw
          case rel => exact ⟨q1, s2, m2', by omega, rfl, E2, k1, by omega, rA, rB, n3, unhide HMC3, bl⟩
          case measure => simp [intOf]; omega
      · have hqi : ¬ (q : Int) < 6 := by omega
        have HMC := hide hMC
        clear hMC n3
        by_cases hout : ro < 1 ∨ 5 < ro
        · have hmf : may ro N M = false := by unfold may; rw [if_neg (by omega), if_neg (by omega), if_neg (by omega)]
          have CB := hide (unhide HBN wr gm gt gk ge g s' 0 m' T _ _ A D ro E ((unhide HT).next bl) s0 (by omega) (by omega) (by omega) (unhide QIa _ rA) (unhide QIb _ rB) (by rw [unhide HMY]; exact hmf) hr1 hr2)
          go_wp2_with fail
          refine (unhide CB).mono ?_
          rintro e w2 ⟨qa, qc, s2, m2', rfl, E2, k1, k2, o⟩
          have bl := bl.trans (o.below (B := w.heap.size) bl.size (fun k hk => by rw [hk]; exact hg))
          clear CB E o HMC rA rB
          by_cases hlo : ro < 1
          · go_wp2_with fail
            refine (unhide CK _ ((unhide HT).next bl)).mono ?_
            rintro e w3 ⟨rfl, b⟩
            have bl := bstep bl b
            go_wp2
            go_ret
            exact ⟨rfl, bl⟩
          · have hhi : (5 : Int) < ro := by omega
            go_wp2_with fail
            refine (unhide CK _ ((unhide HT).next bl)).mono ?_
            rintro e w3 ⟨rfl, b⟩
            have bl := bstep bl b
            go_wp2
            go_ret
            exact ⟨rfl, bl⟩
        · obtain ⟨R, hR⟩ : ∃ R : Nat, ro = (R : Int) := ⟨ro.toNat, by omega⟩
          subst hR
          have hlo : ¬ (R : Int) < 1 := by omega
          have hhi : ¬ (5 : Int) < (R : Int) := by omega
          have hR6 : (R : Int) < 6 := by omega
          obtain ⟨mb, hmb⟩ : ∃ mb, may (R : Int) N M = mb := ⟨_, rfl⟩
          have cR := unhide HMC R (by omega)
          rw [hmb] at cR
          cases mb with
          | true =>
            have CB := hide (unhide HB wr gm gt gk ge g s' 0 m' T _ _ A D (R : Int) E ((unhide HT).next bl) s0 (by omega) (by omega) (by omega) (unhide QIa _ rA) (unhide QIb _ rB) (by rw [unhide HMY]; exact hmb) hr1 hr2)
            go_wp2_with fail
            refine (unhide CB).mono ?_
            rintro e w2 ⟨qv, s2, m2', rfl, nq, E2, k1, k2, o⟩
            have cR : w2.cell? ⟨GB, R, none⟩ = some (.bool true) := E.cell o cR rfl (fun z e => by cases e)
            have bl := bl.trans (o.below (B := w.heap.size) bl.size (fun k hk => by rw [hk]; exact hg))
            obtain ⟨qa, ql, qc, rfl⟩ := nq.shape
            clear CB E o HMC rA rB nq
            go_wp2_with fail
            refine (unhide CK _ ((unhide HT).next bl)).mono ?_
            rintro e w3 ⟨rfl, b⟩
            have bl := bstep bl b
            go_wp2
            go_ret
            exact ⟨rfl, bl⟩
          | false =>
            have CB := hide (unhide HBN wr gm gt gk ge g s' 0 m' T _ _ A D (R : Int) E ((unhide HT).next bl) s0 (by omega) (by omega) (by omega) (unhide QIa _ rA) (unhide QIb _ rB) (by rw [unhide HMY]; exact hmb) hr1 hr2)
            go_wp2_with fail
            refine (unhide CB).mono ?_
            rintro e w2 ⟨qa, qc, s2, m2', rfl, E2, k1, k2, o⟩
            have cR : w2.cell? ⟨GB, R, none⟩ = some (.bool false) := E.cell o cR rfl (fun z e => by cases e)
            have bl := bl.trans (o.below (B := w.heap.size) bl.size (fun k hk => by rw [hk]; exact hg))
            clear CB E o HMC rA rB
            go_wp2_with fail
            refine (unhide CK _ ((unhide HT).next bl)).mono ?_
            rintro e w3 ⟨rfl, b⟩
            have bl := bstep bl b
            go_wp2
            go_ret
            exact ⟨rfl, bl⟩

end Go.Proofs.YtiekgpphggejcaaGreatDoor
