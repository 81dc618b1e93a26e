/- MulNoughts: what the law's walk comes to, once the code is what the document asks. Written by gen_noughts.py. -/
import Derived.Test.YtiekgpphggejcaaGreatDoorB45
import Derived.Test.YtiekgpphggejcaaGreatDoorXMulNoughts
import Derived.Test.YtiekgpphggejcaaGreatDoorB10
import Derived.Test.YtiekgpphggejcaaGreatDoorB5
namespace Go.Proofs.YtiekgpphggejcaaGreatDoor
open Go.RowKit

set_option maxRecDepth 100000 in
set_option maxHeartbeats 12800000 in
theorem mulNoughts_any (SN : SpecMNew) (SM : SpecMMul) (SQ : SpecMSqr) (SP : SpecMProd) (T : Tab) (ga : Option Addr) (ba oa ca la : Nat) (xs : List Nat) (gb : Option Addr) (bb ob cb lb : Nat) (ys : List Nat) (w : World) (hxs : xs.length = la) (HrA : Rep w ga ba oa ca xs) (kxs : ∀ j, xs.getD j 0 < 18446744073709551616) (hys : ys.length = lb) (HrB : Rep w gb bb ob cb ys) (kys : ∀ j, ys.getD j 0 < 18446744073709551616) (c d : Int) (hc1 : -9223372036854775808 ≤ c) (hc2 : c ≤ 9223372036854775807) (hd1 : -9223372036854775808 ≤ d) (hd2 : d ≤ 9223372036854775807) (hT : TB w) :
    Calls Tryz.prog 8 #[T.val, .slice ga la ca, .slice gb lb cb, .int .i64 c, .int .i64 d] w fun e w' => e = .returned (.bool true) ∧ Below w.heap.size w w' := by
  obtain ⟨n, hca⟩ : ∃ k, k = min la 40 := ⟨_, rfl⟩
  have Ca : Hid (∀ w, Calls Tryz.prog 9 #[.slice ga la ca, .int .i64 40] w fun e w' => e = .returned (.slice ga n ca) ∧ w' = w) := fun w => cut_any w ga la ca 40 n (by have := HrA.room; omega) (by omega) hca
  obtain ⟨hla, rA⟩ := cut_rep HrA 40 n (by rw [hxs]; exact hca)
  have dx : WDig (xs.take n) := take_words kxs n
  have hma : n ≤ 40 := by omega
  clear hca HrA kxs hxs
  generalize xs.take n = us at *
  obtain ⟨m, hcb⟩ : ∃ k, k = min lb 40 := ⟨_, rfl⟩
  have Cb : Hid (∀ w, Calls Tryz.prog 9 #[.slice gb lb cb, .int .i64 40] w fun e w' => e = .returned (.slice gb m cb) ∧ w' = w) := fun w => cut_any w gb lb cb 40 m (by have := HrB.room; omega) (by omega) hcb
  obtain ⟨hlb, rB⟩ := cut_rep HrB 40 m (by rw [hys]; exact hcb)
  have dy : WDig (ys.take m) := take_words kys m
  have hmb : m ≤ 40 := by omega
  clear hcb HrB kys hys
  generalize ys.take m = vs at *
  obtain ⟨A, hva⟩ : ∃ k, k = wval us := ⟨_, rfl⟩
  have LA : Hid (A < 18446744073709551616 ^ 40) := by show _ < _; rw [hva]; exact pow_up (wval_lt_pow dx) (by omega)
  have BA : Hid (A < 4294967296 ^ 80) := by have := unhide LA; rw [wpow] at this; exact this
  have CFa := hide (fun W (r : Rep W ga ba oa ca us) => from_mul W ga ba oa ca n A us hla (by omega) r dx hva)
  have CWa := hide (fun W (r : Rep W ga ba oa ca us) => lwords_any W ga ba oa ca n A us hla (by omega) r dx hva)
  have wlA : wl A ≤ 40 := by rw [hva]; exact Nat.le_trans (wl_le_len dx) (by omega)
  have HLa := hide hla
  have HEa := hide hva
  clear hva hla
  obtain ⟨D, hvb⟩ : ∃ k, k = wval vs := ⟨_, rfl⟩
  have LD : Hid (D < 18446744073709551616 ^ 40) := by show _ < _; rw [hvb]; exact pow_up (wval_lt_pow dy) (by omega)
  have BD : Hid (D < 4294967296 ^ 80) := by have := unhide LD; rw [wpow] at this; exact this
  have CFb := hide (fun W (r : Rep W gb bb ob cb vs) => from_mul W gb bb ob cb m D vs hlb (by omega) r dy hvb)
  have CWb := hide (fun W (r : Rep W gb bb ob cb vs) => lwords_any W gb bb ob cb m D vs hlb (by omega) r dy hvb)
  have wlD : wl D ≤ 40 := by rw [hvb]; exact Nat.le_trans (wl_le_len dy) (by omega)
  have HLb := hide hlb
  have HEb := hide hvb
  clear hvb hlb
  have bl := Below.refl w.heap.size w
  have b0 : Below w.heap.size w (w.alloc (.cells #[.int .i64 T.b, .int .i64 T.t, .int .i64 T.n, .int .i64 T.d, .int .i64 T.r, .int .i64 T.l, .int .i64 T.x, .int .i64 T.p, .int .i64 T.k, .int .i64 T.s, .int .i64 T.e] 23)) := (Below.refl _ _).alloc (Nat.le_refl _) _
  have tA := tabAt_new w T 23
  obtain ⟨W1, hW1⟩ : ∃ W, w.alloc (.cells #[.int .i64 T.b, .int .i64 T.t, .int .i64 T.n, .int .i64 T.d, .int .i64 T.r, .int .i64 T.l, .int .i64 T.x, .int .i64 T.p, .int .i64 T.k, .int .i64 T.s, .int .i64 T.e] 23) = W := ⟨_, rfl⟩
  rw [hW1] at b0 tA
  obtain ⟨P0, hP0⟩ : ∃ P, w.heap.size = P := ⟨_, rfl⟩
  rw [hP0] at tA
  have lP : P0 < W1.heap.size := tA.lt
  have HT := hide hT
  clear hT
  have rA := rA.next b0
  have rB := rB.next b0
  have bl := bstep bl b0
  clear b0
  have CN := hide (fun W => SN T W)
  have HM := hide SM
  have HQ := hide SQ
  have CK := hide (fun W h => mulWakes_any SN SP W h)
  have HPR : Hid (A * D < 18446744073709551616 ^ (40 + 40)) := by have := Nat.mul_lt_mul'' (unhide LA) (unhide LD); rwa [← Nat.pow_add] at this
  have HAA : Hid (A * A < 18446744073709551616 ^ (40 + 40)) := by have := Nat.mul_lt_mul'' (unhide LA) (unhide LA); rwa [← Nat.pow_add] at this
  have WC := hide (fun W => within_any c 50 W hc1 hc2 (by omega) (by omega))
  have WD := hide (fun W => within_any d 50 W hd1 hd2 (by omega) (by omega))
  obtain ⟨kc, hkc⟩ : ∃ k : Nat, c % 50 = (k : Int) := ⟨(c % 50).toNat, by omega⟩
  obtain ⟨kd, hkd⟩ : ∃ k : Nat, d % 50 = (k : Int) := ⟨(d % 50).toNat, by omega⟩
  have lc : kc < 50 := by omega
  have ld : kd < 50 := by omega
  rw [hkc] at WC
  rw [hkd] at WD
  clear SN SM SQ SP hkc hkd hc1 hc2 hd1 hd2
  unfold Tab.val at CN ⊢
  go_enter Tryz.func8, Tryz.ntmps8
  go_wp2_with fail
  refine (unhide Ca _).mono ?_
  rintro e wca ⟨rfl, rfl⟩
  clear Ca
  go_wp2_with fail
  refine (unhide Cb _).mono ?_
  rintro e wcb ⟨rfl, rfl⟩
  clear Cb
  have HC : Hid (∀ w', Below wcb.heap.size wcb w' → w'.cell? ⟨P0, 0, none⟩ = some (.int .i64 T.b) ∧ w'.cell? ⟨P0, 1, none⟩ = some (.int .i64 T.t) ∧ w'.cell? ⟨P0, 2, none⟩ = some (.int .i64 T.n) ∧ w'.cell? ⟨P0, 3, none⟩ = some (.int .i64 T.d) ∧ w'.cell? ⟨P0, 4, none⟩ = some (.int .i64 T.r) ∧ w'.cell? ⟨P0, 5, none⟩ = some (.int .i64 T.l) ∧ w'.cell? ⟨P0, 6, none⟩ = some (.int .i64 T.x) ∧ w'.cell? ⟨P0, 7, none⟩ = some (.int .i64 T.p) ∧ w'.cell? ⟨P0, 8, none⟩ = some (.int .i64 T.k) ∧ w'.cell? ⟨P0, 9, none⟩ = some (.int .i64 T.s) ∧ w'.cell? ⟨P0, 10, none⟩ = some (.int .i64 T.e)) := fun w' q => by
    obtain ⟨p0, p1, p2, p3, p4, p5, p6, p7, p8, p9, p10⟩ := tA.next q
    exact ⟨p0, p1, p2, p3, p4, p5, p6, p7, p8, p9, p10⟩
  obtain ⟨p0, p1, p2, p3, p4, p5, p6, p7, p8, p9, p10⟩ := unhide HC _ (Below.refl _ _)
  have b0 : Below wcb.heap.size wcb wcb.drew := (Below.refl _ _).drew
  go_wp2
  go_region_held3 (fun w' => w'.cell? ⟨P0, 0, none⟩ = some (.int .i64 T.b) ∧ w'.cell? ⟨P0, 1, none⟩ = some (.int .i64 T.t) ∧ w'.cell? ⟨P0, 2, none⟩ = some (.int .i64 T.n) ∧ w'.cell? ⟨P0, 3, none⟩ = some (.int .i64 T.d) ∧ w'.cell? ⟨P0, 4, none⟩ = some (.int .i64 T.r) ∧ w'.cell? ⟨P0, 5, none⟩ = some (.int .i64 T.l) ∧ w'.cell? ⟨P0, 6, none⟩ = some (.int .i64 T.x) ∧ w'.cell? ⟨P0, 7, none⟩ = some (.int .i64 T.p) ∧ w'.cell? ⟨P0, 8, none⟩ = some (.int .i64 T.k) ∧ w'.cell? ⟨P0, 9, none⟩ = some (.int .i64 T.s) ∧ w'.cell? ⟨P0, 10, none⟩ = some (.int .i64 T.e)) (first | (with_reducible exact unhide HC _ b0) | go_keep) (first
    | (with_reducible refine (unhide CN _).mono ?_; rintro e wn2 ⟨gm', gt', gk', ge', g', rfl, F, hn, b⟩; have hg' := Nat.le_trans b0.size hn.2.2.2.2; have hgg := Nat.lt_of_lt_of_le E.met.lt hn.2.2.2.2; have E := E.next b; have b0 := b0.trans (b.mono b0.size); clear b hn)
    | (with_reducible refine (unhide CN _).mono ?_; rintro e wn1 ⟨gm, gt, gk, ge, g, rfl, E, hn, b⟩; have hg := Nat.le_trans b0.size hn.2.2.2.2; have b0 := b0.trans (b.mono b0.size); clear b hn)
    | fail)
  clear p0 p1 p2 p3 p4 p5 p6 p7 p8 p9 p10 HC CN tA
  have bl := bstep bl b0
  have rA := rA.next b0
  have rB := rB.next b0
  clear b0
  have hw1 : w.heap.size ≤ g := by omega
  have hw2 : w.heap.size ≤ g' := by omega
  have ngg : g ≠ g' := by omega
  clear hg hg' hgg lP
  go_wp2_with fail
  refine (keepCopy_any _ ga ba oa ca n us (unhide HLa) (by omega) rA).mono ?_
  rintro e w1 ⟨xv, rfl, ow, b⟩
  have szb := b.size
  obtain ⟨xv2, xw2, hrun, ow2, gr2⟩ := run_zeros _ _ _ _ kc _ ow (by omega) szb
  have bx : Below wn2.heap.size wn2 xw2 := b.grown gr2 szb (fun j ej => (ow.lt j ej).1)
  obtain ⟨xg, xb, xc, rfl, _, _⟩ := nowns_rep ow
  obtain ⟨xg2, xb2, xc2, rfl, HLx, rX⟩ := nowns_rep ow2
  clear ow ow2 gr2 b szb
  go_wp2_with fail
  refine (unhide WC _).mono ?_
  rintro e xw ⟨rfl, hq⟩
  obtain rfl := hq.symm
  clear hq
  go_wp2_with (at_builtin; refine Lib.wpList_append_run _ rfl _ _ _ _ rfl _ _ rfl rfl _ _ hrun ?_; clear hrun)
  (try clear hrun)
  have rA := rA.next bx
  have rB := rB.next bx
  have E := E.next bx
  have F := F.next bx
  have bl := bstep bl bx
  clear bx
  go_wp2_with fail
  refine (keepCopy_any _ gb bb ob cb m vs (unhide HLb) (by omega) rB).mono ?_
  rintro e w2 ⟨yv, rfl, ow, b⟩
  have szb := b.size
  obtain ⟨yv2, yw2, hrun, ow2, gr2⟩ := run_zeros _ _ _ _ kd _ ow (by omega) szb
  have bx : Below xw2.heap.size xw2 yw2 := b.grown gr2 szb (fun j ej => (ow.lt j ej).1)
  obtain ⟨yg, yb, yc, rfl, _, _⟩ := nowns_rep ow
  obtain ⟨yg2, yb2, yc2, rfl, HLy, rY⟩ := nowns_rep ow2
  clear ow ow2 gr2 b szb
  go_wp2_with fail
  refine (unhide WD _).mono ?_
  rintro e yw ⟨rfl, hq⟩
  obtain rfl := hq.symm
  clear hq
  go_wp2_with (at_builtin; refine Lib.wpList_append_run _ rfl _ _ _ _ rfl _ _ rfl rfl _ _ hrun ?_)
  (try clear hrun)
  have rA := rA.next bx
  have rB := rB.next bx
  have E := E.next bx
  have F := F.next bx
  have rX := rX.next bx
  have bl := bstep bl bx
  clear bx
  obtain ⟨B, hB⟩ : ∃ B, yw2.heap.size = B := ⟨_, rfl⟩
  have lgE := E.met.lt
  have lgF := F.met.lt
  have N0 : NSt w yw2 B gm gt gk ge g gm' gt' gk' ge' g' 0 0 0 0 T (.slice ga n ca) (.slice gb m cb) (.slice xg2 (n + kc) xc2) (.slice yg2 (m + kd) yc2) A D :=
    ⟨E, F, inM_rep rA dx (unhide HLa) (unhide HEa) (by omega), inM_rep rB dy (unhide HLb) (unhide HEb) (by omega), inM_rep rX (ndig_noughts dx kc) HLx (by rw [nval_noughts]; exact unhide HEa) (by omega), inM_rep rY (ndig_noughts dy kd) HLy (by rw [nval_noughts]; exact unhide HEb) (by omega), unhide HT, bl, by omega, by omega, by omega⟩
  have c1 := costT_le T (wl A) (wl D) (by omega) (by omega)
  have c2 := sqT_le T (wl A) (by omega)
  have c3 : wl A * wl D ≤ 40 * 40 := Nat.mul_le_mul wlA wlD
  have c4 : wl A * wl A ≤ 40 * 40 := Nat.mul_le_mul wlA wlA
  have hs0 : (0 : Int) ≤ 100000000000 := by omega
  have hsK : (0 : Int) + costT T (wl A : Int) (wl D : Int) ≤ 100000000000 := by omega
  have hsL : (0 : Int) + costT T (wl A : Int) (wl D : Int) + sqT T (wl A : Int) ≤ 100000000000 := by omega
  have d2 : 40 + 40 ≤ 1073741824 := by omega
  have N := N0.next ((Below.refl _ _).drew)
  have HW := hide (ways2 N0.E N0.F)
  obtain ⟨z0, z1, z2, z3, z4, z5, z6, z7⟩ := ways2 N0.E N0.F
  have hmk := make_su kd kd (kd : Int) rfl rfl (by omega)
  have hz1 : costT T (wl A : Int) ((wl 0 : Nat) : Int) = 0 := by rw [wl_zero, costT_nat T (Nat.zero_le _) (by omega), cst_nought]; rfl
  have hz2 : sqT T ((wl 0 : Nat) : Int) = 0 := by rw [wl_zero, sqT_nat T (Nat.zero_le _), sqt_zero (Or.inl (by unfold rt; simp))]; rfl
  clear E F rA rB rX rY bl c1 c2 c3 c4 lgE lgF N0 CWa CWb CFa CFb
  as_aux_lemma =>
    go_wp2
    (try simp only [List.append_eq, List.cons_append, List.nil_append])
    go_region_held3 (fun w' => w'.cell? ⟨gm, 0, none⟩ = some (.pointer (some ⟨gt, 0, none⟩)) ∧ w'.cell? ⟨gt, 0, none⟩ = some (.pointer (some ⟨gk, 0, none⟩)) ∧ w'.cell? ⟨gk, 0, none⟩ = some (.pointer (some ⟨ge, 0, none⟩)) ∧ w'.cell? ⟨ge, 0, none⟩ = some (.pointer (some ⟨g, 0, none⟩)) ∧ w'.cell? ⟨gm', 0, none⟩ = some (.pointer (some ⟨gt', 0, none⟩)) ∧ w'.cell? ⟨gt', 0, none⟩ = some (.pointer (some ⟨gk', 0, none⟩)) ∧ w'.cell? ⟨gk', 0, none⟩ = some (.pointer (some ⟨ge', 0, none⟩)) ∧ w'.cell? ⟨ge', 0, none⟩ = some (.pointer (some ⟨g', 0, none⟩))) (first | (with_reducible exact ways2 N.E N.F) | go_keep) (first
      | (with_reducible refine (N.emul (unhide HM) hs0 N.ix N.iy).mono ?_; rintro e wm1 ⟨r1, l1, c1, m1, rfl, n1, N, pr⟩)
      | (with_reducible refine (N.fmul (unhide HM) hs0 N.ia N.ib).mono ?_; rintro e wm2 ⟨r2, l2, c2, m2, rfl, n2, N, pr⟩; have n1 := pr _ _ n1)
      | (with_reducible refine (same_two _ _ _ _ _ _ _ (40 + 40) d2 (unhide HPR) rfl n1 n2).mono ?_; rintro e wm3 ⟨rfl, b⟩; have N := N.next b; clear b n1 n2 pr)
      | (with_reducible refine (muls_any N.E.met).mono ?_; rintro e wm4 ⟨rfl, rfl⟩)
      | (with_reducible refine (muls_any N.F.met).mono ?_; rintro e wm5 ⟨rfl, rfl⟩)
      | (with_reducible refine (N.esqr (unhide HQ) hsK N.ix).mono ?_; rintro e wm6 ⟨r3, l3, c3, m3, rfl, n3, N, pr⟩)
      | (with_reducible refine (N.fsqr (unhide HQ) hsK N.ia).mono ?_; rintro e wm7 ⟨r4, l4, c4, m4, rfl, n4, N, pr⟩; have n3 := pr _ _ n3)
      | (with_reducible refine (same_two _ _ _ _ _ _ _ (40 + 40) d2 (unhide HAA) rfl n3 n4).mono ?_; rintro e wm8 ⟨rfl, b⟩; have N := N.next b; clear b n3 n4 pr)
      | fail)
    as_aux_lemma =>
      clear z0 z1 z2 z3 z4 z5 z6 z7
      obtain ⟨z0, z1, z2, z3, z4, z5, z6, z7⟩ := ways2 N.E N.F
      go_wp2_with fail
      refine (muls_any N.E.met).mono ?_
      rintro e wk ⟨rfl, hq⟩
      obtain rfl := hq.symm
      clear hq
      go_wp2_with fail
      refine (unhide WD _).mono ?_
      rintro e wd ⟨rfl, hq⟩
      obtain rfl := hq.symm
      clear hq
      have NA := N.next ((Below.refl _ _).alloc (Nat.le_refl _) (.cells (zlist kd).toArray 78))
      have CM := hide (NA.emul (unhide HM) hsL NA.ix (inM_zeros _ kd (by omega)))
      simp only [hz1, Int.add_zero, Nat.mul_zero] at CM
      go_wp2_with fail
      refine (unhide CM).mono ?_
      rintro e wq ⟨q1, q2, q3, mq, rfl, nq, N, pr⟩
      obtain ⟨qa, qc, hqe⟩ := newW_nought nq
      cases hqe
      clear CM NA nq pr
      have CS := hide (N.esqr (unhide HQ) hsL (inM_nil _))
      simp only [hz2, Int.add_zero, Nat.mul_zero] at CS
      go_wp2_with fail
      refine (unhide CS).mono ?_
      rintro e wr ⟨s1, s2, s3, ms, rfl, ns, N, pr⟩
      obtain ⟨qa2, qc2, hqe⟩ := newW_nought ns
      cases hqe
      clear CS ns pr z0 z1 z2 z3 z4 z5 z6 z7
      obtain ⟨z0, z1, z2, z3, z4, z5, z6, z7⟩ := ways2 N.E N.F
      go_wp2_with fail
      refine (muls_any N.E.met).mono ?_
      rintro e wt ⟨rfl, hq⟩
      obtain rfl := hq.symm
      clear hq
      go_wp2_with fail
      refine (unhide CK _ N.tb).mono ?_
      rintro e wz ⟨rfl, b⟩
      have bl := bstep N.bl b
      go_wp2
      go_ret
      exact ⟨rfl, bl⟩

end Go.Proofs.YtiekgpphggejcaaGreatDoor
