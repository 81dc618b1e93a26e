/- MulLaws: what the law's walk comes to, once the code is what the document asks. Written by gen_mul.py. -/
import Derived.Test.YtiekgpphggejcabGreatDoorB45
import Derived.Test.YtiekgpphggejcabGreatDoorB10
import Derived.Test.YtiekgpphggejcabGreatDoorCLSame
import Derived.Test.YtiekgpphggejcabGreatDoorB14
import Derived.Test.YtiekgpphggejcabGreatDoorB3
import Derived.Test.YtiekgpphggejcabGreatDoorB33
import Derived.Test.YtiekgpphggejcabGreatDoorB32
namespace Go.Proofs.YtiekgpphggejcabGreatDoor
open Go.RowKit

set_option maxRecDepth 100000 in
set_option maxHeartbeats 12800000 in
theorem mulLaws_any (SN : SpecMNew) (SM : SpecMMul) (SQ : SpecMSqr) (SP : SpecMProd) (T : Tab) (ga : Option Addr) (ba oa ca la : Nat) (xs : List Nat) (gb : Option Addr) (bb ob cb lb : Nat) (ys : List Nat) (gd : Option Addr) (bd od cd ld : Nat) (zs : List Nat) (w : World) (hxs : xs.length = la) (HrA : Rep w ga ba oa ca xs) (kxs : ∀ j, xs.getD j 0 < 18446744073709551616) (hys : ys.length = lb) (HrB : Rep w gb bb ob cb ys) (kys : ∀ j, ys.getD j 0 < 18446744073709551616) (hzs : zs.length = ld) (HrD : Rep w gd bd od cd zs) (kzs : ∀ j, zs.getD j 0 < 18446744073709551616) (hT : TB w) :
    Calls Tryz.prog 3 #[T.val, .slice ga la ca, .slice gb lb cb, .slice gd ld cd] w fun e w' => e = .returned (.bool true) ∧ Below w.heap.size w w' := by
  obtain ⟨n, hca⟩ : ∃ k, k = min la 60 := ⟨_, rfl⟩
  have Ca : Hid (∀ w, Calls Tryz.prog 5 #[.slice ga la ca, .int .i64 60] w fun e w' => e = .returned (.slice ga n ca) ∧ w' = w) := fun w => cut_any w ga la ca 60 n (by have := HrA.room; omega) (by omega) hca
  obtain ⟨hla, rA⟩ := cut_rep HrA 60 n (by rw [hxs]; exact hca)
  have dx : WDig (xs.take n) := take_words kxs n
  have hma : n ≤ 60 := by omega
  clear hca HrA kxs hxs
  generalize xs.take n = us at *
  obtain ⟨m, hcb⟩ : ∃ k, k = min lb 60 := ⟨_, rfl⟩
  have Cb : Hid (∀ w, Calls Tryz.prog 5 #[.slice gb lb cb, .int .i64 60] w fun e w' => e = .returned (.slice gb m cb) ∧ w' = w) := fun w => cut_any w gb lb cb 60 m (by have := HrB.room; omega) (by omega) hcb
  obtain ⟨hlb, rB⟩ := cut_rep HrB 60 m (by rw [hys]; exact hcb)
  have dy : WDig (ys.take m) := take_words kys m
  have hmb : m ≤ 60 := by omega
  clear hcb HrB kys hys
  generalize ys.take m = vs at *
  obtain ⟨q, hcd⟩ : ∃ k, k = min ld 30 := ⟨_, rfl⟩
  have Cd : Hid (∀ w, Calls Tryz.prog 5 #[.slice gd ld cd, .int .i64 30] w fun e w' => e = .returned (.slice gd q cd) ∧ w' = w) := fun w => cut_any w gd ld cd 30 q (by have := HrD.room; omega) (by omega) hcd
  obtain ⟨hld, rD⟩ := cut_rep HrD 30 q (by rw [hzs]; exact hcd)
  have dz : WDig (zs.take q) := take_words kzs q
  have hmd : q ≤ 30 := by omega
  clear hcd HrD kzs hzs
  generalize zs.take q = ts at *
  obtain ⟨A, hva⟩ : ∃ k, k = wval us := ⟨_, rfl⟩
  have LA : Hid (A < 18446744073709551616 ^ 60) := by show _ < _; rw [hva]; exact pow_up (wval_lt_pow dx) (by omega)
  have BA : Hid (A < 4294967296 ^ 120) := by have := unhide LA; rw [wpow] at this; exact this
  have CFa := hide (fun W (r : Rep W ga ba oa ca us) => from_mul W ga ba oa ca n A us hla (by omega) r dx hva)
  have CWa := hide (fun W (r : Rep W ga ba oa ca us) => lwords_any W ga ba oa ca n A us hla (by omega) r dx hva)
  have wlA : wl A ≤ 60 := by rw [hva]; exact Nat.le_trans (wl_le_len dx) (by omega)
  have HLa := hide hla
  have HEa := hide hva
  clear hva hla
  obtain ⟨D, hvb⟩ : ∃ k, k = wval vs := ⟨_, rfl⟩
  have LD : Hid (D < 18446744073709551616 ^ 60) := by show _ < _; rw [hvb]; exact pow_up (wval_lt_pow dy) (by omega)
  have BD : Hid (D < 4294967296 ^ 120) := by have := unhide LD; rw [wpow] at this; exact this
  have CFb := hide (fun W (r : Rep W gb bb ob cb vs) => from_mul W gb bb ob cb m D vs hlb (by omega) r dy hvb)
  have CWb := hide (fun W (r : Rep W gb bb ob cb vs) => lwords_any W gb bb ob cb m D vs hlb (by omega) r dy hvb)
  have wlD : wl D ≤ 60 := by rw [hvb]; exact Nat.le_trans (wl_le_len dy) (by omega)
  have HLb := hide hlb
  have HEb := hide hvb
  clear hvb hlb
  obtain ⟨H, hvd⟩ : ∃ k, k = wval ts := ⟨_, rfl⟩
  have LH : Hid (H < 18446744073709551616 ^ 30) := by show _ < _; rw [hvd]; exact pow_up (wval_lt_pow dz) (by omega)
  have BH : Hid (H < 4294967296 ^ 60) := by have := unhide LH; rw [wpow] at this; exact this
  have CFd := hide (fun W (r : Rep W gd bd od cd ts) => from_mul W gd bd od cd q H ts hld (by omega) r dz hvd)
  have CWd := hide (fun W (r : Rep W gd bd od cd ts) => lwords_any W gd bd od cd q H ts hld (by omega) r dz hvd)
  have wlH : wl H ≤ 30 := by rw [hvd]; exact Nat.le_trans (wl_le_len dz) (by omega)
  have HLd := hide hld
  have HEd := hide hvd
  clear hvd hld
  have bl := Below.refl w.heap.size w
  have b0 : Below w.heap.size w (w.alloc (.cells #[.int .i64 T.b, .int .i64 T.t, .int .i64 T.n, .int .i64 T.d, .int .i64 T.r, .int .i64 T.l, .int .i64 T.x, .int .i64 T.p, .int .i64 T.k, .int .i64 T.s, .int .i64 T.e] 23)) := (Below.refl _ _).alloc (Nat.le_refl _) _
  have tA := tabAt_new w T 23
  obtain ⟨W1, hW1⟩ : ∃ W, w.alloc (.cells #[.int .i64 T.b, .int .i64 T.t, .int .i64 T.n, .int .i64 T.d, .int .i64 T.r, .int .i64 T.l, .int .i64 T.x, .int .i64 T.p, .int .i64 T.k, .int .i64 T.s, .int .i64 T.e] 23) = W := ⟨_, rfl⟩
  rw [hW1] at b0 tA
  obtain ⟨P0, hP0⟩ : ∃ P, w.heap.size = P := ⟨_, rfl⟩
  rw [hP0] at tA
  have lP : P0 < W1.heap.size := tA.lt
  have HT := hide hT
  clear hT
  have rA := rA.next b0
  have rB := rB.next b0
  have rD := rD.next b0
  have bl := bstep bl b0
  clear b0
  have CN := hide (fun W => SN T W)
  have HM := hide (engMul_s SM)
  have HQ := hide (engSqr_s SQ)
  have HP := hide SP
  have CK := hide (fun W h => mulWakes_any SN SP W h)
  have QIa : Hid (∀ W, Rep W ga ba oa ca us → InM W (.slice ga n ca) A) := fun W q => inM_rep q dx (unhide HLa) (unhide HEa) (by omega)
  have QIb : Hid (∀ W, Rep W gb bb ob cb vs → InM W (.slice gb m cb) D) := fun W q => inM_rep q dy (unhide HLb) (unhide HEb) (by omega)
  have QId : Hid (∀ W, Rep W gd bd od cd ts → InM W (.slice gd q cd) H) := fun W r => inM_rep r dz (unhide HLd) (unhide HEd) (by omega)
  have LAD : Hid (A * D < 18446744073709551616 ^ 120) := by have := Nat.mul_lt_mul'' (unhide LA) (unhide LD); rwa [← Nat.pow_add] at this
  have LDH : Hid (D * H < 18446744073709551616 ^ 90) := by have := Nat.mul_lt_mul'' (unhide LD) (unhide LH); rwa [← Nat.pow_add] at this
  have LADH : Hid (A * D * H < 18446744073709551616 ^ 150) := by have := Nat.mul_lt_mul'' (unhide LAD) (unhide LH); rwa [← Nat.pow_add] at this
  have LAA : Hid (A * A < 18446744073709551616 ^ 120) := by have := Nat.mul_lt_mul'' (unhide LA) (unhide LA); rwa [← Nat.pow_add] at this
  have LDD : Hid (D * D < 18446744073709551616 ^ 120) := by have := Nat.mul_lt_mul'' (unhide LD) (unhide LD); rwa [← Nat.pow_add] at this
  have LS : Hid (A + D < 18446744073709551616 ^ 61) := by
    have h1 := unhide LA
    have h2 := unhide LD
    show _ < _
    rw [show (61 : Nat) = 60 + 1 from rfl, Nat.pow_succ]
    generalize 18446744073709551616 ^ 60 = p at *
    omega
  have LSS : Hid ((A + D) * (A + D) < 18446744073709551616 ^ 122) := by have := Nat.mul_lt_mul'' (unhide LS) (unhide LS); rwa [← Nat.pow_add] at this
  have ES : Hid (A * A + D * D + (A * D + A * D) = (A + D) * (A + D)) := by show _ = _; grind
  have le1 : A * A + D * D ≤ (A + D) * (A + D) := by rw [← unhide ES]; exact Nat.le_add_right _ _
  have le2 : A * D + A * D ≤ (A + D) * (A + D) := by rw [← unhide ES]; exact Nat.le_add_left _ _
  obtain ⟨Z, hZ⟩ : ∃ Z, Z = 200 := ⟨_, rfl⟩
  have up : ∀ {x p : Nat}, x < 18446744073709551616 ^ p → p ≤ 200 → x < 4294967296 ^ (2 * Z) := fun h hp => up_pow h (by omega)
  have UA : Hid (A < 4294967296 ^ (2 * Z)) := up (unhide LA) (by decide)
  have UD : Hid (D < 4294967296 ^ (2 * Z)) := up (unhide LD) (by decide)
  have US : Hid (A + D < 4294967296 ^ (2 * Z)) := up (unhide LS) (by decide)
  have UAA : Hid (A * A < 4294967296 ^ (2 * Z)) := up (unhide LAA) (by decide)
  have UDD : Hid (D * D < 4294967296 ^ (2 * Z)) := up (unhide LDD) (by decide)
  have UAD : Hid (A * D < 4294967296 ^ (2 * Z)) := up (unhide LAD) (by decide)
  have U1 : Hid (A * A + D * D < 4294967296 ^ (2 * Z)) := Nat.lt_of_le_of_lt le1 (up (unhide LSS) (by decide))
  have U2 : Hid (A * D + A * D < 4294967296 ^ (2 * Z)) := Nat.lt_of_le_of_lt le2 (up (unhide LSS) (by decide))
  clear le1 le2 SN SM SQ SP up
  unfold Tab.val at CN ⊢
  go_enter Tryz.func3, Tryz.ntmps3
  go_wp2_with fail
  refine (unhide Ca _).mono ?_
  rintro e wca ⟨rfl, rfl⟩
  clear Ca
  go_wp2_with fail
  refine (unhide Cb _).mono ?_
  rintro e wcb ⟨rfl, rfl⟩
  clear Cb
  go_wp2_with fail
  refine (unhide Cd _).mono ?_
  rintro e wcd ⟨rfl, rfl⟩
  clear Cd
  have tX0 := tA
  obtain ⟨p0, p1, p2, p3, p4, p5, p6, p7, p8, p9, p10⟩ := tX0
  go_wp2_with fail
  refine (unhide CN _).mono ?_
  rintro e w1 ⟨gm, gt, gk, ge, g, rfl, E, hn, b⟩
  clear p0 p1 p2 p3 p4 p5 p6 p7 p8 p9 p10
  have hg : w.heap.size ≤ g := by omega
  clear hn tA CN
  have lg := E.met.lt
  have rA := rA.next b
  have rB := rB.next b
  have rD := rD.next b
  have bl := bstep bl b
  clear b
  obtain ⟨S1, hS1⟩ : ∃ S1, S1 = w1.heap.size := ⟨_, rfl⟩
  rw [← hS1] at lg
  have sz : S1 ≤ w1.heap.size := Nat.le_of_eq hS1
  clear hS1
  have s0 : (0 : Int) ≤ 0 := by decide
  have s1 : (0 : Int) ≤ 0 := by decide
  go_wp2_with fail
  refine (unhide HM _ gm gt gk ge g _ 0 _ T _ _ A D E ((unhide HT).next bl) s0 (by omega) (by decide) (by decide) (unhide QIa _ rA) (unhide QIb _ rB)).mono ?_
  rintro e w2 ⟨r0, sv0, mv0, rfl, nab, E2, s0, s1, o⟩
  have nab := nab.mono sz
  have rA := E.rep o rA
  have rB := E.rep o rB
  have rD := E.rep o rD
  have sz := Nat.le_trans sz o.size
  have bl := bl.trans (o.below (B := w.heap.size) bl.size (fun k hk => by rw [hk]; exact hg))
  have E := E2
  clear o E2
  obtain ⟨ra0, rl0, rc0, rfl⟩ := nab.shape
  go_wp2_with fail
  refine (unhide HM _ gm gt gk ge g _ 0 _ T _ _ (A * D) H E ((unhide HT).next bl) s0 (by omega) (by decide) (by decide) (nab.toM (unhide LAD) (by decide)) (unhide QId _ rD)).mono ?_
  rintro e w3 ⟨r1, sv1, mv1, rfl, n2, E2, s0, s1, o⟩
  have n2 := n2.mono sz
  have rA := E.rep o rA
  have rB := E.rep o rB
  have rD := E.rep o rD
  have nab := o.newW nab (fun k e => by rw [e]; exact lg)
  have sz := Nat.le_trans sz o.size
  have bl := bl.trans (o.below (B := w.heap.size) bl.size (fun k hk => by rw [hk]; exact hg))
  have E := E2
  clear o E2
  obtain ⟨ra1, rl1, rc1, rfl⟩ := n2.shape
  go_wp2_with fail
  refine (unhide HM _ gm gt gk ge g _ 0 _ T _ _ D H E ((unhide HT).next bl) s0 (by omega) (by decide) (by decide) (unhide QIb _ rB) (unhide QId _ rD)).mono ?_
  rintro e w4 ⟨r2, sv2, mv2, rfl, n3, E2, s0, s1, o⟩
  have n3 := n3.mono sz
  have rA := E.rep o rA
  have rB := E.rep o rB
  have rD := E.rep o rD
  have nab := o.newW nab (fun k e => by rw [e]; exact lg)
  have n2 := o.newW n2 (fun k e => by rw [e]; exact lg)
  have sz := Nat.le_trans sz o.size
  have bl := bl.trans (o.below (B := w.heap.size) bl.size (fun k hk => by rw [hk]; exact hg))
  have E := E2
  clear o E2
  obtain ⟨ra2, rl2, rc2, rfl⟩ := n3.shape
  go_wp2_with fail
  refine (unhide HM _ gm gt gk ge g _ 0 _ T _ _ A (D * H) E ((unhide HT).next bl) s0 (by omega) (by decide) (by decide) (unhide QIa _ rA) (n3.toM (unhide LDH) (by decide))).mono ?_
  rintro e w5 ⟨r3, sv3, mv3, rfl, n4, E2, s0, s1, o⟩
  have n4 := n4.mono sz
  have rA := E.rep o rA
  have rB := E.rep o rB
  have rD := E.rep o rD
  have nab := o.newW nab (fun k e => by rw [e]; exact lg)
  have n2 := o.newW n2 (fun k e => by rw [e]; exact lg)
  have n3 := o.newW n3 (fun k e => by rw [e]; exact lg)
  have sz := Nat.le_trans sz o.size
  have bl := bl.trans (o.below (B := w.heap.size) bl.size (fun k hk => by rw [hk]; exact hg))
  have E := E2
  clear o E2
  obtain ⟨ra3, rl3, rc3, rfl⟩ := n4.shape
  go_wp2_with fail
  refine (same_two _ _ _ _ _ _ _ 150 (by decide) (unhide LADH) (Nat.mul_assoc A D H) n2 n4).mono ?_
  rintro e w6 ⟨rfl, b⟩
  clear n2 n4 n3
  have rA := rA.next b
  have rB := rB.next b
  have rD := rD.next b
  have E := E.next b
  have nab := nab.next b
  have sz := Nat.le_trans sz b.size
  have bl := bstep bl b
  clear b
  have hP := parts_three w6 _ _ _ _ _ _ 28 (unhide QIa _ rA).inW (unhide QIb _ rB).inW (unhide QId _ rD).inW
  have d4 : Below w6.heap.size w6 (w6.alloc (.cells #[.slice ga n ca, .slice gb m cb, .slice gd q cd] 28)) := (Below.refl _ _).alloc (Nat.le_refl _) _
  have rA := rA.next d4
  have rB := rB.next d4
  have rD := rD.next d4
  have E := E.next d4
  have nab := nab.next d4
  have sz := Nat.le_trans sz d4.size
  have bl := bstep bl d4
  clear d4
  have CP := hide (unhide HP _ gm gt gk ge g _ 0 _ T (some ⟨w6.heap.size, 0, none⟩) w6.heap.size 0 3 3 60 _ _ E ((unhide HT).next bl) s0 (by omega) (by decide) (by decide) rfl hP (fun j hj => by
    match j, hj with
    | 0, _ => exact unhide LA
    | 1, _ => exact unhide LD
    | 2, _ => exact pow_up (unhide LH) (by decide)) (by decide) (by decide) (by decide) (by decide) (fun j hj => by
    match j, hj with
    | 0, _ => exact unhide QIa _ rA
    | 1, _ => exact unhide QIb _ rB
    | 2, _ => exact unhide QId _ rD))
  clear hP
  go_wp2_with fail
  refine (unhide CP).mono ?_
  rintro e w7 ⟨r9, sv9, mv9, rfl, n5, E2, s0, s1, o⟩
  clear CP
  have n5 : NewW _ _ r9 (1 * A * D * H) := n5
  rw [Nat.one_mul] at n5
  have n5 := n5.mono sz
  have rA := E.rep o rA
  have rB := E.rep o rB
  have rD := E.rep o rD
  have nab := o.newW nab (fun k e => by rw [e]; exact lg)
  have sz := Nat.le_trans sz o.size
  have bl := bl.trans (o.below (B := w.heap.size) bl.size (fun k hk => by rw [hk]; exact hg))
  have E := E2
  clear o E2
  obtain ⟨ra9, rl9, rc9, rfl⟩ := n5.shape
  go_wp2_with fail
  refine (unhide HM _ gm gt gk ge g _ 0 _ T _ _ (A * D) H E ((unhide HT).next bl) s0 (by omega) (by decide) (by decide) (nab.toM (unhide LAD) (by decide)) (unhide QId _ rD)).mono ?_
  rintro e w8 ⟨r4, sv4, mv4, rfl, n6, E2, s0, s1, o⟩
  have n6 := n6.mono sz
  have rA := E.rep o rA
  have rB := E.rep o rB
  have rD := E.rep o rD
  have nab := o.newW nab (fun k e => by rw [e]; exact lg)
  have n5 := o.newW n5 (fun k e => by rw [e]; exact lg)
  have sz := Nat.le_trans sz o.size
  have bl := bl.trans (o.below (B := w.heap.size) bl.size (fun k hk => by rw [hk]; exact hg))
  have E := E2
  clear o E2
  obtain ⟨ra4, rl4, rc4, rfl⟩ := n6.shape
  go_wp2_with fail
  refine (same_two _ _ _ _ _ _ _ 150 (by decide) (unhide LADH) rfl n5 n6).mono ?_
  rintro e w9 ⟨rfl, b⟩
  clear n5 n6
  have rA := rA.next b
  have rB := rB.next b
  have rD := rD.next b
  have E := E.next b
  have nab := nab.next b
  have sz := Nat.le_trans sz b.size
  have bl := bstep bl b
  clear b
  go_wp2_with fail
  refine (unhide CFa _ rA).mono ?_
  rintro e w10 ⟨v1, rfl, m1, b⟩
  have rA := rA.next b
  have rB := rB.next b
  have rD := rD.next b
  have E := E.next b
  have nab := nab.next b
  have sz := Nat.le_trans sz b.size
  have bl := bstep bl b
  clear b
  go_wp2_with fail
  refine (unhide CFb _ rB).mono ?_
  rintro e w11 ⟨v2, rfl, m2, b⟩
  have rA := rA.next b
  have rB := rB.next b
  have rD := rD.next b
  have E := E.next b
  have nab := nab.next b
  have m1 := m1.next b
  have sz := Nat.le_trans sz b.size
  have bl := bstep bl b
  clear b
  go_wp2_with fail
  refine (add_any _ _ _ _ _ (2 * Z) (by omega) (unhide UA) (unhide UD) m1 m2).mono ?_
  rintro e w12 ⟨v3, rfl, m3, b⟩
  clear m1 m2
  have rA := rA.next b
  have rB := rB.next b
  have rD := rD.next b
  have E := E.next b
  have nab := nab.next b
  have sz := Nat.le_trans sz b.size
  have bl := bstep bl b
  clear b
  go_wp2_with fail
  refine (to_can_m _ _ _ 61 (by decide) (unhide LS) m3).mono ?_
  rintro e w13 ⟨rs, rfl, is, b⟩
  clear m3
  have rA := rA.next b
  have rB := rB.next b
  have rD := rD.next b
  have E := E.next b
  have nab := nab.next b
  have sz := Nat.le_trans sz b.size
  have bl := bstep bl b
  clear b
  obtain ⟨ta, tl, tc, rfl⟩ := is.inW.shp
  go_wp2_with fail
  refine (unhide HQ _ gm gt gk ge g _ 0 _ T _ A E ((unhide HT).next bl) s0 (by omega) (by decide) (by decide) (unhide QIa _ rA)).mono ?_
  rintro e w14 ⟨r5, sv5, mv5, rfl, k1, E2, s0, s1, o⟩
  have k1 := k1.mono sz
  have rA := E.rep o rA
  have rB := E.rep o rB
  have rD := E.rep o rD
  have nab := o.newW nab (fun k e => by rw [e]; exact lg)
  have is := E.inM o is
  have sz := Nat.le_trans sz o.size
  have bl := bl.trans (o.below (B := w.heap.size) bl.size (fun k hk => by rw [hk]; exact hg))
  have E := E2
  clear o E2
  obtain ⟨ra5, rl5, rc5, rfl⟩ := k1.shape
  go_wp2_with fail
  refine (from_new _ _ _ _ 120 (by decide) (unhide LAA) k1).mono ?_
  rintro e w15 ⟨v4, rfl, m4, b⟩
  clear k1
  have rA := rA.next b
  have rB := rB.next b
  have rD := rD.next b
  have E := E.next b
  have nab := nab.next b
  have is := is.next b
  have sz := Nat.le_trans sz b.size
  have bl := bstep bl b
  clear b
  go_wp2_with fail
  refine (unhide HQ _ gm gt gk ge g _ 0 _ T _ D E ((unhide HT).next bl) s0 (by omega) (by decide) (by decide) (unhide QIb _ rB)).mono ?_
  rintro e w16 ⟨r6, sv6, mv6, rfl, k2, E2, s0, s1, o⟩
  have k2 := k2.mono sz
  have rA := E.rep o rA
  have rB := E.rep o rB
  have rD := E.rep o rD
  have nab := o.newW nab (fun k e => by rw [e]; exact lg)
  have is := E.inM o is
  have m4 := E.isN o m4
  have sz := Nat.le_trans sz o.size
  have bl := bl.trans (o.below (B := w.heap.size) bl.size (fun k hk => by rw [hk]; exact hg))
  have E := E2
  clear o E2
  obtain ⟨ra6, rl6, rc6, rfl⟩ := k2.shape
  go_wp2_with fail
  refine (from_new _ _ _ _ 120 (by decide) (unhide LDD) k2).mono ?_
  rintro e w17 ⟨v5, rfl, m5, b⟩
  clear k2
  have rA := rA.next b
  have rB := rB.next b
  have rD := rD.next b
  have E := E.next b
  have nab := nab.next b
  have is := is.next b
  have m4 := m4.next b
  have sz := Nat.le_trans sz b.size
  have bl := bstep bl b
  clear b
  go_wp2_with fail
  refine (add_any _ _ _ _ _ (2 * Z) (by omega) (unhide UAA) (unhide UDD) m4 m5).mono ?_
  rintro e w18 ⟨v6, rfl, m6, b⟩
  clear m4 m5
  have rA := rA.next b
  have rB := rB.next b
  have rD := rD.next b
  have E := E.next b
  have nab := nab.next b
  have is := is.next b
  have sz := Nat.le_trans sz b.size
  have bl := bstep bl b
  clear b
  go_wp2_with fail
  refine (from_new _ _ _ _ 120 (by decide) (unhide LAD) nab).mono ?_
  rintro e w19 ⟨v7, rfl, m7, b⟩
  have rA := rA.next b
  have rB := rB.next b
  have rD := rD.next b
  have E := E.next b
  have nab := nab.next b
  have is := is.next b
  have m6 := m6.next b
  have sz := Nat.le_trans sz b.size
  have bl := bstep bl b
  clear b
  go_wp2_with fail
  refine (from_new _ _ _ _ 120 (by decide) (unhide LAD) nab).mono ?_
  rintro e w20 ⟨v8, rfl, m8, b⟩
  clear nab
  have rA := rA.next b
  have rB := rB.next b
  have rD := rD.next b
  have E := E.next b
  have is := is.next b
  have m6 := m6.next b
  have m7 := m7.next b
  have sz := Nat.le_trans sz b.size
  have bl := bstep bl b
  clear b
  go_wp2_with fail
  refine (add_any _ _ _ _ _ (2 * Z) (by omega) (unhide UAD) (unhide UAD) m7 m8).mono ?_
  rintro e w21 ⟨v9, rfl, m9, b⟩
  clear m7 m8
  have rA := rA.next b
  have rB := rB.next b
  have rD := rD.next b
  have E := E.next b
  have is := is.next b
  have m6 := m6.next b
  have sz := Nat.le_trans sz b.size
  have bl := bstep bl b
  clear b
  go_wp2_with fail
  refine (add_any _ _ _ _ _ (2 * Z) (by omega) (unhide U1) (unhide U2) m6 m9).mono ?_
  rintro e w22 ⟨v10, rfl, m10, b⟩
  clear m6 m9
  have rA := rA.next b
  have rB := rB.next b
  have rD := rD.next b
  have E := E.next b
  have is := is.next b
  have sz := Nat.le_trans sz b.size
  have bl := bstep bl b
  clear b
  rw [unhide ES] at m10
  go_wp2_with fail
  refine (unhide HQ _ gm gt gk ge g _ 0 _ T _ (A + D) E ((unhide HT).next bl) s0 (by omega) (by decide) (by decide) is).mono ?_
  rintro e w23 ⟨r7, sv7, mv7, rfl, k3, E2, s0, s1, o⟩
  have k3 := k3.mono sz
  have rA := E.rep o rA
  have rB := E.rep o rB
  have rD := E.rep o rD
  have is := E.inM o is
  have m10 := E.isN o m10
  have sz := Nat.le_trans sz o.size
  have bl := bl.trans (o.below (B := w.heap.size) bl.size (fun k hk => by rw [hk]; exact hg))
  have E := E2
  clear o E2
  obtain ⟨ra7, rl7, rc7, rfl⟩ := k3.shape
  go_wp2_with fail
  refine (same_new _ _ _ _ _ 122 (by decide) (unhide LSS) m10 k3).mono ?_
  rintro e w24 ⟨rfl, b⟩
  clear m10 k3 is
  have sz := Nat.le_trans sz b.size
  have bl := bstep bl b
  clear b
  go_wp2_with fail
  refine (unhide CK _ ((unhide HT).next bl)).mono ?_
  rintro e w25 ⟨rfl, b⟩
  have sz := Nat.le_trans sz b.size
  have bl := bstep bl b
  clear b
  go_wp2
  go_ret
  exact ⟨rfl, bl⟩

end Go.Proofs.YtiekgpphggejcabGreatDoor
