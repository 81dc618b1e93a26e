/- RecipTables: what the law's walk comes to, once the code is what the document asks. Written by gen_recip.py. -/
import Derived.Deep.RegionHeld3
import Derived.Test.YtpcfghnenhnlpaaGreatDoorB39
import Derived.Test.YtpcfghnenhnlpaaGreatDoorB12
import Derived.Test.YtpcfghnenhnlpaaGreatDoorB14
import Derived.Test.YtpcfghnenhnlpaaGreatDoorB5
namespace Go.Proofs.YtpcfghnenhnlpaaGreatDoor
open Go.RowKit

set_option maxRecDepth 100000 in
set_option maxHeartbeats 12800000 in
theorem recipTables_any (SN : SpecRNew) (SR : SpecRecip) (SZ : SpecRecipZero) (T : Tab) (U : Tab) (gb : Option Addr) (bb ob cb lb : Nat) (ys : List Nat) (w : World) (hys : ys.length = lb) (HrB : Rep w gb bb ob cb ys) (kys : ∀ j, ys.getD j 0 < 18446744073709551616) (z : Int) (hz1 : -9223372036854775808 ≤ z) (hz2 : z ≤ 9223372036854775807) (hT : TB w) :
    Calls Tryz.prog 6 #[T.val, U.val, .slice gb lb cb, .int .i64 z] w fun e w' => e = .returned (.bool true) ∧ Below w.heap.size w w' := by
  obtain ⟨m, hcb⟩ : ∃ k, k = min lb 60 := ⟨_, rfl⟩
  have Cb : Hid (∀ w, Calls Tryz.prog 7 #[.slice gb lb cb, .int .i64 60] w fun e w' => e = .returned (.slice gb m cb) ∧ w' = w) := fun w => cut_any w gb lb cb 60 m (by have := HrB.room; omega) (by omega) hcb
  obtain ⟨hlb, rB⟩ := cut_rep HrB 60 m (by rw [hys]; exact hcb)
  have dy : WDig (ys.take m) := take_words kys m
  have hmb : m ≤ 60 := by omega
  clear hcb HrB kys hys
  generalize ys.take m = vs at *
  obtain ⟨D, hvb⟩ : ∃ k, k = wval vs := ⟨_, rfl⟩
  have LD : Hid (D < 18446744073709551616 ^ 60) := by show _ < _; rw [hvb]; exact pow_up (wval_lt_pow dy) (by omega)
  have BD : Hid (D < 4294967296 ^ 120) := by have := unhide LD; rw [wpow] at this; exact this
  have CFb := hide (fun W (r : Rep W gb bb ob cb vs) => from_recip W gb bb ob cb m D vs hlb (by omega) r dy hvb)
  have wlD : wl D ≤ 60 := by rw [hvb]; exact Nat.le_trans (wl_le_len dy) (by omega)
  have HLb := hide hlb
  have HEb := hide hvb
  clear hvb hlb
  have bl := Below.refl w.heap.size w
  obtain ⟨k, hk⟩ : ∃ k : Nat, (k : Int) = z % 9000 := ⟨(z % 9000).toNat, by omega⟩
  have hk2 : k < 9000 := by omega
  have CIn := hide (fun W => within_any z 9000 W hz1 hz2 (by omega) (by omega))
  rw [← hk] at CIn
  have kb : (k : Int) < 9000 := by omega
  clear hk hz1 hz2
  have b0 : Below w.heap.size w ((w.alloc (.cells #[.int .i64 T.b, .int .i64 T.t, .int .i64 T.n, .int .i64 T.d, .int .i64 T.r, .int .i64 T.l, .int .i64 T.x, .int .i64 T.p, .int .i64 T.k, .int .i64 T.s, .int .i64 T.e] 23)).alloc (.cells #[.int .i64 U.b, .int .i64 U.t, .int .i64 U.n, .int .i64 U.d, .int .i64 U.r, .int .i64 U.l, .int .i64 U.x, .int .i64 U.p, .int .i64 U.k, .int .i64 U.s, .int .i64 U.e] 23)) := ((Below.refl _ _).alloc (Nat.le_refl _) _).alloc (by simp) _
  have tA : TabAt ((w.alloc (.cells #[.int .i64 T.b, .int .i64 T.t, .int .i64 T.n, .int .i64 T.d, .int .i64 T.r, .int .i64 T.l, .int .i64 T.x, .int .i64 T.p, .int .i64 T.k, .int .i64 T.s, .int .i64 T.e] 23)).alloc (.cells #[.int .i64 U.b, .int .i64 U.t, .int .i64 U.n, .int .i64 U.d, .int .i64 U.r, .int .i64 U.l, .int .i64 U.x, .int .i64 U.p, .int .i64 U.k, .int .i64 U.s, .int .i64 U.e] 23)) w.heap.size T := (tabAt_new w T 23).next ((Below.refl _ _).alloc (Nat.le_refl _) _)
  have uA := tabAt_new (w.alloc (.cells #[.int .i64 T.b, .int .i64 T.t, .int .i64 T.n, .int .i64 T.d, .int .i64 T.r, .int .i64 T.l, .int .i64 T.x, .int .i64 T.p, .int .i64 T.k, .int .i64 T.s, .int .i64 T.e] 23)) U 23
  rw [show (w.alloc (.cells #[.int .i64 T.b, .int .i64 T.t, .int .i64 T.n, .int .i64 T.d, .int .i64 T.r, .int .i64 T.l, .int .i64 T.x, .int .i64 T.p, .int .i64 T.k, .int .i64 T.s, .int .i64 T.e] 23)).heap.size = w.heap.size + 1 by simp] at uA
  obtain ⟨W1, hW1⟩ : ∃ W, (w.alloc (.cells #[.int .i64 T.b, .int .i64 T.t, .int .i64 T.n, .int .i64 T.d, .int .i64 T.r, .int .i64 T.l, .int .i64 T.x, .int .i64 T.p, .int .i64 T.k, .int .i64 T.s, .int .i64 T.e] 23)).alloc (.cells #[.int .i64 U.b, .int .i64 U.t, .int .i64 U.n, .int .i64 U.d, .int .i64 U.r, .int .i64 U.l, .int .i64 U.x, .int .i64 U.p, .int .i64 U.k, .int .i64 U.s, .int .i64 U.e] 23) = W := ⟨_, rfl⟩
  rw [hW1] at b0 tA uA
  obtain ⟨P0, hP0⟩ : ∃ P, w.heap.size = P := ⟨_, rfl⟩
  rw [hP0] at tA uA
  have lP : P0 + 1 < W1.heap.size := uA.lt
  have HT := hide hT
  clear hT
  have rB := rB.next b0
  have bl := bstep bl b0
  clear b0
  have CN := hide (fun W => SN T W)
  have CU := hide (fun W => SN U W)
  have HR := hide SR
  have HZ := hide SZ
  have CK := hide (fun W h => recipWakes_any SN SR W h)
  clear SN SR SZ
  unfold Tab.val at CN CU ⊢
  go_enter Tryz.func6, Tryz.ntmps6
  go_wp2_with fail
  refine (unhide Cb _).mono ?_
  rintro e wcb ⟨rfl, rfl⟩
  clear Cb
  have HC : Hid (∀ w', Below wcb.heap.size wcb w' → w'.cell? ⟨P0, 0, none⟩ = some (.int .i64 T.b) ∧ w'.cell? ⟨P0, 1, none⟩ = some (.int .i64 T.t) ∧ w'.cell? ⟨P0, 2, none⟩ = some (.int .i64 T.n) ∧ w'.cell? ⟨P0, 3, none⟩ = some (.int .i64 T.d) ∧ w'.cell? ⟨P0, 4, none⟩ = some (.int .i64 T.r) ∧ w'.cell? ⟨P0, 5, none⟩ = some (.int .i64 T.l) ∧ w'.cell? ⟨P0, 6, none⟩ = some (.int .i64 T.x) ∧ w'.cell? ⟨P0, 7, none⟩ = some (.int .i64 T.p) ∧ w'.cell? ⟨P0, 8, none⟩ = some (.int .i64 T.k) ∧ w'.cell? ⟨P0, 9, none⟩ = some (.int .i64 T.s) ∧ w'.cell? ⟨P0, 10, none⟩ = some (.int .i64 T.e) ∧ w'.cell? ⟨P0 + 1, 0, none⟩ = some (.int .i64 U.b) ∧ w'.cell? ⟨P0 + 1, 1, none⟩ = some (.int .i64 U.t) ∧ w'.cell? ⟨P0 + 1, 2, none⟩ = some (.int .i64 U.n) ∧ w'.cell? ⟨P0 + 1, 3, none⟩ = some (.int .i64 U.d) ∧ w'.cell? ⟨P0 + 1, 4, none⟩ = some (.int .i64 U.r) ∧ w'.cell? ⟨P0 + 1, 5, none⟩ = some (.int .i64 U.l) ∧ w'.cell? ⟨P0 + 1, 6, none⟩ = some (.int .i64 U.x) ∧ w'.cell? ⟨P0 + 1, 7, none⟩ = some (.int .i64 U.p) ∧ w'.cell? ⟨P0 + 1, 8, none⟩ = some (.int .i64 U.k) ∧ w'.cell? ⟨P0 + 1, 9, none⟩ = some (.int .i64 U.s) ∧ w'.cell? ⟨P0 + 1, 10, none⟩ = some (.int .i64 U.e)) := fun w' q => by
    obtain ⟨p0, p1, p2, p3, p4, p5, p6, p7, p8, p9, p10⟩ := tA.next q
    obtain ⟨u0, u1, u2, u3, u4, u5, u6, u7, u8, u9, u10⟩ := uA.next q
    exact ⟨p0, p1, p2, p3, p4, p5, p6, p7, p8, p9, p10, u0, u1, u2, u3, u4, u5, u6, u7, u8, u9, u10⟩
  obtain ⟨p0, p1, p2, p3, p4, p5, p6, p7, p8, p9, p10, u0, u1, u2, u3, u4, u5, u6, u7, u8, u9, u10⟩ := unhide HC _ (Below.refl _ _)
  have b0 : Below wcb.heap.size wcb wcb.drew := (Below.refl _ _).drew
  go_wp2
  go_region_held3 (fun w' => w'.cell? ⟨P0, 0, none⟩ = some (.int .i64 T.b) ∧ w'.cell? ⟨P0, 1, none⟩ = some (.int .i64 T.t) ∧ w'.cell? ⟨P0, 2, none⟩ = some (.int .i64 T.n) ∧ w'.cell? ⟨P0, 3, none⟩ = some (.int .i64 T.d) ∧ w'.cell? ⟨P0, 4, none⟩ = some (.int .i64 T.r) ∧ w'.cell? ⟨P0, 5, none⟩ = some (.int .i64 T.l) ∧ w'.cell? ⟨P0, 6, none⟩ = some (.int .i64 T.x) ∧ w'.cell? ⟨P0, 7, none⟩ = some (.int .i64 T.p) ∧ w'.cell? ⟨P0, 8, none⟩ = some (.int .i64 T.k) ∧ w'.cell? ⟨P0, 9, none⟩ = some (.int .i64 T.s) ∧ w'.cell? ⟨P0, 10, none⟩ = some (.int .i64 T.e) ∧ w'.cell? ⟨P0 + 1, 0, none⟩ = some (.int .i64 U.b) ∧ w'.cell? ⟨P0 + 1, 1, none⟩ = some (.int .i64 U.t) ∧ w'.cell? ⟨P0 + 1, 2, none⟩ = some (.int .i64 U.n) ∧ w'.cell? ⟨P0 + 1, 3, none⟩ = some (.int .i64 U.d) ∧ w'.cell? ⟨P0 + 1, 4, none⟩ = some (.int .i64 U.r) ∧ w'.cell? ⟨P0 + 1, 5, none⟩ = some (.int .i64 U.l) ∧ w'.cell? ⟨P0 + 1, 6, none⟩ = some (.int .i64 U.x) ∧ w'.cell? ⟨P0 + 1, 7, none⟩ = some (.int .i64 U.p) ∧ w'.cell? ⟨P0 + 1, 8, none⟩ = some (.int .i64 U.k) ∧ w'.cell? ⟨P0 + 1, 9, none⟩ = some (.int .i64 U.s) ∧ w'.cell? ⟨P0 + 1, 10, none⟩ = some (.int .i64 U.e)) (first | (with_reducible exact unhide HC _ b0) | go_keep) (first
    | (with_reducible refine (unhide CN _).mono ?_; rintro e wn1 ⟨gr, gd, gm, gt, gk, ge, g, rfl, E, hn, b⟩; have hg := Nat.le_trans b0.size hn.2.2.2.2.2.2; have b0 := b0.trans (b.mono b0.size); clear b hn)
    | (with_reducible refine (unhide CU _).mono ?_; rintro e wn2 ⟨gr', gd', gm', gt', gk', ge', g', rfl, F, hn, b⟩; have hg' := Nat.le_trans b0.size hn.2.2.2.2.2.2; have hgg := Nat.lt_of_lt_of_le E.met.lt hn.2.2.2.2.2.2; have E := E.next b; have b0 := b0.trans (b.mono b0.size); clear b hn)
    | fail)
  clear p0 p1 p2 p3 p4 p5 p6 p7 p8 p9 p10 u0 u1 u2 u3 u4 u5 u6 u7 u8 u9 u10 HC CN CU tA uA
  have bl := bstep bl b0
  have rB := rB.next b0
  clear b0
  have hg : w.heap.size ≤ g := by omega
  have hg' : w.heap.size ≤ g' := by omega
  go_wp2_with fail
  refine (unhide CIn _).mono ?_
  rintro e wi ⟨rfl, rfl⟩
  clear CIn
  have lg := F.met.lt
  obtain ⟨S1, hS1⟩ : ∃ S1, S1 = wi.heap.size := ⟨_, rfl⟩
  rw [← hS1] at lg
  have sz : S1 ≤ wi.heap.size := Nat.le_of_eq hS1
  have lg0 : g < S1 := by rw [hS1]; exact E.met.lt
  clear hS1
  rcases Nat.eq_zero_or_pos D with hD0 | h0
  case inl =>
    subst hD0
    have CR := hide (unhide HZ _ gr gd gm gt gk ge g 0 0 0 T _ (k : Int) E (inM_rep rB dy (unhide HLb) (unhide HEb) (by omega)) (by omega) (by omega))
    go_wp2_with fail
    refine (unhide CR).mono ?_
    rintro e w1 ⟨qa, qc, rfl, E2, b⟩
    clear CR E E2
    have rB := rB.next b
    have F := F.next b
    have sz := Nat.le_trans sz b.size
    have bl := bstep bl b
    clear b
    have CR := hide (unhide HZ _ gr' gd' gm' gt' gk' ge' g' 0 0 0 U _ (k : Int) F (inM_rep rB dy (unhide HLb) (unhide HEb) (by omega)) (by omega) (by omega))
    go_wp2_with fail
    refine (unhide CR).mono ?_
    rintro e w2 ⟨ra, rc, rfl, E2, b⟩
    clear CR F E2
    have rB := rB.next b
    have sz := Nat.le_trans sz b.size
    have bl := bstep bl b
    clear b
    go_wp2_with fail
    refine (keepSame_any _ qa ra 0 0 qc 0 0 rc 0 [] rfl (by omega) (Rep.nil _ _ _ _ _) (Rep.nil _ _ _ _ _)).mono ?_
    rintro e w3 ⟨rfl, b⟩
    have rB := rB.next b
    have sz := Nat.le_trans sz b.size
    have bl := bstep bl b
    clear b
    go_wp2_with fail
    refine (unhide CK _ ((unhide HT).next bl)).mono ?_
    rintro e w4 ⟨rfl, b⟩
    have bl := bstep bl b
    clear b
    go_wp2
    go_ret
    exact ⟨rfl, bl⟩
  case inr =>
    obtain ⟨Q, hQ⟩ : ∃ Q, Q = 2 ^ k / D := ⟨_, rfl⟩
    have LQ : Hid (Q < 18446744073709551616 ^ 141) := by show _ < _; rw [hQ]; exact Nat.lt_of_le_of_lt (Nat.div_le_self _ _) (two_pow_lt (by omega))
    have HQ := hide hQ
    clear hQ
    have CR := hide (unhide HR _ gr gd gm gt gk ge g 0 0 0 T _ D k E ((unhide HT).next bl) (by decide) (by decide) (by decide) (by decide) (inM_rep rB dy (unhide HLb) (unhide HEb) (by omega)) h0 (by omega) (by omega))
    rw [← unhide HQ] at CR
    go_wp2_with fail
    refine (unhide CR).mono ?_
    rintro e w1 ⟨v, gq, s', m', rfl, nv, hgq, E2, _, o⟩
    clear CR
    have nv := nv.toW.mono (Nat.le_trans sz hgq)
    clear hgq
    have rB := E.rep o rB
    have F := E.other o F (by omega)
    have sz := Nat.le_trans sz o.size
    have bl := bl.trans (o.below (B := w.heap.size) bl.size (fun k hk => by rw [hk]; exact hg))
    have E := E2
    clear o E2
    clear E
    obtain ⟨va, vl, vc, rfl⟩ := nv.shape
    have CR := hide (unhide HR _ gr' gd' gm' gt' gk' ge' g' 0 0 0 U _ D k F ((unhide HT).next bl) (by decide) (by decide) (by decide) (by decide) (inM_rep rB dy (unhide HLb) (unhide HEb) (by omega)) h0 (by omega) (by omega))
    rw [← unhide HQ] at CR
    go_wp2_with fail
    refine (unhide CR).mono ?_
    rintro e w2 ⟨u, gq2, s2, m2, rfl, nu, hgq, E2, _, o⟩
    clear CR
    have nu := nu.toW.mono (Nat.le_trans sz hgq)
    clear hgq
    have rB := F.rep o rB
    have nv := o.newW nv (fun k e => by rw [e]; exact lg)
    have sz := Nat.le_trans sz o.size
    have bl := bl.trans (o.below (B := w.heap.size) bl.size (fun k hk => by rw [hk]; exact hg'))
    have F := E2
    clear o E2
    clear F
    obtain ⟨ua, ul, uc, rfl⟩ := nu.shape
    go_wp2_with fail
    refine (same_two _ _ _ _ _ _ _ 141 (by omega) (unhide LQ) rfl nv nu).mono ?_
    rintro e w3 ⟨rfl, b⟩
    clear nv nu
    have rB := rB.next b
    have sz := Nat.le_trans sz b.size
    have bl := bstep bl b
    clear b
    go_wp2_with fail
    refine (unhide CK _ ((unhide HT).next bl)).mono ?_
    rintro e w4 ⟨rfl, b⟩
    have bl := bstep bl b
    clear b
    go_wp2
    go_ret
    exact ⟨rfl, bl⟩

end Go.Proofs.YtpcfghnenhnlpaaGreatDoor
