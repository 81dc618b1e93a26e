/- Two tables, compared. -/
import Derived.Test.YtiekgpphggejcaaGreatDoorB45
import Derived.Test.YtiekgpphggejcaaGreatDoorB14
import Derived.Test.YtiekgpphggejcaaGreatDoorB32
import Derived.Test.YtiekgpphggejcaaGreatDoorB10
import Derived.Deep.RegionHeld
namespace Go.Proofs.YtiekgpphggejcaaGreatDoor
open Go.RowKit
set_option linter.unusedSimpArgs false

theorem tab_eq {T U : Tab} (h0 : T.b = U.b) (h1 : T.t = U.t) (h2 : T.n = U.n) (h3 : T.d = U.d) (h4 : T.r = U.r) (h5 : T.l = U.l) (h6 : T.x = U.x) (h7 : T.p = U.p) (h8 : T.k = U.k) (h9 : T.s = U.s) (h10 : T.e = U.e) : T = U := by
  cases T; cases U
  simp only at h0 h1 h2 h3 h4 h5 h6 h7 h8 h9 h10
  subst h0 h1 h2 h3 h4 h5 h6 h7 h8 h9 h10
  rfl
set_option maxRecDepth 100000 in
set_option maxHeartbeats 3200000 in
theorem tabs_cmp (T U : Tab) (B : Bool) (hB : B = true ↔ T = U) (w : World) : (Op.equalIn Op.maxDepth 23 T.val U.val).run Tryz.prog w = .ok B w := by
  have ut := Tryz.underlying23
  have ui := Tryz.underlying3
  have hs : Tryz.prog.stoodInHeld 23 = false := by kernel_rfl
  by_cases h : T = U
  · obtain rfl := hB.2 h
    subst h
    unfold Tab.val
    rw [show Op.maxDepth = 9998 + 1 + 1 from rfl]
    unfold Op.equalIn
    simp [go_sem, ut, hs]
  · obtain rfl : B = false := by cases B with | true => exact absurd (hB.1 rfl) h | false => rfl
    unfold Tab.val
    rw [show Op.maxDepth = 9998 + 1 + 1 from rfl]
    unfold Op.equalIn
    simp [go_sem, ut, hs]
    intro h0 h1 h2 h3 h4 h5 h6 h7 h8 h9 h10
    exact h (tab_eq h0 h1 h2 h3 h4 h5 h6 h7 h8 h9 h10)
theorem Out.newW_g {g B n : Nat} {a b : World} {v : Value} (o : Out (· = g) a b) (r : NewW B a v n) (h : g < B) : NewW B b v n := o.newW r (fun k e => by rw [e]; exact h)
theorem Out.below_g {g : Nat} {w a b : World} (o : Out (· = g) a b) (h : Below w.heap.size w a) (hg : w.heap.size ≤ g) : Below w.heap.size w b := h.trans (o.below (B := w.heap.size) h.size (fun k hk => by rw [hk]; exact hg))
theorem ways2 {w : World} {gm gt gk ge g : Nat} {s l m : Int} {T : Tab} {gm' gt' gk' ge' g' : Nat} {s' l' m' : Int} {T' : Tab} (E : MEng w gm gt gk ge g s l m T) (F : MEng w gm' gt' gk' ge' g' s' l' m' T') :
    w.cell? ⟨gm, 0, none⟩ = some (.pointer (some ⟨gt, 0, none⟩)) ∧ w.cell? ⟨gt, 0, none⟩ = some (.pointer (some ⟨gk, 0, none⟩)) ∧ w.cell? ⟨gk, 0, none⟩ = some (.pointer (some ⟨ge, 0, none⟩)) ∧ w.cell? ⟨ge, 0, none⟩ = some (.pointer (some ⟨g, 0, none⟩)) ∧
    w.cell? ⟨gm', 0, none⟩ = some (.pointer (some ⟨gt', 0, none⟩)) ∧ w.cell? ⟨gt', 0, none⟩ = some (.pointer (some ⟨gk', 0, none⟩)) ∧ w.cell? ⟨gk', 0, none⟩ = some (.pointer (some ⟨ge', 0, none⟩)) ∧ w.cell? ⟨ge', 0, none⟩ = some (.pointer (some ⟨g', 0, none⟩)) :=
  ⟨E.way.1, E.way.2.1, E.way.2.2.1, E.way.2.2.2, F.way.1, F.way.2.1, F.way.2.2.1, F.way.2.2.2⟩

end Go.Proofs.YtiekgpphggejcaaGreatDoor

/- Two answers that say the same number have the same words. -/
namespace Go.Proofs.YtiekgpphggejcaaGreatDoor
open Go.RowKit

theorem same_two (w : World) (u v : Value) (m n B C p : Nat) (hp : p ≤ 1073741824) (hm : m < 18446744073709551616 ^ p) (e : m = n) (hu : NewW B w u m) (hv : NewW C w v n) :
    Calls Tryz.prog 31 #[u, v] w fun e w' => e = .returned (.bool true) ∧ Below w.heap.size w w' := by
  obtain ⟨ga, b, cap, xs, rfl, hr, hc, hw, _⟩ := hu.rep
  obtain ⟨gb, bb, cb, rfl, rb⟩ := new_words hv hc (hw.trans e)
  have := wlen_le hc (L := p) (by rw [hw]; exact hm)
  exact keepSame_any w ga gb b 0 cap bb 0 cb _ xs rfl (by omega) hr rb

end Go.Proofs.YtiekgpphggejcaaGreatDoor

/- MulTables (tables that are one when clamped): what the law's walk comes to, once the code is what the document asks. Written by gen_mul.py. -/
namespace Go.Proofs.YtiekgpphggejcaaGreatDoor
open Go.RowKit

set_option linter.unusedSimpArgs false

set_option maxRecDepth 100000 in
set_option maxHeartbeats 12800000 in
theorem mulTables_one (SN : SpecMNew) (SM : SpecMMul) (SQ : SpecMSqr) (SP : SpecMProd) (T : Tab) (U : Tab) (ga : Option Addr) (ba oa ca la : Nat) (xs : List Nat) (gb : Option Addr) (bb ob cb lb : Nat) (ys : List Nat) (w : World) (hxs : xs.length = la) (HrA : Rep w ga ba oa ca xs) (kxs : ∀ j, xs.getD j 0 < 18446744073709551616) (hys : ys.length = lb) (HrB : Rep w gb bb ob cb ys) (kys : ∀ j, ys.getD j 0 < 18446744073709551616) (hcl : T.clamp = U.clamp) (hT : TB w) :
    Calls Tryz.prog 6 #[T.val, U.val, .slice ga la ca, .slice gb lb cb] w fun e w' => e = .returned (.bool true) ∧ Below w.heap.size w w' := by
  obtain ⟨n, hca⟩ : ∃ k, k = min la 120 := ⟨_, rfl⟩
  have Ca : Hid (∀ w, Calls Tryz.prog 9 #[.slice ga la ca, .int .i64 120] w fun e w' => e = .returned (.slice ga n ca) ∧ w' = w) := fun w => cut_any w ga la ca 120 n (by have := HrA.room; omega) (by omega) hca
  obtain ⟨hla, rA⟩ := cut_rep HrA 120 n (by rw [hxs]; exact hca)
  have dx : WDig (xs.take n) := take_words kxs n
  have hma : n ≤ 120 := by omega
  clear hca HrA kxs hxs
  generalize xs.take n = us at *
  obtain ⟨m, hcb⟩ : ∃ k, k = min lb 120 := ⟨_, rfl⟩
  have Cb : Hid (∀ w, Calls Tryz.prog 9 #[.slice gb lb cb, .int .i64 120] w fun e w' => e = .returned (.slice gb m cb) ∧ w' = w) := fun w => cut_any w gb lb cb 120 m (by have := HrB.room; omega) (by omega) hcb
  obtain ⟨hlb, rB⟩ := cut_rep HrB 120 m (by rw [hys]; exact hcb)
  have dy : WDig (ys.take m) := take_words kys m
  have hmb : m ≤ 120 := by omega
  clear hcb HrB kys hys
  generalize ys.take m = vs at *
  obtain ⟨A, hva⟩ : ∃ k, k = wval us := ⟨_, rfl⟩
  have LA : Hid (A < 18446744073709551616 ^ 120) := by show _ < _; rw [hva]; exact pow_up (wval_lt_pow dx) (by omega)
  have BA : Hid (A < 4294967296 ^ 240) := by have := unhide LA; rw [wpow] at this; exact this
  have CFa := hide (fun W (r : Rep W ga ba oa ca us) => from_mul W ga ba oa ca n A us hla (by omega) r dx hva)
  have CWa := hide (fun W (r : Rep W ga ba oa ca us) => lwords_any W ga ba oa ca n A us hla (by omega) r dx hva)
  have wlA : wl A ≤ 120 := by rw [hva]; exact Nat.le_trans (wl_le_len dx) (by omega)
  have HLa := hide hla
  have HEa := hide hva
  clear hva hla
  obtain ⟨D, hvb⟩ : ∃ k, k = wval vs := ⟨_, rfl⟩
  have LD : Hid (D < 18446744073709551616 ^ 120) := by show _ < _; rw [hvb]; exact pow_up (wval_lt_pow dy) (by omega)
  have BD : Hid (D < 4294967296 ^ 240) := by have := unhide LD; rw [wpow] at this; exact this
  have CFb := hide (fun W (r : Rep W gb bb ob cb vs) => from_mul W gb bb ob cb m D vs hlb (by omega) r dy hvb)
  have CWb := hide (fun W (r : Rep W gb bb ob cb vs) => lwords_any W gb bb ob cb m D vs hlb (by omega) r dy hvb)
  have wlD : wl D ≤ 120 := by rw [hvb]; exact Nat.le_trans (wl_le_len dy) (by omega)
  have HLb := hide hlb
  have HEb := hide hvb
  clear hvb hlb
  have bl := Below.refl w.heap.size w
  have b0 : Below w.heap.size w ((w.alloc (.cells #[.int .i64 T.b, .int .i64 T.t, .int .i64 T.n, .int .i64 T.d, .int .i64 T.r, .int .i64 T.l, .int .i64 T.x, .int .i64 T.p, .int .i64 T.k, .int .i64 T.s, .int .i64 T.e] 23)).alloc (.cells #[.int .i64 U.b, .int .i64 U.t, .int .i64 U.n, .int .i64 U.d, .int .i64 U.r, .int .i64 U.l, .int .i64 U.x, .int .i64 U.p, .int .i64 U.k, .int .i64 U.s, .int .i64 U.e] 23)) := ((Below.refl _ _).alloc (Nat.le_refl _) _).alloc (by simp) _
  have tA : TabAt ((w.alloc (.cells #[.int .i64 T.b, .int .i64 T.t, .int .i64 T.n, .int .i64 T.d, .int .i64 T.r, .int .i64 T.l, .int .i64 T.x, .int .i64 T.p, .int .i64 T.k, .int .i64 T.s, .int .i64 T.e] 23)).alloc (.cells #[.int .i64 U.b, .int .i64 U.t, .int .i64 U.n, .int .i64 U.d, .int .i64 U.r, .int .i64 U.l, .int .i64 U.x, .int .i64 U.p, .int .i64 U.k, .int .i64 U.s, .int .i64 U.e] 23)) w.heap.size T := (tabAt_new w T 23).next ((Below.refl _ _).alloc (Nat.le_refl _) _)
  have uA := tabAt_new (w.alloc (.cells #[.int .i64 T.b, .int .i64 T.t, .int .i64 T.n, .int .i64 T.d, .int .i64 T.r, .int .i64 T.l, .int .i64 T.x, .int .i64 T.p, .int .i64 T.k, .int .i64 T.s, .int .i64 T.e] 23)) U 23
  rw [show (w.alloc (.cells #[.int .i64 T.b, .int .i64 T.t, .int .i64 T.n, .int .i64 T.d, .int .i64 T.r, .int .i64 T.l, .int .i64 T.x, .int .i64 T.p, .int .i64 T.k, .int .i64 T.s, .int .i64 T.e] 23)).heap.size = w.heap.size + 1 by simp] at uA
  obtain ⟨W1, hW1⟩ : ∃ W, (w.alloc (.cells #[.int .i64 T.b, .int .i64 T.t, .int .i64 T.n, .int .i64 T.d, .int .i64 T.r, .int .i64 T.l, .int .i64 T.x, .int .i64 T.p, .int .i64 T.k, .int .i64 T.s, .int .i64 T.e] 23)).alloc (.cells #[.int .i64 U.b, .int .i64 U.t, .int .i64 U.n, .int .i64 U.d, .int .i64 U.r, .int .i64 U.l, .int .i64 U.x, .int .i64 U.p, .int .i64 U.k, .int .i64 U.s, .int .i64 U.e] 23) = W := ⟨_, rfl⟩
  rw [hW1] at b0 tA uA
  obtain ⟨P0, hP0⟩ : ∃ P, w.heap.size = P := ⟨_, rfl⟩
  rw [hP0] at tA uA
  have lP : P0 + 1 < W1.heap.size := uA.lt
  have HT := hide hT
  clear hT
  have rA := rA.next b0
  have rB := rB.next b0
  have bl := bstep bl b0
  clear b0
  have CN := hide (fun W => SN T W)
  have CU := hide (fun W => SN U W)
  have HM := hide SM
  have HQ := hide SQ
  have CK := hide (fun W h => mulWakes_any SN SP W h)
  have CCT := hide (fun W => clamp_any T W)
  have CCU := hide (fun W => clamp_any U W)
  clear SN SM SQ SP
  unfold Tab.val at CN CU CCT CCU ⊢
  go_enter Tryz.func6, Tryz.ntmps6
  go_wp2_with fail
  refine (unhide Ca _).mono ?_
  rintro e wca ⟨rfl, rfl⟩
  clear Ca
  go_wp2_with fail
  refine (unhide Cb _).mono ?_
  rintro e wcb ⟨rfl, rfl⟩
  clear Cb
  have HC : Hid (∀ w', Below wcb.heap.size wcb w' → w'.cell? ⟨P0, 0, none⟩ = some (.int .i64 T.b) ∧ w'.cell? ⟨P0, 1, none⟩ = some (.int .i64 T.t) ∧ w'.cell? ⟨P0, 2, none⟩ = some (.int .i64 T.n) ∧ w'.cell? ⟨P0, 3, none⟩ = some (.int .i64 T.d) ∧ w'.cell? ⟨P0, 4, none⟩ = some (.int .i64 T.r) ∧ w'.cell? ⟨P0, 5, none⟩ = some (.int .i64 T.l) ∧ w'.cell? ⟨P0, 6, none⟩ = some (.int .i64 T.x) ∧ w'.cell? ⟨P0, 7, none⟩ = some (.int .i64 T.p) ∧ w'.cell? ⟨P0, 8, none⟩ = some (.int .i64 T.k) ∧ w'.cell? ⟨P0, 9, none⟩ = some (.int .i64 T.s) ∧ w'.cell? ⟨P0, 10, none⟩ = some (.int .i64 T.e) ∧ w'.cell? ⟨P0 + 1, 0, none⟩ = some (.int .i64 U.b) ∧ w'.cell? ⟨P0 + 1, 1, none⟩ = some (.int .i64 U.t) ∧ w'.cell? ⟨P0 + 1, 2, none⟩ = some (.int .i64 U.n) ∧ w'.cell? ⟨P0 + 1, 3, none⟩ = some (.int .i64 U.d) ∧ w'.cell? ⟨P0 + 1, 4, none⟩ = some (.int .i64 U.r) ∧ w'.cell? ⟨P0 + 1, 5, none⟩ = some (.int .i64 U.l) ∧ w'.cell? ⟨P0 + 1, 6, none⟩ = some (.int .i64 U.x) ∧ w'.cell? ⟨P0 + 1, 7, none⟩ = some (.int .i64 U.p) ∧ w'.cell? ⟨P0 + 1, 8, none⟩ = some (.int .i64 U.k) ∧ w'.cell? ⟨P0 + 1, 9, none⟩ = some (.int .i64 U.s) ∧ w'.cell? ⟨P0 + 1, 10, none⟩ = some (.int .i64 U.e)) := fun w' q => by
    obtain ⟨p0, p1, p2, p3, p4, p5, p6, p7, p8, p9, p10⟩ := tA.next q
    obtain ⟨u0, u1, u2, u3, u4, u5, u6, u7, u8, u9, u10⟩ := uA.next q
    exact ⟨p0, p1, p2, p3, p4, p5, p6, p7, p8, p9, p10, u0, u1, u2, u3, u4, u5, u6, u7, u8, u9, u10⟩
  obtain ⟨p0, p1, p2, p3, p4, p5, p6, p7, p8, p9, p10, u0, u1, u2, u3, u4, u5, u6, u7, u8, u9, u10⟩ := unhide HC _ (Below.refl _ _)
  have b0 : Below wcb.heap.size wcb wcb.drew := (Below.refl _ _).drew
  go_wp2
  go_region_held3 (fun w' => w'.cell? ⟨P0, 0, none⟩ = some (.int .i64 T.b) ∧ w'.cell? ⟨P0, 1, none⟩ = some (.int .i64 T.t) ∧ w'.cell? ⟨P0, 2, none⟩ = some (.int .i64 T.n) ∧ w'.cell? ⟨P0, 3, none⟩ = some (.int .i64 T.d) ∧ w'.cell? ⟨P0, 4, none⟩ = some (.int .i64 T.r) ∧ w'.cell? ⟨P0, 5, none⟩ = some (.int .i64 T.l) ∧ w'.cell? ⟨P0, 6, none⟩ = some (.int .i64 T.x) ∧ w'.cell? ⟨P0, 7, none⟩ = some (.int .i64 T.p) ∧ w'.cell? ⟨P0, 8, none⟩ = some (.int .i64 T.k) ∧ w'.cell? ⟨P0, 9, none⟩ = some (.int .i64 T.s) ∧ w'.cell? ⟨P0, 10, none⟩ = some (.int .i64 T.e) ∧ w'.cell? ⟨P0 + 1, 0, none⟩ = some (.int .i64 U.b) ∧ w'.cell? ⟨P0 + 1, 1, none⟩ = some (.int .i64 U.t) ∧ w'.cell? ⟨P0 + 1, 2, none⟩ = some (.int .i64 U.n) ∧ w'.cell? ⟨P0 + 1, 3, none⟩ = some (.int .i64 U.d) ∧ w'.cell? ⟨P0 + 1, 4, none⟩ = some (.int .i64 U.r) ∧ w'.cell? ⟨P0 + 1, 5, none⟩ = some (.int .i64 U.l) ∧ w'.cell? ⟨P0 + 1, 6, none⟩ = some (.int .i64 U.x) ∧ w'.cell? ⟨P0 + 1, 7, none⟩ = some (.int .i64 U.p) ∧ w'.cell? ⟨P0 + 1, 8, none⟩ = some (.int .i64 U.k) ∧ w'.cell? ⟨P0 + 1, 9, none⟩ = some (.int .i64 U.s) ∧ w'.cell? ⟨P0 + 1, 10, none⟩ = some (.int .i64 U.e)) (first | (with_reducible exact unhide HC _ b0) | go_keep) (first
    | (with_reducible refine (unhide CN _).mono ?_; rintro e wn1 ⟨gm, gt, gk, ge, g, rfl, E, hn, b⟩; have hg := Nat.le_trans b0.size hn.2.2.2.2; have b0 := b0.trans (b.mono b0.size); clear b hn)
    | (with_reducible refine (unhide CU _).mono ?_; rintro e wn2 ⟨gm', gt', gk', ge', g', rfl, F, hn, b⟩; have hg' := Nat.le_trans b0.size hn.2.2.2.2; have hgg := Nat.lt_of_lt_of_le E.met.lt hn.2.2.2.2; have E := E.next b; have b0 := b0.trans (b.mono b0.size); clear b hn)
    | fail)
  clear p0 p1 p2 p3 p4 p5 p6 p7 p8 p9 p10 u0 u1 u2 u3 u4 u5 u6 u7 u8 u9 u10 HC CN CU
  have bl := bstep bl b0
  have rA := rA.next b0
  have rB := rB.next b0
  have tA := tA.next b0
  have uA := uA.next b0
  clear b0
  have hw1 : w.heap.size ≤ g := by omega
  have hw2 : w.heap.size ≤ g' := by omega
  have nP : P0 ≠ g ∧ P0 + 1 ≠ g ∧ P0 ≠ g' ∧ P0 + 1 ≠ g' := by omega
  have ngg : g ≠ g' ∧ g' ≠ g := by omega
  clear hg hg' hgg lP
  have lg := E.met.lt
  have lg' := F.met.lt
  obtain ⟨S1, hS1⟩ : ∃ S, S = wn2.heap.size := ⟨_, rfl⟩
  rw [← hS1] at lg lg'
  have ix := inM_rep rA dx (unhide HLa) (unhide HEa) (by omega)
  have iy := inM_rep rB dy (unhide HLb) (unhide HEb) (by omega)
  have CM := hide (unhide HM _ gm gt gk ge g 0 0 0 T _ _ A D E ((unhide HT).next bl) (by decide) (by decide) (by decide) (by decide) ix iy)
  rw [Int.zero_add, Int.zero_add] at CM
  clear ix iy
  go_wp2_with fail
  refine (unhide CM).mono ?_
  rintro e w1 ⟨r, m1, rfl, ns, E2, q1, q2, o⟩
  clear CM q1 q2
  have ns := ns.mono (show S1 ≤ _ by rw [hS1]; exact Nat.le_refl _)
  have s5 : S1 ≤ w1.heap.size := by rw [hS1]; exact o.size
  have tA := tA.out o (fun (e : P0 = g) => by omega)
  have uA := uA.out o (fun (e : P0 + 1 = g) => by omega)
  have rA := E.rep o rA
  have rB := E.rep o rB
  have F := E.other o F (by omega)
  have bl := bl.trans (o.below (B := w.heap.size) bl.size (fun k hk => by rw [hk]; exact hw1))
  have E := E2
  clear o E2
  have ix := inM_rep rA dx (unhide HLa) (unhide HEa) (by omega)
  have iy := inM_rep rB dy (unhide HLb) (unhide HEb) (by omega)
  have CM := hide (unhide HM _ gm' gt' gk' ge' g' 0 0 0 U _ _ D A F ((unhide HT).next bl) (by decide) (by decide) (by decide) (by decide) iy ix)
  rw [Int.zero_add, Int.zero_add] at CM
  clear ix iy
  go_wp2_with fail
  refine (unhide CM).mono ?_
  rintro e w2 ⟨r2, m2, rfl, nt, F2, q1, q2, o⟩
  clear CM q1 q2
  have nt := nt.mono s5
  have tA := tA.out o (fun (e : P0 = g') => by omega)
  have uA := uA.out o (fun (e : P0 + 1 = g') => by omega)
  have rA := F.rep o rA
  have rB := F.rep o rB
  have E := F.other o E (by omega)
  have ns := o.newW ns (fun k e => by rw [e]; exact lg')
  have bl := bl.trans (o.below (B := w.heap.size) bl.size (fun k hk => by rw [hk]; exact hw2))
  have F := F2
  clear o F2
  have HAD : Hid (A * D < 18446744073709551616 ^ (120 + 120)) := by have := Nat.mul_lt_mul'' (unhide LA) (unhide LD); rwa [← Nat.pow_add] at this
  have CS := hide (same_two _ _ _ _ _ _ _ (120 + 120) (by decide) (unhide HAD) (Nat.mul_comm A D) ns nt)
  obtain ⟨sa, sn, sc, rfl⟩ := ns.shape
  obtain ⟨sa2, sn2, sc2, rfl⟩ := nt.shape
  clear ns nt
  go_wp2_with fail
  refine (unhide CS).mono ?_
  rintro e w3 ⟨rfl, b⟩
  clear CS
  have rA := rA.next b
  have rB := rB.next b
  have tA := tA.next b
  have uA := uA.next b
  have E := E.next b
  have F := F.next b
  have bl := bstep bl b
  clear b
  obtain ⟨K1, hK1⟩ : ∃ K, K = costT T (wl A : Int) (wl D : Int) := ⟨_, rfl⟩
  obtain ⟨K2, hK2⟩ : ∃ K, K = costT U (wl D : Int) (wl A : Int) := ⟨_, rfl⟩
  rw [← hK1] at E
  rw [← hK2] at F
  have c1 := costT_le T (wl A) (wl D) (by omega) (by omega)
  have c2 := costT_le U (wl D) (wl A) (by omega) (by omega)
  rw [← hK1] at c1
  rw [← hK2, Nat.mul_comm] at c2
  have hB : true = true ↔ T.clamp = U.clamp := by simp [hcl]
  have hEq : ∀ w, (Op.equalIn Op.maxDepth 23 T.clamp.val U.clamp.val).run Tryz.prog w = .ok true w := fun w => tabs_cmp T.clamp U.clamp true hB w
  have hEq2 : ∀ w, (Op.equal 23 T.clamp.val U.clamp.val).run Tryz.prog w = .ok true w := hEq
  have hEq3 : ∀ w, (binOp .eql 23 T.clamp.val U.clamp.val).run Tryz.prog w = .ok (.bool true) w := fun w => by
    have := hEq w
    unfold Tab.val at this ⊢
    simp only [binOp, Op.equal]
    simp [go_sem, this]
  unfold Tab.val at hEq hEq2 hEq3
  have hKK : ((K1 : Int) != (K2 : Int)) = false := by
    rw [hK1, hK2, costT_clamp hcl, costT_comm]
    simp
  obtain ⟨E8, hE8⟩ : ∃ E8, E8 = 8 * wl A := ⟨_, rfl⟩
  obtain ⟨E9, hE9⟩ : ∃ E9, E9 = E8 * wl D := ⟨_, rfl⟩
  have e9 : E9 ≤ 960 * 120 := by rw [hE9]; exact Nat.mul_le_mul (by omega) (by omega)
  have e9' : E9 = 8 * (wl A * wl D) := by rw [hE9, hE8, Nat.mul_assoc]
  have x1 : 8 * (wl A : Int) = (E8 : Int) := by omega
  have x2 : IntKind.i64.wrap (E8 : Int) = (E8 : Int) := by rw [IntKind.wrap_i64]; omega
  have x3 : (E8 : Int) * (wl D : Int) = (E9 : Int) := by rw [hE9]; exact (Int.natCast_mul _ _).symm
  have x4 : IntKind.i64.wrap (E9 : Int) = (E9 : Int) := by rw [IntKind.wrap_i64]; omega
  have x5 : K1 ≤ (E9 : Int) := by rw [e9']; omega
  have x6 : K2 ≤ (E9 : Int) := by rw [e9']; omega
  have x7 : decide (K1 ≤ (E9 : Int)) = true := decide_eq_true x5
  have x8 : decide (K2 ≤ (E9 : Int)) = true := decide_eq_true x6
  have y1 : 0 ≤ K1 ∧ K1 ≤ 1152921504606846976 := by omega
  have y2 : 0 ≤ K2 ∧ K2 ≤ 1152921504606846976 := by omega
  clear hK1 hK2 c1 c2 hE8 hE9 e9 e9' hB x5 x6
  have QE : Hid (∀ W, Below w3.heap.size w3 W → MEng W gm gt gk ge g K1 0 m1 T) := fun W q => E.next q
  have QF : Hid (∀ W, Below w3.heap.size w3 W → MEng W gm' gt' gk' ge' g' K2 0 m2 U) := fun W q => F.next q
  have QA : Hid (∀ W, Below w3.heap.size w3 W → Rep W ga ba oa ca us) := fun W q => rA.next q
  have QB : Hid (∀ W, Below w3.heap.size w3 W → Rep W gb bb ob cb vs) := fun W q => rB.next q
  have QL : Hid (∀ W, Below w3.heap.size w3 W → Below w.heap.size w W) := fun W q => bstep bl q
  have QI : Hid (∀ W, Rep W ga ba oa ca us → InM W (.slice ga n ca) A) := fun W q => inM_rep q dx (unhide HLa) (unhide HEa) (by omega)
  have HC : Hid (∀ w', Below w3.heap.size w3 w' → w'.cell? ⟨gm, 0, none⟩ = some (.pointer (some ⟨gt, 0, none⟩)) ∧ w'.cell? ⟨gt, 0, none⟩ = some (.pointer (some ⟨gk, 0, none⟩)) ∧ w'.cell? ⟨gk, 0, none⟩ = some (.pointer (some ⟨ge, 0, none⟩)) ∧ w'.cell? ⟨ge, 0, none⟩ = some (.pointer (some ⟨g, 0, none⟩)) ∧ w'.cell? ⟨gm', 0, none⟩ = some (.pointer (some ⟨gt', 0, none⟩)) ∧ w'.cell? ⟨gt', 0, none⟩ = some (.pointer (some ⟨gk', 0, none⟩)) ∧ w'.cell? ⟨gk', 0, none⟩ = some (.pointer (some ⟨ge', 0, none⟩)) ∧ w'.cell? ⟨ge', 0, none⟩ = some (.pointer (some ⟨g', 0, none⟩)) ∧ w'.cell? ⟨P0, 0, none⟩ = some (.int .i64 T.b) ∧ w'.cell? ⟨P0, 1, none⟩ = some (.int .i64 T.t) ∧ w'.cell? ⟨P0, 2, none⟩ = some (.int .i64 T.n) ∧ w'.cell? ⟨P0, 3, none⟩ = some (.int .i64 T.d) ∧ w'.cell? ⟨P0, 4, none⟩ = some (.int .i64 T.r) ∧ w'.cell? ⟨P0, 5, none⟩ = some (.int .i64 T.l) ∧ w'.cell? ⟨P0, 6, none⟩ = some (.int .i64 T.x) ∧ w'.cell? ⟨P0, 7, none⟩ = some (.int .i64 T.p) ∧ w'.cell? ⟨P0, 8, none⟩ = some (.int .i64 T.k) ∧ w'.cell? ⟨P0, 9, none⟩ = some (.int .i64 T.s) ∧ w'.cell? ⟨P0, 10, none⟩ = some (.int .i64 T.e) ∧ w'.cell? ⟨P0 + 1, 0, none⟩ = some (.int .i64 U.b) ∧ w'.cell? ⟨P0 + 1, 1, none⟩ = some (.int .i64 U.t) ∧ w'.cell? ⟨P0 + 1, 2, none⟩ = some (.int .i64 U.n) ∧ w'.cell? ⟨P0 + 1, 3, none⟩ = some (.int .i64 U.d) ∧ w'.cell? ⟨P0 + 1, 4, none⟩ = some (.int .i64 U.r) ∧ w'.cell? ⟨P0 + 1, 5, none⟩ = some (.int .i64 U.l) ∧ w'.cell? ⟨P0 + 1, 6, none⟩ = some (.int .i64 U.x) ∧ w'.cell? ⟨P0 + 1, 7, none⟩ = some (.int .i64 U.p) ∧ w'.cell? ⟨P0 + 1, 8, none⟩ = some (.int .i64 U.k) ∧ w'.cell? ⟨P0 + 1, 9, none⟩ = some (.int .i64 U.s) ∧ w'.cell? ⟨P0 + 1, 10, none⟩ = some (.int .i64 U.e)) := fun w' q => by
    obtain ⟨z0, z1, z2, z3, z4, z5, z6, z7⟩ := ways2 (E.next q) (F.next q)
    obtain ⟨p0, p1, p2, p3, p4, p5, p6, p7, p8, p9, p10⟩ := tA.next q
    obtain ⟨u0, u1, u2, u3, u4, u5, u6, u7, u8, u9, u10⟩ := uA.next q
    exact ⟨z0, z1, z2, z3, z4, z5, z6, z7, p0, p1, p2, p3, p4, p5, p6, p7, p8, p9, p10, u0, u1, u2, u3, u4, u5, u6, u7, u8, u9, u10⟩
  obtain ⟨z0, z1, z2, z3, z4, z5, z6, z7, p0, p1, p2, p3, p4, p5, p6, p7, p8, p9, p10, u0, u1, u2, u3, u4, u5, u6, u7, u8, u9, u10⟩ := unhide HC _ (Below.refl _ _)
  have b0 : Below w3.heap.size w3 w3.drew := (Below.refl _ _).drew
  have HAA : Hid (A * A < 18446744073709551616 ^ (120 + 120)) := by have := Nat.mul_lt_mul'' (unhide LA) (unhide LA); rwa [← Nat.pow_add] at this
  have d0 : (0 : Int) ≤ 0 := by decide
  have d1 : (0 : Int) ≤ 1000 := by decide
  have d2 : 120 + 120 ≤ 1073741824 := by decide
  clear E F tA uA rA rB bl lg lg' nP
  go_wp2
  (try simp only [List.append_eq, List.cons_append, List.nil_append])
  go_region_held3 (fun w' => w'.cell? ⟨gm, 0, none⟩ = some (.pointer (some ⟨gt, 0, none⟩)) ∧ w'.cell? ⟨gt, 0, none⟩ = some (.pointer (some ⟨gk, 0, none⟩)) ∧ w'.cell? ⟨gk, 0, none⟩ = some (.pointer (some ⟨ge, 0, none⟩)) ∧ w'.cell? ⟨ge, 0, none⟩ = some (.pointer (some ⟨g, 0, none⟩)) ∧ w'.cell? ⟨gm', 0, none⟩ = some (.pointer (some ⟨gt', 0, none⟩)) ∧ w'.cell? ⟨gt', 0, none⟩ = some (.pointer (some ⟨gk', 0, none⟩)) ∧ w'.cell? ⟨gk', 0, none⟩ = some (.pointer (some ⟨ge', 0, none⟩)) ∧ w'.cell? ⟨ge', 0, none⟩ = some (.pointer (some ⟨g', 0, none⟩)) ∧ w'.cell? ⟨P0, 0, none⟩ = some (.int .i64 T.b) ∧ w'.cell? ⟨P0, 1, none⟩ = some (.int .i64 T.t) ∧ w'.cell? ⟨P0, 2, none⟩ = some (.int .i64 T.n) ∧ w'.cell? ⟨P0, 3, none⟩ = some (.int .i64 T.d) ∧ w'.cell? ⟨P0, 4, none⟩ = some (.int .i64 T.r) ∧ w'.cell? ⟨P0, 5, none⟩ = some (.int .i64 T.l) ∧ w'.cell? ⟨P0, 6, none⟩ = some (.int .i64 T.x) ∧ w'.cell? ⟨P0, 7, none⟩ = some (.int .i64 T.p) ∧ w'.cell? ⟨P0, 8, none⟩ = some (.int .i64 T.k) ∧ w'.cell? ⟨P0, 9, none⟩ = some (.int .i64 T.s) ∧ w'.cell? ⟨P0, 10, none⟩ = some (.int .i64 T.e) ∧ w'.cell? ⟨P0 + 1, 0, none⟩ = some (.int .i64 U.b) ∧ w'.cell? ⟨P0 + 1, 1, none⟩ = some (.int .i64 U.t) ∧ w'.cell? ⟨P0 + 1, 2, none⟩ = some (.int .i64 U.n) ∧ w'.cell? ⟨P0 + 1, 3, none⟩ = some (.int .i64 U.d) ∧ w'.cell? ⟨P0 + 1, 4, none⟩ = some (.int .i64 U.r) ∧ w'.cell? ⟨P0 + 1, 5, none⟩ = some (.int .i64 U.l) ∧ w'.cell? ⟨P0 + 1, 6, none⟩ = some (.int .i64 U.x) ∧ w'.cell? ⟨P0 + 1, 7, none⟩ = some (.int .i64 U.p) ∧ w'.cell? ⟨P0 + 1, 8, none⟩ = some (.int .i64 U.k) ∧ w'.cell? ⟨P0 + 1, 9, none⟩ = some (.int .i64 U.s) ∧ w'.cell? ⟨P0 + 1, 10, none⟩ = some (.int .i64 U.e)) (first | (with_reducible exact unhide HC _ b0) | go_keep) (first
    | (with_reducible refine (unhide CCT _).mono ?_; rintro e wt1 ⟨rfl, b⟩; have b0 := b0.trans (b.mono b0.size); clear b)
    | (with_reducible refine (unhide CCU _).mono ?_; rintro e wt2 ⟨rfl, b⟩; have b0 := b0.trans (b.mono b0.size); clear b)
    | (with_reducible refine (muls_any (unhide QE _ b0).met).mono ?_; rintro e wt3 ⟨rfl, rfl⟩)
    | (with_reducible refine (muls_any (unhide QF _ b0).met).mono ?_; rintro e wt4 ⟨rfl, rfl⟩)
    | fail)
  clear p0 p1 p2 p3 p4 p5 p6 p7 p8 p9 p10 u0 u1 u2 u3 u4 u5 u6 u7 u8 u9 u10 HC
  have HC : Hid (∀ w', Below w3.heap.size w3 w' → w'.cell? ⟨gm, 0, none⟩ = some (.pointer (some ⟨gt, 0, none⟩)) ∧ w'.cell? ⟨gt, 0, none⟩ = some (.pointer (some ⟨gk, 0, none⟩)) ∧ w'.cell? ⟨gk, 0, none⟩ = some (.pointer (some ⟨ge, 0, none⟩)) ∧ w'.cell? ⟨ge, 0, none⟩ = some (.pointer (some ⟨g, 0, none⟩)) ∧ w'.cell? ⟨gm', 0, none⟩ = some (.pointer (some ⟨gt', 0, none⟩)) ∧ w'.cell? ⟨gt', 0, none⟩ = some (.pointer (some ⟨gk', 0, none⟩)) ∧ w'.cell? ⟨gk', 0, none⟩ = some (.pointer (some ⟨ge', 0, none⟩)) ∧ w'.cell? ⟨ge', 0, none⟩ = some (.pointer (some ⟨g', 0, none⟩))) := fun w' q => ways2 (unhide QE _ q) (unhide QF _ q)
  clear z0 z1 z2 z3 z4 z5 z6 z7
  obtain ⟨z0, z1, z2, z3, z4, z5, z6, z7⟩ := unhide HC _ b0
  clear CCT CCU CFa CFb hEq hEq2 hEq3
  go_wp2_with fail
  refine (muls_any (unhide QE _ b0).met).mono ?_
  rintro e wt3 ⟨rfl, rfl⟩
  go_wp2_with fail
  refine (unhide CWa _ (unhide QA _ b0)).mono ?_
  rintro e wt5 ⟨rfl, rfl⟩
  go_wp2_with fail
  refine (unhide CWb _ (unhide QB _ b0)).mono ?_
  rintro e wt6 ⟨rfl, rfl⟩
  go_wp2_with fail
  refine (muls_any (unhide QF _ b0).met).mono ?_
  rintro e wt7 ⟨rfl, rfl⟩
  go_wp2_with fail
  refine (unhide CWa _ (unhide QA _ b0)).mono ?_
  rintro e wt8 ⟨rfl, rfl⟩
  go_wp2_with fail
  refine (unhide CWb _ (unhide QB _ b0)).mono ?_
  rintro e wt9 ⟨rfl, rfl⟩
  go_wp2_with fail
  refine (unhide HQ _ gm gt gk ge g K1 0 m1 T _ A (unhide QE _ b0) ((unhide HT).next (unhide QL _ b0)) y1.1 y1.2 d0 d1 (unhide QI _ (unhide QA _ b0))).mono ?_
  rintro e wq ⟨rq, mq, rfl, ns, E2, _, _, o⟩
  have F2 := (unhide QE _ b0).other o (unhide QF _ b0) ngg.2
  have r2 := (unhide QE _ b0).rep o (unhide QA _ b0)
  have bl2 := o.below_g (unhide QL _ b0) hw1
  have lgW := (unhide QF _ b0).met.lt
  obtain ⟨sa3, sn3, sc3, rfl⟩ := ns.shape
  clear o z0 z1 z2 z3 z4 z5 z6 z7
  obtain ⟨z0, z1, z2, z3, z4, z5, z6, z7⟩ := ways2 E2 F2
  go_wp2_with fail
  refine (unhide HM _ gm' gt' gk' ge' g' K2 0 m2 U _ _ A A F2 ((unhide HT).next bl2) y2.1 y2.2 d0 d1 (unhide QI _ r2) (unhide QI _ r2)).mono ?_
  rintro e wr ⟨rr, mr, rfl, nt, F3, _, _, o⟩
  have ns := o.newW_g ns lgW
  have bl3 := o.below_g bl2 hw2
  obtain ⟨sa4, sn4, sc4, rfl⟩ := nt.shape
  clear o
  go_wp2_with fail
  refine (same_two _ _ _ _ _ _ _ (120 + 120) d2 (unhide HAA) rfl ns nt).mono ?_
  rintro e wv ⟨rfl, b⟩
  have bl4 := bstep bl3 b
  clear b
  go_wp2_with fail
  refine (unhide CK _ ((unhide HT).next bl4)).mono ?_
  rintro e wz ⟨rfl, b⟩
  have bl5 := bstep bl4 b
  clear b
  all_goals
    focus
      go_wp2
      go_ret
      exact ⟨rfl, bl5⟩

end Go.Proofs.YtiekgpphggejcaaGreatDoor

/- Operations of a region that draws its order, taken first; where each is laid down is said. -/
namespace Go.Proofs.YtiekgpphggejcaaGreatDoor
open Go.RowKit

theorem takeH_d {P : Program} {md : Region.Mode} {ops : Array Oper} {Q : Exit → Act → World → Prop} {S : World → Prop} {i : Nat} {oi : Oper} {v : Value} {fuel : Nat} {listed : Array Bool} {a : Act} {w : World} (d : Option Tmp) (hi : ops[i]? = some oi) (hd : oi.dst = d)
    (hs : Region.noSelect ops = true) (hf : Region.free md ops listed i = true) (hr : (Region.ready md ops listed).contains i = true)
    (hQ : ∀ c a w, Q (.panic c) (a.put d v) w → Q (.panic c) a w) (hy : YieldsIf P ops S oi v a) (hS : S w)
    (h : wpAnyH P md ops Q S fuel (listed.setIfInBounds i true) (a.put d v) w) : wpAnyH P md ops Q S (fuel + 1) listed a w := by
  subst hd
  exact wpAnyH_take hi hs hf hr hQ hy hS h
/-- One that alone may come up, and is not wanted. -/
theorem skipH_d {P : Program} {md : Region.Mode} {ops : Array Oper} {Q : Exit → Act → World → Prop} {S : World → Prop} {i : Nat} {o : Oper} {fuel : Nat} {listed : Array Bool} {a : Act} {w : World} (d : Option Tmp) (hi : ops[i]? = some o) (hd : o.dst = d)
    (hr : Region.ready md ops listed = [i]) (hw : Region.wanted o (yielded ops a.tmps) = false) (hS : S w)
    (h : wpAnyH P md ops Q S fuel (listed.setIfInBounds i true) (a.put d undef) w) : wpAnyH P md ops Q S (fuel + 1) listed a w := by
  subst hd
  refine wpAnyH_ready hr (by simp) (AllReadyH.cons hi (fun K hK => ?_) AllReadyH.nil)
  rw [if_neg (Bool.eq_false_iff.1 hw)]
  exact hK.out _ _ hS (fun _ => h)

end Go.Proofs.YtiekgpphggejcaaGreatDoor

/- MulTables (tables that are not one when clamped): what the law's walk comes to, once the code is what the document asks. Written by gen_mul.py. -/
namespace Go.Proofs.YtiekgpphggejcaaGreatDoor
open Go.RowKit

set_option linter.unusedSimpArgs false

set_option maxRecDepth 100000 in
set_option maxHeartbeats 12800000 in
theorem mulTables_two (SN : SpecMNew) (SM : SpecMMul) (SQ : SpecMSqr) (SP : SpecMProd) (T : Tab) (U : Tab) (ga : Option Addr) (ba oa ca la : Nat) (xs : List Nat) (gb : Option Addr) (bb ob cb lb : Nat) (ys : List Nat) (w : World) (hxs : xs.length = la) (HrA : Rep w ga ba oa ca xs) (kxs : ∀ j, xs.getD j 0 < 18446744073709551616) (hys : ys.length = lb) (HrB : Rep w gb bb ob cb ys) (kys : ∀ j, ys.getD j 0 < 18446744073709551616) (hcl : ¬ T.clamp = U.clamp) (hT : TB w) :
    Calls Tryz.prog 6 #[T.val, U.val, .slice ga la ca, .slice gb lb cb] w fun e w' => e = .returned (.bool true) ∧ Below w.heap.size w w' := by
  obtain ⟨n, hca⟩ : ∃ k, k = min la 120 := ⟨_, rfl⟩
  have Ca : Hid (∀ w, Calls Tryz.prog 9 #[.slice ga la ca, .int .i64 120] w fun e w' => e = .returned (.slice ga n ca) ∧ w' = w) := fun w => cut_any w ga la ca 120 n (by have := HrA.room; omega) (by omega) hca
  obtain ⟨hla, rA⟩ := cut_rep HrA 120 n (by rw [hxs]; exact hca)
  have dx : WDig (xs.take n) := take_words kxs n
  have hma : n ≤ 120 := by omega
  clear hca HrA kxs hxs
  generalize xs.take n = us at *
  obtain ⟨m, hcb⟩ : ∃ k, k = min lb 120 := ⟨_, rfl⟩
  have Cb : Hid (∀ w, Calls Tryz.prog 9 #[.slice gb lb cb, .int .i64 120] w fun e w' => e = .returned (.slice gb m cb) ∧ w' = w) := fun w => cut_any w gb lb cb 120 m (by have := HrB.room; omega) (by omega) hcb
  obtain ⟨hlb, rB⟩ := cut_rep HrB 120 m (by rw [hys]; exact hcb)
  have dy : WDig (ys.take m) := take_words kys m
  have hmb : m ≤ 120 := by omega
  clear hcb HrB kys hys
  generalize ys.take m = vs at *
  obtain ⟨A, hva⟩ : ∃ k, k = wval us := ⟨_, rfl⟩
  have LA : Hid (A < 18446744073709551616 ^ 120) := by show _ < _; rw [hva]; exact pow_up (wval_lt_pow dx) (by omega)
  have BA : Hid (A < 4294967296 ^ 240) := by have := unhide LA; rw [wpow] at this; exact this
  have CFa := hide (fun W (r : Rep W ga ba oa ca us) => from_mul W ga ba oa ca n A us hla (by omega) r dx hva)
  have CWa := hide (fun W (r : Rep W ga ba oa ca us) => lwords_any W ga ba oa ca n A us hla (by omega) r dx hva)
  have wlA : wl A ≤ 120 := by rw [hva]; exact Nat.le_trans (wl_le_len dx) (by omega)
  have HLa := hide hla
  have HEa := hide hva
  clear hva hla
  obtain ⟨D, hvb⟩ : ∃ k, k = wval vs := ⟨_, rfl⟩
  have LD : Hid (D < 18446744073709551616 ^ 120) := by show _ < _; rw [hvb]; exact pow_up (wval_lt_pow dy) (by omega)
  have BD : Hid (D < 4294967296 ^ 240) := by have := unhide LD; rw [wpow] at this; exact this
  have CFb := hide (fun W (r : Rep W gb bb ob cb vs) => from_mul W gb bb ob cb m D vs hlb (by omega) r dy hvb)
  have CWb := hide (fun W (r : Rep W gb bb ob cb vs) => lwords_any W gb bb ob cb m D vs hlb (by omega) r dy hvb)
  have wlD : wl D ≤ 120 := by rw [hvb]; exact Nat.le_trans (wl_le_len dy) (by omega)
  have HLb := hide hlb
  have HEb := hide hvb
  clear hvb hlb
  have bl := Below.refl w.heap.size w
  have b0 : Below w.heap.size w ((w.alloc (.cells #[.int .i64 T.b, .int .i64 T.t, .int .i64 T.n, .int .i64 T.d, .int .i64 T.r, .int .i64 T.l, .int .i64 T.x, .int .i64 T.p, .int .i64 T.k, .int .i64 T.s, .int .i64 T.e] 23)).alloc (.cells #[.int .i64 U.b, .int .i64 U.t, .int .i64 U.n, .int .i64 U.d, .int .i64 U.r, .int .i64 U.l, .int .i64 U.x, .int .i64 U.p, .int .i64 U.k, .int .i64 U.s, .int .i64 U.e] 23)) := ((Below.refl _ _).alloc (Nat.le_refl _) _).alloc (by simp) _
  have tA : TabAt ((w.alloc (.cells #[.int .i64 T.b, .int .i64 T.t, .int .i64 T.n, .int .i64 T.d, .int .i64 T.r, .int .i64 T.l, .int .i64 T.x, .int .i64 T.p, .int .i64 T.k, .int .i64 T.s, .int .i64 T.e] 23)).alloc (.cells #[.int .i64 U.b, .int .i64 U.t, .int .i64 U.n, .int .i64 U.d, .int .i64 U.r, .int .i64 U.l, .int .i64 U.x, .int .i64 U.p, .int .i64 U.k, .int .i64 U.s, .int .i64 U.e] 23)) w.heap.size T := (tabAt_new w T 23).next ((Below.refl _ _).alloc (Nat.le_refl _) _)
  have uA := tabAt_new (w.alloc (.cells #[.int .i64 T.b, .int .i64 T.t, .int .i64 T.n, .int .i64 T.d, .int .i64 T.r, .int .i64 T.l, .int .i64 T.x, .int .i64 T.p, .int .i64 T.k, .int .i64 T.s, .int .i64 T.e] 23)) U 23
  rw [show (w.alloc (.cells #[.int .i64 T.b, .int .i64 T.t, .int .i64 T.n, .int .i64 T.d, .int .i64 T.r, .int .i64 T.l, .int .i64 T.x, .int .i64 T.p, .int .i64 T.k, .int .i64 T.s, .int .i64 T.e] 23)).heap.size = w.heap.size + 1 by simp] at uA
  obtain ⟨W1, hW1⟩ : ∃ W, (w.alloc (.cells #[.int .i64 T.b, .int .i64 T.t, .int .i64 T.n, .int .i64 T.d, .int .i64 T.r, .int .i64 T.l, .int .i64 T.x, .int .i64 T.p, .int .i64 T.k, .int .i64 T.s, .int .i64 T.e] 23)).alloc (.cells #[.int .i64 U.b, .int .i64 U.t, .int .i64 U.n, .int .i64 U.d, .int .i64 U.r, .int .i64 U.l, .int .i64 U.x, .int .i64 U.p, .int .i64 U.k, .int .i64 U.s, .int .i64 U.e] 23) = W := ⟨_, rfl⟩
  rw [hW1] at b0 tA uA
  obtain ⟨P0, hP0⟩ : ∃ P, w.heap.size = P := ⟨_, rfl⟩
  rw [hP0] at tA uA
  have lP : P0 + 1 < W1.heap.size := uA.lt
  have HT := hide hT
  clear hT
  have rA := rA.next b0
  have rB := rB.next b0
  have bl := bstep bl b0
  clear b0
  have CN := hide (fun W => SN T W)
  have CU := hide (fun W => SN U W)
  have HM := hide SM
  have HQ := hide SQ
  have CK := hide (fun W h => mulWakes_any SN SP W h)
  have CCT := hide (fun W => clamp_any T W)
  have CCU := hide (fun W => clamp_any U W)
  clear SN SM SQ SP
  unfold Tab.val at CN CU CCT CCU ⊢
  go_enter Tryz.func6, Tryz.ntmps6
  go_wp2_with fail
  refine (unhide Ca _).mono ?_
  rintro e wca ⟨rfl, rfl⟩
  clear Ca
  go_wp2_with fail
  refine (unhide Cb _).mono ?_
  rintro e wcb ⟨rfl, rfl⟩
  clear Cb
  have HC : Hid (∀ w', Below wcb.heap.size wcb w' → w'.cell? ⟨P0, 0, none⟩ = some (.int .i64 T.b) ∧ w'.cell? ⟨P0, 1, none⟩ = some (.int .i64 T.t) ∧ w'.cell? ⟨P0, 2, none⟩ = some (.int .i64 T.n) ∧ w'.cell? ⟨P0, 3, none⟩ = some (.int .i64 T.d) ∧ w'.cell? ⟨P0, 4, none⟩ = some (.int .i64 T.r) ∧ w'.cell? ⟨P0, 5, none⟩ = some (.int .i64 T.l) ∧ w'.cell? ⟨P0, 6, none⟩ = some (.int .i64 T.x) ∧ w'.cell? ⟨P0, 7, none⟩ = some (.int .i64 T.p) ∧ w'.cell? ⟨P0, 8, none⟩ = some (.int .i64 T.k) ∧ w'.cell? ⟨P0, 9, none⟩ = some (.int .i64 T.s) ∧ w'.cell? ⟨P0, 10, none⟩ = some (.int .i64 T.e) ∧ w'.cell? ⟨P0 + 1, 0, none⟩ = some (.int .i64 U.b) ∧ w'.cell? ⟨P0 + 1, 1, none⟩ = some (.int .i64 U.t) ∧ w'.cell? ⟨P0 + 1, 2, none⟩ = some (.int .i64 U.n) ∧ w'.cell? ⟨P0 + 1, 3, none⟩ = some (.int .i64 U.d) ∧ w'.cell? ⟨P0 + 1, 4, none⟩ = some (.int .i64 U.r) ∧ w'.cell? ⟨P0 + 1, 5, none⟩ = some (.int .i64 U.l) ∧ w'.cell? ⟨P0 + 1, 6, none⟩ = some (.int .i64 U.x) ∧ w'.cell? ⟨P0 + 1, 7, none⟩ = some (.int .i64 U.p) ∧ w'.cell? ⟨P0 + 1, 8, none⟩ = some (.int .i64 U.k) ∧ w'.cell? ⟨P0 + 1, 9, none⟩ = some (.int .i64 U.s) ∧ w'.cell? ⟨P0 + 1, 10, none⟩ = some (.int .i64 U.e)) := fun w' q => by
    obtain ⟨p0, p1, p2, p3, p4, p5, p6, p7, p8, p9, p10⟩ := tA.next q
    obtain ⟨u0, u1, u2, u3, u4, u5, u6, u7, u8, u9, u10⟩ := uA.next q
    exact ⟨p0, p1, p2, p3, p4, p5, p6, p7, p8, p9, p10, u0, u1, u2, u3, u4, u5, u6, u7, u8, u9, u10⟩
  obtain ⟨p0, p1, p2, p3, p4, p5, p6, p7, p8, p9, p10, u0, u1, u2, u3, u4, u5, u6, u7, u8, u9, u10⟩ := unhide HC _ (Below.refl _ _)
  have b0 : Below wcb.heap.size wcb wcb.drew := (Below.refl _ _).drew
  go_wp2
  go_region_held3 (fun w' => w'.cell? ⟨P0, 0, none⟩ = some (.int .i64 T.b) ∧ w'.cell? ⟨P0, 1, none⟩ = some (.int .i64 T.t) ∧ w'.cell? ⟨P0, 2, none⟩ = some (.int .i64 T.n) ∧ w'.cell? ⟨P0, 3, none⟩ = some (.int .i64 T.d) ∧ w'.cell? ⟨P0, 4, none⟩ = some (.int .i64 T.r) ∧ w'.cell? ⟨P0, 5, none⟩ = some (.int .i64 T.l) ∧ w'.cell? ⟨P0, 6, none⟩ = some (.int .i64 T.x) ∧ w'.cell? ⟨P0, 7, none⟩ = some (.int .i64 T.p) ∧ w'.cell? ⟨P0, 8, none⟩ = some (.int .i64 T.k) ∧ w'.cell? ⟨P0, 9, none⟩ = some (.int .i64 T.s) ∧ w'.cell? ⟨P0, 10, none⟩ = some (.int .i64 T.e) ∧ w'.cell? ⟨P0 + 1, 0, none⟩ = some (.int .i64 U.b) ∧ w'.cell? ⟨P0 + 1, 1, none⟩ = some (.int .i64 U.t) ∧ w'.cell? ⟨P0 + 1, 2, none⟩ = some (.int .i64 U.n) ∧ w'.cell? ⟨P0 + 1, 3, none⟩ = some (.int .i64 U.d) ∧ w'.cell? ⟨P0 + 1, 4, none⟩ = some (.int .i64 U.r) ∧ w'.cell? ⟨P0 + 1, 5, none⟩ = some (.int .i64 U.l) ∧ w'.cell? ⟨P0 + 1, 6, none⟩ = some (.int .i64 U.x) ∧ w'.cell? ⟨P0 + 1, 7, none⟩ = some (.int .i64 U.p) ∧ w'.cell? ⟨P0 + 1, 8, none⟩ = some (.int .i64 U.k) ∧ w'.cell? ⟨P0 + 1, 9, none⟩ = some (.int .i64 U.s) ∧ w'.cell? ⟨P0 + 1, 10, none⟩ = some (.int .i64 U.e)) (first | (with_reducible exact unhide HC _ b0) | go_keep) (first
    | (with_reducible refine (unhide CN _).mono ?_; rintro e wn1 ⟨gm, gt, gk, ge, g, rfl, E, hn, b⟩; have hg := Nat.le_trans b0.size hn.2.2.2.2; have b0 := b0.trans (b.mono b0.size); clear b hn)
    | (with_reducible refine (unhide CU _).mono ?_; rintro e wn2 ⟨gm', gt', gk', ge', g', rfl, F, hn, b⟩; have hg' := Nat.le_trans b0.size hn.2.2.2.2; have hgg := Nat.lt_of_lt_of_le E.met.lt hn.2.2.2.2; have E := E.next b; have b0 := b0.trans (b.mono b0.size); clear b hn)
    | fail)
  clear p0 p1 p2 p3 p4 p5 p6 p7 p8 p9 p10 u0 u1 u2 u3 u4 u5 u6 u7 u8 u9 u10 HC CN CU
  have bl := bstep bl b0
  have rA := rA.next b0
  have rB := rB.next b0
  have tA := tA.next b0
  have uA := uA.next b0
  clear b0
  have hw1 : w.heap.size ≤ g := by omega
  have hw2 : w.heap.size ≤ g' := by omega
  have nP : P0 ≠ g ∧ P0 + 1 ≠ g ∧ P0 ≠ g' ∧ P0 + 1 ≠ g' := by omega
  have ngg : g ≠ g' ∧ g' ≠ g := by omega
  clear hg hg' hgg lP
  have lg := E.met.lt
  have lg' := F.met.lt
  obtain ⟨S1, hS1⟩ : ∃ S, S = wn2.heap.size := ⟨_, rfl⟩
  rw [← hS1] at lg lg'
  have ix := inM_rep rA dx (unhide HLa) (unhide HEa) (by omega)
  have iy := inM_rep rB dy (unhide HLb) (unhide HEb) (by omega)
  have CM := hide (unhide HM _ gm gt gk ge g 0 0 0 T _ _ A D E ((unhide HT).next bl) (by decide) (by decide) (by decide) (by decide) ix iy)
  rw [Int.zero_add, Int.zero_add] at CM
  clear ix iy
  go_wp2_with fail
  refine (unhide CM).mono ?_
  rintro e w1 ⟨r, m1, rfl, ns, E2, q1, q2, o⟩
  clear CM q1 q2
  have ns := ns.mono (show S1 ≤ _ by rw [hS1]; exact Nat.le_refl _)
  have s5 : S1 ≤ w1.heap.size := by rw [hS1]; exact o.size
  have tA := tA.out o (fun (e : P0 = g) => by omega)
  have uA := uA.out o (fun (e : P0 + 1 = g) => by omega)
  have rA := E.rep o rA
  have rB := E.rep o rB
  have F := E.other o F (by omega)
  have bl := bl.trans (o.below (B := w.heap.size) bl.size (fun k hk => by rw [hk]; exact hw1))
  have E := E2
  clear o E2
  have ix := inM_rep rA dx (unhide HLa) (unhide HEa) (by omega)
  have iy := inM_rep rB dy (unhide HLb) (unhide HEb) (by omega)
  have CM := hide (unhide HM _ gm' gt' gk' ge' g' 0 0 0 U _ _ D A F ((unhide HT).next bl) (by decide) (by decide) (by decide) (by decide) iy ix)
  rw [Int.zero_add, Int.zero_add] at CM
  clear ix iy
  go_wp2_with fail
  refine (unhide CM).mono ?_
  rintro e w2 ⟨r2, m2, rfl, nt, F2, q1, q2, o⟩
  clear CM q1 q2
  have nt := nt.mono s5
  have tA := tA.out o (fun (e : P0 = g') => by omega)
  have uA := uA.out o (fun (e : P0 + 1 = g') => by omega)
  have rA := F.rep o rA
  have rB := F.rep o rB
  have E := F.other o E (by omega)
  have ns := o.newW ns (fun k e => by rw [e]; exact lg')
  have bl := bl.trans (o.below (B := w.heap.size) bl.size (fun k hk => by rw [hk]; exact hw2))
  have F := F2
  clear o F2
  have HAD : Hid (A * D < 18446744073709551616 ^ (120 + 120)) := by have := Nat.mul_lt_mul'' (unhide LA) (unhide LD); rwa [← Nat.pow_add] at this
  have CS := hide (same_two _ _ _ _ _ _ _ (120 + 120) (by decide) (unhide HAD) (Nat.mul_comm A D) ns nt)
  obtain ⟨sa, sn, sc, rfl⟩ := ns.shape
  obtain ⟨sa2, sn2, sc2, rfl⟩ := nt.shape
  clear ns nt
  go_wp2_with fail
  refine (unhide CS).mono ?_
  rintro e w3 ⟨rfl, b⟩
  clear CS
  have rA := rA.next b
  have rB := rB.next b
  have tA := tA.next b
  have uA := uA.next b
  have E := E.next b
  have F := F.next b
  have bl := bstep bl b
  clear b
  obtain ⟨K1, hK1⟩ : ∃ K, K = costT T (wl A : Int) (wl D : Int) := ⟨_, rfl⟩
  obtain ⟨K2, hK2⟩ : ∃ K, K = costT U (wl D : Int) (wl A : Int) := ⟨_, rfl⟩
  rw [← hK1] at E
  rw [← hK2] at F
  have c1 := costT_le T (wl A) (wl D) (by omega) (by omega)
  have c2 := costT_le U (wl D) (wl A) (by omega) (by omega)
  rw [← hK1] at c1
  rw [← hK2, Nat.mul_comm] at c2
  have hB : false = true ↔ T.clamp = U.clamp := by simp [hcl]
  have hEq : ∀ w, (Op.equalIn Op.maxDepth 23 T.clamp.val U.clamp.val).run Tryz.prog w = .ok false w := fun w => tabs_cmp T.clamp U.clamp false hB w
  have hEq2 : ∀ w, (Op.equal 23 T.clamp.val U.clamp.val).run Tryz.prog w = .ok false w := hEq
  have hEq3 : ∀ w, (binOp .eql 23 T.clamp.val U.clamp.val).run Tryz.prog w = .ok (.bool false) w := fun w => by
    have := hEq w
    unfold Tab.val at this ⊢
    simp only [binOp, Op.equal]
    simp [go_sem, this]
  unfold Tab.val at hEq hEq2 hEq3
  skip
  obtain ⟨E8, hE8⟩ : ∃ E8, E8 = 8 * wl A := ⟨_, rfl⟩
  obtain ⟨E9, hE9⟩ : ∃ E9, E9 = E8 * wl D := ⟨_, rfl⟩
  have e9 : E9 ≤ 960 * 120 := by rw [hE9]; exact Nat.mul_le_mul (by omega) (by omega)
  have e9' : E9 = 8 * (wl A * wl D) := by rw [hE9, hE8, Nat.mul_assoc]
  have x1 : 8 * (wl A : Int) = (E8 : Int) := by omega
  have x2 : IntKind.i64.wrap (E8 : Int) = (E8 : Int) := by rw [IntKind.wrap_i64]; omega
  have x3 : (E8 : Int) * (wl D : Int) = (E9 : Int) := by rw [hE9]; exact (Int.natCast_mul _ _).symm
  have x4 : IntKind.i64.wrap (E9 : Int) = (E9 : Int) := by rw [IntKind.wrap_i64]; omega
  have x5 : K1 ≤ (E9 : Int) := by rw [e9']; omega
  have x6 : K2 ≤ (E9 : Int) := by rw [e9']; omega
  have x7 : decide (K1 ≤ (E9 : Int)) = true := decide_eq_true x5
  have x8 : decide (K2 ≤ (E9 : Int)) = true := decide_eq_true x6
  have y1 : 0 ≤ K1 ∧ K1 ≤ 1152921504606846976 := by omega
  have y2 : 0 ≤ K2 ∧ K2 ≤ 1152921504606846976 := by omega
  clear hK1 hK2 c1 c2 hE8 hE9 e9 e9' hB x5 x6
  have QE : Hid (∀ W, Below w3.heap.size w3 W → MEng W gm gt gk ge g K1 0 m1 T) := fun W q => E.next q
  have QF : Hid (∀ W, Below w3.heap.size w3 W → MEng W gm' gt' gk' ge' g' K2 0 m2 U) := fun W q => F.next q
  have QA : Hid (∀ W, Below w3.heap.size w3 W → Rep W ga ba oa ca us) := fun W q => rA.next q
  have QB : Hid (∀ W, Below w3.heap.size w3 W → Rep W gb bb ob cb vs) := fun W q => rB.next q
  have QL : Hid (∀ W, Below w3.heap.size w3 W → Below w.heap.size w W) := fun W q => bstep bl q
  have QI : Hid (∀ W, Rep W ga ba oa ca us → InM W (.slice ga n ca) A) := fun W q => inM_rep q dx (unhide HLa) (unhide HEa) (by omega)
  have HC : Hid (∀ w', Below w3.heap.size w3 w' → w'.cell? ⟨gm, 0, none⟩ = some (.pointer (some ⟨gt, 0, none⟩)) ∧ w'.cell? ⟨gt, 0, none⟩ = some (.pointer (some ⟨gk, 0, none⟩)) ∧ w'.cell? ⟨gk, 0, none⟩ = some (.pointer (some ⟨ge, 0, none⟩)) ∧ w'.cell? ⟨ge, 0, none⟩ = some (.pointer (some ⟨g, 0, none⟩)) ∧ w'.cell? ⟨gm', 0, none⟩ = some (.pointer (some ⟨gt', 0, none⟩)) ∧ w'.cell? ⟨gt', 0, none⟩ = some (.pointer (some ⟨gk', 0, none⟩)) ∧ w'.cell? ⟨gk', 0, none⟩ = some (.pointer (some ⟨ge', 0, none⟩)) ∧ w'.cell? ⟨ge', 0, none⟩ = some (.pointer (some ⟨g', 0, none⟩)) ∧ w'.cell? ⟨P0, 0, none⟩ = some (.int .i64 T.b) ∧ w'.cell? ⟨P0, 1, none⟩ = some (.int .i64 T.t) ∧ w'.cell? ⟨P0, 2, none⟩ = some (.int .i64 T.n) ∧ w'.cell? ⟨P0, 3, none⟩ = some (.int .i64 T.d) ∧ w'.cell? ⟨P0, 4, none⟩ = some (.int .i64 T.r) ∧ w'.cell? ⟨P0, 5, none⟩ = some (.int .i64 T.l) ∧ w'.cell? ⟨P0, 6, none⟩ = some (.int .i64 T.x) ∧ w'.cell? ⟨P0, 7, none⟩ = some (.int .i64 T.p) ∧ w'.cell? ⟨P0, 8, none⟩ = some (.int .i64 T.k) ∧ w'.cell? ⟨P0, 9, none⟩ = some (.int .i64 T.s) ∧ w'.cell? ⟨P0, 10, none⟩ = some (.int .i64 T.e) ∧ w'.cell? ⟨P0 + 1, 0, none⟩ = some (.int .i64 U.b) ∧ w'.cell? ⟨P0 + 1, 1, none⟩ = some (.int .i64 U.t) ∧ w'.cell? ⟨P0 + 1, 2, none⟩ = some (.int .i64 U.n) ∧ w'.cell? ⟨P0 + 1, 3, none⟩ = some (.int .i64 U.d) ∧ w'.cell? ⟨P0 + 1, 4, none⟩ = some (.int .i64 U.r) ∧ w'.cell? ⟨P0 + 1, 5, none⟩ = some (.int .i64 U.l) ∧ w'.cell? ⟨P0 + 1, 6, none⟩ = some (.int .i64 U.x) ∧ w'.cell? ⟨P0 + 1, 7, none⟩ = some (.int .i64 U.p) ∧ w'.cell? ⟨P0 + 1, 8, none⟩ = some (.int .i64 U.k) ∧ w'.cell? ⟨P0 + 1, 9, none⟩ = some (.int .i64 U.s) ∧ w'.cell? ⟨P0 + 1, 10, none⟩ = some (.int .i64 U.e)) := fun w' q => by
    obtain ⟨z0, z1, z2, z3, z4, z5, z6, z7⟩ := ways2 (E.next q) (F.next q)
    obtain ⟨p0, p1, p2, p3, p4, p5, p6, p7, p8, p9, p10⟩ := tA.next q
    obtain ⟨u0, u1, u2, u3, u4, u5, u6, u7, u8, u9, u10⟩ := uA.next q
    exact ⟨z0, z1, z2, z3, z4, z5, z6, z7, p0, p1, p2, p3, p4, p5, p6, p7, p8, p9, p10, u0, u1, u2, u3, u4, u5, u6, u7, u8, u9, u10⟩
  obtain ⟨z0, z1, z2, z3, z4, z5, z6, z7, p0, p1, p2, p3, p4, p5, p6, p7, p8, p9, p10, u0, u1, u2, u3, u4, u5, u6, u7, u8, u9, u10⟩ := unhide HC _ (Below.refl _ _)
  have b0 : Below w3.heap.size w3 w3.drew := (Below.refl _ _).drew
  have HAA : Hid (A * A < 18446744073709551616 ^ (120 + 120)) := by have := Nat.mul_lt_mul'' (unhide LA) (unhide LA); rwa [← Nat.pow_add] at this
  have d0 : (0 : Int) ≤ 0 := by decide
  have d1 : (0 : Int) ≤ 1000 := by decide
  have d2 : 120 + 120 ≤ 1073741824 := by decide
  clear E F tA uA rA rB bl lg lg' nP
  go_wp2
  (try simp only [List.append_eq, List.cons_append, List.nil_append])
  refine wp_region_held_drew (S := fun w' => w'.cell? ⟨gm, 0, none⟩ = some (.pointer (some ⟨gt, 0, none⟩)) ∧ w'.cell? ⟨gt, 0, none⟩ = some (.pointer (some ⟨gk, 0, none⟩)) ∧ w'.cell? ⟨gk, 0, none⟩ = some (.pointer (some ⟨ge, 0, none⟩)) ∧ w'.cell? ⟨ge, 0, none⟩ = some (.pointer (some ⟨g, 0, none⟩)) ∧ w'.cell? ⟨gm', 0, none⟩ = some (.pointer (some ⟨gt', 0, none⟩)) ∧ w'.cell? ⟨gt', 0, none⟩ = some (.pointer (some ⟨gk', 0, none⟩)) ∧ w'.cell? ⟨gk', 0, none⟩ = some (.pointer (some ⟨ge', 0, none⟩)) ∧ w'.cell? ⟨ge', 0, none⟩ = some (.pointer (some ⟨g', 0, none⟩)) ∧ w'.cell? ⟨P0, 0, none⟩ = some (.int .i64 T.b) ∧ w'.cell? ⟨P0, 1, none⟩ = some (.int .i64 T.t) ∧ w'.cell? ⟨P0, 2, none⟩ = some (.int .i64 T.n) ∧ w'.cell? ⟨P0, 3, none⟩ = some (.int .i64 T.d) ∧ w'.cell? ⟨P0, 4, none⟩ = some (.int .i64 T.r) ∧ w'.cell? ⟨P0, 5, none⟩ = some (.int .i64 T.l) ∧ w'.cell? ⟨P0, 6, none⟩ = some (.int .i64 T.x) ∧ w'.cell? ⟨P0, 7, none⟩ = some (.int .i64 T.p) ∧ w'.cell? ⟨P0, 8, none⟩ = some (.int .i64 T.k) ∧ w'.cell? ⟨P0, 9, none⟩ = some (.int .i64 T.s) ∧ w'.cell? ⟨P0, 10, none⟩ = some (.int .i64 T.e) ∧ w'.cell? ⟨P0 + 1, 0, none⟩ = some (.int .i64 U.b) ∧ w'.cell? ⟨P0 + 1, 1, none⟩ = some (.int .i64 U.t) ∧ w'.cell? ⟨P0 + 1, 2, none⟩ = some (.int .i64 U.n) ∧ w'.cell? ⟨P0 + 1, 3, none⟩ = some (.int .i64 U.d) ∧ w'.cell? ⟨P0 + 1, 4, none⟩ = some (.int .i64 U.r) ∧ w'.cell? ⟨P0 + 1, 5, none⟩ = some (.int .i64 U.l) ∧ w'.cell? ⟨P0 + 1, 6, none⟩ = some (.int .i64 U.x) ∧ w'.cell? ⟨P0 + 1, 7, none⟩ = some (.int .i64 U.p) ∧ w'.cell? ⟨P0 + 1, 8, none⟩ = some (.int .i64 U.k) ∧ w'.cell? ⟨P0 + 1, 9, none⟩ = some (.int .i64 U.s) ∧ w'.cell? ⟨P0 + 1, 10, none⟩ = some (.int .i64 U.e)) (by kernel_rfl) (unhide HC _ b0) (fun hHeld => ?_)
  refine takeH_d (i := 0) (oi := _) (v := .agg #[.int .i64 T.b, .int .i64 T.t, .int .i64 T.n, .int .i64 T.d, .int .i64 T.r, .int .i64 T.l, .int .i64 T.x, .int .i64 T.p, .int .i64 T.k, .int .i64 T.s, .int .i64 T.e]) (some 35) rfl rfl (by kernel_rfl) (by kernel_rfl) (by kernel_rfl) (fun _ _ _ h => h) (Or.inl ⟨by rfl, ?_⟩) (by assumption) ?_
  · intro w hSw
    (try dsimp only at hSw)
    go_simp
  simp only [Act.put, List.setIfInBounds_toArray, List.set_cons_zero, List.set_cons_succ]
  refine takeH_d (i := 2) (oi := _) (v := .agg #[.int .i64 U.b, .int .i64 U.t, .int .i64 U.n, .int .i64 U.d, .int .i64 U.r, .int .i64 U.l, .int .i64 U.x, .int .i64 U.p, .int .i64 U.k, .int .i64 U.s, .int .i64 U.e]) (some 37) rfl rfl (by kernel_rfl) (by kernel_rfl) (by kernel_rfl) (fun _ _ _ h => h) (Or.inl ⟨by rfl, ?_⟩) (by assumption) ?_
  · intro w hSw
    (try dsimp only at hSw)
    go_simp
  simp only [Act.put, List.setIfInBounds_toArray, List.set_cons_zero, List.set_cons_succ]
  refine wpAnyH_ready (rs := [1]) (by kernel_rfl) (by simp) ?_
  refine AllReadyH.cons (o := _) rfl (fun K hK => ?_) AllReadyH.nil
  go_simp
  refine (unhide CCT _).mono ?_
  rintro e wt1 ⟨rfl, b⟩
  have b0 := b0.trans (b.mono b0.size)
  clear b
  go_wp2_with fail
  refine hK.out _ _ (unhide HC _ b0) (fun hHeld => ?_)
  clear hK K
  (try simp only [Act.put, List.setIfInBounds_toArray, List.set_cons_zero, List.set_cons_succ])
  refine wpAnyH_ready (rs := [3]) (by kernel_rfl) (by simp) ?_
  refine AllReadyH.cons (o := _) rfl (fun K hK => ?_) AllReadyH.nil
  go_simp
  refine (unhide CCU _).mono ?_
  rintro e wt2 ⟨rfl, b⟩
  have b0 := b0.trans (b.mono b0.size)
  clear b
  go_wp2_with fail
  refine hK.out _ _ (unhide HC _ b0) (fun hHeld => ?_)
  clear hK K
  (try simp only [Act.put, List.setIfInBounds_toArray, List.set_cons_zero, List.set_cons_succ])
  refine takeH_d (i := 4) (oi := _) (v := .bool false) (some 39) rfl rfl (by kernel_rfl) (by kernel_rfl) (by kernel_rfl) (fun _ _ _ h => h) (Or.inl ⟨by rfl, ?_⟩) (by assumption) ?_
  · intro w hSw
    go_simp
  simp only [Act.put, List.setIfInBounds_toArray, List.set_cons_zero, List.set_cons_succ]
  refine takeH_d (i := 5) (oi := _) (v := .bool false) (some 40) rfl rfl (by kernel_rfl) (by kernel_rfl) (by kernel_rfl) (fun _ _ _ h => h) (Or.inl ⟨by rfl, ?_⟩) (by assumption) ?_
  · intro w hSw
    go_simp
  simp only [Act.put, List.setIfInBounds_toArray, List.set_cons_zero, List.set_cons_succ]
  refine takeH_d (i := 6) (oi := _) (v := undef) (some 41) rfl rfl (by kernel_rfl) (by kernel_rfl) (by kernel_rfl) (fun _ _ _ h => h) (Or.inr ⟨by kernel_rfl, rfl⟩) (by assumption) ?_
  simp only [Act.put, List.setIfInBounds_toArray, List.set_cons_zero, List.set_cons_succ]
  refine takeH_d (i := 7) (oi := _) (v := undef) (some 42) rfl rfl (by kernel_rfl) (by kernel_rfl) (by kernel_rfl) (fun _ _ _ h => h) (Or.inr ⟨by kernel_rfl, rfl⟩) (by assumption) ?_
  simp only [Act.put, List.setIfInBounds_toArray, List.set_cons_zero, List.set_cons_succ]
  refine takeH_d (i := 8) (oi := _) (v := undef) (some 43) rfl rfl (by kernel_rfl) (by kernel_rfl) (by kernel_rfl) (fun _ _ _ h => h) (Or.inr ⟨by kernel_rfl, rfl⟩) (by assumption) ?_
  simp only [Act.put, List.setIfInBounds_toArray, List.set_cons_zero, List.set_cons_succ]
  refine takeH_d (i := 9) (oi := _) (v := undef) (some 44) rfl rfl (by kernel_rfl) (by kernel_rfl) (by kernel_rfl) (fun _ _ _ h => h) (Or.inr ⟨by kernel_rfl, rfl⟩) (by assumption) ?_
  simp only [Act.put, List.setIfInBounds_toArray, List.set_cons_zero, List.set_cons_succ]
  refine takeH_d (i := 10) (oi := _) (v := undef) (some 45) rfl rfl (by kernel_rfl) (by kernel_rfl) (by kernel_rfl) (fun _ _ _ h => h) (Or.inr ⟨by kernel_rfl, rfl⟩) (by assumption) ?_
  simp only [Act.put, List.setIfInBounds_toArray, List.set_cons_zero, List.set_cons_succ]
  refine takeH_d (i := 11) (oi := _) (v := undef) (some 46) rfl rfl (by kernel_rfl) (by kernel_rfl) (by kernel_rfl) (fun _ _ _ h => h) (Or.inr ⟨by kernel_rfl, rfl⟩) (by assumption) ?_
  simp only [Act.put, List.setIfInBounds_toArray, List.set_cons_zero, List.set_cons_succ]
  refine takeH_d (i := 12) (oi := _) (v := undef) (some 47) rfl rfl (by kernel_rfl) (by kernel_rfl) (by kernel_rfl) (fun _ _ _ h => h) (Or.inr ⟨by kernel_rfl, rfl⟩) (by assumption) ?_
  simp only [Act.put, List.setIfInBounds_toArray, List.set_cons_zero, List.set_cons_succ]
  refine takeH_d (i := 13) (oi := _) (v := undef) (some 48) rfl rfl (by kernel_rfl) (by kernel_rfl) (by kernel_rfl) (fun _ _ _ h => h) (Or.inr ⟨by kernel_rfl, rfl⟩) (by assumption) ?_
  simp only [Act.put, List.setIfInBounds_toArray, List.set_cons_zero, List.set_cons_succ]
  refine takeH_d (i := 14) (oi := _) (v := undef) (some 49) rfl rfl (by kernel_rfl) (by kernel_rfl) (by kernel_rfl) (fun _ _ _ h => h) (Or.inr ⟨by kernel_rfl, rfl⟩) (by assumption) ?_
  simp only [Act.put, List.setIfInBounds_toArray, List.set_cons_zero, List.set_cons_succ]
  refine takeH_d (i := 15) (oi := _) (v := undef) (some 50) rfl rfl (by kernel_rfl) (by kernel_rfl) (by kernel_rfl) (fun _ _ _ h => h) (Or.inr ⟨by kernel_rfl, rfl⟩) (by assumption) ?_
  simp only [Act.put, List.setIfInBounds_toArray, List.set_cons_zero, List.set_cons_succ]
  refine takeH_d (i := 16) (oi := _) (v := undef) (some 51) rfl rfl (by kernel_rfl) (by kernel_rfl) (by kernel_rfl) (fun _ _ _ h => h) (Or.inr ⟨by kernel_rfl, rfl⟩) (by assumption) ?_
  simp only [Act.put, List.setIfInBounds_toArray, List.set_cons_zero, List.set_cons_succ]
  refine takeH_d (i := 17) (oi := _) (v := undef) (some 52) rfl rfl (by kernel_rfl) (by kernel_rfl) (by kernel_rfl) (fun _ _ _ h => h) (Or.inr ⟨by kernel_rfl, rfl⟩) (by assumption) ?_
  simp only [Act.put, List.setIfInBounds_toArray, List.set_cons_zero, List.set_cons_succ]
  refine takeH_d (i := 18) (oi := _) (v := undef) (some 53) rfl rfl (by kernel_rfl) (by kernel_rfl) (by kernel_rfl) (fun _ _ _ h => h) (Or.inr ⟨by kernel_rfl, rfl⟩) (by assumption) ?_
  simp only [Act.put, List.setIfInBounds_toArray, List.set_cons_zero, List.set_cons_succ]
  refine takeH_d (i := 19) (oi := _) (v := undef) (some 54) rfl rfl (by kernel_rfl) (by kernel_rfl) (by kernel_rfl) (fun _ _ _ h => h) (Or.inr ⟨by kernel_rfl, rfl⟩) (by assumption) ?_
  simp only [Act.put, List.setIfInBounds_toArray, List.set_cons_zero, List.set_cons_succ]
  refine takeH_d (i := 20) (oi := _) (v := undef) (some 55) rfl rfl (by kernel_rfl) (by kernel_rfl) (by kernel_rfl) (fun _ _ _ h => h) (Or.inr ⟨by kernel_rfl, rfl⟩) (by assumption) ?_
  simp only [Act.put, List.setIfInBounds_toArray, List.set_cons_zero, List.set_cons_succ]
  refine takeH_d (i := 22) (oi := _) (v := undef) (some 57) rfl rfl (by kernel_rfl) (by kernel_rfl) (by kernel_rfl) (fun _ _ _ h => h) (Or.inr ⟨by kernel_rfl, rfl⟩) (by assumption) ?_
  simp only [Act.put, List.setIfInBounds_toArray, List.set_cons_zero, List.set_cons_succ]
  refine takeH_d (i := 23) (oi := _) (v := undef) (some 58) rfl rfl (by kernel_rfl) (by kernel_rfl) (by kernel_rfl) (fun _ _ _ h => h) (Or.inr ⟨by kernel_rfl, rfl⟩) (by assumption) ?_
  simp only [Act.put, List.setIfInBounds_toArray, List.set_cons_zero, List.set_cons_succ]
  refine takeH_d (i := 24) (oi := _) (v := undef) (some 59) rfl rfl (by kernel_rfl) (by kernel_rfl) (by kernel_rfl) (fun _ _ _ h => h) (Or.inr ⟨by kernel_rfl, rfl⟩) (by assumption) ?_
  simp only [Act.put, List.setIfInBounds_toArray, List.set_cons_zero, List.set_cons_succ]
  refine takeH_d (i := 25) (oi := _) (v := undef) (some 60) rfl rfl (by kernel_rfl) (by kernel_rfl) (by kernel_rfl) (fun _ _ _ h => h) (Or.inr ⟨by kernel_rfl, rfl⟩) (by assumption) ?_
  simp only [Act.put, List.setIfInBounds_toArray, List.set_cons_zero, List.set_cons_succ]
  refine takeH_d (i := 26) (oi := _) (v := undef) (some 61) rfl rfl (by kernel_rfl) (by kernel_rfl) (by kernel_rfl) (fun _ _ _ h => h) (Or.inr ⟨by kernel_rfl, rfl⟩) (by assumption) ?_
  simp only [Act.put, List.setIfInBounds_toArray, List.set_cons_zero, List.set_cons_succ]
  refine takeH_d (i := 27) (oi := _) (v := undef) (some 62) rfl rfl (by kernel_rfl) (by kernel_rfl) (by kernel_rfl) (fun _ _ _ h => h) (Or.inr ⟨by kernel_rfl, rfl⟩) (by assumption) ?_
  simp only [Act.put, List.setIfInBounds_toArray, List.set_cons_zero, List.set_cons_succ]
  refine takeH_d (i := 28) (oi := _) (v := undef) (some 63) rfl rfl (by kernel_rfl) (by kernel_rfl) (by kernel_rfl) (fun _ _ _ h => h) (Or.inr ⟨by kernel_rfl, rfl⟩) (by assumption) ?_
  simp only [Act.put, List.setIfInBounds_toArray, List.set_cons_zero, List.set_cons_succ]
  refine takeH_d (i := 29) (oi := _) (v := undef) (some 64) rfl rfl (by kernel_rfl) (by kernel_rfl) (by kernel_rfl) (fun _ _ _ h => h) (Or.inr ⟨by kernel_rfl, rfl⟩) (by assumption) ?_
  simp only [Act.put, List.setIfInBounds_toArray, List.set_cons_zero, List.set_cons_succ]
  refine takeH_d (i := 30) (oi := _) (v := undef) (some 65) rfl rfl (by kernel_rfl) (by kernel_rfl) (by kernel_rfl) (fun _ _ _ h => h) (Or.inr ⟨by kernel_rfl, rfl⟩) (by assumption) ?_
  simp only [Act.put, List.setIfInBounds_toArray, List.set_cons_zero, List.set_cons_succ]
  refine takeH_d (i := 31) (oi := _) (v := undef) (some 66) rfl rfl (by kernel_rfl) (by kernel_rfl) (by kernel_rfl) (fun _ _ _ h => h) (Or.inr ⟨by kernel_rfl, rfl⟩) (by assumption) ?_
  simp only [Act.put, List.setIfInBounds_toArray, List.set_cons_zero, List.set_cons_succ]
  refine takeH_d (i := 32) (oi := _) (v := undef) (some 67) rfl rfl (by kernel_rfl) (by kernel_rfl) (by kernel_rfl) (fun _ _ _ h => h) (Or.inr ⟨by kernel_rfl, rfl⟩) (by assumption) ?_
  simp only [Act.put, List.setIfInBounds_toArray, List.set_cons_zero, List.set_cons_succ]
  refine takeH_d (i := 33) (oi := _) (v := undef) (some 68) rfl rfl (by kernel_rfl) (by kernel_rfl) (by kernel_rfl) (fun _ _ _ h => h) (Or.inr ⟨by kernel_rfl, rfl⟩) (by assumption) ?_
  simp only [Act.put, List.setIfInBounds_toArray, List.set_cons_zero, List.set_cons_succ]
  refine takeH_d (i := 34) (oi := _) (v := undef) (some 69) rfl rfl (by kernel_rfl) (by kernel_rfl) (by kernel_rfl) (fun _ _ _ h => h) (Or.inr ⟨by kernel_rfl, rfl⟩) (by assumption) ?_
  simp only [Act.put, List.setIfInBounds_toArray, List.set_cons_zero, List.set_cons_succ]
  refine takeH_d (i := 35) (oi := _) (v := undef) (some 70) rfl rfl (by kernel_rfl) (by kernel_rfl) (by kernel_rfl) (fun _ _ _ h => h) (Or.inr ⟨by kernel_rfl, rfl⟩) (by assumption) ?_
  simp only [Act.put, List.setIfInBounds_toArray, List.set_cons_zero, List.set_cons_succ]
  refine takeH_d (i := 36) (oi := _) (v := undef) (some 71) rfl rfl (by kernel_rfl) (by kernel_rfl) (by kernel_rfl) (fun _ _ _ h => h) (Or.inr ⟨by kernel_rfl, rfl⟩) (by assumption) ?_
  simp only [Act.put, List.setIfInBounds_toArray, List.set_cons_zero, List.set_cons_succ]
  refine skipH_d (i := 21) (o := _) (some 56) rfl rfl (by kernel_rfl) (by kernel_rfl) (by assumption) ?_
  simp only [Act.put, List.setIfInBounds_toArray, List.set_cons_zero, List.set_cons_succ]
  refine skipH_d (i := 37) (o := _) (some 72) rfl rfl (by kernel_rfl) (by kernel_rfl) (by assumption) ?_
  simp only [Act.put, List.setIfInBounds_toArray, List.set_cons_zero, List.set_cons_succ]
  refine takeH_d (i := 38) (oi := _) (v := undef) (some 73) rfl rfl (by kernel_rfl) (by kernel_rfl) (by kernel_rfl) (fun _ _ _ h => h) (Or.inr ⟨by kernel_rfl, rfl⟩) (by assumption) ?_
  simp only [Act.put, List.setIfInBounds_toArray, List.set_cons_zero, List.set_cons_succ]
  refine takeH_d (i := 39) (oi := _) (v := .bool false) (some 74) rfl rfl (by kernel_rfl) (by kernel_rfl) (by kernel_rfl) (fun _ _ _ h => h) (Or.inl ⟨by rfl, ?_⟩) (by assumption) ?_
  · intro w hSw
    go_simp
  simp only [Act.put, List.setIfInBounds_toArray, List.set_cons_zero, List.set_cons_succ]
  refine wpAnyH_done (by kernel_rfl) ?_ _
  clear hHeld
  clear p0 p1 p2 p3 p4 p5 p6 p7 p8 p9 p10 u0 u1 u2 u3 u4 u5 u6 u7 u8 u9 u10 HC
  have HC : Hid (∀ w', Below w3.heap.size w3 w' → w'.cell? ⟨gm, 0, none⟩ = some (.pointer (some ⟨gt, 0, none⟩)) ∧ w'.cell? ⟨gt, 0, none⟩ = some (.pointer (some ⟨gk, 0, none⟩)) ∧ w'.cell? ⟨gk, 0, none⟩ = some (.pointer (some ⟨ge, 0, none⟩)) ∧ w'.cell? ⟨ge, 0, none⟩ = some (.pointer (some ⟨g, 0, none⟩)) ∧ w'.cell? ⟨gm', 0, none⟩ = some (.pointer (some ⟨gt', 0, none⟩)) ∧ w'.cell? ⟨gt', 0, none⟩ = some (.pointer (some ⟨gk', 0, none⟩)) ∧ w'.cell? ⟨gk', 0, none⟩ = some (.pointer (some ⟨ge', 0, none⟩)) ∧ w'.cell? ⟨ge', 0, none⟩ = some (.pointer (some ⟨g', 0, none⟩))) := fun w' q => ways2 (unhide QE _ q) (unhide QF _ q)
  clear z0 z1 z2 z3 z4 z5 z6 z7
  obtain ⟨z0, z1, z2, z3, z4, z5, z6, z7⟩ := unhide HC _ b0
  clear CCT CCU CFa CFb hEq hEq2 hEq3
  go_wp2_with fail
  refine (muls_any (unhide QE _ b0).met).mono ?_
  rintro e wt3 ⟨rfl, rfl⟩
  go_wp2_with fail
  refine (unhide CWa _ (unhide QA _ b0)).mono ?_
  rintro e wt5 ⟨rfl, rfl⟩
  go_wp2_with fail
  refine (unhide CWb _ (unhide QB _ b0)).mono ?_
  rintro e wt6 ⟨rfl, rfl⟩
  go_wp2_with fail
  refine (muls_any (unhide QF _ b0).met).mono ?_
  rintro e wt7 ⟨rfl, rfl⟩
  go_wp2_with fail
  refine (unhide CWa _ (unhide QA _ b0)).mono ?_
  rintro e wt8 ⟨rfl, rfl⟩
  go_wp2_with fail
  refine (unhide CWb _ (unhide QB _ b0)).mono ?_
  rintro e wt9 ⟨rfl, rfl⟩
  go_wp2_with fail
  refine (unhide HQ _ gm gt gk ge g K1 0 m1 T _ A (unhide QE _ b0) ((unhide HT).next (unhide QL _ b0)) y1.1 y1.2 d0 d1 (unhide QI _ (unhide QA _ b0))).mono ?_
  rintro e wq ⟨rq, mq, rfl, ns, E2, _, _, o⟩
  have F2 := (unhide QE _ b0).other o (unhide QF _ b0) ngg.2
  have r2 := (unhide QE _ b0).rep o (unhide QA _ b0)
  have bl2 := o.below_g (unhide QL _ b0) hw1
  have lgW := (unhide QF _ b0).met.lt
  obtain ⟨sa3, sn3, sc3, rfl⟩ := ns.shape
  clear o z0 z1 z2 z3 z4 z5 z6 z7
  obtain ⟨z0, z1, z2, z3, z4, z5, z6, z7⟩ := ways2 E2 F2
  go_wp2_with fail
  refine (unhide HM _ gm' gt' gk' ge' g' K2 0 m2 U _ _ A A F2 ((unhide HT).next bl2) y2.1 y2.2 d0 d1 (unhide QI _ r2) (unhide QI _ r2)).mono ?_
  rintro e wr ⟨rr, mr, rfl, nt, F3, _, _, o⟩
  have ns := o.newW_g ns lgW
  have bl3 := o.below_g bl2 hw2
  obtain ⟨sa4, sn4, sc4, rfl⟩ := nt.shape
  clear o
  go_wp2_with fail
  refine (same_two _ _ _ _ _ _ _ (120 + 120) d2 (unhide HAA) rfl ns nt).mono ?_
  rintro e wv ⟨rfl, b⟩
  have bl4 := bstep bl3 b
  clear b
  go_wp2_with fail
  refine (unhide CK _ ((unhide HT).next bl4)).mono ?_
  rintro e wz ⟨rfl, b⟩
  have bl5 := bstep bl4 b
  clear b
  all_goals
    focus
      go_wp2
      go_ret
      exact ⟨rfl, bl5⟩

end Go.Proofs.YtiekgpphggejcaaGreatDoor
