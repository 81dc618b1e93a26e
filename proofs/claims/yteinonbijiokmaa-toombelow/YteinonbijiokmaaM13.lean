/- Kara: a product in two pieces. Written by gen_kkara.py. -/
import Derived.Test.YteinonbijiokmaaM10
import Derived.Test.YteinonbijiokmaaCKLeave
import Derived.Test.YteinonbijiokmaaM12
import Derived.Deep.RegionHeld3
namespace Go.Proofs.Yteinonbijiokmaa
open Go.RowKit

theorem Met.one {w : World} {g o : Nat} {s l m s' l' m' : Int} (h : Met w g o s l m) (k : Met w g o s' l' m') : s = s' ∧ l = l' ∧ m = m' := by
  have e0 := h.c0.symm.trans k.c0
  have e1 := h.c1.symm.trans k.c1
  have e2 := h.c2.symm.trans k.c2
  simp only [Option.some.injEq, Value.int.injEq, true_and] at e0 e1 e2
  exact ⟨e0, e1, e2⟩

theorem inD_blk {D : Nat → Prop} {w : World} {g l : Nat} {zs : List Nat} (h : Blk w g zs) (hl : zs.length = l) (hd : WDig zs) (hn : ¬ D g) : InD D w (.slice (some ⟨g, 0, none⟩) l l) (wval zs) l :=
  ⟨_, g, 0, l, zs, rfl, hl, h.whole hl, hd, rfl, fun _ => hn⟩

set_option maxRecDepth 100000 in
set_option maxHeartbeats 6400000 in
theorem kara_ab (w : World) (gk ge g : Nat) (s l m : Int) (T : Tab) (ga gb : Option Addr) (b o cap la b' o' cap' lb h : Nat) (xs ys : List Nat) (k : Nat) (fs cs : Array Value) (D : Nat → Prop) (St : Nat → World → Prop)
  (hE : KEng w gk ge g s l m T) (hl0 : 0 ≤ l) (hl1 : l ≤ 1000000) (hxl : xs.length = la) (hR : Rep w ga b o cap xs) (hdx : WDig xs) (_hbD : 0 < la → ¬ D b) (hyl : ys.length = lb) (hR' : Rep w gb b' o' cap' ys) (hdy : WDig ys) (_hbD' : 0 < lb → ¬ D b') (hla : la ≤ 16384) (hlb : lb ≤ 16384)
  (hh : h = (max la lb + 1) / 2) (hlt : h < min la lb) (_nk : ¬ D gk) (_ne : ¬ D ge) (ng : ¬ D g) (hD : ∀ j, D j → j < w.heap.size) (hI : Inn2 gk ge g l T (max la lb) (min la lb) h k fs cs D St)
  (hS : ∀ W, Out (· = g) w W → KEng W gk ge g s (l + 1) (max m (l + 1)) T → St 0 W) (hsw : ¬ la < lb) :
  Calls Try.prog 67 #[.pointer (some ⟨gk, 0, none⟩), .slice ga la cap, .slice gb lb cap', .func (.func k) fs cs] w fun e w' => ∃ v W, e = .returned (.tuple #[v, .bool true]) ∧ NewW w.heap.size w' v (wval xs * wval ys) ∧ St 3 W ∧ Out (· = g) W w' ∧ (∀ s' m', KEng W gk ge g s' (l + 1) m' T → KEng w' gk ge g s' l m' T) ∧ Out (fun j => D j ∨ j = g) w w' := by
  have hn : max la lb = la := by omega
  have hm : min la lb = lb := by omega
  rw [hn, hm] at hI
  rw [hn] at hh
  rw [hm] at hlt
  have CH := hide (fun w => half_any w ga la cap h hla hh)
  have hM := hE.eng.met
  have hgl := hM.lt
  have CE := hide (enter_any (l + 1) (max m (l + 1)) hM rfl rfl (by omega) (by omega))
  have e0 := hE.ptr
  have e1 := hE.eng.ptr
  have HE := hide hE
  have ngt : ¬ lb ≤ h := by omega
  have HI := hide hI
  have HS := hide hS
  have HD := hide hD
  have HR := hide hR
  have HR' := hide hR'
  have h2 : la ≤ 2 * h := by omega
  have hle : lb ≤ la := by omega
  have NG := hide ng
  have hcf := hI.go
  clear hE hM hI hS hD hR hR' hh hn hm
  clear _nk _ne ng _hbD _hbD'
  go_enter_defers Try.func67, Try.ntmps67
  go_wp2_with fail
  refine (unhide CH _).mono ?_
  rintro e w1 ⟨rfl, hw1⟩
  obtain rfl := hw1.symm
  clear hw1 CH
  go_wp2_with fail
  refine (unhide CE).mono ?_
  rintro e w1 ⟨rfl, M1, T1⟩
  have K1 := (unhide HE).step M1 T1
  have r1 := (unhide HR).touch (unhide HE).eng.met T1
  have r1' := (unhide HR').touch (unhide HE).eng.met T1
  have e0 := K1.ptr
  have e1 := K1.eng.ptr
  have s1 := T1.grown.size
  have O1 := hide (Out.of_grown T1.grown)
  clear CE M1 T1
  go_wp2_with fail
  refine (kcut_any _ _ _ _ _ _ h xs hxl hla (by omega) (by omega) (by omega) r1 hdx).mono ?_
  rintro e w2 ⟨v2, rfl, p2, b2⟩
  go_wp2_with fail
  refine (kcut_any _ _ _ _ _ _ h ys hyl hlb (by omega) (by omega) (by omega) (r1'.next b2) hdy).mono ?_
  rintro e w3 ⟨v3, rfl, p3, b3⟩
  obtain ⟨g0, g1, g2, zs, rfl, i0, i1, i2, k0, k1, k2, z0, z1, z2⟩ := p2.out
  obtain ⟨g0', g1', g2', zs', rfl, i0', i1', i2', k0', k1', k2', z0', z1', z2'⟩ := p3.out
  rw [hxl, hyl]
  have s2 := b2.size
  have s3 := b3.size
  have k0 : Blk w3 g0 _ := (b3.block _ k0.lt).trans k0
  have k1 : Blk w3 g1 _ := (b3.block _ k1.lt).trans k1
  have k2 : Blk w3 g2 _ := (b3.block _ k2.lt).trans k2
  have O3 := hide (((unhide O1).next b2).next b3)
  have K3 := (K1.next b2).next b3
  clear r1 r1' p2 p3 b2 b3 e0 e1
  obtain ⟨H1, hH1⟩ : ∃ H1, h + 1 = H1 := ⟨_, rfl⟩
  obtain ⟨n1, hn1⟩ : ∃ n1, la - h = n1 := ⟨_, rfl⟩
  obtain ⟨m1, hm1⟩ : ∃ m1, lb - h = m1 := ⟨_, rfl⟩
  have lx0 : (xs.take h).length = h := by simp; omega
  have ly0 : (ys.take h).length = h := by simp; omega
  have lx1 : (xs.drop h).length = n1 := by simp; omega
  have ly1 : (ys.drop h).length = m1 := by simp; omega
  have dx0 := wDig_take hdx h
  have dy0 := wDig_take hdy h
  have dx1 := wDig_drop hdx h
  have dy1 := wDig_drop hdy h
  rw [hH1, hn1, hm1]
  rw [hH1] at z0 z0'
  have HV := hide (kara_rows xs ys h)
  have HL : Hid (wval (xs.take h) * wval (ys.take h) + wval (xs.drop h) * wval (ys.drop h) ≤ wval zs * wval zs') := by
    show _ ≤ _
    rw [z2, z2']
    exact kara_le _ _ _ _
  have HP : Hid (wval zs * wval zs' < 18446744073709551616 ^ (H1 + H1)) := by
    show _ < _
    rw [Nat.pow_add]
    have q1 := wval_lt_pow z1
    have q2 := wval_lt_pow z1'
    rw [z0] at q1
    rw [z0'] at q2
    exact Nat.mul_lt_mul'' q1 q2
  rw [← z2, ← z2'] at HV
  clear z2 z2'
  -- the two boxes
  have bb : Below w3.heap.size w3 ((w3.alloc (.cells #[.slice (some ⟨g0, 0, none⟩) h h, .slice (some ⟨g1, 0, none⟩) n1 n1, .slice (some ⟨g2, 0, none⟩) H1 H1] 122)).alloc (.cells #[.slice (some ⟨g0', 0, none⟩) h h, .slice (some ⟨g1', 0, none⟩) m1 m1, .slice (some ⟨g2', 0, none⟩) H1 H1] 122)) := ((Below.refl _ _).alloc (Nat.le_refl _) _).alloc (by simp) _
  have kP := (((Below.refl _ _).alloc (Nat.le_refl _) (.cells #[.slice (some ⟨g0', 0, none⟩) h h, .slice (some ⟨g1', 0, none⟩) m1 m1, .slice (some ⟨g2', 0, none⟩) H1 H1] 122)).block w3.heap.size (by simp)).trans (heap_alloc_new w3 (.cells #[.slice (some ⟨g0, 0, none⟩) h h, .slice (some ⟨g1, 0, none⟩) n1 n1, .slice (some ⟨g2, 0, none⟩) H1 H1] 122))
  have kQ := heap_alloc_new (w3.alloc (.cells #[.slice (some ⟨g0, 0, none⟩) h h, .slice (some ⟨g1, 0, none⟩) n1 n1, .slice (some ⟨g2, 0, none⟩) H1 H1] 122)) (.cells #[.slice (some ⟨g0', 0, none⟩) h h, .slice (some ⟨g1', 0, none⟩) m1 m1, .slice (some ⟨g2', 0, none⟩) H1 H1] 122)
  have sQ : (w3.alloc (.cells #[.slice (some ⟨g0, 0, none⟩) h h, .slice (some ⟨g1, 0, none⟩) n1 n1, .slice (some ⟨g2, 0, none⟩) H1 H1] 122)).heap.size = w3.heap.size + 1 := by simp
  rw [sQ] at kQ
  obtain ⟨W0, hW0⟩ : ∃ W0, (w3.alloc (.cells #[.slice (some ⟨g0, 0, none⟩) h h, .slice (some ⟨g1, 0, none⟩) n1 n1, .slice (some ⟨g2, 0, none⟩) H1 H1] 122)).alloc (.cells #[.slice (some ⟨g0', 0, none⟩) h h, .slice (some ⟨g1', 0, none⟩) m1 m1, .slice (some ⟨g2', 0, none⟩) H1 H1] 122) = W0 := ⟨_, rfl⟩
  rw [hW0] at bb kP kQ
  obtain ⟨P0, hP0⟩ : ∃ P0, w3.heap.size = P0 := ⟨_, rfl⟩
  rw [hP0] at kP kQ
  have sW := bb.size
  have k0 : Blk W0 g0 _ := (bb.block _ k0.lt).trans k0
  have k1 : Blk W0 g1 _ := (bb.block _ k1.lt).trans k1
  have k2 : Blk W0 g2 _ := (bb.block _ k2.lt).trans k2
  have k0' : Blk W0 g0' _ := (bb.block _ k0'.lt).trans k0'
  have k1' : Blk W0 g1' _ := (bb.block _ k1'.lt).trans k1'
  have k2' : Blk W0 g2' _ := (bb.block _ k2'.lt).trans k2'
  have O3 := hide ((unhide O3).next bb)
  have S0 := hide (unhide HS _ (unhide O3) (K3.next bb))
  have DN : ∀ q, w.heap.size ≤ q → ¬ (D q ∨ q = g) := fun q hq x => by
    rcases x with x | x
    · have := unhide HD q x; omega
    · omega
  have DB : ∀ q, (D q ∨ q = g) → q < W0.heap.size := fun q x => by
    rcases x with x | x
    · have := unhide HD q x; omega
    · omega
  have HC : Hid (∀ W, Out (fun j => D j ∨ j = g) W0 W → W.cell? ⟨P0, 0, none⟩ = some (.slice (some ⟨g0, 0, none⟩) h h) ∧ W.cell? ⟨P0, 1, none⟩ = some (.slice (some ⟨g1, 0, none⟩) n1 n1) ∧ W.cell? ⟨P0, 2, none⟩ = some (.slice (some ⟨g2, 0, none⟩) H1 H1) ∧ W.cell? ⟨P0 + 1, 0, none⟩ = some (.slice (some ⟨g0', 0, none⟩) h h) ∧ W.cell? ⟨P0 + 1, 1, none⟩ = some (.slice (some ⟨g1', 0, none⟩) m1 m1) ∧ W.cell? ⟨P0 + 1, 2, none⟩ = some (.slice (some ⟨g2', 0, none⟩) H1 H1)) := fun W q => by
    have j0 := (q.block P0 (Array.getElem?_eq_some_iff.1 kP).1 (DN P0 (by omega))).trans kP
    have j1 := (q.block (P0 + 1) (Array.getElem?_eq_some_iff.1 kQ).1 (DN (P0 + 1) (by omega))).trans kQ
    exact ⟨cell_of_row _ P0 0 _ _ (0, 0) j0, cell_of_row _ P0 1 _ _ (0, 0) j0, cell_of_row _ P0 2 _ _ (0, 0) j0, cell_of_row _ (P0 + 1) 0 _ _ (0, 0) j1, cell_of_row _ (P0 + 1) 1 _ _ (0, 0) j1, cell_of_row _ (P0 + 1) 2 _ _ (0, 0) j1⟩
  have Q0 : Hid (∀ W, Out (fun j => D j ∨ j = g) W0 W → St 0 W → Calls Try.prog k (fs ++ (#[.slice (some ⟨g0, 0, none⟩) h h, .slice (some ⟨g0', 0, none⟩) h h] ++ cs)) W fun e W' => ∃ r, e = .returned r ∧ NewI W0.heap.size W' r (wval (xs.take h) * wval (ys.take h)) ∧ St 1 W' ∧ Out (fun j => D j ∨ j = g) W0 W' ∧ Out (fun j => D j ∨ j = g) W W') := fun W q st => by
    rw [← Array.append_assoc]
    refine ((unhide HI).call 0 W _ _ _ _ (by omega) st (inD_blk (q.blk k0 (DN _ (by omega))) lx0 dx0 (DN _ (by omega))) (inD_blk (q.blk k0' (DN _ (by omega))) ly0 dy0 (DN _ (by omega)))).mono ?_
    rintro e W' ⟨r, rfl, n, st', q'⟩
    exact ⟨r, rfl, n.mono q.size, st', q.trans q', q'⟩
  have Q1 : Hid (∀ W, Out (fun j => D j ∨ j = g) W0 W → St 1 W → Calls Try.prog k (fs ++ (#[.slice (some ⟨g1, 0, none⟩) n1 n1, .slice (some ⟨g1', 0, none⟩) m1 m1] ++ cs)) W fun e W' => ∃ r, e = .returned r ∧ NewI W0.heap.size W' r (wval (xs.drop h) * wval (ys.drop h)) ∧ St 2 W' ∧ Out (fun j => D j ∨ j = g) W0 W' ∧ Out (fun j => D j ∨ j = g) W W') := fun W q st => by
    rw [← Array.append_assoc]
    refine ((unhide HI).call 1 W _ _ _ _ (by omega) st (by rw [show (klen la lb h 1).1 = n1 from hn1]; exact inD_blk (q.blk k1 (DN _ (by omega))) lx1 dx1 (DN _ (by omega))) (by rw [show (klen la lb h 1).2 = m1 from hm1]; exact inD_blk (q.blk k1' (DN _ (by omega))) ly1 dy1 (DN _ (by omega)))).mono ?_
    rintro e W' ⟨r, rfl, n, st', q'⟩
    exact ⟨r, rfl, n.mono q.size, st', q.trans q', q'⟩
  have Q2 : Hid (∀ W, Out (fun j => D j ∨ j = g) W0 W → St 2 W → Calls Try.prog k (fs ++ (#[.slice (some ⟨g2, 0, none⟩) H1 H1, .slice (some ⟨g2', 0, none⟩) H1 H1] ++ cs)) W fun e W' => ∃ r, e = .returned r ∧ NewI W0.heap.size W' r (wval zs * wval zs') ∧ St 3 W' ∧ Out (fun j => D j ∨ j = g) W0 W' ∧ Out (fun j => D j ∨ j = g) W W') := fun W q st => by
    rw [← Array.append_assoc]
    refine ((unhide HI).call 2 W _ _ _ _ (by omega) st (by rw [show (klen la lb h 2).1 = H1 from hH1]; exact inD_blk (q.blk k2 (DN _ (by omega))) z0 z1 (DN _ (by omega))) (by rw [show (klen la lb h 2).2 = H1 from hH1]; exact inD_blk (q.blk k2' (DN _ (by omega))) z0' z1' (DN _ (by omega)))).mono ?_
    rintro e W' ⟨r, rfl, n, st', q'⟩
    exact ⟨r, rfl, n.mono q.size, st', q.trans q', q'⟩
  have DB := hide DB
  have h16 : h ≤ 16384 := by omega
  have HH1 : Hid (H1 + H1 ≤ 1073741824) := by show _ ≤ _; omega
  have sW0 := hide (show w.heap.size ≤ W0.heap.size by omega)
  have hl2 := hide hl0
  have hl3 := hide hl1
  generalize wval (xs.take h) = X0 at *
  generalize wval (xs.drop h) = X1 at *
  generalize wval (ys.take h) = Y0 at *
  generalize wval (ys.drop h) = Y1 at *
  generalize wval zs = X2 at *
  generalize wval zs' = Y2 at *
  clear k0 k1 k2 k0' k1' k2' kP kQ K3 K1 HE HS HR HR' HD lx0 lx1 ly0 ly1 dx0 dx1 dy0 dy1 z0 z0' z1 z1' DN sQ bb O1 i0 i1 i2 i0' i1' i2' s1 s2 s3 sW hgl hH1 hn1 hm1 hl0 hl1
  go_wp2
  clear hW0
  obtain ⟨p0, p1, p2, p3, p4, p5⟩ := unhide HC W0 (Out.refl _ _)
  have st0 := (unhide HI).next 0 W0 W0.drew (unhide S0) ((Below.refl _ _).drew)
  have o0 : Out (fun j => D j ∨ j = g) W0 W0.drew := Out.of_below ((Below.refl _ _).drew)
  go_region_held3 (fun w' => w'.cell? ⟨P0, 0, none⟩ = some (.slice (some ⟨g0, 0, none⟩) h h) ∧ w'.cell? ⟨P0, 1, none⟩ = some (.slice (some ⟨g1, 0, none⟩) n1 n1) ∧ w'.cell? ⟨P0, 2, none⟩ = some (.slice (some ⟨g2, 0, none⟩) H1 H1) ∧ w'.cell? ⟨P0 + 1, 0, none⟩ = some (.slice (some ⟨g0', 0, none⟩) h h) ∧ w'.cell? ⟨P0 + 1, 1, none⟩ = some (.slice (some ⟨g1', 0, none⟩) m1 m1) ∧ w'.cell? ⟨P0 + 1, 2, none⟩ = some (.slice (some ⟨g2', 0, none⟩) H1 H1)) (first | (exact unhide HC _ o4) | (exact unhide HC _ o3) | (exact unhide HC _ o2) | (exact unhide HC _ o1) | (exact unhide HC _ o0) | go_keep) (first
    | (refine (unhide Q0 _ o0 st0).mono ?_; rintro e w5 ⟨r5, rfl, n5, st1, o1, q1⟩; obtain ⟨p0, p1, p2, p3, p4, p5⟩ := unhide HC _ o1)
    | (refine (unhide Q1 _ o1 st1).mono ?_; rintro e w6 ⟨r6, rfl, n6, st2, o2, q2⟩; have n5 := n5.out q2 (unhide DB); obtain ⟨p0, p1, p2, p3, p4, p5⟩ := unhide HC _ o2)
    | (refine (unhide Q2 _ o2 st2).mono ?_; rintro e w7 ⟨r7, rfl, n7, st3, o3, q3⟩; have n5 := n5.out q3 (unhide DB); have n6 := n6.out q3 (unhide DB); obtain ⟨p0, p1, p2, p3, p4, p5⟩ := unhide HC _ o3)
    | (go_at_call 89; refine (kjoin_any _ _ _ _ _ _ _ h (H1 + H1) h16 (unhide HH1) (unhide HP) (unhide HL) n5.inW n6.inW n7.inW).mono ?_; rintro e w8 ⟨r8, rfl, n8, b8⟩; have o4 := o3.next b8; obtain ⟨p0, p1, p2, p3, p4, p5⟩ := unhide HC _ o4)
    | fail)
  have st8 := (unhide HI).next 3 w7 w8 st3 b8
  obtain ⟨s8, m8, K8⟩ := (unhide HI).eng 3 w8 st8
  rw [unhide HV] at n8
  have ST8 := hide st8
  have M8 := hide K8.eng.met
  have OA := hide (((unhide O3).mono (fun k e => Or.inr e)).trans o4)
  have N8 := hide n8
  have SZ := hide (Nat.le_trans (unhide sW0) o3.size)
  have GL := hide (Nat.lt_of_lt_of_le (unhide DB g (Or.inr rfl)) o3.size)
  clear p0 p1 p2 p3 p4 p5 n5 n6 n7 n8 st8 st3 st2 st1 st0 o4 o3 o2 o1 o0 q1 q2 q3 b8 K8 HV HL HP HC Q0 Q1 Q2 hcf S0
  go_wp2
  refine leaves_cons (f := 64) (args := #[.pointer (some ⟨g, 0, none⟩)]) (by simp) (by simp [go_sem]) ?_
  refine (leave_deferred l .returning (unhide M8) (by have := unhide hl2; omega) (by have := unhide hl2; omega) (by have := unhide hl3; omega)).mono ?_
  rintro e u' w9 ⟨rfl, rfl, M9, T9⟩
  have O9 := Out.of_grown T9.grown
  refine ⟨_, results_tmp2 rfl _ _ _, r8, w8, rfl, ?_, unhide ST8, O9, ?_, ?_⟩
  · skip
    exact (O9.newW (unhide N8) (fun k e => by rw [e]; exact unhide GL)).mono (unhide SZ)
  · intro s' m' K
    obtain ⟨rfl, _, rfl⟩ := K.eng.met.one (unhide M8)
    exact K.step M9 T9
  · exact (unhide OA).trans (O9.mono (fun k e => Or.inr e))

set_option maxRecDepth 100000 in
set_option maxHeartbeats 6400000 in
theorem kara_ba (w : World) (gk ge g : Nat) (s l m : Int) (T : Tab) (ga gb : Option Addr) (b o cap la b' o' cap' lb h : Nat) (xs ys : List Nat) (k : Nat) (fs cs : Array Value) (D : Nat → Prop) (St : Nat → World → Prop)
  (hE : KEng w gk ge g s l m T) (hl0 : 0 ≤ l) (hl1 : l ≤ 1000000) (hxl : xs.length = la) (hR : Rep w ga b o cap xs) (hdx : WDig xs) (_hbD : 0 < la → ¬ D b) (hyl : ys.length = lb) (hR' : Rep w gb b' o' cap' ys) (hdy : WDig ys) (_hbD' : 0 < lb → ¬ D b') (hla : la ≤ 16384) (hlb : lb ≤ 16384)
  (hh : h = (max la lb + 1) / 2) (hlt : h < min la lb) (_nk : ¬ D gk) (_ne : ¬ D ge) (ng : ¬ D g) (hD : ∀ j, D j → j < w.heap.size) (hI : Inn2 gk ge g l T (max la lb) (min la lb) h k fs cs D St)
  (hS : ∀ W, Out (· = g) w W → KEng W gk ge g s (l + 1) (max m (l + 1)) T → St 0 W) (hsw : la < lb) :
  Calls Try.prog 67 #[.pointer (some ⟨gk, 0, none⟩), .slice ga la cap, .slice gb lb cap', .func (.func k) fs cs] w fun e w' => ∃ v W, e = .returned (.tuple #[v, .bool true]) ∧ NewW w.heap.size w' v (wval xs * wval ys) ∧ St 3 W ∧ Out (· = g) W w' ∧ (∀ s' m', KEng W gk ge g s' (l + 1) m' T → KEng w' gk ge g s' l m' T) ∧ Out (fun j => D j ∨ j = g) w w' := by
  have hn : max la lb = lb := by omega
  have hm : min la lb = la := by omega
  rw [hn, hm] at hI
  rw [hn] at hh
  rw [hm] at hlt
  have CH := hide (fun w => half_any w gb lb cap' h hlb hh)
  have hM := hE.eng.met
  have hgl := hM.lt
  have CE := hide (enter_any (l + 1) (max m (l + 1)) hM rfl rfl (by omega) (by omega))
  have e0 := hE.ptr
  have e1 := hE.eng.ptr
  have HE := hide hE
  have ngt : ¬ la ≤ h := by omega
  have HI := hide hI
  have HS := hide hS
  have HD := hide hD
  have HR := hide hR
  have HR' := hide hR'
  have h2 : lb ≤ 2 * h := by omega
  have hle : la ≤ lb := by omega
  have NG := hide ng
  have hcf := hI.go
  clear hE hM hI hS hD hR hR' hh hn hm
  clear _nk _ne ng _hbD _hbD'
  go_enter_defers Try.func67, Try.ntmps67
  go_wp2_with fail
  refine (unhide CH _).mono ?_
  rintro e w1 ⟨rfl, hw1⟩
  obtain rfl := hw1.symm
  clear hw1 CH
  go_wp2_with fail
  refine (unhide CE).mono ?_
  rintro e w1 ⟨rfl, M1, T1⟩
  have K1 := (unhide HE).step M1 T1
  have r1 := (unhide HR').touch (unhide HE).eng.met T1
  have r1' := (unhide HR).touch (unhide HE).eng.met T1
  have e0 := K1.ptr
  have e1 := K1.eng.ptr
  have s1 := T1.grown.size
  have O1 := hide (Out.of_grown T1.grown)
  clear CE M1 T1
  go_wp2_with fail
  refine (kcut_any _ _ _ _ _ _ h ys hyl hlb (by omega) (by omega) (by omega) r1 hdy).mono ?_
  rintro e w2 ⟨v2, rfl, p2, b2⟩
  go_wp2_with fail
  refine (kcut_any _ _ _ _ _ _ h xs hxl hla (by omega) (by omega) (by omega) (r1'.next b2) hdx).mono ?_
  rintro e w3 ⟨v3, rfl, p3, b3⟩
  obtain ⟨g0, g1, g2, zs, rfl, i0, i1, i2, k0, k1, k2, z0, z1, z2⟩ := p2.out
  obtain ⟨g0', g1', g2', zs', rfl, i0', i1', i2', k0', k1', k2', z0', z1', z2'⟩ := p3.out
  rw [hyl, hxl]
  have s2 := b2.size
  have s3 := b3.size
  have k0 : Blk w3 g0 _ := (b3.block _ k0.lt).trans k0
  have k1 : Blk w3 g1 _ := (b3.block _ k1.lt).trans k1
  have k2 : Blk w3 g2 _ := (b3.block _ k2.lt).trans k2
  have O3 := hide (((unhide O1).next b2).next b3)
  have K3 := (K1.next b2).next b3
  clear r1 r1' p2 p3 b2 b3 e0 e1
  obtain ⟨H1, hH1⟩ : ∃ H1, h + 1 = H1 := ⟨_, rfl⟩
  obtain ⟨n1, hn1⟩ : ∃ n1, lb - h = n1 := ⟨_, rfl⟩
  obtain ⟨m1, hm1⟩ : ∃ m1, la - h = m1 := ⟨_, rfl⟩
  have lx0 : (ys.take h).length = h := by simp; omega
  have ly0 : (xs.take h).length = h := by simp; omega
  have lx1 : (ys.drop h).length = n1 := by simp; omega
  have ly1 : (xs.drop h).length = m1 := by simp; omega
  have dx0 := wDig_take hdy h
  have dy0 := wDig_take hdx h
  have dx1 := wDig_drop hdy h
  have dy1 := wDig_drop hdx h
  rw [hH1, hn1, hm1]
  rw [hH1] at z0 z0'
  have HV := hide (kara_rows ys xs h)
  have HL : Hid (wval (ys.take h) * wval (xs.take h) + wval (ys.drop h) * wval (xs.drop h) ≤ wval zs * wval zs') := by
    show _ ≤ _
    rw [z2, z2']
    exact kara_le _ _ _ _
  have HP : Hid (wval zs * wval zs' < 18446744073709551616 ^ (H1 + H1)) := by
    show _ < _
    rw [Nat.pow_add]
    have q1 := wval_lt_pow z1
    have q2 := wval_lt_pow z1'
    rw [z0] at q1
    rw [z0'] at q2
    exact Nat.mul_lt_mul'' q1 q2
  rw [← z2, ← z2'] at HV
  clear z2 z2'
  -- the two boxes
  have bb : Below w3.heap.size w3 ((w3.alloc (.cells #[.slice (some ⟨g0, 0, none⟩) h h, .slice (some ⟨g1, 0, none⟩) n1 n1, .slice (some ⟨g2, 0, none⟩) H1 H1] 122)).alloc (.cells #[.slice (some ⟨g0', 0, none⟩) h h, .slice (some ⟨g1', 0, none⟩) m1 m1, .slice (some ⟨g2', 0, none⟩) H1 H1] 122)) := ((Below.refl _ _).alloc (Nat.le_refl _) _).alloc (by simp) _
  have kP := (((Below.refl _ _).alloc (Nat.le_refl _) (.cells #[.slice (some ⟨g0', 0, none⟩) h h, .slice (some ⟨g1', 0, none⟩) m1 m1, .slice (some ⟨g2', 0, none⟩) H1 H1] 122)).block w3.heap.size (by simp)).trans (heap_alloc_new w3 (.cells #[.slice (some ⟨g0, 0, none⟩) h h, .slice (some ⟨g1, 0, none⟩) n1 n1, .slice (some ⟨g2, 0, none⟩) H1 H1] 122))
  have kQ := heap_alloc_new (w3.alloc (.cells #[.slice (some ⟨g0, 0, none⟩) h h, .slice (some ⟨g1, 0, none⟩) n1 n1, .slice (some ⟨g2, 0, none⟩) H1 H1] 122)) (.cells #[.slice (some ⟨g0', 0, none⟩) h h, .slice (some ⟨g1', 0, none⟩) m1 m1, .slice (some ⟨g2', 0, none⟩) H1 H1] 122)
  have sQ : (w3.alloc (.cells #[.slice (some ⟨g0, 0, none⟩) h h, .slice (some ⟨g1, 0, none⟩) n1 n1, .slice (some ⟨g2, 0, none⟩) H1 H1] 122)).heap.size = w3.heap.size + 1 := by simp
  rw [sQ] at kQ
  obtain ⟨W0, hW0⟩ : ∃ W0, (w3.alloc (.cells #[.slice (some ⟨g0, 0, none⟩) h h, .slice (some ⟨g1, 0, none⟩) n1 n1, .slice (some ⟨g2, 0, none⟩) H1 H1] 122)).alloc (.cells #[.slice (some ⟨g0', 0, none⟩) h h, .slice (some ⟨g1', 0, none⟩) m1 m1, .slice (some ⟨g2', 0, none⟩) H1 H1] 122) = W0 := ⟨_, rfl⟩
  rw [hW0] at bb kP kQ
  obtain ⟨P0, hP0⟩ : ∃ P0, w3.heap.size = P0 := ⟨_, rfl⟩
  rw [hP0] at kP kQ
  have sW := bb.size
  have k0 : Blk W0 g0 _ := (bb.block _ k0.lt).trans k0
  have k1 : Blk W0 g1 _ := (bb.block _ k1.lt).trans k1
  have k2 : Blk W0 g2 _ := (bb.block _ k2.lt).trans k2
  have k0' : Blk W0 g0' _ := (bb.block _ k0'.lt).trans k0'
  have k1' : Blk W0 g1' _ := (bb.block _ k1'.lt).trans k1'
  have k2' : Blk W0 g2' _ := (bb.block _ k2'.lt).trans k2'
  have O3 := hide ((unhide O3).next bb)
  have S0 := hide (unhide HS _ (unhide O3) (K3.next bb))
  have DN : ∀ q, w.heap.size ≤ q → ¬ (D q ∨ q = g) := fun q hq x => by
    rcases x with x | x
    · have := unhide HD q x; omega
    · omega
  have DB : ∀ q, (D q ∨ q = g) → q < W0.heap.size := fun q x => by
    rcases x with x | x
    · have := unhide HD q x; omega
    · omega
  have HC : Hid (∀ W, Out (fun j => D j ∨ j = g) W0 W → W.cell? ⟨P0, 0, none⟩ = some (.slice (some ⟨g0, 0, none⟩) h h) ∧ W.cell? ⟨P0, 1, none⟩ = some (.slice (some ⟨g1, 0, none⟩) n1 n1) ∧ W.cell? ⟨P0, 2, none⟩ = some (.slice (some ⟨g2, 0, none⟩) H1 H1) ∧ W.cell? ⟨P0 + 1, 0, none⟩ = some (.slice (some ⟨g0', 0, none⟩) h h) ∧ W.cell? ⟨P0 + 1, 1, none⟩ = some (.slice (some ⟨g1', 0, none⟩) m1 m1) ∧ W.cell? ⟨P0 + 1, 2, none⟩ = some (.slice (some ⟨g2', 0, none⟩) H1 H1)) := fun W q => by
    have j0 := (q.block P0 (Array.getElem?_eq_some_iff.1 kP).1 (DN P0 (by omega))).trans kP
    have j1 := (q.block (P0 + 1) (Array.getElem?_eq_some_iff.1 kQ).1 (DN (P0 + 1) (by omega))).trans kQ
    exact ⟨cell_of_row _ P0 0 _ _ (0, 0) j0, cell_of_row _ P0 1 _ _ (0, 0) j0, cell_of_row _ P0 2 _ _ (0, 0) j0, cell_of_row _ (P0 + 1) 0 _ _ (0, 0) j1, cell_of_row _ (P0 + 1) 1 _ _ (0, 0) j1, cell_of_row _ (P0 + 1) 2 _ _ (0, 0) j1⟩
  have Q0 : Hid (∀ W, Out (fun j => D j ∨ j = g) W0 W → St 0 W → Calls Try.prog k (fs ++ (#[.slice (some ⟨g0, 0, none⟩) h h, .slice (some ⟨g0', 0, none⟩) h h] ++ cs)) W fun e W' => ∃ r, e = .returned r ∧ NewI W0.heap.size W' r (wval (ys.take h) * wval (xs.take h)) ∧ St 1 W' ∧ Out (fun j => D j ∨ j = g) W0 W' ∧ Out (fun j => D j ∨ j = g) W W') := fun W q st => by
    rw [← Array.append_assoc]
    refine ((unhide HI).call 0 W _ _ _ _ (by omega) st (inD_blk (q.blk k0 (DN _ (by omega))) lx0 dx0 (DN _ (by omega))) (inD_blk (q.blk k0' (DN _ (by omega))) ly0 dy0 (DN _ (by omega)))).mono ?_
    rintro e W' ⟨r, rfl, n, st', q'⟩
    exact ⟨r, rfl, n.mono q.size, st', q.trans q', q'⟩
  have Q1 : Hid (∀ W, Out (fun j => D j ∨ j = g) W0 W → St 1 W → Calls Try.prog k (fs ++ (#[.slice (some ⟨g1, 0, none⟩) n1 n1, .slice (some ⟨g1', 0, none⟩) m1 m1] ++ cs)) W fun e W' => ∃ r, e = .returned r ∧ NewI W0.heap.size W' r (wval (ys.drop h) * wval (xs.drop h)) ∧ St 2 W' ∧ Out (fun j => D j ∨ j = g) W0 W' ∧ Out (fun j => D j ∨ j = g) W W') := fun W q st => by
    rw [← Array.append_assoc]
    refine ((unhide HI).call 1 W _ _ _ _ (by omega) st (by rw [show (klen lb la h 1).1 = n1 from hn1]; exact inD_blk (q.blk k1 (DN _ (by omega))) lx1 dx1 (DN _ (by omega))) (by rw [show (klen lb la h 1).2 = m1 from hm1]; exact inD_blk (q.blk k1' (DN _ (by omega))) ly1 dy1 (DN _ (by omega)))).mono ?_
    rintro e W' ⟨r, rfl, n, st', q'⟩
    exact ⟨r, rfl, n.mono q.size, st', q.trans q', q'⟩
  have Q2 : Hid (∀ W, Out (fun j => D j ∨ j = g) W0 W → St 2 W → Calls Try.prog k (fs ++ (#[.slice (some ⟨g2, 0, none⟩) H1 H1, .slice (some ⟨g2', 0, none⟩) H1 H1] ++ cs)) W fun e W' => ∃ r, e = .returned r ∧ NewI W0.heap.size W' r (wval zs * wval zs') ∧ St 3 W' ∧ Out (fun j => D j ∨ j = g) W0 W' ∧ Out (fun j => D j ∨ j = g) W W') := fun W q st => by
    rw [← Array.append_assoc]
    refine ((unhide HI).call 2 W _ _ _ _ (by omega) st (by rw [show (klen lb la h 2).1 = H1 from hH1]; exact inD_blk (q.blk k2 (DN _ (by omega))) z0 z1 (DN _ (by omega))) (by rw [show (klen lb la h 2).2 = H1 from hH1]; exact inD_blk (q.blk k2' (DN _ (by omega))) z0' z1' (DN _ (by omega)))).mono ?_
    rintro e W' ⟨r, rfl, n, st', q'⟩
    exact ⟨r, rfl, n.mono q.size, st', q.trans q', q'⟩
  have DB := hide DB
  have h16 : h ≤ 16384 := by omega
  have HH1 : Hid (H1 + H1 ≤ 1073741824) := by show _ ≤ _; omega
  have sW0 := hide (show w.heap.size ≤ W0.heap.size by omega)
  have hl2 := hide hl0
  have hl3 := hide hl1
  generalize wval (ys.take h) = X0 at *
  generalize wval (ys.drop h) = X1 at *
  generalize wval (xs.take h) = Y0 at *
  generalize wval (xs.drop h) = Y1 at *
  generalize wval zs = X2 at *
  generalize wval zs' = Y2 at *
  clear k0 k1 k2 k0' k1' k2' kP kQ K3 K1 HE HS HR HR' HD lx0 lx1 ly0 ly1 dx0 dx1 dy0 dy1 z0 z0' z1 z1' DN sQ bb O1 i0 i1 i2 i0' i1' i2' s1 s2 s3 sW hgl hH1 hn1 hm1 hl0 hl1
  go_wp2
  clear hW0
  obtain ⟨p0, p1, p2, p3, p4, p5⟩ := unhide HC W0 (Out.refl _ _)
  have st0 := (unhide HI).next 0 W0 W0.drew (unhide S0) ((Below.refl _ _).drew)
  have o0 : Out (fun j => D j ∨ j = g) W0 W0.drew := Out.of_below ((Below.refl _ _).drew)
  go_region_held3 (fun w' => w'.cell? ⟨P0, 0, none⟩ = some (.slice (some ⟨g0, 0, none⟩) h h) ∧ w'.cell? ⟨P0, 1, none⟩ = some (.slice (some ⟨g1, 0, none⟩) n1 n1) ∧ w'.cell? ⟨P0, 2, none⟩ = some (.slice (some ⟨g2, 0, none⟩) H1 H1) ∧ w'.cell? ⟨P0 + 1, 0, none⟩ = some (.slice (some ⟨g0', 0, none⟩) h h) ∧ w'.cell? ⟨P0 + 1, 1, none⟩ = some (.slice (some ⟨g1', 0, none⟩) m1 m1) ∧ w'.cell? ⟨P0 + 1, 2, none⟩ = some (.slice (some ⟨g2', 0, none⟩) H1 H1)) (first | (exact unhide HC _ o4) | (exact unhide HC _ o3) | (exact unhide HC _ o2) | (exact unhide HC _ o1) | (exact unhide HC _ o0) | go_keep) (first
    | (refine (unhide Q0 _ o0 st0).mono ?_; rintro e w5 ⟨r5, rfl, n5, st1, o1, q1⟩; obtain ⟨p0, p1, p2, p3, p4, p5⟩ := unhide HC _ o1)
    | (refine (unhide Q1 _ o1 st1).mono ?_; rintro e w6 ⟨r6, rfl, n6, st2, o2, q2⟩; have n5 := n5.out q2 (unhide DB); obtain ⟨p0, p1, p2, p3, p4, p5⟩ := unhide HC _ o2)
    | (refine (unhide Q2 _ o2 st2).mono ?_; rintro e w7 ⟨r7, rfl, n7, st3, o3, q3⟩; have n5 := n5.out q3 (unhide DB); have n6 := n6.out q3 (unhide DB); obtain ⟨p0, p1, p2, p3, p4, p5⟩ := unhide HC _ o3)
    | (go_at_call 89; refine (kjoin_any _ _ _ _ _ _ _ h (H1 + H1) h16 (unhide HH1) (unhide HP) (unhide HL) n5.inW n6.inW n7.inW).mono ?_; rintro e w8 ⟨r8, rfl, n8, b8⟩; have o4 := o3.next b8; obtain ⟨p0, p1, p2, p3, p4, p5⟩ := unhide HC _ o4)
    | fail)
  have st8 := (unhide HI).next 3 w7 w8 st3 b8
  obtain ⟨s8, m8, K8⟩ := (unhide HI).eng 3 w8 st8
  rw [unhide HV] at n8
  have ST8 := hide st8
  have M8 := hide K8.eng.met
  have OA := hide (((unhide O3).mono (fun k e => Or.inr e)).trans o4)
  have N8 := hide n8
  have SZ := hide (Nat.le_trans (unhide sW0) o3.size)
  have GL := hide (Nat.lt_of_lt_of_le (unhide DB g (Or.inr rfl)) o3.size)
  clear p0 p1 p2 p3 p4 p5 n5 n6 n7 n8 st8 st3 st2 st1 st0 o4 o3 o2 o1 o0 q1 q2 q3 b8 K8 HV HL HP HC Q0 Q1 Q2 hcf S0
  go_wp2
  refine leaves_cons (f := 64) (args := #[.pointer (some ⟨g, 0, none⟩)]) (by simp) (by simp [go_sem]) ?_
  refine (leave_deferred l .returning (unhide M8) (by have := unhide hl2; omega) (by have := unhide hl2; omega) (by have := unhide hl3; omega)).mono ?_
  rintro e u' w9 ⟨rfl, rfl, M9, T9⟩
  have O9 := Out.of_grown T9.grown
  refine ⟨_, results_tmp2 rfl _ _ _, r8, w8, rfl, ?_, unhide ST8, O9, ?_, ?_⟩
  · rw [Nat.mul_comm]
    exact (O9.newW (unhide N8) (fun k e => by rw [e]; exact unhide GL)).mono (unhide SZ)
  · intro s' m' K
    obtain ⟨rfl, _, rfl⟩ := K.eng.met.one (unhide M8)
    exact K.step M9 T9
  · exact (unhide OA).trans (O9.mono (fun k e => Or.inr e))

theorem spec_kara : SpecKara := by
  intro w gk ge g s l m T ga gb b o cap la b' o' cap' lb h xs ys k fs cs D St hE hl0 hl1 hxl hR hdx hbD hyl hR' hdy hbD' hla hlb hh hlt nk ne ng hD hI hS
  by_cases hsw : la < lb
  · exact kara_ba w gk ge g s l m T ga gb b o cap la b' o' cap' lb h xs ys k fs cs D St hE hl0 hl1 hxl hR hdx hbD hyl hR' hdy hbD' hla hlb hh hlt nk ne ng hD hI hS hsw
  · exact kara_ab w gk ge g s l m T ga gb b o cap la b' o' cap' lb h xs ys k fs cs D St hE hl0 hl1 hxl hR hdx hbD hyl hR' hdy hbD' hla hlb hh hlt nk ne ng hD hI hS hsw

end Go.Proofs.Yteinonbijiokmaa

/- KaraSqr: a square in two pieces. -/
namespace Go.Proofs.Yteinonbijiokmaa
open Go.RowKit

set_option maxHeartbeats 1600000 in
theorem kara_no (w : World) (gk : Nat) (ga gb : Option Addr) (cap la cap' lb h : Nat) (F : Value) (hla : la ≤ 16384) (hlb : lb ≤ 16384) (hh : h = (max la lb + 1) / 2) (hle : min la lb ≤ h) :
    Calls Try.prog 67 #[.pointer (some ⟨gk, 0, none⟩), .slice ga la cap, .slice gb lb cap', F] w fun e w' => e = .returned (.tuple #[.slice none 0 0, .bool false]) ∧ w' = w := by
  by_cases hsw : la < lb
  · have CH := hide (fun w => half_any w gb lb cap' h (by omega) (by omega))
    have hle : la ≤ h := by omega
    clear hh
    go_enter_defers Try.func67, Try.ntmps67
    go_wp2_with fail
    refine (unhide CH _).mono ?_
    rintro e w1 ⟨rfl, hw1⟩
    obtain rfl := hw1.symm
    clear hw1 CH
    go_wp2
    exact ⟨_, results_tmp2 rfl _ _ _, rfl, rfl⟩
  · have CH := hide (fun w => half_any w ga la cap h (by omega) (by omega))
    have hle : lb ≤ h := by omega
    clear hh
    go_enter_defers Try.func67, Try.ntmps67
    go_wp2_with fail
    refine (unhide CH _).mono ?_
    rintro e w1 ⟨rfl, hw1⟩
    obtain rfl := hw1.symm
    clear hw1 CH
    go_wp2
    exact ⟨_, results_tmp2 rfl _ _ _, rfl, rfl⟩
theorem spec_kara_no : SpecKaraNo := by
  intro w gk ge g s l m T ga gb cap la cap' lb h F _ _ _ hla hlb hh hle
  refine (kara_no w gk ga gb cap la cap' lb h F hla hlb hh hle).mono ?_
  rintro e w' ⟨rfl, rfl⟩
  exact ⟨⟨none, 0, rfl⟩, Out.refl _ _⟩

end Go.Proofs.Yteinonbijiokmaa

/- Both: products in two pieces all the way down. -/
namespace Go.Proofs.Yteinonbijiokmaa
open Go.RowKit

theorem go_both (args : Array Value) (W : World) : (callFunc 42 args).run Try.prog W = .ok (.enter 42 args) W := by
  kernel_rfl

/-- What Both leaves. -/
def BothDone (w : World) (gk ge g : Nat) (s l : Int) (T : Tab) (n C : Nat) (e : Ending) (w' : World) : Prop :=
  ∃ v s' m', e = .returned v ∧ NewW w.heap.size w' v n ∧ KEng w' gk ge g s' l m' T ∧ Out (· = g) w w' ∧ s ≤ s' ∧ s' ≤ s + (C : Int)

theorem InD.rep {D : Nat → Prop} {w : World} {v : Value} {n l : Nat} (h : InD D w v n l) : ∃ ga b o cap xs, v = .slice ga l cap ∧ xs.length = l ∧ Rep w ga b o cap xs ∧ WDig xs ∧ wval xs = n := by
  obtain ⟨ga, b, o, cap, xs, h1, h2, h3, h4, h5, _⟩ := h
  exact ⟨ga, b, o, cap, xs, h1, h2, h3, h4, h5⟩

def BothAt (L C : Nat) : Prop := ∀ (w : World) (gk ge g : Nat) (s l m : Int) (T : Tab) (ga gb : Option Addr) (b o cap la b' o' cap' lb : Nat) (xs ys : List Nat),
  KEng w gk ge g s l m T → 0 ≤ l → l ≤ 1000000 - (L : Int) → 0 ≤ s → s ≤ 1000000000000 - (C : Int) → xs.length = la → Rep w ga b o cap xs → WDig xs → ys.length = lb → Rep w gb b' o' cap' ys → WDig ys → la ≤ L → lb ≤ L →
  Calls Try.prog 42 #[.pointer (some ⟨gk, 0, none⟩), .slice ga la cap, .slice gb lb cap'] w (BothDone w gk ge g s l T (wval xs * wval ys) C)

theorem both_hand {w : World} {gk ge g : Nat} {s l m : Int} {T : Tab} (hE : KEng w gk ge g s l m T) {ga gb : Option Addr} {b o cap la b' o' cap' lb L C : Nat} {xs ys : List Nat} (hs0 : 0 ≤ s) (hs : s ≤ 1000000000000) (hxl : xs.length = la) (hR : Rep w ga b o cap xs) (hdx : WDig xs) (hyl : ys.length = lb) (hR' : Rep w gb b' o' cap' ys) (hdy : WDig ys) (hla : la ≤ L) (hlb : lb ≤ L) (hL : L ≤ 66) (hC : 5000 ≤ C) :
    Calls Try.prog 43 #[.pointer (some ⟨ge, 0, none⟩), .slice ga la cap, .slice gb lb cap'] w fun e w' => ∃ v, e = .returned v ∧ BothDone w gk ge g s l T (wval xs * wval ys) C (.returned v) w' := by
  have iu : InG g w (.slice ga la cap) (wval xs) la := ⟨_, _, _, _, xs, rfl, hxl, hR, hdx, rfl, by rw [← hxl]; exact hE.eng.away hR⟩
  have iv : InG g w (.slice gb lb cap') (wval ys) lb := ⟨_, _, _, _, ys, rfl, hyl, hR', hdy, rfl, by rw [← hyl]; exact hE.eng.away hR'⟩
  refine (schoolMul_t hE.eng _ _ _ _ la lb iu iv (by omega) (by omega) hs0 (by omega)).mono ?_
  rintro e w' ⟨r, rfl, h1, h2, h3⟩
  have hm : la * lb ≤ 66 * 66 := Nat.mul_le_mul (by omega) (by omega)
  exact ⟨r, rfl, r, _, _, rfl, h1, hE.step h2.met h3, Out.of_grown h3.grown, by omega, by omega⟩

set_option maxRecDepth 100000 in
set_option maxHeartbeats 3200000 in
theorem both_walk {w : World} {gk ge g : Nat} {s l m : Int} {T : Tab} (hE : KEng w gk ge g s l m T) {ga gb : Option Addr} {b o cap la b' o' cap' lb L C : Nat} {xs ys : List Nat} (hs0 : 0 ≤ s) (hs : s ≤ 1000000000000) (hxl : xs.length = la) (hR : Rep w ga b o cap xs) (hdx : WDig xs) (hyl : ys.length = lb) (hR' : Rep w gb b' o' cap' ys) (hdy : WDig ys) (hla : la ≤ L) (hlb : lb ≤ L) (hL : L ≤ 66) (hC : 5000 ≤ C)
    (hK : T.clamp.b ≤ ((min la lb : Nat) : Int) → Calls Try.prog 67 #[.pointer (some ⟨gk, 0, none⟩), .slice ga la cap, .slice gb lb cap', .func (.func 42) #[.pointer (some ⟨gk, 0, none⟩)] #[]] w fun e w' => (e = .returned (.tuple #[.slice none 0 0, .bool false]) ∧ w' = w) ∨ (∃ v, e = .returned (.tuple #[v, .bool true]) ∧ BothDone w gk ge g s l T (wval xs * wval ys) C (.returned v) w')) :
    Calls Try.prog 42 #[.pointer (some ⟨gk, 0, none⟩), .slice ga la cap, .slice gb lb cap'] w (BothDone w gk ge g s l T (wval xs * wval ys) C) := by
  have CM := hide (both_hand hE hs0 hs hxl hR hdx hyl hR' hdy hla hlb hL hC)
  have e0 := hE.ptr
  have e1 := hE.eng.ptr
  have e2 : w.cell? ⟨g, 3, none⟩ = some (.int .i64 T.clamp.b) := hE.tab 0 (by decide)
  have hmf : ∀ (fn : Fn) (first cap : Array Value) (w : World), (Instr.makeFunc fn first cap).run Try.prog w = .ok (.func fn first cap) w := fun _ _ _ _ => rfl
  obtain ⟨M, hM⟩ : ∃ M, min la lb = M := ⟨_, rfl⟩
  rw [hM] at hK
  have hM' : min (la : Int) (lb : Int) = (M : Int) := by omega
  have HK := hide hK
  generalize BothDone w gk ge g s l T (wval xs * wval ys) C = Dn at *
  generalize T.clamp.b = t at *
  clear hE hR hR' hdx hdy hxl hyl hK hs0 hs hla hlb hL hC hM
  suffices hw : Calls Try.prog 42 #[.pointer (some ⟨gk, 0, none⟩), .slice ga la cap, .slice gb lb cap'] w fun e w' => ∃ v, e = .returned v ∧ Dn (.returned v) w' by
    refine hw.mono ?_
    rintro e w' ⟨v, rfl, h⟩
    exact h
  by_cases ht : t ≤ (M : Int)
  · have CK := hide (unhide HK ht)
    clear HK
    go_enter Try.func42, Try.ntmps42
    go_wp2_with fail
    refine (unhide CK).mono ?_
    rintro e w1 (⟨rfl, hw1⟩ | ⟨v, rfl, h1⟩)
    · obtain rfl := hw1.symm
      clear hw1 CK
      go_wp2_with fail
      refine (unhide CM).mono ?_
      rintro e w2 ⟨v, rfl, h2⟩
      go_wp2
      go_ret
      exact ⟨_, rfl, h2⟩
    · clear CK CM
      have H1 := hide h1
      clear h1
      go_wp2
      go_ret
      exact ⟨_, rfl, unhide H1⟩
  · clear HK
    go_enter Try.func42, Try.ntmps42
    go_wp2_with fail
    refine (unhide CM).mono ?_
    rintro e w2 ⟨v, rfl, h2⟩
    go_wp2
    go_ret
    exact ⟨_, rfl, h2⟩

theorem both_zero : BothAt 3 5000 := by
  intro w gk ge g s l m T ga gb b o cap la b' o' cap' lb xs ys hE hl0 hl1 hs0 hs hxl hR hdx hyl hR' hdy hla hlb
  refine both_walk hE hs0 (by omega) hxl hR hdx hyl hR' hdy hla hlb (by omega) (by omega) (fun ht => ?_)
  have lo : (4 : Int) ≤ T.clamp.b := cl_low (by decide)
  omega

/-- What holds behind i calls of Both within Kara. -/
def BSt (gk ge g : Nat) (s l : Int) (T : Tab) (C i : Nat) (W : World) : Prop := ∃ s' m', KEng W gk ge g s' (l + 1) m' T ∧ s ≤ s' ∧ s' ≤ s + ((i * C : Nat) : Int)

theorem klen_le {n m h i L : Nat} (h1 : h + 1 ≤ L) (h2 : n ≤ 2 * h) (h3 : m ≤ n) : (klen n m h i).1 ≤ L ∧ (klen n m h i).2 ≤ L := by
  match i with
  | 0 => exact ⟨by show h ≤ L; omega, by show h ≤ L; omega⟩
  | 1 => exact ⟨by show n - h ≤ L; omega, by show m - h ≤ L; omega⟩
  | i + 2 => exact ⟨h1, h1⟩

theorem both_inn {gk ge g : Nat} {s l : Int} {T : Tab} {n m h L C : Nat} (hB : BothAt L C) (hl0 : 0 ≤ l) (hl : l + 1 ≤ 1000000 - (L : Int)) (hs0 : 0 ≤ s) (hs : s ≤ 1000000000000 - ((3 * C : Nat) : Int)) (h1 : h + 1 ≤ L) (h2 : n ≤ 2 * h) (h3 : m ≤ n) (hL : L ≤ 66) :
    Inn2 gk ge g l T n m h 42 #[.pointer (some ⟨gk, 0, none⟩)] #[] (fun _ => False) (BSt gk ge g s l T C) where
  go := go_both
  next := fun i W W' ⟨s', m', K, e1, e2⟩ b => ⟨s', m', K.next b, e1, e2⟩
  eng := fun i W ⟨s', m', K, _, _⟩ => ⟨s', m', K⟩
  call := fun i W u v a c hi ⟨s', m', K, e1, e2⟩ iu iv => by
    obtain ⟨ga, b, o, cap, xs, rfl, hxl, hR, hdx, hxv⟩ := iu.rep
    obtain ⟨gb, b', o', cap', ys, rfl, hyl, hR', hdy, hyv⟩ := iv.rep
    obtain ⟨k1, k2⟩ := klen_le (i := i) h1 h2 h3
    have hiC : i * C ≤ 2 * C := Nat.mul_le_mul_right C (by omega)
    have hi1 : (i + 1) * C = i * C + C := Nat.succ_mul i C
    refine (hB W gk ge g s' (l + 1) m' T ga gb b o cap _ b' o' cap' _ xs ys K (by omega) (by omega) (by omega) (by omega) hxl hR hdx hyl hR' hdy k1 k2).mono ?_
    rintro e W' ⟨r, s2, m2, rfl, n2, K2, o2, f1, f2⟩
    rw [hxv, hyv] at n2
    have q1 := inD_lt iu
    have q2 := inD_lt iv
    refine ⟨r, rfl, n2.toI (p := (klen n m h i).1 + (klen n m h i).2) ?_ (by omega), ⟨s2, m2, K2, by omega, by rw [hi1]; omega⟩, o2.mono (fun k e => Or.inr e)⟩
    rw [Nat.pow_add]
    exact Nat.mul_lt_mul'' q1 q2

theorem both_step {L C : Nat} (hL3 : 3 ≤ L) (hL : 2 * (L - 1) ≤ 66) (hC : 5000 ≤ C) (hB : BothAt L C) : BothAt (2 * (L - 1)) (3 * C) := by
  intro w gk ge g s l m T ga gb b o cap la b' o' cap' lb xs ys hE hl0 hl1 hs0 hs hxl hR hdx hyl hR' hdy hla hlb
  refine both_walk hE hs0 (by omega) hxl hR hdx hyl hR' hdy hla hlb hL (by omega) (fun _ => ?_)
  obtain ⟨h, hh⟩ : ∃ h, h = (max la lb + 1) / 2 := ⟨_, rfl⟩
  by_cases hm : h < min la lb
  · refine (spec_kara w gk ge g s l m T ga gb b o cap la b' o' cap' lb h xs ys _ _ _ (fun _ => False) (BSt gk ge g s l T C) hE hl0 (by omega) hxl hR hdx (fun _ => id) hyl hR' hdy (fun _ => id) (by omega) (by omega) hh hm id id id (fun _ => False.elim) (both_inn hB hl0 (by omega) hs0 hs (by omega) (by omega) (by omega) (by omega)) ?_).mono ?_
    · intro W o K
      exact ⟨s, _, K, Int.le_refl _, by omega⟩
    · rintro e w' ⟨v, W, rfl, n1, ⟨s', m', K, f1, f2⟩, oW, hK, oo⟩
      exact Or.inr ⟨v, rfl, v, s', m', rfl, n1, hK s' m' K, oo.mono (fun k e => e.resolve_left id), f1, f2⟩
  · refine (kara_no w gk ga gb cap la cap' lb h _ (by omega) (by omega) hh (by omega)).mono ?_
    rintro e w' ⟨rfl, rfl⟩
    exact Or.inl ⟨rfl, rfl⟩

theorem both_66 : BothAt 66 3645000 := by
  have b1 := both_step (by decide) (by decide) (by decide) both_zero
  have b2 := both_step (by decide) (by decide) (by decide) b1
  have b3 := both_step (by decide) (by decide) (by decide) b2
  have b4 := both_step (by decide) (by decide) (by decide) b3
  have b5 := both_step (by decide) (by decide) (by decide) b4
  exact both_step (by decide) (by decide) (by decide) b5

theorem spec_both : SpecBoth := by
  intro w gk ge g s l m T ga gb b o cap la b' o' cap' lb xs ys hE hl0 hl1 hs0 hs hxl hR hdx hyl hR' hdy hla hlb
  refine (both_66 w gk ge g s l m T ga gb b o cap la b' o' cap' lb xs ys hE hl0 (by omega) hs0 (by omega) hxl hR hdx hyl hR' hdy (by omega) (by omega)).mono ?_
  rintro e w' ⟨v, s', m', rfl, h1, h2, h3, h4, h5⟩
  exact ⟨v, s', m', rfl, h1, h2, h3, by omega, by omega⟩

end Go.Proofs.Yteinonbijiokmaa
