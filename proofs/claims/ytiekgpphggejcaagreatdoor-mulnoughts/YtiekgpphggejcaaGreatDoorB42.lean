/- Kara: a product in two pieces. Written by gen_kkara.py. -/
import Derived.Test.YtiekgpphggejcaaGreatDoorB33
import Derived.Test.YtiekgpphggejcaaGreatDoorB21
import Derived.Deep.RegionHeld3
import Derived.Test.YtiekgpphggejcaaGreatDoorB38
import Derived.Test.YtiekgpphggejcaaGreatDoorB7
namespace Go.Proofs.YtiekgpphggejcaaGreatDoor
open Go.RowKit

theorem Met.one {w : World} {g o : Nat} {s l m s' l' m' : Int} (h : Met w g o s l m) (k : Met w g o s' l' m') : s = s' ∧ l = l' ∧ m = m' := by
  have e0 := h.c0.symm.trans k.c0
  have e1 := h.c1.symm.trans k.c1
  have e2 := h.c2.symm.trans k.c2
  simp only [Option.some.injEq, Value.int.injEq, true_and] at e0 e1 e2
  exact ⟨e0, e1, e2⟩

theorem inD_blk {D : Nat → Prop} {w : World} {g l : Nat} {zs : List Nat} (h : Blk w g zs) (hl : zs.length = l) (hd : WDig zs) (hn : ¬ D g) : InD D w (.slice (some ⟨g, 0, none⟩) l l) (wval zs) l :=
  ⟨_, g, 0, l, zs, rfl, hl, h.whole hl, hd, rfl, fun _ => hn⟩

set_option maxRecDepth 100000 in
set_option maxHeartbeats 6400000 in
theorem kara_ab (w : World) (gk ge g : Nat) (s l m : Int) (T : Tab) (ga gb : Option Addr) (b o cap la b' o' cap' lb h : Nat) (xs ys : List Nat) (k : Nat) (fs cs : Array Value) (D : Nat → Prop) (St : Nat → World → Prop)
  (hE : KEng w gk ge g s l m T) (hl0 : 0 ≤ l) (hl1 : l ≤ 1000000) (hxl : xs.length = la) (hR : Rep w ga b o cap xs) (hdx : WDig xs) (_hbD : 0 < la → ¬ D b) (hyl : ys.length = lb) (hR' : Rep w gb b' o' cap' ys) (hdy : WDig ys) (_hbD' : 0 < lb → ¬ D b') (hla : la ≤ 16384) (hlb : lb ≤ 16384)
  (hh : h = (max la lb + 1) / 2) (hlt : h < min la lb) (_nk : ¬ D gk) (_ne : ¬ D ge) (ng : ¬ D g) (hD : ∀ j, D j → j < w.heap.size) (hI : Inn2 gk ge g l T (max la lb) (min la lb) h k fs cs D St)
  (hS : ∀ W, Out (· = g) w W → KEng W gk ge g s (l + 1) (max m (l + 1)) T → St 0 W) (hsw : ¬ la < lb) :
  Calls Tryz.prog 62 #[.pointer (some ⟨gk, 0, none⟩), .slice ga la cap, .slice gb lb cap', .func (.func k) fs cs] w fun e w' => ∃ v W, e = .returned (.tuple #[v, .bool true]) ∧ NewW w.heap.size w' v (wval xs * wval ys) ∧ St 3 W ∧ Out (· = g) W w' ∧ (∀ s' m', KEng W gk ge g s' (l + 1) m' T → KEng w' gk ge g s' l m' T) ∧ Out (fun j => D j ∨ j = g) w w' := by
  have hn : max la lb = la := by omega
  have hm : min la lb = lb := by omega
  rw [hn, hm] at hI
  rw [hn] at hh
  rw [hm] at hlt
  have CH := hide (fun w => half_any w ga la cap h hla hh)
  have hM := hE.eng.met
  have hgl := hM.lt
  have CE := hide (enter_any (l + 1) (max m (l + 1)) hM rfl rfl (by omega) (by omega))
  have e0 := hE.ptr
  have e1 := hE.eng.ptr
  have HE := hide hE
  have ngt : ¬ lb ≤ h := by omega
  have HI := hide hI
  have HS := hide hS
  have HD := hide hD
  have HR := hide hR
  have HR' := hide hR'
  have h2 : la ≤ 2 * h := by omega
  have hle : lb ≤ la := by omega
  have NG := hide ng
  have hcf := hI.go
  clear hE hM hI hS hD hR hR' hh hn hm
  clear _nk _ne ng _hbD _hbD'
  go_enter_defers Tryz.func62, Tryz.ntmps62
  go_wp2_with fail
  refine (unhide CH _).mono ?_
  rintro e w1 ⟨rfl, hw1⟩
  obtain rfl := hw1.symm
  clear hw1 CH
  go_wp2_with fail
  refine (unhide CE).mono ?_
  rintro e w1 ⟨rfl, M1, T1⟩
  have K1 := (unhide HE).step M1 T1
  have r1 := (unhide HR).touch (unhide HE).eng.met T1
  have r1' := (unhide HR').touch (unhide HE).eng.met T1
  have e0 := K1.ptr
  have e1 := K1.eng.ptr
  have s1 := T1.grown.size
  have O1 := hide (Out.of_grown T1.grown)
  clear CE M1 T1
  go_wp2_with fail
  refine (kcut_any _ _ _ _ _ _ h xs hxl hla (by omega) (by omega) (by omega) r1 hdx).mono ?_
  rintro e w2 ⟨v2, rfl, p2, b2⟩
  go_wp2_with fail
  refine (kcut_any _ _ _ _ _ _ h ys hyl hlb (by omega) (by omega) (by omega) (r1'.next b2) hdy).mono ?_
  rintro e w3 ⟨v3, rfl, p3, b3⟩
  obtain ⟨g0, g1, g2, zs, rfl, i0, i1, i2, k0, k1, k2, z0, z1, z2⟩ := p2.out
  obtain ⟨g0', g1', g2', zs', rfl, i0', i1', i2', k0', k1', k2', z0', z1', z2'⟩ := p3.out
  rw [hxl, hyl]
  have s2 := b2.size
  have s3 := b3.size
  have k0 : Blk w3 g0 _ := (b3.block _ k0.lt).trans k0
  have k1 : Blk w3 g1 _ := (b3.block _ k1.lt).trans k1
  have k2 : Blk w3 g2 _ := (b3.block _ k2.lt).trans k2
  have O3 := hide (((unhide O1).next b2).next b3)
  have K3 := (K1.next b2).next b3
  clear r1 r1' p2 p3 b2 b3 e0 e1
  obtain ⟨H1, hH1⟩ : ∃ H1, h + 1 = H1 := ⟨_, rfl⟩
  obtain ⟨n1, hn1⟩ : ∃ n1, la - h = n1 := ⟨_, rfl⟩
  obtain ⟨m1, hm1⟩ : ∃ m1, lb - h = m1 := ⟨_, rfl⟩
  have lx0 : (xs.take h).length = h := by simp; omega
  have ly0 : (ys.take h).length = h := by simp; omega
  have lx1 : (xs.drop h).length = n1 := by simp; omega
  have ly1 : (ys.drop h).length = m1 := by simp; omega
  have dx0 := wDig_take hdx h
  have dy0 := wDig_take hdy h
  have dx1 := wDig_drop hdx h
  have dy1 := wDig_drop hdy h
  rw [hH1, hn1, hm1]
  rw [hH1] at z0 z0'
  have HV := hide (kara_rows xs ys h)
  have HL : Hid (wval (xs.take h) * wval (ys.take h) + wval (xs.drop h) * wval (ys.drop h) ≤ wval zs * wval zs') := by
    show _ ≤ _
    rw [z2, z2']
    exact kara_le _ _ _ _
  have HP : Hid (wval zs * wval zs' < 18446744073709551616 ^ (H1 + H1)) := by
    show _ < _
    rw [Nat.pow_add]
    have q1 := wval_lt_pow z1
    have q2 := wval_lt_pow z1'
    rw [z0] at q1
    rw [z0'] at q2
    exact Nat.mul_lt_mul'' q1 q2
  rw [← z2, ← z2'] at HV
  clear z2 z2'
  -- the two boxes
  have bb : Below w3.heap.size w3 ((w3.alloc (.cells #[.slice (some ⟨g0, 0, none⟩) h h, .slice (some ⟨g1, 0, none⟩) n1 n1, .slice (some ⟨g2, 0, none⟩) H1 H1] 100)).alloc (.cells #[.slice (some ⟨g0', 0, none⟩) h h, .slice (some ⟨g1', 0, none⟩) m1 m1, .slice (some ⟨g2', 0, none⟩) H1 H1] 100)) := ((Below.refl _ _).alloc (Nat.le_refl _) _).alloc (by simp) _
  have kP := (((Below.refl _ _).alloc (Nat.le_refl _) (.cells #[.slice (some ⟨g0', 0, none⟩) h h, .slice (some ⟨g1', 0, none⟩) m1 m1, .slice (some ⟨g2', 0, none⟩) H1 H1] 100)).block w3.heap.size (by simp)).trans (heap_alloc_new w3 (.cells #[.slice (some ⟨g0, 0, none⟩) h h, .slice (some ⟨g1, 0, none⟩) n1 n1, .slice (some ⟨g2, 0, none⟩) H1 H1] 100))
  have kQ := heap_alloc_new (w3.alloc (.cells #[.slice (some ⟨g0, 0, none⟩) h h, .slice (some ⟨g1, 0, none⟩) n1 n1, .slice (some ⟨g2, 0, none⟩) H1 H1] 100)) (.cells #[.slice (some ⟨g0', 0, none⟩) h h, .slice (some ⟨g1', 0, none⟩) m1 m1, .slice (some ⟨g2', 0, none⟩) H1 H1] 100)
  have sQ : (w3.alloc (.cells #[.slice (some ⟨g0, 0, none⟩) h h, .slice (some ⟨g1, 0, none⟩) n1 n1, .slice (some ⟨g2, 0, none⟩) H1 H1] 100)).heap.size = w3.heap.size + 1 := by simp
  rw [sQ] at kQ
  obtain ⟨W0, hW0⟩ : ∃ W0, (w3.alloc (.cells #[.slice (some ⟨g0, 0, none⟩) h h, .slice (some ⟨g1, 0, none⟩) n1 n1, .slice (some ⟨g2, 0, none⟩) H1 H1] 100)).alloc (.cells #[.slice (some ⟨g0', 0, none⟩) h h, .slice (some ⟨g1', 0, none⟩) m1 m1, .slice (some ⟨g2', 0, none⟩) H1 H1] 100) = W0 := ⟨_, rfl⟩
  rw [hW0] at bb kP kQ
  obtain ⟨P0, hP0⟩ : ∃ P0, w3.heap.size = P0 := ⟨_, rfl⟩
  rw [hP0] at kP kQ
  have sW := bb.size
  have k0 : Blk W0 g0 _ := (bb.block _ k0.lt).trans k0
  have k1 : Blk W0 g1 _ := (bb.block _ k1.lt).trans k1
  have k2 : Blk W0 g2 _ := (bb.block _ k2.lt).trans k2
  have k0' : Blk W0 g0' _ := (bb.block _ k0'.lt).trans k0'
  have k1' : Blk W0 g1' _ := (bb.block _ k1'.lt).trans k1'
  have k2' : Blk W0 g2' _ := (bb.block _ k2'.lt).trans k2'
  have O3 := hide ((unhide O3).next bb)
  have S0 := hide (unhide HS _ (unhide O3) (K3.next bb))
  have DN : ∀ q, w.heap.size ≤ q → ¬ (D q ∨ q = g) := fun q hq x => by
    rcases x with x | x
    · have := unhide HD q x; omega
    · omega
  have DB : ∀ q, (D q ∨ q = g) → q < W0.heap.size := fun q x => by
    rcases x with x | x
    · have := unhide HD q x; omega
    · omega
  have HC : Hid (∀ W, Out (fun j => D j ∨ j = g) W0 W → W.cell? ⟨P0, 0, none⟩ = some (.slice (some ⟨g0, 0, none⟩) h h) ∧ W.cell? ⟨P0, 1, none⟩ = some (.slice (some ⟨g1, 0, none⟩) n1 n1) ∧ W.cell? ⟨P0, 2, none⟩ = some (.slice (some ⟨g2, 0, none⟩) H1 H1) ∧ W.cell? ⟨P0 + 1, 0, none⟩ = some (.slice (some ⟨g0', 0, none⟩) h h) ∧ W.cell? ⟨P0 + 1, 1, none⟩ = some (.slice (some ⟨g1', 0, none⟩) m1 m1) ∧ W.cell? ⟨P0 + 1, 2, none⟩ = some (.slice (some ⟨g2', 0, none⟩) H1 H1)) := fun W q => by
    have j0 := (q.block P0 (Array.getElem?_eq_some_iff.1 kP).1 (DN P0 (by omega))).trans kP
    have j1 := (q.block (P0 + 1) (Array.getElem?_eq_some_iff.1 kQ).1 (DN (P0 + 1) (by omega))).trans kQ
    exact ⟨cell_of_row _ P0 0 _ _ (0, 0) j0, cell_of_row _ P0 1 _ _ (0, 0) j0, cell_of_row _ P0 2 _ _ (0, 0) j0, cell_of_row _ (P0 + 1) 0 _ _ (0, 0) j1, cell_of_row _ (P0 + 1) 1 _ _ (0, 0) j1, cell_of_row _ (P0 + 1) 2 _ _ (0, 0) j1⟩
  have Q0 : Hid (∀ W, Out (fun j => D j ∨ j = g) W0 W → St 0 W → Calls Tryz.prog k (fs ++ (#[.slice (some ⟨g0, 0, none⟩) h h, .slice (some ⟨g0', 0, none⟩) h h] ++ cs)) W fun e W' => ∃ r, e = .returned r ∧ NewI W0.heap.size W' r (wval (xs.take h) * wval (ys.take h)) ∧ St 1 W' ∧ Out (fun j => D j ∨ j = g) W0 W' ∧ Out (fun j => D j ∨ j = g) W W') := fun W q st => by
    rw [← Array.append_assoc]
    refine ((unhide HI).call 0 W _ _ _ _ (by omega) st (inD_blk (q.blk k0 (DN _ (by omega))) lx0 dx0 (DN _ (by omega))) (inD_blk (q.blk k0' (DN _ (by omega))) ly0 dy0 (DN _ (by omega)))).mono ?_
    rintro e W' ⟨r, rfl, n, st', q'⟩
    exact ⟨r, rfl, n.mono q.size, st', q.trans q', q'⟩
  have Q1 : Hid (∀ W, Out (fun j => D j ∨ j = g) W0 W → St 1 W → Calls Tryz.prog k (fs ++ (#[.slice (some ⟨g1, 0, none⟩) n1 n1, .slice (some ⟨g1', 0, none⟩) m1 m1] ++ cs)) W fun e W' => ∃ r, e = .returned r ∧ NewI W0.heap.size W' r (wval (xs.drop h) * wval (ys.drop h)) ∧ St 2 W' ∧ Out (fun j => D j ∨ j = g) W0 W' ∧ Out (fun j => D j ∨ j = g) W W') := fun W q st => by
    rw [← Array.append_assoc]
    refine ((unhide HI).call 1 W _ _ _ _ (by omega) st (by rw [show (klen la lb h 1).1 = n1 from hn1]; exact inD_blk (q.blk k1 (DN _ (by omega))) lx1 dx1 (DN _ (by omega))) (by rw [show (klen la lb h 1).2 = m1 from hm1]; exact inD_blk (q.blk k1' (DN _ (by omega))) ly1 dy1 (DN _ (by omega)))).mono ?_
    rintro e W' ⟨r, rfl, n, st', q'⟩
    exact ⟨r, rfl, n.mono q.size, st', q.trans q', q'⟩
  have Q2 : Hid (∀ W, Out (fun j => D j ∨ j = g) W0 W → St 2 W → Calls Tryz.prog k (fs ++ (#[.slice (some ⟨g2, 0, none⟩) H1 H1, .slice (some ⟨g2', 0, none⟩) H1 H1] ++ cs)) W fun e W' => ∃ r, e = .returned r ∧ NewI W0.heap.size W' r (wval zs * wval zs') ∧ St 3 W' ∧ Out (fun j => D j ∨ j = g) W0 W' ∧ Out (fun j => D j ∨ j = g) W W') := fun W q st => by
    rw [← Array.append_assoc]
    refine ((unhide HI).call 2 W _ _ _ _ (by omega) st (by rw [show (klen la lb h 2).1 = H1 from hH1]; exact inD_blk (q.blk k2 (DN _ (by omega))) z0 z1 (DN _ (by omega))) (by rw [show (klen la lb h 2).2 = H1 from hH1]; exact inD_blk (q.blk k2' (DN _ (by omega))) z0' z1' (DN _ (by omega)))).mono ?_
    rintro e W' ⟨r, rfl, n, st', q'⟩
    exact ⟨r, rfl, n.mono q.size, st', q.trans q', q'⟩
  have DB := hide DB
  have h16 : h ≤ 16384 := by omega
  have HH1 : Hid (H1 + H1 ≤ 1073741824) := by show _ ≤ _; omega
  have sW0 := hide (show w.heap.size ≤ W0.heap.size by omega)
  have hl2 := hide hl0
  have hl3 := hide hl1
  generalize wval (xs.take h) = X0 at *
  generalize wval (xs.drop h) = X1 at *
  generalize wval (ys.take h) = Y0 at *
  generalize wval (ys.drop h) = Y1 at *
  generalize wval zs = X2 at *
  generalize wval zs' = Y2 at *
  clear k0 k1 k2 k0' k1' k2' kP kQ K3 K1 HE HS HR HR' HD lx0 lx1 ly0 ly1 dx0 dx1 dy0 dy1 z0 z0' z1 z1' DN sQ bb O1 i0 i1 i2 i0' i1' i2' s1 s2 s3 sW hgl hH1 hn1 hm1 hl0 hl1
  go_wp2
  clear hW0
  obtain ⟨p0, p1, p2, p3, p4, p5⟩ := unhide HC W0 (Out.refl _ _)
  have st0 := (unhide HI).next 0 W0 W0.drew (unhide S0) ((Below.refl _ _).drew)
  have o0 : Out (fun j => D j ∨ j = g) W0 W0.drew := Out.of_below ((Below.refl _ _).drew)
  go_region_held3 (fun w' => w'.cell? ⟨P0, 0, none⟩ = some (.slice (some ⟨g0, 0, none⟩) h h) ∧ w'.cell? ⟨P0, 1, none⟩ = some (.slice (some ⟨g1, 0, none⟩) n1 n1) ∧ w'.cell? ⟨P0, 2, none⟩ = some (.slice (some ⟨g2, 0, none⟩) H1 H1) ∧ w'.cell? ⟨P0 + 1, 0, none⟩ = some (.slice (some ⟨g0', 0, none⟩) h h) ∧ w'.cell? ⟨P0 + 1, 1, none⟩ = some (.slice (some ⟨g1', 0, none⟩) m1 m1) ∧ w'.cell? ⟨P0 + 1, 2, none⟩ = some (.slice (some ⟨g2', 0, none⟩) H1 H1)) (first | (exact unhide HC _ o4) | (exact unhide HC _ o3) | (exact unhide HC _ o2) | (exact unhide HC _ o1) | (exact unhide HC _ o0) | go_keep) (first
    | (refine (unhide Q0 _ o0 st0).mono ?_; rintro e w5 ⟨r5, rfl, n5, st1, o1, q1⟩; obtain ⟨p0, p1, p2, p3, p4, p5⟩ := unhide HC _ o1)
    | (refine (unhide Q1 _ o1 st1).mono ?_; rintro e w6 ⟨r6, rfl, n6, st2, o2, q2⟩; have n5 := n5.out q2 (unhide DB); obtain ⟨p0, p1, p2, p3, p4, p5⟩ := unhide HC _ o2)
    | (refine (unhide Q2 _ o2 st2).mono ?_; rintro e w7 ⟨r7, rfl, n7, st3, o3, q3⟩; have n5 := n5.out q3 (unhide DB); have n6 := n6.out q3 (unhide DB); obtain ⟨p0, p1, p2, p3, p4, p5⟩ := unhide HC _ o3)
    | (go_at_call 78; refine (kjoin_any _ _ _ _ _ _ _ h (H1 + H1) h16 (unhide HH1) (unhide HP) (unhide HL) n5.inW n6.inW n7.inW).mono ?_; rintro e w8 ⟨r8, rfl, n8, b8⟩; have o4 := o3.next b8; obtain ⟨p0, p1, p2, p3, p4, p5⟩ := unhide HC _ o4)
    | fail)
  have st8 := (unhide HI).next 3 w7 w8 st3 b8
  obtain ⟨s8, m8, K8⟩ := (unhide HI).eng 3 w8 st8
  rw [unhide HV] at n8
  have ST8 := hide st8
  have M8 := hide K8.eng.met
  have OA := hide (((unhide O3).mono (fun k e => Or.inr e)).trans o4)
  have N8 := hide n8
  have SZ := hide (Nat.le_trans (unhide sW0) o3.size)
  have GL := hide (Nat.lt_of_lt_of_le (unhide DB g (Or.inr rfl)) o3.size)
  clear p0 p1 p2 p3 p4 p5 n5 n6 n7 n8 st8 st3 st2 st1 st0 o4 o3 o2 o1 o0 q1 q2 q3 b8 K8 HV HL HP HC Q0 Q1 Q2 hcf S0
  go_wp2
  refine leaves_cons (f := 67) (args := #[.pointer (some ⟨g, 0, none⟩)]) (by simp) (by simp [go_sem]) ?_
  refine (leave_deferred l .returning (unhide M8) (by have := unhide hl2; omega) (by have := unhide hl2; omega) (by have := unhide hl3; omega)).mono ?_
  rintro e u' w9 ⟨rfl, rfl, M9, T9⟩
  have O9 := Out.of_grown T9.grown
  refine ⟨_, results_tmp2 rfl _ _ _, r8, w8, rfl, ?_, unhide ST8, O9, ?_, ?_⟩
  · skip
    exact (O9.newW (unhide N8) (fun k e => by rw [e]; exact unhide GL)).mono (unhide SZ)
  · intro s' m' K
    obtain ⟨rfl, _, rfl⟩ := K.eng.met.one (unhide M8)
    exact K.step M9 T9
  · exact (unhide OA).trans (O9.mono (fun k e => Or.inr e))

set_option maxRecDepth 100000 in
set_option maxHeartbeats 6400000 in
theorem kara_ba (w : World) (gk ge g : Nat) (s l m : Int) (T : Tab) (ga gb : Option Addr) (b o cap la b' o' cap' lb h : Nat) (xs ys : List Nat) (k : Nat) (fs cs : Array Value) (D : Nat → Prop) (St : Nat → World → Prop)
  (hE : KEng w gk ge g s l m T) (hl0 : 0 ≤ l) (hl1 : l ≤ 1000000) (hxl : xs.length = la) (hR : Rep w ga b o cap xs) (hdx : WDig xs) (_hbD : 0 < la → ¬ D b) (hyl : ys.length = lb) (hR' : Rep w gb b' o' cap' ys) (hdy : WDig ys) (_hbD' : 0 < lb → ¬ D b') (hla : la ≤ 16384) (hlb : lb ≤ 16384)
  (hh : h = (max la lb + 1) / 2) (hlt : h < min la lb) (_nk : ¬ D gk) (_ne : ¬ D ge) (ng : ¬ D g) (hD : ∀ j, D j → j < w.heap.size) (hI : Inn2 gk ge g l T (max la lb) (min la lb) h k fs cs D St)
  (hS : ∀ W, Out (· = g) w W → KEng W gk ge g s (l + 1) (max m (l + 1)) T → St 0 W) (hsw : la < lb) :
  Calls Tryz.prog 62 #[.pointer (some ⟨gk, 0, none⟩), .slice ga la cap, .slice gb lb cap', .func (.func k) fs cs] w fun e w' => ∃ v W, e = .returned (.tuple #[v, .bool true]) ∧ NewW w.heap.size w' v (wval xs * wval ys) ∧ St 3 W ∧ Out (· = g) W w' ∧ (∀ s' m', KEng W gk ge g s' (l + 1) m' T → KEng w' gk ge g s' l m' T) ∧ Out (fun j => D j ∨ j = g) w w' := by
  have hn : max la lb = lb := by omega
  have hm : min la lb = la := by omega
  rw [hn, hm] at hI
  rw [hn] at hh
  rw [hm] at hlt
  have CH := hide (fun w => half_any w gb lb cap' h hlb hh)
  have hM := hE.eng.met
  have hgl := hM.lt
  have CE := hide (enter_any (l + 1) (max m (l + 1)) hM rfl rfl (by omega) (by omega))
  have e0 := hE.ptr
  have e1 := hE.eng.ptr
  have HE := hide hE
  have ngt : ¬ la ≤ h := by omega
  have HI := hide hI
  have HS := hide hS
  have HD := hide hD
  have HR := hide hR
  have HR' := hide hR'
  have h2 : lb ≤ 2 * h := by omega
  have hle : la ≤ lb := by omega
  have NG := hide ng
  have hcf := hI.go
  clear hE hM hI hS hD hR hR' hh hn hm
  clear _nk _ne ng _hbD _hbD'
  go_enter_defers Tryz.func62, Tryz.ntmps62
  go_wp2_with fail
  refine (unhide CH _).mono ?_
  rintro e w1 ⟨rfl, hw1⟩
  obtain rfl := hw1.symm
  clear hw1 CH
  go_wp2_with fail
  refine (unhide CE).mono ?_
  rintro e w1 ⟨rfl, M1, T1⟩
  have K1 := (unhide HE).step M1 T1
  have r1 := (unhide HR').touch (unhide HE).eng.met T1
  have r1' := (unhide HR).touch (unhide HE).eng.met T1
  have e0 := K1.ptr
  have e1 := K1.eng.ptr
  have s1 := T1.grown.size
  have O1 := hide (Out.of_grown T1.grown)
  clear CE M1 T1
  go_wp2_with fail
  refine (kcut_any _ _ _ _ _ _ h ys hyl hlb (by omega) (by omega) (by omega) r1 hdy).mono ?_
  rintro e w2 ⟨v2, rfl, p2, b2⟩
  go_wp2_with fail
  refine (kcut_any _ _ _ _ _ _ h xs hxl hla (by omega) (by omega) (by omega) (r1'.next b2) hdx).mono ?_
  rintro e w3 ⟨v3, rfl, p3, b3⟩
  obtain ⟨g0, g1, g2, zs, rfl, i0, i1, i2, k0, k1, k2, z0, z1, z2⟩ := p2.out
  obtain ⟨g0', g1', g2', zs', rfl, i0', i1', i2', k0', k1', k2', z0', z1', z2'⟩ := p3.out
  rw [hyl, hxl]
  have s2 := b2.size
  have s3 := b3.size
  have k0 : Blk w3 g0 _ := (b3.block _ k0.lt).trans k0
  have k1 : Blk w3 g1 _ := (b3.block _ k1.lt).trans k1
  have k2 : Blk w3 g2 _ := (b3.block _ k2.lt).trans k2
  have O3 := hide (((unhide O1).next b2).next b3)
  have K3 := (K1.next b2).next b3
  clear r1 r1' p2 p3 b2 b3 e0 e1
  obtain ⟨H1, hH1⟩ : ∃ H1, h + 1 = H1 := ⟨_, rfl⟩
  obtain ⟨n1, hn1⟩ : ∃ n1, lb - h = n1 := ⟨_, rfl⟩
  obtain ⟨m1, hm1⟩ : ∃ m1, la - h = m1 := ⟨_, rfl⟩
  have lx0 : (ys.take h).length = h := by simp; omega
  have ly0 : (xs.take h).length = h := by simp; omega
  have lx1 : (ys.drop h).length = n1 := by simp; omega
  have ly1 : (xs.drop h).length = m1 := by simp; omega
  have dx0 := wDig_take hdy h
  have dy0 := wDig_take hdx h
  have dx1 := wDig_drop hdy h
  have dy1 := wDig_drop hdx h
  rw [hH1, hn1, hm1]
  rw [hH1] at z0 z0'
  have HV := hide (kara_rows ys xs h)
  have HL : Hid (wval (ys.take h) * wval (xs.take h) + wval (ys.drop h) * wval (xs.drop h) ≤ wval zs * wval zs') := by
    show _ ≤ _
    rw [z2, z2']
    exact kara_le _ _ _ _
  have HP : Hid (wval zs * wval zs' < 18446744073709551616 ^ (H1 + H1)) := by
    show _ < _
    rw [Nat.pow_add]
    have q1 := wval_lt_pow z1
    have q2 := wval_lt_pow z1'
    rw [z0] at q1
    rw [z0'] at q2
    exact Nat.mul_lt_mul'' q1 q2
  rw [← z2, ← z2'] at HV
  clear z2 z2'
  -- the two boxes
  have bb : Below w3.heap.size w3 ((w3.alloc (.cells #[.slice (some ⟨g0, 0, none⟩) h h, .slice (some ⟨g1, 0, none⟩) n1 n1, .slice (some ⟨g2, 0, none⟩) H1 H1] 100)).alloc (.cells #[.slice (some ⟨g0', 0, none⟩) h h, .slice (some ⟨g1', 0, none⟩) m1 m1, .slice (some ⟨g2', 0, none⟩) H1 H1] 100)) := ((Below.refl _ _).alloc (Nat.le_refl _) _).alloc (by simp) _
  have kP := (((Below.refl _ _).alloc (Nat.le_refl _) (.cells #[.slice (some ⟨g0', 0, none⟩) h h, .slice (some ⟨g1', 0, none⟩) m1 m1, .slice (some ⟨g2', 0, none⟩) H1 H1] 100)).block w3.heap.size (by simp)).trans (heap_alloc_new w3 (.cells #[.slice (some ⟨g0, 0, none⟩) h h, .slice (some ⟨g1, 0, none⟩) n1 n1, .slice (some ⟨g2, 0, none⟩) H1 H1] 100))
  have kQ := heap_alloc_new (w3.alloc (.cells #[.slice (some ⟨g0, 0, none⟩) h h, .slice (some ⟨g1, 0, none⟩) n1 n1, .slice (some ⟨g2, 0, none⟩) H1 H1] 100)) (.cells #[.slice (some ⟨g0', 0, none⟩) h h, .slice (some ⟨g1', 0, none⟩) m1 m1, .slice (some ⟨g2', 0, none⟩) H1 H1] 100)
  have sQ : (w3.alloc (.cells #[.slice (some ⟨g0, 0, none⟩) h h, .slice (some ⟨g1, 0, none⟩) n1 n1, .slice (some ⟨g2, 0, none⟩) H1 H1] 100)).heap.size = w3.heap.size + 1 := by simp
  rw [sQ] at kQ
  obtain ⟨W0, hW0⟩ : ∃ W0, (w3.alloc (.cells #[.slice (some ⟨g0, 0, none⟩) h h, .slice (some ⟨g1, 0, none⟩) n1 n1, .slice (some ⟨g2, 0, none⟩) H1 H1] 100)).alloc (.cells #[.slice (some ⟨g0', 0, none⟩) h h, .slice (some ⟨g1', 0, none⟩) m1 m1, .slice (some ⟨g2', 0, none⟩) H1 H1] 100) = W0 := ⟨_, rfl⟩
  rw [hW0] at bb kP kQ
  obtain ⟨P0, hP0⟩ : ∃ P0, w3.heap.size = P0 := ⟨_, rfl⟩
  rw [hP0] at kP kQ
  have sW := bb.size
  have k0 : Blk W0 g0 _ := (bb.block _ k0.lt).trans k0
  have k1 : Blk W0 g1 _ := (bb.block _ k1.lt).trans k1
  have k2 : Blk W0 g2 _ := (bb.block _ k2.lt).trans k2
  have k0' : Blk W0 g0' _ := (bb.block _ k0'.lt).trans k0'
  have k1' : Blk W0 g1' _ := (bb.block _ k1'.lt).trans k1'
  have k2' : Blk W0 g2' _ := (bb.block _ k2'.lt).trans k2'
  have O3 := hide ((unhide O3).next bb)
  have S0 := hide (unhide HS _ (unhide O3) (K3.next bb))
  have DN : ∀ q, w.heap.size ≤ q → ¬ (D q ∨ q = g) := fun q hq x => by
    rcases x with x | x
    · have := unhide HD q x; omega
    · omega
  have DB : ∀ q, (D q ∨ q = g) → q < W0.heap.size := fun q x => by
    rcases x with x | x
    · have := unhide HD q x; omega
    · omega
  have HC : Hid (∀ W, Out (fun j => D j ∨ j = g) W0 W → W.cell? ⟨P0, 0, none⟩ = some (.slice (some ⟨g0, 0, none⟩) h h) ∧ W.cell? ⟨P0, 1, none⟩ = some (.slice (some ⟨g1, 0, none⟩) n1 n1) ∧ W.cell? ⟨P0, 2, none⟩ = some (.slice (some ⟨g2, 0, none⟩) H1 H1) ∧ W.cell? ⟨P0 + 1, 0, none⟩ = some (.slice (some ⟨g0', 0, none⟩) h h) ∧ W.cell? ⟨P0 + 1, 1, none⟩ = some (.slice (some ⟨g1', 0, none⟩) m1 m1) ∧ W.cell? ⟨P0 + 1, 2, none⟩ = some (.slice (some ⟨g2', 0, none⟩) H1 H1)) := fun W q => by
    have j0 := (q.block P0 (Array.getElem?_eq_some_iff.1 kP).1 (DN P0 (by omega))).trans kP
    have j1 := (q.block (P0 + 1) (Array.getElem?_eq_some_iff.1 kQ).1 (DN (P0 + 1) (by omega))).trans kQ
    exact ⟨cell_of_row _ P0 0 _ _ (0, 0) j0, cell_of_row _ P0 1 _ _ (0, 0) j0, cell_of_row _ P0 2 _ _ (0, 0) j0, cell_of_row _ (P0 + 1) 0 _ _ (0, 0) j1, cell_of_row _ (P0 + 1) 1 _ _ (0, 0) j1, cell_of_row _ (P0 + 1) 2 _ _ (0, 0) j1⟩
  have Q0 : Hid (∀ W, Out (fun j => D j ∨ j = g) W0 W → St 0 W → Calls Tryz.prog k (fs ++ (#[.slice (some ⟨g0, 0, none⟩) h h, .slice (some ⟨g0', 0, none⟩) h h] ++ cs)) W fun e W' => ∃ r, e = .returned r ∧ NewI W0.heap.size W' r (wval (ys.take h) * wval (xs.take h)) ∧ St 1 W' ∧ Out (fun j => D j ∨ j = g) W0 W' ∧ Out (fun j => D j ∨ j = g) W W') := fun W q st => by
    rw [← Array.append_assoc]
    refine ((unhide HI).call 0 W _ _ _ _ (by omega) st (inD_blk (q.blk k0 (DN _ (by omega))) lx0 dx0 (DN _ (by omega))) (inD_blk (q.blk k0' (DN _ (by omega))) ly0 dy0 (DN _ (by omega)))).mono ?_
    rintro e W' ⟨r, rfl, n, st', q'⟩
    exact ⟨r, rfl, n.mono q.size, st', q.trans q', q'⟩
  have Q1 : Hid (∀ W, Out (fun j => D j ∨ j = g) W0 W → St 1 W → Calls Tryz.prog k (fs ++ (#[.slice (some ⟨g1, 0, none⟩) n1 n1, .slice (some ⟨g1', 0, none⟩) m1 m1] ++ cs)) W fun e W' => ∃ r, e = .returned r ∧ NewI W0.heap.size W' r (wval (ys.drop h) * wval (xs.drop h)) ∧ St 2 W' ∧ Out (fun j => D j ∨ j = g) W0 W' ∧ Out (fun j => D j ∨ j = g) W W') := fun W q st => by
    rw [← Array.append_assoc]
    refine ((unhide HI).call 1 W _ _ _ _ (by omega) st (by rw [show (klen lb la h 1).1 = n1 from hn1]; exact inD_blk (q.blk k1 (DN _ (by omega))) lx1 dx1 (DN _ (by omega))) (by rw [show (klen lb la h 1).2 = m1 from hm1]; exact inD_blk (q.blk k1' (DN _ (by omega))) ly1 dy1 (DN _ (by omega)))).mono ?_
    rintro e W' ⟨r, rfl, n, st', q'⟩
    exact ⟨r, rfl, n.mono q.size, st', q.trans q', q'⟩
  have Q2 : Hid (∀ W, Out (fun j => D j ∨ j = g) W0 W → St 2 W → Calls Tryz.prog k (fs ++ (#[.slice (some ⟨g2, 0, none⟩) H1 H1, .slice (some ⟨g2', 0, none⟩) H1 H1] ++ cs)) W fun e W' => ∃ r, e = .returned r ∧ NewI W0.heap.size W' r (wval zs * wval zs') ∧ St 3 W' ∧ Out (fun j => D j ∨ j = g) W0 W' ∧ Out (fun j => D j ∨ j = g) W W') := fun W q st => by
    rw [← Array.append_assoc]
    refine ((unhide HI).call 2 W _ _ _ _ (by omega) st (by rw [show (klen lb la h 2).1 = H1 from hH1]; exact inD_blk (q.blk k2 (DN _ (by omega))) z0 z1 (DN _ (by omega))) (by rw [show (klen lb la h 2).2 = H1 from hH1]; exact inD_blk (q.blk k2' (DN _ (by omega))) z0' z1' (DN _ (by omega)))).mono ?_
    rintro e W' ⟨r, rfl, n, st', q'⟩
    exact ⟨r, rfl, n.mono q.size, st', q.trans q', q'⟩
  have DB := hide DB
  have h16 : h ≤ 16384 := by omega
  have HH1 : Hid (H1 + H1 ≤ 1073741824) := by show _ ≤ _; omega
  have sW0 := hide (show w.heap.size ≤ W0.heap.size by omega)
  have hl2 := hide hl0
  have hl3 := hide hl1
  generalize wval (ys.take h) = X0 at *
  generalize wval (ys.drop h) = X1 at *
  generalize wval (xs.take h) = Y0 at *
  generalize wval (xs.drop h) = Y1 at *
  generalize wval zs = X2 at *
  generalize wval zs' = Y2 at *
  clear k0 k1 k2 k0' k1' k2' kP kQ K3 K1 HE HS HR HR' HD lx0 lx1 ly0 ly1 dx0 dx1 dy0 dy1 z0 z0' z1 z1' DN sQ bb O1 i0 i1 i2 i0' i1' i2' s1 s2 s3 sW hgl hH1 hn1 hm1 hl0 hl1
  go_wp2
  clear hW0
  obtain ⟨p0, p1, p2, p3, p4, p5⟩ := unhide HC W0 (Out.refl _ _)
  have st0 := (unhide HI).next 0 W0 W0.drew (unhide S0) ((Below.refl _ _).drew)
  have o0 : Out (fun j => D j ∨ j = g) W0 W0.drew := Out.of_below ((Below.refl _ _).drew)
  go_region_held3 (fun w' => w'.cell? ⟨P0, 0, none⟩ = some (.slice (some ⟨g0, 0, none⟩) h h) ∧ w'.cell? ⟨P0, 1, none⟩ = some (.slice (some ⟨g1, 0, none⟩) n1 n1) ∧ w'.cell? ⟨P0, 2, none⟩ = some (.slice (some ⟨g2, 0, none⟩) H1 H1) ∧ w'.cell? ⟨P0 + 1, 0, none⟩ = some (.slice (some ⟨g0', 0, none⟩) h h) ∧ w'.cell? ⟨P0 + 1, 1, none⟩ = some (.slice (some ⟨g1', 0, none⟩) m1 m1) ∧ w'.cell? ⟨P0 + 1, 2, none⟩ = some (.slice (some ⟨g2', 0, none⟩) H1 H1)) (first | (exact unhide HC _ o4) | (exact unhide HC _ o3) | (exact unhide HC _ o2) | (exact unhide HC _ o1) | (exact unhide HC _ o0) | go_keep) (first
    | (refine (unhide Q0 _ o0 st0).mono ?_; rintro e w5 ⟨r5, rfl, n5, st1, o1, q1⟩; obtain ⟨p0, p1, p2, p3, p4, p5⟩ := unhide HC _ o1)
    | (refine (unhide Q1 _ o1 st1).mono ?_; rintro e w6 ⟨r6, rfl, n6, st2, o2, q2⟩; have n5 := n5.out q2 (unhide DB); obtain ⟨p0, p1, p2, p3, p4, p5⟩ := unhide HC _ o2)
    | (refine (unhide Q2 _ o2 st2).mono ?_; rintro e w7 ⟨r7, rfl, n7, st3, o3, q3⟩; have n5 := n5.out q3 (unhide DB); have n6 := n6.out q3 (unhide DB); obtain ⟨p0, p1, p2, p3, p4, p5⟩ := unhide HC _ o3)
    | (go_at_call 78; refine (kjoin_any _ _ _ _ _ _ _ h (H1 + H1) h16 (unhide HH1) (unhide HP) (unhide HL) n5.inW n6.inW n7.inW).mono ?_; rintro e w8 ⟨r8, rfl, n8, b8⟩; have o4 := o3.next b8; obtain ⟨p0, p1, p2, p3, p4, p5⟩ := unhide HC _ o4)
    | fail)
  have st8 := (unhide HI).next 3 w7 w8 st3 b8
  obtain ⟨s8, m8, K8⟩ := (unhide HI).eng 3 w8 st8
  rw [unhide HV] at n8
  have ST8 := hide st8
  have M8 := hide K8.eng.met
  have OA := hide (((unhide O3).mono (fun k e => Or.inr e)).trans o4)
  have N8 := hide n8
  have SZ := hide (Nat.le_trans (unhide sW0) o3.size)
  have GL := hide (Nat.lt_of_lt_of_le (unhide DB g (Or.inr rfl)) o3.size)
  clear p0 p1 p2 p3 p4 p5 n5 n6 n7 n8 st8 st3 st2 st1 st0 o4 o3 o2 o1 o0 q1 q2 q3 b8 K8 HV HL HP HC Q0 Q1 Q2 hcf S0
  go_wp2
  refine leaves_cons (f := 67) (args := #[.pointer (some ⟨g, 0, none⟩)]) (by simp) (by simp [go_sem]) ?_
  refine (leave_deferred l .returning (unhide M8) (by have := unhide hl2; omega) (by have := unhide hl2; omega) (by have := unhide hl3; omega)).mono ?_
  rintro e u' w9 ⟨rfl, rfl, M9, T9⟩
  have O9 := Out.of_grown T9.grown
  refine ⟨_, results_tmp2 rfl _ _ _, r8, w8, rfl, ?_, unhide ST8, O9, ?_, ?_⟩
  · rw [Nat.mul_comm]
    exact (O9.newW (unhide N8) (fun k e => by rw [e]; exact unhide GL)).mono (unhide SZ)
  · intro s' m' K
    obtain ⟨rfl, _, rfl⟩ := K.eng.met.one (unhide M8)
    exact K.step M9 T9
  · exact (unhide OA).trans (O9.mono (fun k e => Or.inr e))

theorem spec_kara : SpecKara := by
  intro w gk ge g s l m T ga gb b o cap la b' o' cap' lb h xs ys k fs cs D St hE hl0 hl1 hxl hR hdx hbD hyl hR' hdy hbD' hla hlb hh hlt nk ne ng hD hI hS
  by_cases hsw : la < lb
  · exact kara_ba w gk ge g s l m T ga gb b o cap la b' o' cap' lb h xs ys k fs cs D St hE hl0 hl1 hxl hR hdx hbD hyl hR' hdy hbD' hla hlb hh hlt nk ne ng hD hI hS hsw
  · exact kara_ab w gk ge g s l m T ga gb b o cap la b' o' cap' lb h xs ys k fs cs D St hE hl0 hl1 hxl hR hdx hbD hyl hR' hdy hbD' hla hlb hh hlt nk ne ng hD hI hS hsw

end Go.Proofs.YtiekgpphggejcaaGreatDoor

/- Between the five calls of inner: the box of the product's values. Written by gen_otoom.py. -/
namespace Go.Proofs.YtiekgpphggejcaaGreatDoor
open Go.RowKit

theorem Vb.inD {F E : Nat → Prop} {B g l v : Nat} {w W : World} {zs : List Nat} (h : Vb B w g zs l v) (q : Out F w W) (hf : ¬ F g) (he : ¬ E g) : InD E W (.slice (some ⟨g, 0, none⟩) l l) v l := by
  have := inD_blk (q.blk h.blk hf) h.len h.dig he
  rwa [h.val] at this

/-- Behind i calls of inner: the box Z holds the first i products; W0 is the world ahead of the first call. -/
structure TRnd (B0 : Nat) (D : Nat → Prop) (g Z : Nat) (bl : Bool) (St : Nat → World → Prop) (W0 wr : World) (i : Nat) (v0 v1 v2 v3 v4 : Value) (P0 P1 P2 P3 P4 : Nat) : Prop where
  st : St i wr
  box : VBl wr Z [v0, v1, v2, v3, v4, .bool bl] 105
  out : Out (fun j => (D j ∨ j = g) ∨ j = Z) W0 wr
  r0 : 0 < i → NewI B0 wr v0 P0
  r1 : 1 < i → NewI B0 wr v1 P1
  r2 : 2 < i → NewI B0 wr v2 P2
  r3 : 3 < i → NewI B0 wr v3 P3
  r4 : 4 < i → NewI B0 wr v4 P4
theorem TRnd.box5 {B0 g Z : Nat} {D : Nat → Prop} {bl : Bool} {St : Nat → World → Prop} {W0 wr w5 : World} {i : Nat} {v0 v1 v2 v3 v4 : Value} {P0 P1 P2 P3 P4 : Nat} (h : TRnd B0 D g Z bl St W0 wr i v0 v1 v2 v3 v4 P0 P1 P2 P3 P4) (o : Out (fun j => D j ∨ j = g) wr w5) (hz : ¬ (D Z ∨ Z = g)) : VBl w5 Z [v0, v1, v2, v3, v4, .bool bl] 105 :=
  (o.block Z h.box.lt hz).trans h.box
theorem box6_c0 {w : World} {Z t : Nat} {v0 v1 v2 v3 v4 x : Value} (h : VBl w Z [v0, v1, v2, v3, v4, x] t) : w.cell? ⟨Z, 0, none⟩ = some v0 := h.cell 0 (by simp)
theorem box6_c1 {w : World} {Z t : Nat} {v0 v1 v2 v3 v4 x : Value} (h : VBl w Z [v0, v1, v2, v3, v4, x] t) : w.cell? ⟨Z, 1, none⟩ = some v1 := h.cell 1 (by simp)
theorem box6_c2 {w : World} {Z t : Nat} {v0 v1 v2 v3 v4 x : Value} (h : VBl w Z [v0, v1, v2, v3, v4, x] t) : w.cell? ⟨Z, 2, none⟩ = some v2 := h.cell 2 (by simp)
theorem box6_c3 {w : World} {Z t : Nat} {v0 v1 v2 v3 v4 x : Value} (h : VBl w Z [v0, v1, v2, v3, v4, x] t) : w.cell? ⟨Z, 3, none⟩ = some v3 := h.cell 3 (by simp)
theorem box6_c4 {w : World} {Z t : Nat} {v0 v1 v2 v3 v4 x : Value} (h : VBl w Z [v0, v1, v2, v3, v4, x] t) : w.cell? ⟨Z, 4, none⟩ = some v4 := h.cell 4 (by simp)
theorem TRnd.drew {B B0 g Z : Nat} {D : Nat → Prop} {bl : Bool} {St : Nat → World → Prop} {W0 wr : World} {i : Nat} {v0 v1 v2 v3 v4 : Value} {P0 P1 P2 P3 P4 : Nat} (h : TRnd B0 D g Z bl St W0 wr i v0 v1 v2 v3 v4 P0 P1 P2 P3 P4) (nx : ∀ i W W', St i W → Out (fun j => B ≤ j) W W' → St i W') : TRnd B0 D g Z bl St W0 wr.drew i v0 v1 v2 v3 v4 P0 P1 P2 P3 P4 :=
  have b : Below wr.heap.size wr wr.drew := (Below.refl _ _).drew
  ⟨nx i wr _ h.st (Out.of_below b), h.box.next b, h.out.next b, fun e => (h.r0 e).next b, fun e => (h.r1 e).next b, fun e => (h.r2 e).next b, fun e => (h.r3 e).next b, fun e => (h.r4 e).next b⟩
theorem TRnd.step0 {B B0 g Z : Nat} {D : Nat → Prop} {bl : Bool} {St : Nat → World → Prop} {W0 wr w5 : World} {v0 v1 v2 v3 v4 r : Value} {P0 P1 P2 P3 P4 : Nat} (h : TRnd B0 D g Z bl St W0 wr 0 v0 v1 v2 v3 v4 P0 P1 P2 P3 P4) (nx : ∀ i W W', St i W → Out (fun j => B ≤ j) W W' → St i W') (hZ0 : B ≤ Z) (hz : ¬ (D Z ∨ Z = g)) (hdb : ∀ k, (D k ∨ k = g) ∨ k = Z → k < B0)
    (nr : NewI B0 w5 r P0) (st : St 1 w5) (o : Out (fun j => D j ∨ j = g) wr w5) : TRnd B0 D g Z bl St W0 (w5.setCell ⟨Z, 0, none⟩ r) 1 r v1 v2 v3 v4 P0 P1 P2 P3 P4 := by
  have gr := Out.of_grown (grown_set w5 Z 0 r)
  have hk : ∀ k, k = Z → k < B0 := fun k e => hdb k (Or.inr e)
  refine ⟨nx 1 w5 _ st (gr.mono (fun k (e : k = Z) => by rw [e]; exact hZ0)), (h.box5 o hz).set 0 r, (h.out.trans (o.mono (fun k e => Or.inl e))).trans (gr.mono (fun k e => Or.inr e)), fun _ => nr.out gr hk, fun h => absurd h (by decide), fun h => absurd h (by decide), fun h => absurd h (by decide), fun h => absurd h (by decide)⟩
theorem TRnd.step1 {B B0 g Z : Nat} {D : Nat → Prop} {bl : Bool} {St : Nat → World → Prop} {W0 wr w5 : World} {v0 v1 v2 v3 v4 r : Value} {P0 P1 P2 P3 P4 : Nat} (h : TRnd B0 D g Z bl St W0 wr 1 v0 v1 v2 v3 v4 P0 P1 P2 P3 P4) (nx : ∀ i W W', St i W → Out (fun j => B ≤ j) W W' → St i W') (hZ0 : B ≤ Z) (hz : ¬ (D Z ∨ Z = g)) (hdb : ∀ k, (D k ∨ k = g) ∨ k = Z → k < B0)
    (nr : NewI B0 w5 r P1) (st : St 2 w5) (o : Out (fun j => D j ∨ j = g) wr w5) : TRnd B0 D g Z bl St W0 (w5.setCell ⟨Z, 1, none⟩ r) 2 v0 r v2 v3 v4 P0 P1 P2 P3 P4 := by
  have gr := Out.of_grown (grown_set w5 Z 1 r)
  have hk : ∀ k, k = Z → k < B0 := fun k e => hdb k (Or.inr e)
  refine ⟨nx 2 w5 _ st (gr.mono (fun k (e : k = Z) => by rw [e]; exact hZ0)), (h.box5 o hz).set 1 r, (h.out.trans (o.mono (fun k e => Or.inl e))).trans (gr.mono (fun k e => Or.inr e)), fun _ => (((h.r0 (by decide)).out o (fun k hk => hdb k (Or.inl hk))).out gr hk), fun _ => nr.out gr hk, fun h => absurd h (by decide), fun h => absurd h (by decide), fun h => absurd h (by decide)⟩
theorem TRnd.step2 {B B0 g Z : Nat} {D : Nat → Prop} {bl : Bool} {St : Nat → World → Prop} {W0 wr w5 : World} {v0 v1 v2 v3 v4 r : Value} {P0 P1 P2 P3 P4 : Nat} (h : TRnd B0 D g Z bl St W0 wr 2 v0 v1 v2 v3 v4 P0 P1 P2 P3 P4) (nx : ∀ i W W', St i W → Out (fun j => B ≤ j) W W' → St i W') (hZ0 : B ≤ Z) (hz : ¬ (D Z ∨ Z = g)) (hdb : ∀ k, (D k ∨ k = g) ∨ k = Z → k < B0)
    (nr : NewI B0 w5 r P2) (st : St 3 w5) (o : Out (fun j => D j ∨ j = g) wr w5) : TRnd B0 D g Z bl St W0 (w5.setCell ⟨Z, 2, none⟩ r) 3 v0 v1 r v3 v4 P0 P1 P2 P3 P4 := by
  have gr := Out.of_grown (grown_set w5 Z 2 r)
  have hk : ∀ k, k = Z → k < B0 := fun k e => hdb k (Or.inr e)
  refine ⟨nx 3 w5 _ st (gr.mono (fun k (e : k = Z) => by rw [e]; exact hZ0)), (h.box5 o hz).set 2 r, (h.out.trans (o.mono (fun k e => Or.inl e))).trans (gr.mono (fun k e => Or.inr e)), fun _ => (((h.r0 (by decide)).out o (fun k hk => hdb k (Or.inl hk))).out gr hk), fun _ => (((h.r1 (by decide)).out o (fun k hk => hdb k (Or.inl hk))).out gr hk), fun _ => nr.out gr hk, fun h => absurd h (by decide), fun h => absurd h (by decide)⟩
theorem TRnd.step3 {B B0 g Z : Nat} {D : Nat → Prop} {bl : Bool} {St : Nat → World → Prop} {W0 wr w5 : World} {v0 v1 v2 v3 v4 r : Value} {P0 P1 P2 P3 P4 : Nat} (h : TRnd B0 D g Z bl St W0 wr 3 v0 v1 v2 v3 v4 P0 P1 P2 P3 P4) (nx : ∀ i W W', St i W → Out (fun j => B ≤ j) W W' → St i W') (hZ0 : B ≤ Z) (hz : ¬ (D Z ∨ Z = g)) (hdb : ∀ k, (D k ∨ k = g) ∨ k = Z → k < B0)
    (nr : NewI B0 w5 r P3) (st : St 4 w5) (o : Out (fun j => D j ∨ j = g) wr w5) : TRnd B0 D g Z bl St W0 (w5.setCell ⟨Z, 3, none⟩ r) 4 v0 v1 v2 r v4 P0 P1 P2 P3 P4 := by
  have gr := Out.of_grown (grown_set w5 Z 3 r)
  have hk : ∀ k, k = Z → k < B0 := fun k e => hdb k (Or.inr e)
  refine ⟨nx 4 w5 _ st (gr.mono (fun k (e : k = Z) => by rw [e]; exact hZ0)), (h.box5 o hz).set 3 r, (h.out.trans (o.mono (fun k e => Or.inl e))).trans (gr.mono (fun k e => Or.inr e)), fun _ => (((h.r0 (by decide)).out o (fun k hk => hdb k (Or.inl hk))).out gr hk), fun _ => (((h.r1 (by decide)).out o (fun k hk => hdb k (Or.inl hk))).out gr hk), fun _ => (((h.r2 (by decide)).out o (fun k hk => hdb k (Or.inl hk))).out gr hk), fun _ => nr.out gr hk, fun h => absurd h (by decide)⟩
theorem TRnd.step4 {B B0 g Z : Nat} {D : Nat → Prop} {bl : Bool} {St : Nat → World → Prop} {W0 wr w5 : World} {v0 v1 v2 v3 v4 r : Value} {P0 P1 P2 P3 P4 : Nat} (h : TRnd B0 D g Z bl St W0 wr 4 v0 v1 v2 v3 v4 P0 P1 P2 P3 P4) (nx : ∀ i W W', St i W → Out (fun j => B ≤ j) W W' → St i W') (hZ0 : B ≤ Z) (hz : ¬ (D Z ∨ Z = g)) (hdb : ∀ k, (D k ∨ k = g) ∨ k = Z → k < B0)
    (nr : NewI B0 w5 r P4) (st : St 5 w5) (o : Out (fun j => D j ∨ j = g) wr w5) : TRnd B0 D g Z bl St W0 (w5.setCell ⟨Z, 4, none⟩ r) 5 v0 v1 v2 v3 r P0 P1 P2 P3 P4 := by
  have gr := Out.of_grown (grown_set w5 Z 4 r)
  have hk : ∀ k, k = Z → k < B0 := fun k e => hdb k (Or.inr e)
  refine ⟨nx 5 w5 _ st (gr.mono (fun k (e : k = Z) => by rw [e]; exact hZ0)), (h.box5 o hz).set 4 r, (h.out.trans (o.mono (fun k e => Or.inl e))).trans (gr.mono (fun k e => Or.inr e)), fun _ => (((h.r0 (by decide)).out o (fun k hk => hdb k (Or.inl hk))).out gr hk), fun _ => (((h.r1 (by decide)).out o (fun k hk => hdb k (Or.inl hk))).out gr hk), fun _ => (((h.r2 (by decide)).out o (fun k hk => hdb k (Or.inl hk))).out gr hk), fun _ => (((h.r3 (by decide)).out o (fun k hk => hdb k (Or.inl hk))).out gr hk), fun _ => nr.out gr hk⟩

theorem sum5_mul (h m n a0 a1 a2 b0 b1 b2 : Nat) (p0 : a0 = m % 18446744073709551616 ^ h) (p1 : a1 = m / 18446744073709551616 ^ h % 18446744073709551616 ^ h) (p2 : a2 = m / 18446744073709551616 ^ h / 18446744073709551616 ^ h)
    (q0 : b0 = n % 18446744073709551616 ^ h) (q1 : b1 = n / 18446744073709551616 ^ h % 18446744073709551616 ^ h) (q2 : b2 = n / 18446744073709551616 ^ h / 18446744073709551616 ^ h) :
    sum5 h (a0 * b0) (a0 * b1 + a1 * b0) (a0 * b2 + a1 * b1 + a2 * b0) (a1 * b2 + a2 * b1) (a2 * b2) = m * n := by
  have e1 := three_is m (18446744073709551616 ^ h)
  have e2 := three_is n (18446744073709551616 ^ h)
  rw [← p0, ← p1, ← p2] at e1
  rw [← q0, ← q1, ← q2] at e2
  have e3 := five_value (18446744073709551616 ^ h) a0 a1 a2 b0 b1 b2
  rw [e1, e2] at e3
  unfold sum5
  rw [Nat.pow_mul, Nat.pow_mul, Nat.pow_mul]
  clear p0 p1 p2 q0 q1 q2 e1 e2
  generalize 18446744073709551616 ^ h = P at *
  rw [show P ^ 2 = P * P by rw [Nat.pow_succ, Nat.pow_one], show P ^ 3 = P * P * P by rw [Nat.pow_succ, Nat.pow_succ, Nat.pow_one], show P ^ 4 = P * P * P * P by rw [Nat.pow_succ, Nat.pow_succ, Nat.pow_succ, Nat.pow_one]]
  exact e3
theorem two_bound {p q h : Nat} (hp : p < 18446744073709551616 ^ (h + 1)) (hq : q < 18446744073709551616 ^ (h + 1)) : 2 * (p * q) < 18446744073709551616 ^ (h + 1 + (h + 1) + 1) := by
  have := Nat.mul_lt_mul'' hp hq
  rw [Nat.pow_succ _ (h + 1 + (h + 1)), Nat.pow_add]
  omega

end Go.Proofs.YtiekgpphggejcaaGreatDoor

/- Toom of the landed toom: a product in three pieces. -/
namespace Go.Proofs.YtiekgpphggejcaaGreatDoor
open Go.RowKit

set_option maxRecDepth 100000 in
set_option maxHeartbeats 6400000 in
theorem toom_ab (w : World) (gt gk ge g : Nat) (s l m : Int) (T : Tab) (ga gb : Option Addr) (b o cap la b' o' cap' lb h : Nat) (xs ys : List Nat) (k : Nat) (fs cs : Array Value) (D : Nat → Prop) (St : Nat → World → Prop)
  (hE : TEng w gt gk ge g s l m T) (hl0 : 0 ≤ l) (hl1 : l ≤ 1000000) (hxl : xs.length = la) (hR : Rep w ga b o cap xs) (hdx : WDig xs) (_hbD : 0 < la → ¬ D b) (hyl : ys.length = lb) (hR' : Rep w gb b' o' cap' ys) (hdy : WDig ys) (_hbD' : 0 < lb → ¬ D b') (hla : la ≤ 16384) (hlb : lb ≤ 16384)
  (hh : h = (max la lb + 2) / 3) (hlt : 2 * h < min la lb) (_nt : ¬ D gt) (_nk : ¬ D gk) (_ne : ¬ D ge) (_ng : ¬ D g) (hD : ∀ j, D j → j < w.heap.size) (hI : InnT w.heap.size gt gk ge g l T (max la lb) (min la lb) h k fs cs D St)
  (hS : ∀ W, Out (· = g) w W → TEng W gt gk ge g s (l + 1) (max m (l + 1)) T → St 0 W) (hsw : ¬ la < lb) :
  Calls Tryz.prog 63 #[.pointer (some ⟨gt, 0, none⟩), .slice ga la cap, .slice gb lb cap', .func (.func k) fs cs] w fun e w' => ∃ v W, e = .returned (.tuple #[v, .bool true]) ∧ NewW w.heap.size w' v (wval xs * wval ys) ∧ St 5 W ∧ Out (· = g) W w' ∧ (∀ s' m', TEng W gt gk ge g s' (l + 1) m' T → TEng w' gt gk ge g s' l m' T) ∧ Out (fun j => D j ∨ j = g) w w' := by
  have hn : max la lb = la := by omega
  have hm : min la lb = lb := by omega
  rw [hn, hm] at hI
  rw [hn] at hh
  rw [hm] at hlt
  have CH := hide (fun w => piece_any w ga la cap h (by omega) hh)
  have hM := hE.kara.eng.met
  have hgl := hM.lt
  have CE := hide (enter_any (l + 1) (max m (l + 1)) hM rfl rfl (by omega) (by omega))
  have e0 := hE.ptr
  have e1 := hE.kara.ptr
  have e2 := hE.kara.eng.ptr
  have HE := hide hE
  obtain ⟨K2, hK2⟩ : ∃ K2, 2 * h = K2 := ⟨_, rfl⟩
  have j1 : 2 * (h : Int) = (K2 : Int) := by omega
  have j2 : IntKind.i64.wrap (K2 : Int) = (K2 : Int) := by rw [IntKind.wrap_i64]; omega
  have ngt : ¬ lb ≤ K2 := by omega
  have hcf := hI.go
  have HI := hide hI
  have HS := hide hS
  have HD := hide hD
  have HR := hide hR
  have HR' := hide hR'
  have h3 : la ≤ 3 * h := by omega
  have h3' : lb ≤ 3 * h := by omega
  have hlt1 : 2 * h < la := by omega
  have h1 : 0 < h := by omega
  clear hE hM hI hS hD hR hR' hh hn hm _ng _nt _nk _ne _hbD _hbD'
  go_enter_defers Tryz.func63, Tryz.ntmps63
  go_wp2_with fail
  refine (unhide CH _).mono ?_
  rintro e w1 ⟨rfl, hw1⟩
  obtain rfl := hw1.symm
  clear hw1 CH
  go_wp2_with fail
  refine (unhide CE).mono ?_
  rintro e w1 ⟨rfl, M1, T1⟩
  have K1 := (unhide HE).step M1 T1
  have r1 := (unhide HR).touch (unhide HE).kara.eng.met T1
  have r1' := (unhide HR').touch (unhide HE).kara.eng.met T1
  have e0 := K1.ptr
  have e1 := K1.kara.ptr
  have e2 := K1.kara.eng.ptr
  have s1 := T1.grown.size
  have O1 := hide (Out.of_grown T1.grown)
  clear CE M1 T1
  obtain ⟨a0, q0⟩ : ∃ a0, a0 = wval xs % 18446744073709551616 ^ h := ⟨_, rfl⟩
  obtain ⟨a1, q1⟩ : ∃ a1, a1 = wval xs / 18446744073709551616 ^ h % 18446744073709551616 ^ h := ⟨_, rfl⟩
  obtain ⟨a2, q2⟩ : ∃ a2, a2 = wval xs / 18446744073709551616 ^ h / 18446744073709551616 ^ h := ⟨_, rfl⟩
  obtain ⟨b0, q0'⟩ : ∃ b0, b0 = wval ys % 18446744073709551616 ^ h := ⟨_, rfl⟩
  obtain ⟨b1, q1'⟩ : ∃ b1, b1 = wval ys / 18446744073709551616 ^ h % 18446744073709551616 ^ h := ⟨_, rfl⟩
  obtain ⟨b2, q2'⟩ : ∃ b2, b2 = wval ys / 18446744073709551616 ^ h / 18446744073709551616 ^ h := ⟨_, rfl⟩
  have CV := hide (vals_any w1 _ _ _ _ _ h xs a0 a1 a2 hxl hla h1 hlt1 h3 r1 hdx q0 q1 q2)
  have CV' := hide (fun W (bb : Below w1.heap.size w1 W) => vals_any W _ _ _ _ _ h ys b0 b1 b2 hyl hlb h1 hlt h3' (r1'.next bb) hdy q0' q1' q2')
  clear r1 r1'
  go_wp2_with fail
  refine (unhide CV).mono ?_
  rintro e w2 ⟨v2, rfl, p2, bs2⟩
  have CV' := hide (unhide CV' _ bs2)
  clear CV
  go_wp2_with fail
  refine (unhide CV').mono ?_
  rintro e w3 ⟨v3, rfl, p3, bs3⟩
  obtain ⟨g0, g1, g2, g3, g4, z0, z1, z2, z3, z4, rfl, t0, t1, t2, t3, t4⟩ := p2.out
  obtain ⟨g0', g1', g2', g3', g4', z0', z1', z2', z3', z4', rfl, t0', t1', t2', t3', t4'⟩ := p3.out
  have s2 := bs2.size
  have t0 := t0.next bs3
  have t1 := t1.next bs3
  have t2 := t2.next bs3
  have t3 := t3.next bs3
  have t4 := t4.next bs3
  have t0' := t0'.mono s2
  have t1' := t1'.mono s2
  have t2' := t2'.mono s2
  have t3' := t3'.mono s2
  have t4' := t4'.mono s2
  have b3 := bstep bs2 bs3
  have s3 := b3.size
  have O3 := hide ((unhide O1).next b3)
  have K3 := K1.next b3
  clear p2 p3 e0 e1 e2 CV' bs2 bs3
  obtain ⟨H1, hH1⟩ : ∃ H1, h + 1 = H1 := ⟨_, rfl⟩
  obtain ⟨n1, hn1⟩ : ∃ n1, la - 2 * h = n1 := ⟨_, rfl⟩
  obtain ⟨m1, hm1⟩ : ∃ m1, lb - 2 * h = m1 := ⟨_, rfl⟩
  rw [hH1, hn1, hm1]
  rw [hH1] at t1 t2 t3 t1' t2' t3'
  rw [hn1] at t4
  rw [hm1] at t4'
  have HF5 := five_mul a0 a1 a2 b0 b1 b2
  -- mark
  generalize decide (a0 + a2 < a1) = ba at *
  generalize decide (b0 + b2 < b1) = bb at *
  obtain ⟨bz, hbz⟩ : ∃ bz, (!(ba == bb)) = bz := ⟨_, rfl⟩
  have HF5 : Five (!(ba == bb)) _ _ _ _ _ _ _ _ := HF5
  rw [hbz] at HF5
  have bB : Below w3.heap.size w3 (((w3.alloc (.cells #[.slice (some ⟨g0, 0, none⟩) h h, .slice (some ⟨g1, 0, none⟩) H1 H1, .slice (some ⟨g2, 0, none⟩) H1 H1, .slice (some ⟨g3, 0, none⟩) H1 H1, .slice (some ⟨g4, 0, none⟩) n1 n1, .bool ba] 105)).alloc (.cells #[.slice (some ⟨g0', 0, none⟩) h h, .slice (some ⟨g1', 0, none⟩) H1 H1, .slice (some ⟨g2', 0, none⟩) H1 H1, .slice (some ⟨g3', 0, none⟩) H1 H1, .slice (some ⟨g4', 0, none⟩) m1 m1, .bool bb] 105)).alloc (.cells #[.slice none 0 0, .slice none 0 0, .slice none 0 0, .slice none 0 0, .slice none 0 0, .bool bz] 105)) := (((Below.refl _ _).alloc (Nat.le_refl _) _).alloc (by simp) _).alloc (by simp; omega) _
  obtain ⟨kX, kY, kZ⟩ := boxes3 w3 (.cells #[.slice (some ⟨g0, 0, none⟩) h h, .slice (some ⟨g1, 0, none⟩) H1 H1, .slice (some ⟨g2, 0, none⟩) H1 H1, .slice (some ⟨g3, 0, none⟩) H1 H1, .slice (some ⟨g4, 0, none⟩) n1 n1, .bool ba] 105) (.cells #[.slice (some ⟨g0', 0, none⟩) h h, .slice (some ⟨g1', 0, none⟩) H1 H1, .slice (some ⟨g2', 0, none⟩) H1 H1, .slice (some ⟨g3', 0, none⟩) H1 H1, .slice (some ⟨g4', 0, none⟩) m1 m1, .bool bb] 105) (.cells #[.slice none 0 0, .slice none 0 0, .slice none 0 0, .slice none 0 0, .slice none 0 0, .bool bz] 105)
  have sB : (((w3.alloc (.cells #[.slice (some ⟨g0, 0, none⟩) h h, .slice (some ⟨g1, 0, none⟩) H1 H1, .slice (some ⟨g2, 0, none⟩) H1 H1, .slice (some ⟨g3, 0, none⟩) H1 H1, .slice (some ⟨g4, 0, none⟩) n1 n1, .bool ba] 105)).alloc (.cells #[.slice (some ⟨g0', 0, none⟩) h h, .slice (some ⟨g1', 0, none⟩) H1 H1, .slice (some ⟨g2', 0, none⟩) H1 H1, .slice (some ⟨g3', 0, none⟩) H1 H1, .slice (some ⟨g4', 0, none⟩) m1 m1, .bool bb] 105)).alloc (.cells #[.slice none 0 0, .slice none 0 0, .slice none 0 0, .slice none 0 0, .slice none 0 0, .bool bz] 105)).heap.size = w3.heap.size + 1 + 1 + 1 := by simp
  obtain ⟨W0, hW0⟩ : ∃ W0, ((w3.alloc (.cells #[.slice (some ⟨g0, 0, none⟩) h h, .slice (some ⟨g1, 0, none⟩) H1 H1, .slice (some ⟨g2, 0, none⟩) H1 H1, .slice (some ⟨g3, 0, none⟩) H1 H1, .slice (some ⟨g4, 0, none⟩) n1 n1, .bool ba] 105)).alloc (.cells #[.slice (some ⟨g0', 0, none⟩) h h, .slice (some ⟨g1', 0, none⟩) H1 H1, .slice (some ⟨g2', 0, none⟩) H1 H1, .slice (some ⟨g3', 0, none⟩) H1 H1, .slice (some ⟨g4', 0, none⟩) m1 m1, .bool bb] 105)).alloc (.cells #[.slice none 0 0, .slice none 0 0, .slice none 0 0, .slice none 0 0, .slice none 0 0, .bool bz] 105) = W0 := ⟨_, rfl⟩
  rw [hW0] at bB kX kY kZ sB
  obtain ⟨X, hX⟩ : ∃ X, w3.heap.size = X := ⟨_, rfl⟩
  rw [hX] at kX kY kZ sB
  have sW := bB.size
  have l0 : g0 < X := by rw [← hX]; exact t0.blk.lt
  have l1 : g1 < X := by rw [← hX]; exact t1.blk.lt
  have l2 : g2 < X := by rw [← hX]; exact t2.blk.lt
  have l3 : g3 < X := by rw [← hX]; exact t3.blk.lt
  have l4 : g4 < X := by rw [← hX]; exact t4.blk.lt
  have t0 := t0.next bB
  have t1 := t1.next bB
  have t2 := t2.next bB
  have t3 := t3.next bB
  have t4 := t4.next bB
  have y0 := t0.ge
  have y1 := t1.ge
  have y2 := t2.ge
  have y3 := t3.ge
  have y4 := t4.ge
  have l0' : g0' < X := by rw [← hX]; exact t0'.blk.lt
  have l1' : g1' < X := by rw [← hX]; exact t1'.blk.lt
  have l2' : g2' < X := by rw [← hX]; exact t2'.blk.lt
  have l3' : g3' < X := by rw [← hX]; exact t3'.blk.lt
  have l4' : g4' < X := by rw [← hX]; exact t4'.blk.lt
  have t0' := t0'.next bB
  have t1' := t1'.next bB
  have t2' := t2'.next bB
  have t3' := t3'.next bB
  have t4' := t4'.next bB
  have y0' := t0'.ge
  have y1' := t1'.ge
  have y2' := t2'.ge
  have y3' := t3'.ge
  have y4' := t4'.ge
  have O3 := hide ((unhide O3).next bB)
  have S0 := hide (unhide HS _ (unhide O3) (K3.next bB))
  have DN : ∀ q, w.heap.size ≤ q → ¬ (D q ∨ q = g) := fun q hq x => by
    rcases x with x | x
    · have := unhide HD q x; omega
    · omega
  have HDZ : Hid (¬ (D (X + 1 + 1) ∨ X + 1 + 1 = g)) := DN _ (by omega)
  have HDB : Hid (∀ q, (D q ∨ q = g) ∨ q = X + 1 + 1 → q < X + 1 + 1 + 1) := fun q x => by
    rcases x with (x | x) | x
    · have := unhide HD q x; omega
    · omega
    · omega
  have HZ0 : Hid (w.heap.size ≤ X + 1 + 1) := by show _ ≤ _; omega
  have HNX := hide ((unhide HI).next)
  have HN : Hid (∀ q, w.heap.size ≤ q → q < X + 1 + 1 → ¬ ((D q ∨ q = g) ∨ q = X + 1 + 1)) := fun q hq hz x => by
    rcases x with x | x
    · exact DN q hq x
    · omega
  have HX0 : Hid (∀ W, Out (fun j => (D j ∨ j = g) ∨ j = X + 1 + 1) W0 W → W.cell? ⟨X, 0, none⟩ = some (.slice (some ⟨g0, 0, none⟩) h h)) := fun W q => cell_of_row _ X 0 _ _ (0, 0) ((q.block X (Array.getElem?_eq_some_iff.1 kX).1 (unhide HN _ (by omega) (by omega))).trans kX)
  have HY0 : Hid (∀ W, Out (fun j => (D j ∨ j = g) ∨ j = X + 1 + 1) W0 W → W.cell? ⟨X + 1, 0, none⟩ = some (.slice (some ⟨g0', 0, none⟩) h h)) := fun W q => cell_of_row _ (X + 1) 0 _ _ (0, 0) ((q.block (X + 1) (Array.getElem?_eq_some_iff.1 kY).1 (unhide HN _ (by omega) (by omega))).trans kY)
  have HX1 : Hid (∀ W, Out (fun j => (D j ∨ j = g) ∨ j = X + 1 + 1) W0 W → W.cell? ⟨X, 1, none⟩ = some (.slice (some ⟨g1, 0, none⟩) H1 H1)) := fun W q => cell_of_row _ X 1 _ _ (0, 0) ((q.block X (Array.getElem?_eq_some_iff.1 kX).1 (unhide HN _ (by omega) (by omega))).trans kX)
  have HY1 : Hid (∀ W, Out (fun j => (D j ∨ j = g) ∨ j = X + 1 + 1) W0 W → W.cell? ⟨X + 1, 1, none⟩ = some (.slice (some ⟨g1', 0, none⟩) H1 H1)) := fun W q => cell_of_row _ (X + 1) 1 _ _ (0, 0) ((q.block (X + 1) (Array.getElem?_eq_some_iff.1 kY).1 (unhide HN _ (by omega) (by omega))).trans kY)
  have HX2 : Hid (∀ W, Out (fun j => (D j ∨ j = g) ∨ j = X + 1 + 1) W0 W → W.cell? ⟨X, 2, none⟩ = some (.slice (some ⟨g2, 0, none⟩) H1 H1)) := fun W q => cell_of_row _ X 2 _ _ (0, 0) ((q.block X (Array.getElem?_eq_some_iff.1 kX).1 (unhide HN _ (by omega) (by omega))).trans kX)
  have HY2 : Hid (∀ W, Out (fun j => (D j ∨ j = g) ∨ j = X + 1 + 1) W0 W → W.cell? ⟨X + 1, 2, none⟩ = some (.slice (some ⟨g2', 0, none⟩) H1 H1)) := fun W q => cell_of_row _ (X + 1) 2 _ _ (0, 0) ((q.block (X + 1) (Array.getElem?_eq_some_iff.1 kY).1 (unhide HN _ (by omega) (by omega))).trans kY)
  have HX3 : Hid (∀ W, Out (fun j => (D j ∨ j = g) ∨ j = X + 1 + 1) W0 W → W.cell? ⟨X, 3, none⟩ = some (.slice (some ⟨g3, 0, none⟩) H1 H1)) := fun W q => cell_of_row _ X 3 _ _ (0, 0) ((q.block X (Array.getElem?_eq_some_iff.1 kX).1 (unhide HN _ (by omega) (by omega))).trans kX)
  have HY3 : Hid (∀ W, Out (fun j => (D j ∨ j = g) ∨ j = X + 1 + 1) W0 W → W.cell? ⟨X + 1, 3, none⟩ = some (.slice (some ⟨g3', 0, none⟩) H1 H1)) := fun W q => cell_of_row _ (X + 1) 3 _ _ (0, 0) ((q.block (X + 1) (Array.getElem?_eq_some_iff.1 kY).1 (unhide HN _ (by omega) (by omega))).trans kY)
  have HX4 : Hid (∀ W, Out (fun j => (D j ∨ j = g) ∨ j = X + 1 + 1) W0 W → W.cell? ⟨X, 4, none⟩ = some (.slice (some ⟨g4, 0, none⟩) n1 n1)) := fun W q => cell_of_row _ X 4 _ _ (0, 0) ((q.block X (Array.getElem?_eq_some_iff.1 kX).1 (unhide HN _ (by omega) (by omega))).trans kX)
  have HY4 : Hid (∀ W, Out (fun j => (D j ∨ j = g) ∨ j = X + 1 + 1) W0 W → W.cell? ⟨X + 1, 4, none⟩ = some (.slice (some ⟨g4', 0, none⟩) m1 m1)) := fun W q => cell_of_row _ (X + 1) 4 _ _ (0, 0) ((q.block (X + 1) (Array.getElem?_eq_some_iff.1 kY).1 (unhide HN _ (by omega) (by omega))).trans kY)
  have Q0 : Hid (∀ W, Out (fun j => (D j ∨ j = g) ∨ j = X + 1 + 1) W0 W → St 0 W → Calls Tryz.prog k (fs ++ (#[.slice (some ⟨g0, 0, none⟩) h h, .slice (some ⟨g0', 0, none⟩) h h] ++ cs)) W fun e W' => ∃ r, e = .returned r ∧ NewI (X + 1 + 1 + 1) W' r (a0 * b0) ∧ St 1 W' ∧ Out (fun j => D j ∨ j = g) W W') := fun W q st => by
    have sz := q.size
    rw [← Array.append_assoc]
    refine ((unhide HI).call 0 W _ _ _ _ (by omega) st (by rw [show (tlen la lb h 0).1 = h from rfl]; exact t0.inD q (unhide HN _ (by omega) (by omega)) (DN _ (by omega))) (by rw [show (tlen la lb h 0).2 = h from rfl]; exact t0'.inD q (unhide HN _ (by omega) (by omega)) (DN _ (by omega)))).mono ?_
    rintro e W' ⟨r, rfl, n, st', q'⟩
    exact ⟨r, rfl, n.mono (by omega), st', q'⟩
  have Q1 : Hid (∀ W, Out (fun j => (D j ∨ j = g) ∨ j = X + 1 + 1) W0 W → St 1 W → Calls Tryz.prog k (fs ++ (#[.slice (some ⟨g1, 0, none⟩) H1 H1, .slice (some ⟨g1', 0, none⟩) H1 H1] ++ cs)) W fun e W' => ∃ r, e = .returned r ∧ NewI (X + 1 + 1 + 1) W' r ((a0 + a1 + a2) * (b0 + b1 + b2)) ∧ St 2 W' ∧ Out (fun j => D j ∨ j = g) W W') := fun W q st => by
    have sz := q.size
    rw [← Array.append_assoc]
    refine ((unhide HI).call 1 W _ _ _ _ (by omega) st (by rw [show (tlen la lb h 1).1 = H1 from hH1]; exact t1.inD q (unhide HN _ (by omega) (by omega)) (DN _ (by omega))) (by rw [show (tlen la lb h 1).2 = H1 from hH1]; exact t1'.inD q (unhide HN _ (by omega) (by omega)) (DN _ (by omega)))).mono ?_
    rintro e W' ⟨r, rfl, n, st', q'⟩
    exact ⟨r, rfl, n.mono (by omega), st', q'⟩
  have Q2 : Hid (∀ W, Out (fun j => (D j ∨ j = g) ∨ j = X + 1 + 1) W0 W → St 2 W → Calls Tryz.prog k (fs ++ (#[.slice (some ⟨g2, 0, none⟩) H1 H1, .slice (some ⟨g2', 0, none⟩) H1 H1] ++ cs)) W fun e W' => ∃ r, e = .returned r ∧ NewI (X + 1 + 1 + 1) W' r (nd (a0 + a2) a1 * nd (b0 + b2) b1) ∧ St 3 W' ∧ Out (fun j => D j ∨ j = g) W W') := fun W q st => by
    have sz := q.size
    rw [← Array.append_assoc]
    refine ((unhide HI).call 2 W _ _ _ _ (by omega) st (by rw [show (tlen la lb h 2).1 = H1 from hH1]; exact t2.inD q (unhide HN _ (by omega) (by omega)) (DN _ (by omega))) (by rw [show (tlen la lb h 2).2 = H1 from hH1]; exact t2'.inD q (unhide HN _ (by omega) (by omega)) (DN _ (by omega)))).mono ?_
    rintro e W' ⟨r, rfl, n, st', q'⟩
    exact ⟨r, rfl, n.mono (by omega), st', q'⟩
  have Q3 : Hid (∀ W, Out (fun j => (D j ∨ j = g) ∨ j = X + 1 + 1) W0 W → St 3 W → Calls Tryz.prog k (fs ++ (#[.slice (some ⟨g3, 0, none⟩) H1 H1, .slice (some ⟨g3', 0, none⟩) H1 H1] ++ cs)) W fun e W' => ∃ r, e = .returned r ∧ NewI (X + 1 + 1 + 1) W' r ((a0 + 2 * a1 + 4 * a2) * (b0 + 2 * b1 + 4 * b2)) ∧ St 4 W' ∧ Out (fun j => D j ∨ j = g) W W') := fun W q st => by
    have sz := q.size
    rw [← Array.append_assoc]
    refine ((unhide HI).call 3 W _ _ _ _ (by omega) st (by rw [show (tlen la lb h 3).1 = H1 from hH1]; exact t3.inD q (unhide HN _ (by omega) (by omega)) (DN _ (by omega))) (by rw [show (tlen la lb h 3).2 = H1 from hH1]; exact t3'.inD q (unhide HN _ (by omega) (by omega)) (DN _ (by omega)))).mono ?_
    rintro e W' ⟨r, rfl, n, st', q'⟩
    exact ⟨r, rfl, n.mono (by omega), st', q'⟩
  have Q4 : Hid (∀ W, Out (fun j => (D j ∨ j = g) ∨ j = X + 1 + 1) W0 W → St 4 W → Calls Tryz.prog k (fs ++ (#[.slice (some ⟨g4, 0, none⟩) n1 n1, .slice (some ⟨g4', 0, none⟩) m1 m1] ++ cs)) W fun e W' => ∃ r, e = .returned r ∧ NewI (X + 1 + 1 + 1) W' r (a2 * b2) ∧ St 5 W' ∧ Out (fun j => D j ∨ j = g) W W') := fun W q st => by
    have sz := q.size
    rw [← Array.append_assoc]
    refine ((unhide HI).call 4 W _ _ _ _ (by omega) st (by rw [show (tlen la lb h 4).1 = n1 from hn1]; exact t4.inD q (unhide HN _ (by omega) (by omega)) (DN _ (by omega))) (by rw [show (tlen la lb h 4).2 = m1 from hm1]; exact t4'.inD q (unhide HN _ (by omega) (by omega)) (DN _ (by omega)))).mono ?_
    rintro e W' ⟨r, rfl, n, st', q'⟩
    exact ⟨r, rfl, n.mono (by omega), st', q'⟩
  have R0 : Hid (TRnd (X + 1 + 1 + 1) D g (X + 1 + 1) bz St W0 W0 0 (.slice none 0 0) (.slice none 0 0) (.slice none 0 0) (.slice none 0 0) (.slice none 0 0) (a0 * b0) ((a0 + a1 + a2) * (b0 + b1 + b2)) (nd (a0 + a2) a1 * nd (b0 + b2) b1) ((a0 + 2 * a1 + 4 * a2) * (b0 + 2 * b1 + 4 * b2)) (a2 * b2)) := ⟨unhide S0, kZ, Out.refl _ _, fun h => absurd h (by decide), fun h => absurd h (by decide), fun h => absurd h (by decide), fun h => absurd h (by decide), fun h => absurd h (by decide)⟩
  have CJ : Hid (∀ W u0 u1 u2 u3 u4, InW W u0 (a0 * b0) → InW W u1 ((a0 + a1 + a2) * (b0 + b1 + b2)) → InW W u2 (nd (a0 + a2) a1 * nd (b0 + b2) b1) → InW W u3 ((a0 + 2 * a1 + 4 * a2) * (b0 + 2 * b1 + 4 * b2)) → InW W u4 (a2 * b2) → Calls Tryz.prog 81 #[.agg #[u0, u1, u2, u3, u4, .bool bz], .int .i64 (h : Int)] W fun e w' => ∃ r, e = .returned r ∧ NewW W.heap.size w' r (sum5 h (a0 * b0) (a0 * b1 + a1 * b0) (a0 * b2 + a1 * b1 + a2 * b0) (a1 * b2 + a2 * b1) (a2 * b2)) ∧ Below W.heap.size W w') := fun W u0 u1 u2 u3 u4 i0 i1 i2 i3 i4 => vjoin_any W u0 u1 u2 u3 u4 bz _ _ _ _ _ _ _ _ h (h + 1 + (h + 1) + 1) (by omega) (by omega) HF5 (two_bound (by rw [← t3.val]; have := wval_lt_pow t3.dig; rw [t3.len, ← hH1] at this; exact this) (by rw [← t3'.val]; have := wval_lt_pow t3'.dig; rw [t3'.len, ← hH1] at this; exact this)) i0 i1 i2 i3 i4
  have HV := hide (sum5_mul h (wval xs) (wval ys) a0 a1 a2 b0 b1 b2 q0 q1 q2 q0' q1' q2')
  have HF : Hid (∀ i, (D i ∨ i = g) ∨ i = X + 1 + 1 → (D i ∨ i = g) ∨ w.heap.size ≤ i) := fun i x => by
    rcases x with x | x
    · exact Or.inl x
    · exact Or.inr (by omega)
  have sW0 : Hid (w.heap.size ≤ W0.heap.size) := by show _ ≤ _; omega
  have sW1 : Hid (X + 1 + 1 + 1 ≤ W0.heap.size) := by show _ ≤ _; omega
  have hl2 := hide hl0
  have hl3 := hide hl1
  clear HS HD HR HR' HE S0 O1 K3 K1 DN HN kX kY kZ bB b3 t0 t1 t2 t3 t4 l0 l1 l2 l3 l4 y0 y1 y2 y3 y4 t0' t1' t2' t3' t4' l0' l1' l2' l3' l4' y0' y1' y2' y3' y4' HF5 q0 q1 q2 q0' q1' q2' s1 s2 s3 sW sB hH1 hn1 hm1 hl0 hl1 h1 h3 h3' hlt hlt1 hgl hK2 hla hlb hxl hyl hdx hdy
  generalize a0 * b0 = P0 at *
  generalize (a0 + a1 + a2) * (b0 + b1 + b2) = P1 at *
  generalize nd (a0 + a2) a1 * nd (b0 + b2) b1 = P2 at *
  generalize (a0 + 2 * a1 + 4 * a2) * (b0 + 2 * b1 + 4 * b2) = P3 at *
  generalize a2 * b2 = P4 at *
  go_wp2
  clear hW0
  go_loopw [66] (fun iv wr => ∃ (i : Nat) (v0 v1 v2 v3 v4 : Value), i ≤ 5 ∧ iv = .int .i64 (i : Int) ∧ TRnd (X + 1 + 1 + 1) D g (X + 1 + 1) bz St W0 wr i v0 v1 v2 v3 v4 P0 P1 P2 P3 P4) (fun iv _ => 5 - (intOf iv).toNat)
  case atStart => exact ⟨0, _, _, _, _, _, by decide, rfl, unhide R0⟩
  case round =>
    clear R0
    obtain ⟨i, v0, v1, v2, v3, v4, hi, rfl, hr⟩ := hrel
    have hi6 : i = 0 ∨ i = 1 ∨ i = 2 ∨ i = 3 ∨ i = 4 ∨ i = 5 := by omega
    clear hi
    rcases hi6 with rfl | rfl | rfl | rfl | rfl | rfl
    · have hd := hr.drew (unhide HNX)
      have cx := unhide HX0 _ hr.out
      have cy := unhide HY0 _ hr.out
      have od := hd.out
      have HK : Hid (∀ W, Out (fun j => (D j ∨ j = g) ∨ j = X + 1 + 1) W0 W → W.cell? ⟨X, 0, none⟩ = some (.slice (some ⟨g0, 0, none⟩) h h) ∧ W.cell? ⟨X + 1, 0, none⟩ = some (.slice (some ⟨g0', 0, none⟩) h h)) := fun W q => ⟨unhide HX0 W q, unhide HY0 W q⟩
      have CC := hide (unhide Q0 _ hd.out hd.st)
      have HRR := hide hd
      clear hr hd
      go_wp2
      go_region_held3 (fun w' => w'.cell? ⟨X, 0, none⟩ = some (.slice (some ⟨g0, 0, none⟩) h h) ∧ w'.cell? ⟨X + 1, 0, none⟩ = some (.slice (some ⟨g0', 0, none⟩) h h)) (first | (with_reducible exact unhide HK _ od) | (with_reducible exact unhide HK _ ow) | (with_reducible exact unhide HK _ (unhide R5).out) | go_keep) (first
        | (with_reducible refine (unhide CC).mono ?_; rintro e w5 ⟨r, rfl, nr, st5, o5⟩; obtain ⟨sa, sn, sc, rfl⟩ := nr.inW.is; have Z5 := (unhide HRR).box5 o5 (unhide HDZ); have cz := box6_c0 Z5; have fz := Z5.frozen 0; have R5 := hide ((unhide HRR).step0 (unhide HNX) (unhide HZ0) (unhide HDZ) (unhide HDB) nr st5 o5); have ow := od.trans (o5.mono (fun k e => Or.inl e)); clear nr st5 o5 Z5 cx cy; obtain ⟨cx, cy⟩ := unhide HK _ ow)
        | fail)
      all_goals
        focus
          clear CC HRR cx cy od ow HK
          go_wp2
          go_roundw
          case rel => exact ⟨1, _, _, _, _, _, by decide, rfl, unhide R5⟩
          case measure => simp [intOf]
    · have hd := hr.drew (unhide HNX)
      have cx := unhide HX1 _ hr.out
      have cy := unhide HY1 _ hr.out
      have od := hd.out
      have HK : Hid (∀ W, Out (fun j => (D j ∨ j = g) ∨ j = X + 1 + 1) W0 W → W.cell? ⟨X, 1, none⟩ = some (.slice (some ⟨g1, 0, none⟩) H1 H1) ∧ W.cell? ⟨X + 1, 1, none⟩ = some (.slice (some ⟨g1', 0, none⟩) H1 H1)) := fun W q => ⟨unhide HX1 W q, unhide HY1 W q⟩
      have CC := hide (unhide Q1 _ hd.out hd.st)
      have HRR := hide hd
      clear hr hd
      go_wp2
      go_region_held3 (fun w' => w'.cell? ⟨X, 1, none⟩ = some (.slice (some ⟨g1, 0, none⟩) H1 H1) ∧ w'.cell? ⟨X + 1, 1, none⟩ = some (.slice (some ⟨g1', 0, none⟩) H1 H1)) (first | (with_reducible exact unhide HK _ od) | (with_reducible exact unhide HK _ ow) | (with_reducible exact unhide HK _ (unhide R5).out) | go_keep) (first
        | (with_reducible refine (unhide CC).mono ?_; rintro e w5 ⟨r, rfl, nr, st5, o5⟩; obtain ⟨sa, sn, sc, rfl⟩ := nr.inW.is; have Z5 := (unhide HRR).box5 o5 (unhide HDZ); have cz := box6_c1 Z5; have fz := Z5.frozen 1; have R5 := hide ((unhide HRR).step1 (unhide HNX) (unhide HZ0) (unhide HDZ) (unhide HDB) nr st5 o5); have ow := od.trans (o5.mono (fun k e => Or.inl e)); clear nr st5 o5 Z5 cx cy; obtain ⟨cx, cy⟩ := unhide HK _ ow)
        | fail)
      all_goals
        focus
          clear CC HRR cx cy od ow HK
          go_wp2
          go_roundw
          case rel => exact ⟨2, _, _, _, _, _, by decide, rfl, unhide R5⟩
          case measure => simp [intOf]
    · have hd := hr.drew (unhide HNX)
      have cx := unhide HX2 _ hr.out
      have cy := unhide HY2 _ hr.out
      have od := hd.out
      have HK : Hid (∀ W, Out (fun j => (D j ∨ j = g) ∨ j = X + 1 + 1) W0 W → W.cell? ⟨X, 2, none⟩ = some (.slice (some ⟨g2, 0, none⟩) H1 H1) ∧ W.cell? ⟨X + 1, 2, none⟩ = some (.slice (some ⟨g2', 0, none⟩) H1 H1)) := fun W q => ⟨unhide HX2 W q, unhide HY2 W q⟩
      have CC := hide (unhide Q2 _ hd.out hd.st)
      have HRR := hide hd
      clear hr hd
      go_wp2
      go_region_held3 (fun w' => w'.cell? ⟨X, 2, none⟩ = some (.slice (some ⟨g2, 0, none⟩) H1 H1) ∧ w'.cell? ⟨X + 1, 2, none⟩ = some (.slice (some ⟨g2', 0, none⟩) H1 H1)) (first | (with_reducible exact unhide HK _ od) | (with_reducible exact unhide HK _ ow) | (with_reducible exact unhide HK _ (unhide R5).out) | go_keep) (first
        | (with_reducible refine (unhide CC).mono ?_; rintro e w5 ⟨r, rfl, nr, st5, o5⟩; obtain ⟨sa, sn, sc, rfl⟩ := nr.inW.is; have Z5 := (unhide HRR).box5 o5 (unhide HDZ); have cz := box6_c2 Z5; have fz := Z5.frozen 2; have R5 := hide ((unhide HRR).step2 (unhide HNX) (unhide HZ0) (unhide HDZ) (unhide HDB) nr st5 o5); have ow := od.trans (o5.mono (fun k e => Or.inl e)); clear nr st5 o5 Z5 cx cy; obtain ⟨cx, cy⟩ := unhide HK _ ow)
        | fail)
      all_goals
        focus
          clear CC HRR cx cy od ow HK
          go_wp2
          go_roundw
          case rel => exact ⟨3, _, _, _, _, _, by decide, rfl, unhide R5⟩
          case measure => simp [intOf]
    · have hd := hr.drew (unhide HNX)
      have cx := unhide HX3 _ hr.out
      have cy := unhide HY3 _ hr.out
      have od := hd.out
      have HK : Hid (∀ W, Out (fun j => (D j ∨ j = g) ∨ j = X + 1 + 1) W0 W → W.cell? ⟨X, 3, none⟩ = some (.slice (some ⟨g3, 0, none⟩) H1 H1) ∧ W.cell? ⟨X + 1, 3, none⟩ = some (.slice (some ⟨g3', 0, none⟩) H1 H1)) := fun W q => ⟨unhide HX3 W q, unhide HY3 W q⟩
      have CC := hide (unhide Q3 _ hd.out hd.st)
      have HRR := hide hd
      clear hr hd
      go_wp2
      go_region_held3 (fun w' => w'.cell? ⟨X, 3, none⟩ = some (.slice (some ⟨g3, 0, none⟩) H1 H1) ∧ w'.cell? ⟨X + 1, 3, none⟩ = some (.slice (some ⟨g3', 0, none⟩) H1 H1)) (first | (with_reducible exact unhide HK _ od) | (with_reducible exact unhide HK _ ow) | (with_reducible exact unhide HK _ (unhide R5).out) | go_keep) (first
        | (with_reducible refine (unhide CC).mono ?_; rintro e w5 ⟨r, rfl, nr, st5, o5⟩; obtain ⟨sa, sn, sc, rfl⟩ := nr.inW.is; have Z5 := (unhide HRR).box5 o5 (unhide HDZ); have cz := box6_c3 Z5; have fz := Z5.frozen 3; have R5 := hide ((unhide HRR).step3 (unhide HNX) (unhide HZ0) (unhide HDZ) (unhide HDB) nr st5 o5); have ow := od.trans (o5.mono (fun k e => Or.inl e)); clear nr st5 o5 Z5 cx cy; obtain ⟨cx, cy⟩ := unhide HK _ ow)
        | fail)
      all_goals
        focus
          clear CC HRR cx cy od ow HK
          go_wp2
          go_roundw
          case rel => exact ⟨4, _, _, _, _, _, by decide, rfl, unhide R5⟩
          case measure => simp [intOf]
    · have hd := hr.drew (unhide HNX)
      have cx := unhide HX4 _ hr.out
      have cy := unhide HY4 _ hr.out
      have od := hd.out
      have HK : Hid (∀ W, Out (fun j => (D j ∨ j = g) ∨ j = X + 1 + 1) W0 W → W.cell? ⟨X, 4, none⟩ = some (.slice (some ⟨g4, 0, none⟩) n1 n1) ∧ W.cell? ⟨X + 1, 4, none⟩ = some (.slice (some ⟨g4', 0, none⟩) m1 m1)) := fun W q => ⟨unhide HX4 W q, unhide HY4 W q⟩
      have CC := hide (unhide Q4 _ hd.out hd.st)
      have HRR := hide hd
      clear hr hd
      go_wp2
      go_region_held3 (fun w' => w'.cell? ⟨X, 4, none⟩ = some (.slice (some ⟨g4, 0, none⟩) n1 n1) ∧ w'.cell? ⟨X + 1, 4, none⟩ = some (.slice (some ⟨g4', 0, none⟩) m1 m1)) (first | (with_reducible exact unhide HK _ od) | (with_reducible exact unhide HK _ ow) | (with_reducible exact unhide HK _ (unhide R5).out) | go_keep) (first
        | (with_reducible refine (unhide CC).mono ?_; rintro e w5 ⟨r, rfl, nr, st5, o5⟩; obtain ⟨sa, sn, sc, rfl⟩ := nr.inW.is; have Z5 := (unhide HRR).box5 o5 (unhide HDZ); have cz := box6_c4 Z5; have fz := Z5.frozen 4; have R5 := hide ((unhide HRR).step4 (unhide HNX) (unhide HZ0) (unhide HDZ) (unhide HDB) nr st5 o5); have ow := od.trans (o5.mono (fun k e => Or.inl e)); clear nr st5 o5 Z5 cx cy; obtain ⟨cx, cy⟩ := unhide HK _ ow)
        | fail)
      all_goals
        focus
          clear CC HRR cx cy od ow HK
          go_wp2
          go_roundw
          case rel => exact ⟨5, _, _, _, _, _, by decide, rfl, unhide R5⟩
          case measure => simp [intOf]
    · have c0 : wr.cell? ⟨X + 1 + 1, 0, none⟩ = some v0 := hr.box.cell 0 (by simp)
      have c1 : wr.cell? ⟨X + 1 + 1, 1, none⟩ = some v1 := hr.box.cell 1 (by simp)
      have c2 : wr.cell? ⟨X + 1 + 1, 2, none⟩ = some v2 := hr.box.cell 2 (by simp)
      have c3 : wr.cell? ⟨X + 1 + 1, 3, none⟩ = some v3 := hr.box.cell 3 (by simp)
      have c4 : wr.cell? ⟨X + 1 + 1, 4, none⟩ = some v4 := hr.box.cell 4 (by simp)
      have c5 : wr.cell? ⟨X + 1 + 1, 5, none⟩ = some (.bool bz) := hr.box.cell 5 (by simp)
      have CJ := hide (unhide CJ wr v0 v1 v2 v3 v4 (hr.r0 (by decide)).inW (hr.r1 (by decide)).inW (hr.r2 (by decide)).inW (hr.r3 (by decide)).inW (hr.r4 (by decide)).inW)
      have ST := hide hr.st
      have OW := hide hr.out
      clear hr Q0 Q1 Q2 Q3 Q4 HX0 HX1 HX2 HX3 HX4 HY0 HY1 HY2 HY3 HY4 HDZ HZ0
      go_wp2_with fail
      refine (unhide CJ).mono ?_
      rintro e w8 ⟨r8, rfl, n8, b8⟩
      have st8 := unhide HNX 5 wr w8 (unhide ST) (Out.of_below b8)
      obtain ⟨s8, m8, K8⟩ := (unhide HI).eng 5 w8 st8
      rw [unhide HV] at n8
      have ST8 := hide st8
      have M8 := hide K8.kara.eng.met
      have OA := hide ((((unhide O3).mono (fun k e => Or.inr e)).fresh (unhide OW) (unhide HF)).next b8)
      have N8 := hide n8
      have SZ := hide (Nat.le_trans (unhide sW0) (unhide OW).size)
      have GL := hide (Nat.lt_of_lt_of_le (unhide HDB g (Or.inl (Or.inr rfl))) (Nat.le_trans (unhide sW1) (unhide OW).size))
      clear n8 st8 K8 HV CJ c0 c1 c2 c3 c4 c5 b8 HI HNX ST OW hcf
      go_wp2
      refine leaves_cons (f := 67) (args := #[.pointer (some ⟨g, 0, none⟩)]) (by simp) (by simp [go_sem]) ?_
      refine (leave_deferred l .returning (unhide M8) (by have := unhide hl2; omega) (by have := unhide hl2; omega) (by have := unhide hl3; omega)).mono ?_
      rintro e u' w9 ⟨rfl, rfl, M9, T9⟩
      have O9 := Out.of_grown T9.grown
      refine ⟨_, results_tmp2 rfl _ _ _, r8, w8, rfl, ?_, unhide ST8, O9, ?_, ?_⟩
      · exact (O9.newW (unhide N8) (fun k e => by rw [e]; exact unhide GL)).mono (unhide SZ)
      · intro s' m' K
        obtain ⟨rfl, _, rfl⟩ := K.kara.eng.met.one (unhide M8)
        exact K.step M9 T9
      · exact (unhide OA).trans (O9.mono (fun k e => Or.inr e))

end Go.Proofs.YtiekgpphggejcaaGreatDoor

/- ToomSqr of the landed toom: a square in three pieces. -/
namespace Go.Proofs.YtiekgpphggejcaaGreatDoor
open Go.RowKit

set_option maxRecDepth 100000 in
set_option maxHeartbeats 6400000 in
theorem spec_tsqr : SpecToomS := by
  intro w gt gk ge g s l m T ga b o cap la h xs k fs cs D St hE hl0 hl1 hxl hR hdx hbD hla hh hlt nt nk ne ng hD hI hS
  have CH := hide (fun w => piece_any w ga la cap h (by omega) hh)
  have hM := hE.kara.eng.met
  have hgl := hM.lt
  have CE := hide (enter_any (l + 1) (max m (l + 1)) hM rfl rfl (by omega) (by omega))
  have e0 := hE.ptr
  have e1 := hE.kara.ptr
  have e2 := hE.kara.eng.ptr
  have HE := hide hE
  obtain ⟨K2, hK2⟩ : ∃ K2, 2 * h = K2 := ⟨_, rfl⟩
  have j1 : 2 * (h : Int) = (K2 : Int) := by omega
  have j2 : IntKind.i64.wrap (K2 : Int) = (K2 : Int) := by rw [IntKind.wrap_i64]; omega
  have ngt : ¬ la ≤ K2 := by omega
  have hcf := hI.go
  have HI := hide hI
  have HS := hide hS
  have HD := hide hD
  have HR := hide hR
  have h3 : la ≤ 3 * h := by omega
  have h1 : 0 < h := by omega
  clear hE hM hI hS hD hR hh nt nk ne ng hbD
  go_enter_defers Tryz.func57, Tryz.ntmps57
  go_wp2_with fail
  refine (unhide CH _).mono ?_
  rintro e w1 ⟨rfl, hw1⟩
  obtain rfl := hw1.symm
  clear hw1 CH
  go_wp2_with fail
  refine (unhide CE).mono ?_
  rintro e w1 ⟨rfl, M1, T1⟩
  have K1 := (unhide HE).step M1 T1
  have r1 := (unhide HR).touch (unhide HE).kara.eng.met T1
  have e0 := K1.ptr
  have e1 := K1.kara.ptr
  have e2 := K1.kara.eng.ptr
  have s1 := T1.grown.size
  have O1 := hide (Out.of_grown T1.grown)
  clear CE M1 T1
  obtain ⟨a0, q0⟩ : ∃ a0, a0 = wval xs % 18446744073709551616 ^ h := ⟨_, rfl⟩
  obtain ⟨a1, q1⟩ : ∃ a1, a1 = wval xs / 18446744073709551616 ^ h % 18446744073709551616 ^ h := ⟨_, rfl⟩
  obtain ⟨a2, q2⟩ : ∃ a2, a2 = wval xs / 18446744073709551616 ^ h / 18446744073709551616 ^ h := ⟨_, rfl⟩
  have CV := hide (vals_any w1 _ _ _ _ _ h xs a0 a1 a2 hxl hla h1 hlt h3 r1 hdx q0 q1 q2)
  go_wp2_with fail
  refine (unhide CV).mono ?_
  rintro e w3 ⟨v2, rfl, p2, b3⟩
  clear CV
  obtain ⟨g0, g1, g2, g3, g4, z0, z1, z2, z3, z4, rfl, t0, t1, t2, t3, t4⟩ := p2.out
  have s3 := b3.size
  have O3 := hide ((unhide O1).next b3)
  have K3 := K1.next b3
  clear r1 p2 e0 e1 e2
  obtain ⟨H1, hH1⟩ : ∃ H1, h + 1 = H1 := ⟨_, rfl⟩
  obtain ⟨n1, hn1⟩ : ∃ n1, la - 2 * h = n1 := ⟨_, rfl⟩
  rw [hH1, hn1]
  rw [hH1] at t1 t2 t3
  rw [hn1] at t4
  generalize decide (a0 + a2 < a1) = bl
  have HF5 := five_sqr a0 a1 a2
  have bb : Below w3.heap.size w3 ((w3.alloc (.cells #[.slice (some ⟨g0, 0, none⟩) h h, .slice (some ⟨g1, 0, none⟩) H1 H1, .slice (some ⟨g2, 0, none⟩) H1 H1, .slice (some ⟨g3, 0, none⟩) H1 H1, .slice (some ⟨g4, 0, none⟩) n1 n1, .bool bl] 105)).alloc (.cells #[.slice none 0 0, .slice none 0 0, .slice none 0 0, .slice none 0 0, .slice none 0 0, .bool false] 105)) := ((Below.refl _ _).alloc (Nat.le_refl _) _).alloc (by simp) _
  have kX := (((Below.refl _ _).alloc (Nat.le_refl _) (.cells #[.slice none 0 0, .slice none 0 0, .slice none 0 0, .slice none 0 0, .slice none 0 0, .bool false] 105)).block w3.heap.size (by simp)).trans (heap_alloc_new w3 (.cells #[.slice (some ⟨g0, 0, none⟩) h h, .slice (some ⟨g1, 0, none⟩) H1 H1, .slice (some ⟨g2, 0, none⟩) H1 H1, .slice (some ⟨g3, 0, none⟩) H1 H1, .slice (some ⟨g4, 0, none⟩) n1 n1, .bool bl] 105))
  have kZ := heap_alloc_new (w3.alloc (.cells #[.slice (some ⟨g0, 0, none⟩) h h, .slice (some ⟨g1, 0, none⟩) H1 H1, .slice (some ⟨g2, 0, none⟩) H1 H1, .slice (some ⟨g3, 0, none⟩) H1 H1, .slice (some ⟨g4, 0, none⟩) n1 n1, .bool bl] 105)) (.cells #[.slice none 0 0, .slice none 0 0, .slice none 0 0, .slice none 0 0, .slice none 0 0, .bool false] 105)
  have sQ : (w3.alloc (.cells #[.slice (some ⟨g0, 0, none⟩) h h, .slice (some ⟨g1, 0, none⟩) H1 H1, .slice (some ⟨g2, 0, none⟩) H1 H1, .slice (some ⟨g3, 0, none⟩) H1 H1, .slice (some ⟨g4, 0, none⟩) n1 n1, .bool bl] 105)).heap.size = w3.heap.size + 1 := by simp
  rw [sQ] at kZ
  clear sQ
  have sB : ((w3.alloc (.cells #[.slice (some ⟨g0, 0, none⟩) h h, .slice (some ⟨g1, 0, none⟩) H1 H1, .slice (some ⟨g2, 0, none⟩) H1 H1, .slice (some ⟨g3, 0, none⟩) H1 H1, .slice (some ⟨g4, 0, none⟩) n1 n1, .bool bl] 105)).alloc (.cells #[.slice none 0 0, .slice none 0 0, .slice none 0 0, .slice none 0 0, .slice none 0 0, .bool false] 105)).heap.size = w3.heap.size + 1 + 1 := by simp
  obtain ⟨W0, hW0⟩ : ∃ W0, (w3.alloc (.cells #[.slice (some ⟨g0, 0, none⟩) h h, .slice (some ⟨g1, 0, none⟩) H1 H1, .slice (some ⟨g2, 0, none⟩) H1 H1, .slice (some ⟨g3, 0, none⟩) H1 H1, .slice (some ⟨g4, 0, none⟩) n1 n1, .bool bl] 105)).alloc (.cells #[.slice none 0 0, .slice none 0 0, .slice none 0 0, .slice none 0 0, .slice none 0 0, .bool false] 105) = W0 := ⟨_, rfl⟩
  rw [hW0] at bb kX kZ sB
  obtain ⟨X, hX⟩ : ∃ X, w3.heap.size = X := ⟨_, rfl⟩
  rw [hX] at kX kZ sB
  have sW := bb.size
  have l0 : g0 < X := by rw [← hX]; exact t0.blk.lt
  have l1 : g1 < X := by rw [← hX]; exact t1.blk.lt
  have l2 : g2 < X := by rw [← hX]; exact t2.blk.lt
  have l3 : g3 < X := by rw [← hX]; exact t3.blk.lt
  have l4 : g4 < X := by rw [← hX]; exact t4.blk.lt
  have t0 := t0.next bb
  have t1 := t1.next bb
  have t2 := t2.next bb
  have t3 := t3.next bb
  have t4 := t4.next bb
  have y0 := t0.ge
  have y1 := t1.ge
  have y2 := t2.ge
  have y3 := t3.ge
  have y4 := t4.ge
  have O3 := hide ((unhide O3).next bb)
  have S0 := hide (unhide HS _ (unhide O3) (K3.next bb))
  have DN : ∀ q, w.heap.size ≤ q → ¬ (D q ∨ q = g) := fun q hq x => by
    rcases x with x | x
    · have := unhide HD q x; omega
    · omega
  have HDZ : Hid (¬ (D (X + 1) ∨ X + 1 = g)) := DN _ (by omega)
  have HDB : Hid (∀ q, (D q ∨ q = g) ∨ q = X + 1 → q < X + 1 + 1) := fun q x => by
    rcases x with (x | x) | x
    · have := unhide HD q x; omega
    · omega
    · omega
  have HZ0 : Hid (w.heap.size ≤ X + 1) := by show _ ≤ _; omega
  have HNX := hide ((unhide HI).next)
  have HN : Hid (∀ q, w.heap.size ≤ q → q < X + 1 → ¬ ((D q ∨ q = g) ∨ q = X + 1)) := fun q hq hz x => by
    rcases x with x | x
    · exact DN q hq x
    · omega
  have HX0 : Hid (∀ W, Out (fun j => (D j ∨ j = g) ∨ j = X + 1) W0 W → W.cell? ⟨X, 0, none⟩ = some (.slice (some ⟨g0, 0, none⟩) h h)) := fun W q => cell_of_row _ X 0 _ _ (0, 0) ((q.block X (Array.getElem?_eq_some_iff.1 kX).1 (unhide HN _ (by omega) (by omega))).trans kX)
  have HX1 : Hid (∀ W, Out (fun j => (D j ∨ j = g) ∨ j = X + 1) W0 W → W.cell? ⟨X, 1, none⟩ = some (.slice (some ⟨g1, 0, none⟩) H1 H1)) := fun W q => cell_of_row _ X 1 _ _ (0, 0) ((q.block X (Array.getElem?_eq_some_iff.1 kX).1 (unhide HN _ (by omega) (by omega))).trans kX)
  have HX2 : Hid (∀ W, Out (fun j => (D j ∨ j = g) ∨ j = X + 1) W0 W → W.cell? ⟨X, 2, none⟩ = some (.slice (some ⟨g2, 0, none⟩) H1 H1)) := fun W q => cell_of_row _ X 2 _ _ (0, 0) ((q.block X (Array.getElem?_eq_some_iff.1 kX).1 (unhide HN _ (by omega) (by omega))).trans kX)
  have HX3 : Hid (∀ W, Out (fun j => (D j ∨ j = g) ∨ j = X + 1) W0 W → W.cell? ⟨X, 3, none⟩ = some (.slice (some ⟨g3, 0, none⟩) H1 H1)) := fun W q => cell_of_row _ X 3 _ _ (0, 0) ((q.block X (Array.getElem?_eq_some_iff.1 kX).1 (unhide HN _ (by omega) (by omega))).trans kX)
  have HX4 : Hid (∀ W, Out (fun j => (D j ∨ j = g) ∨ j = X + 1) W0 W → W.cell? ⟨X, 4, none⟩ = some (.slice (some ⟨g4, 0, none⟩) n1 n1)) := fun W q => cell_of_row _ X 4 _ _ (0, 0) ((q.block X (Array.getElem?_eq_some_iff.1 kX).1 (unhide HN _ (by omega) (by omega))).trans kX)
  have Q0 : Hid (∀ W, Out (fun j => (D j ∨ j = g) ∨ j = X + 1) W0 W → St 0 W → Calls Tryz.prog k (fs.push (.slice (some ⟨g0, 0, none⟩) h h) ++ cs) W fun e W' => ∃ r, e = .returned r ∧ NewI (X + 1 + 1) W' r (a0 * a0) ∧ St 1 W' ∧ Out (fun j => D j ∨ j = g) W W') := fun W q st => by
    have sz := q.size
    rw [Array.push_eq_append]
    refine ((unhide HI).call 0 W _ _ (by omega) st (by rw [show (tlen la la h 0).1 = h from rfl]; exact t0.inD q (unhide HN _ (by omega) (by omega)) (DN _ (by omega)))).mono ?_
    rintro e W' ⟨r, rfl, n, st', q'⟩
    exact ⟨r, rfl, n.mono (by omega), st', q'⟩
  have Q1 : Hid (∀ W, Out (fun j => (D j ∨ j = g) ∨ j = X + 1) W0 W → St 1 W → Calls Tryz.prog k (fs.push (.slice (some ⟨g1, 0, none⟩) H1 H1) ++ cs) W fun e W' => ∃ r, e = .returned r ∧ NewI (X + 1 + 1) W' r ((a0 + a1 + a2) * (a0 + a1 + a2)) ∧ St 2 W' ∧ Out (fun j => D j ∨ j = g) W W') := fun W q st => by
    have sz := q.size
    rw [Array.push_eq_append]
    refine ((unhide HI).call 1 W _ _ (by omega) st (by rw [show (tlen la la h 1).1 = H1 from hH1]; exact t1.inD q (unhide HN _ (by omega) (by omega)) (DN _ (by omega)))).mono ?_
    rintro e W' ⟨r, rfl, n, st', q'⟩
    exact ⟨r, rfl, n.mono (by omega), st', q'⟩
  have Q2 : Hid (∀ W, Out (fun j => (D j ∨ j = g) ∨ j = X + 1) W0 W → St 2 W → Calls Tryz.prog k (fs.push (.slice (some ⟨g2, 0, none⟩) H1 H1) ++ cs) W fun e W' => ∃ r, e = .returned r ∧ NewI (X + 1 + 1) W' r (nd (a0 + a2) a1 * nd (a0 + a2) a1) ∧ St 3 W' ∧ Out (fun j => D j ∨ j = g) W W') := fun W q st => by
    have sz := q.size
    rw [Array.push_eq_append]
    refine ((unhide HI).call 2 W _ _ (by omega) st (by rw [show (tlen la la h 2).1 = H1 from hH1]; exact t2.inD q (unhide HN _ (by omega) (by omega)) (DN _ (by omega)))).mono ?_
    rintro e W' ⟨r, rfl, n, st', q'⟩
    exact ⟨r, rfl, n.mono (by omega), st', q'⟩
  have Q3 : Hid (∀ W, Out (fun j => (D j ∨ j = g) ∨ j = X + 1) W0 W → St 3 W → Calls Tryz.prog k (fs.push (.slice (some ⟨g3, 0, none⟩) H1 H1) ++ cs) W fun e W' => ∃ r, e = .returned r ∧ NewI (X + 1 + 1) W' r ((a0 + 2 * a1 + 4 * a2) * (a0 + 2 * a1 + 4 * a2)) ∧ St 4 W' ∧ Out (fun j => D j ∨ j = g) W W') := fun W q st => by
    have sz := q.size
    rw [Array.push_eq_append]
    refine ((unhide HI).call 3 W _ _ (by omega) st (by rw [show (tlen la la h 3).1 = H1 from hH1]; exact t3.inD q (unhide HN _ (by omega) (by omega)) (DN _ (by omega)))).mono ?_
    rintro e W' ⟨r, rfl, n, st', q'⟩
    exact ⟨r, rfl, n.mono (by omega), st', q'⟩
  have Q4 : Hid (∀ W, Out (fun j => (D j ∨ j = g) ∨ j = X + 1) W0 W → St 4 W → Calls Tryz.prog k (fs.push (.slice (some ⟨g4, 0, none⟩) n1 n1) ++ cs) W fun e W' => ∃ r, e = .returned r ∧ NewI (X + 1 + 1) W' r (a2 * a2) ∧ St 5 W' ∧ Out (fun j => D j ∨ j = g) W W') := fun W q st => by
    have sz := q.size
    rw [Array.push_eq_append]
    refine ((unhide HI).call 4 W _ _ (by omega) st (by rw [show (tlen la la h 4).1 = n1 from hn1]; exact t4.inD q (unhide HN _ (by omega) (by omega)) (DN _ (by omega)))).mono ?_
    rintro e W' ⟨r, rfl, n, st', q'⟩
    exact ⟨r, rfl, n.mono (by omega), st', q'⟩
  have R0 : Hid (TRnd (X + 1 + 1) D g (X + 1) false St W0 W0 0 (.slice none 0 0) (.slice none 0 0) (.slice none 0 0) (.slice none 0 0) (.slice none 0 0) (a0 * a0) ((a0 + a1 + a2) * (a0 + a1 + a2)) (nd (a0 + a2) a1 * nd (a0 + a2) a1) ((a0 + 2 * a1 + 4 * a2) * (a0 + 2 * a1 + 4 * a2)) (a2 * a2)) := ⟨unhide S0, kZ, Out.refl _ _, fun h => absurd h (by decide), fun h => absurd h (by decide), fun h => absurd h (by decide), fun h => absurd h (by decide), fun h => absurd h (by decide)⟩
  have CJ : Hid (∀ W u0 u1 u2 u3 u4, InW W u0 (a0 * a0) → InW W u1 ((a0 + a1 + a2) * (a0 + a1 + a2)) → InW W u2 (nd (a0 + a2) a1 * nd (a0 + a2) a1) → InW W u3 ((a0 + 2 * a1 + 4 * a2) * (a0 + 2 * a1 + 4 * a2)) → InW W u4 (a2 * a2) → Calls Tryz.prog 81 #[.agg #[u0, u1, u2, u3, u4, .bool false], .int .i64 (h : Int)] W fun e w' => ∃ r, e = .returned r ∧ NewW W.heap.size w' r (sum5 h (a0 * a0) (a0 * a1 + a1 * a0) (a0 * a2 + a1 * a1 + a2 * a0) (a1 * a2 + a2 * a1) (a2 * a2)) ∧ Below W.heap.size W w') := fun W u0 u1 u2 u3 u4 i0 i1 i2 i3 i4 => vjoin_any W u0 u1 u2 u3 u4 false _ _ _ _ _ _ _ _ h (h + 1 + (h + 1) + 1) (by omega) (by omega) HF5 (two_bound (by rw [← t3.val]; have := wval_lt_pow t3.dig; rw [t3.len, ← hH1] at this; exact this) (by rw [← t3.val]; have := wval_lt_pow t3.dig; rw [t3.len, ← hH1] at this; exact this)) i0 i1 i2 i3 i4
  have HV := hide (sum5_mul h (wval xs) (wval xs) a0 a1 a2 a0 a1 a2 q0 q1 q2 q0 q1 q2)
  have HF : Hid (∀ i, (D i ∨ i = g) ∨ i = X + 1 → (D i ∨ i = g) ∨ w.heap.size ≤ i) := fun i x => by
    rcases x with x | x
    · exact Or.inl x
    · exact Or.inr (by omega)
  have sW0 : Hid (w.heap.size ≤ W0.heap.size) := by show _ ≤ _; omega
  have sW1 : Hid (X + 1 + 1 ≤ W0.heap.size) := by show _ ≤ _; omega
  have hl2 := hide hl0
  have hl3 := hide hl1
  clear HS HD HR HE S0 O1 K3 K1 DN HN kX kZ bb b3 t0 t1 t2 t3 t4 l0 l1 l2 l3 l4 y0 y1 y2 y3 y4 HF5 q0 q1 q2 s1 s3 sW sB hH1 hn1 hl0 hl1 h1 h3 hlt hgl hK2 hla hxl hdx
  generalize a0 * a0 = P0 at *
  generalize (a0 + a1 + a2) * (a0 + a1 + a2) = P1 at *
  generalize nd (a0 + a2) a1 * nd (a0 + a2) a1 = P2 at *
  generalize (a0 + 2 * a1 + 4 * a2) * (a0 + 2 * a1 + 4 * a2) = P3 at *
  generalize a2 * a2 = P4 at *
  go_wp2
  clear hW0
  go_loopw [47] (fun iv wr => ∃ (i : Nat) (v0 v1 v2 v3 v4 : Value), i ≤ 5 ∧ iv = .int .i64 (i : Int) ∧ TRnd (X + 1 + 1) D g (X + 1) false St W0 wr i v0 v1 v2 v3 v4 P0 P1 P2 P3 P4) (fun iv _ => 5 - (intOf iv).toNat)
  case atStart => exact ⟨0, _, _, _, _, _, by decide, rfl, unhide R0⟩
  case round =>
    clear R0
    obtain ⟨i, v0, v1, v2, v3, v4, hi, rfl, hr⟩ := hrel
    have hi6 : i = 0 ∨ i = 1 ∨ i = 2 ∨ i = 3 ∨ i = 4 ∨ i = 5 := by omega
    clear hi
    rcases hi6 with rfl | rfl | rfl | rfl | rfl | rfl
    · have cx := unhide HX0 _ hr.out
      have CC := hide (unhide Q0 _ hr.out hr.st)
      have HRR := hide hr
      clear hr
      go_wp2_with fail
      refine (unhide CC).mono ?_
      rintro e w5 ⟨r, rfl, nr, st5, o5⟩
      obtain ⟨sa, sn, sc, rfl⟩ := nr.inW.is
      have Z5 := (unhide HRR).box5 o5 (unhide HDZ)
      have cz : w5.cell? ⟨X + 1, 0, none⟩ = some v0 := Z5.cell 0 (by simp)
      have fz := Z5.frozen 0
      have R5 := hide ((unhide HRR).step0 (unhide HNX) (unhide HZ0) (unhide HDZ) (unhide HDB) nr st5 o5)
      clear nr st5 o5 Z5 CC HRR cx
      go_wp2
      go_roundw
      case rel => exact ⟨1, _, _, _, _, _, by decide, rfl, unhide R5⟩
      case measure => simp [intOf]
    · have cx := unhide HX1 _ hr.out
      have CC := hide (unhide Q1 _ hr.out hr.st)
      have HRR := hide hr
      clear hr
      go_wp2_with fail
      refine (unhide CC).mono ?_
      rintro e w5 ⟨r, rfl, nr, st5, o5⟩
      obtain ⟨sa, sn, sc, rfl⟩ := nr.inW.is
      have Z5 := (unhide HRR).box5 o5 (unhide HDZ)
      have cz : w5.cell? ⟨X + 1, 1, none⟩ = some v1 := Z5.cell 1 (by simp)
      have fz := Z5.frozen 1
      have R5 := hide ((unhide HRR).step1 (unhide HNX) (unhide HZ0) (unhide HDZ) (unhide HDB) nr st5 o5)
      clear nr st5 o5 Z5 CC HRR cx
      go_wp2
      go_roundw
      case rel => exact ⟨2, _, _, _, _, _, by decide, rfl, unhide R5⟩
      case measure => simp [intOf]
    · have cx := unhide HX2 _ hr.out
      have CC := hide (unhide Q2 _ hr.out hr.st)
      have HRR := hide hr
      clear hr
      go_wp2_with fail
      refine (unhide CC).mono ?_
      rintro e w5 ⟨r, rfl, nr, st5, o5⟩
      obtain ⟨sa, sn, sc, rfl⟩ := nr.inW.is
      have Z5 := (unhide HRR).box5 o5 (unhide HDZ)
      have cz : w5.cell? ⟨X + 1, 2, none⟩ = some v2 := Z5.cell 2 (by simp)
      have fz := Z5.frozen 2
      have R5 := hide ((unhide HRR).step2 (unhide HNX) (unhide HZ0) (unhide HDZ) (unhide HDB) nr st5 o5)
      clear nr st5 o5 Z5 CC HRR cx
      go_wp2
      go_roundw
      case rel => exact ⟨3, _, _, _, _, _, by decide, rfl, unhide R5⟩
      case measure => simp [intOf]
    · have cx := unhide HX3 _ hr.out
      have CC := hide (unhide Q3 _ hr.out hr.st)
      have HRR := hide hr
      clear hr
      go_wp2_with fail
      refine (unhide CC).mono ?_
      rintro e w5 ⟨r, rfl, nr, st5, o5⟩
      obtain ⟨sa, sn, sc, rfl⟩ := nr.inW.is
      have Z5 := (unhide HRR).box5 o5 (unhide HDZ)
      have cz : w5.cell? ⟨X + 1, 3, none⟩ = some v3 := Z5.cell 3 (by simp)
      have fz := Z5.frozen 3
      have R5 := hide ((unhide HRR).step3 (unhide HNX) (unhide HZ0) (unhide HDZ) (unhide HDB) nr st5 o5)
      clear nr st5 o5 Z5 CC HRR cx
      go_wp2
      go_roundw
      case rel => exact ⟨4, _, _, _, _, _, by decide, rfl, unhide R5⟩
      case measure => simp [intOf]
    · have cx := unhide HX4 _ hr.out
      have CC := hide (unhide Q4 _ hr.out hr.st)
      have HRR := hide hr
      clear hr
      go_wp2_with fail
      refine (unhide CC).mono ?_
      rintro e w5 ⟨r, rfl, nr, st5, o5⟩
      obtain ⟨sa, sn, sc, rfl⟩ := nr.inW.is
      have Z5 := (unhide HRR).box5 o5 (unhide HDZ)
      have cz : w5.cell? ⟨X + 1, 4, none⟩ = some v4 := Z5.cell 4 (by simp)
      have fz := Z5.frozen 4
      have R5 := hide ((unhide HRR).step4 (unhide HNX) (unhide HZ0) (unhide HDZ) (unhide HDB) nr st5 o5)
      clear nr st5 o5 Z5 CC HRR cx
      go_wp2
      go_roundw
      case rel => exact ⟨5, _, _, _, _, _, by decide, rfl, unhide R5⟩
      case measure => simp [intOf]
    · have c0 : wr.cell? ⟨X + 1, 0, none⟩ = some v0 := hr.box.cell 0 (by simp)
      have c1 : wr.cell? ⟨X + 1, 1, none⟩ = some v1 := hr.box.cell 1 (by simp)
      have c2 : wr.cell? ⟨X + 1, 2, none⟩ = some v2 := hr.box.cell 2 (by simp)
      have c3 : wr.cell? ⟨X + 1, 3, none⟩ = some v3 := hr.box.cell 3 (by simp)
      have c4 : wr.cell? ⟨X + 1, 4, none⟩ = some v4 := hr.box.cell 4 (by simp)
      have c5 : wr.cell? ⟨X + 1, 5, none⟩ = some (.bool false) := hr.box.cell 5 (by simp)
      have CJ := hide (unhide CJ wr v0 v1 v2 v3 v4 (hr.r0 (by decide)).inW (hr.r1 (by decide)).inW (hr.r2 (by decide)).inW (hr.r3 (by decide)).inW (hr.r4 (by decide)).inW)
      have ST := hide hr.st
      have OW := hide hr.out
      clear hr Q0 Q1 Q2 Q3 Q4 HX0 HX1 HX2 HX3 HX4 HDZ HZ0
      go_wp2_with fail
      refine (unhide CJ).mono ?_
      rintro e w8 ⟨r8, rfl, n8, b8⟩
      have st8 := unhide HNX 5 wr w8 (unhide ST) (Out.of_below b8)
      obtain ⟨s8, m8, K8⟩ := (unhide HI).eng 5 w8 st8
      rw [unhide HV] at n8
      have ST8 := hide st8
      have M8 := hide K8.kara.eng.met
      have OA := hide ((((unhide O3).mono (fun k e => Or.inr e)).fresh (unhide OW) (unhide HF)).next b8)
      have N8 := hide n8
      have SZ := hide (Nat.le_trans (unhide sW0) (unhide OW).size)
      have GL := hide (Nat.lt_of_lt_of_le (unhide HDB g (Or.inl (Or.inr rfl))) (Nat.le_trans (unhide sW1) (unhide OW).size))
      clear n8 st8 K8 HV CJ c0 c1 c2 c3 c4 c5 b8 HI HNX ST OW hcf
      go_wp2
      refine leaves_cons (f := 67) (args := #[.pointer (some ⟨g, 0, none⟩)]) (by simp) (by simp [go_sem]) ?_
      refine (leave_deferred l .returning (unhide M8) (by have := unhide hl2; omega) (by have := unhide hl2; omega) (by have := unhide hl3; omega)).mono ?_
      rintro e u' w9 ⟨rfl, rfl, M9, T9⟩
      have O9 := Out.of_grown T9.grown
      refine ⟨_, results_tmp2 rfl _ _ _, r8, w8, rfl, ?_, unhide ST8, O9, ?_, ?_⟩
      · exact (O9.newW (unhide N8) (fun k e => by rw [e]; exact unhide GL)).mono (unhide SZ)
      · intro s' m' K
        obtain ⟨rfl, _, rfl⟩ := K.kara.eng.met.one (unhide M8)
        exact K.step M9 T9
      · exact (unhide OA).trans (O9.mono (fun k e => Or.inr e))

end Go.Proofs.YtiekgpphggejcaaGreatDoor

/- Toom of the landed toom, the other way round; what is refused. Written by gen_otoom.py. -/
namespace Go.Proofs.YtiekgpphggejcaaGreatDoor
open Go.RowKit

set_option maxRecDepth 100000 in
set_option maxHeartbeats 6400000 in
theorem toom_ba (w : World) (gt gk ge g : Nat) (s l m : Int) (T : Tab) (ga gb : Option Addr) (b o cap la b' o' cap' lb h : Nat) (xs ys : List Nat) (k : Nat) (fs cs : Array Value) (D : Nat → Prop) (St : Nat → World → Prop)
  (hE : TEng w gt gk ge g s l m T) (hl0 : 0 ≤ l) (hl1 : l ≤ 1000000) (hxl : xs.length = la) (hR : Rep w ga b o cap xs) (hdx : WDig xs) (_hbD : 0 < la → ¬ D b) (hyl : ys.length = lb) (hR' : Rep w gb b' o' cap' ys) (hdy : WDig ys) (_hbD' : 0 < lb → ¬ D b') (hla : la ≤ 16384) (hlb : lb ≤ 16384)
  (hh : h = (max la lb + 2) / 3) (hlt : 2 * h < min la lb) (_nt : ¬ D gt) (_nk : ¬ D gk) (_ne : ¬ D ge) (_ng : ¬ D g) (hD : ∀ j, D j → j < w.heap.size) (hI : InnT w.heap.size gt gk ge g l T (max la lb) (min la lb) h k fs cs D St)
  (hS : ∀ W, Out (· = g) w W → TEng W gt gk ge g s (l + 1) (max m (l + 1)) T → St 0 W) (hsw : la < lb) :
  Calls Tryz.prog 63 #[.pointer (some ⟨gt, 0, none⟩), .slice ga la cap, .slice gb lb cap', .func (.func k) fs cs] w fun e w' => ∃ v W, e = .returned (.tuple #[v, .bool true]) ∧ NewW w.heap.size w' v (wval xs * wval ys) ∧ St 5 W ∧ Out (· = g) W w' ∧ (∀ s' m', TEng W gt gk ge g s' (l + 1) m' T → TEng w' gt gk ge g s' l m' T) ∧ Out (fun j => D j ∨ j = g) w w' := by
  have hn : max la lb = lb := by omega
  have hm : min la lb = la := by omega
  rw [hn, hm] at hI
  rw [hn] at hh
  rw [hm] at hlt
  have CH := hide (fun w => piece_any w gb lb cap' h (by omega) hh)
  have hM := hE.kara.eng.met
  have hgl := hM.lt
  have CE := hide (enter_any (l + 1) (max m (l + 1)) hM rfl rfl (by omega) (by omega))
  have e0 := hE.ptr
  have e1 := hE.kara.ptr
  have e2 := hE.kara.eng.ptr
  have HE := hide hE
  obtain ⟨K2, hK2⟩ : ∃ K2, 2 * h = K2 := ⟨_, rfl⟩
  have j1 : 2 * (h : Int) = (K2 : Int) := by omega
  have j2 : IntKind.i64.wrap (K2 : Int) = (K2 : Int) := by rw [IntKind.wrap_i64]; omega
  have ngt : ¬ la ≤ K2 := by omega
  have hcf := hI.go
  have HI := hide hI
  have HS := hide hS
  have HD := hide hD
  have HR' := hide hR'
  have HR := hide hR
  have h3 : lb ≤ 3 * h := by omega
  have h3' : la ≤ 3 * h := by omega
  have hlt1 : 2 * h < lb := by omega
  have h1 : 0 < h := by omega
  clear hE hM hI hS hD hR' hR hh hn hm _ng _nt _nk _ne _hbD' _hbD
  go_enter_defers Tryz.func63, Tryz.ntmps63
  go_wp2_with fail
  refine (unhide CH _).mono ?_
  rintro e w1 ⟨rfl, hw1⟩
  obtain rfl := hw1.symm
  clear hw1 CH
  go_wp2_with fail
  refine (unhide CE).mono ?_
  rintro e w1 ⟨rfl, M1, T1⟩
  have K1 := (unhide HE).step M1 T1
  have r1 := (unhide HR').touch (unhide HE).kara.eng.met T1
  have r1' := (unhide HR).touch (unhide HE).kara.eng.met T1
  have e0 := K1.ptr
  have e1 := K1.kara.ptr
  have e2 := K1.kara.eng.ptr
  have s1 := T1.grown.size
  have O1 := hide (Out.of_grown T1.grown)
  clear CE M1 T1
  obtain ⟨a0, q0⟩ : ∃ a0, a0 = wval ys % 18446744073709551616 ^ h := ⟨_, rfl⟩
  obtain ⟨a1, q1⟩ : ∃ a1, a1 = wval ys / 18446744073709551616 ^ h % 18446744073709551616 ^ h := ⟨_, rfl⟩
  obtain ⟨a2, q2⟩ : ∃ a2, a2 = wval ys / 18446744073709551616 ^ h / 18446744073709551616 ^ h := ⟨_, rfl⟩
  obtain ⟨b0, q0'⟩ : ∃ b0, b0 = wval xs % 18446744073709551616 ^ h := ⟨_, rfl⟩
  obtain ⟨b1, q1'⟩ : ∃ b1, b1 = wval xs / 18446744073709551616 ^ h % 18446744073709551616 ^ h := ⟨_, rfl⟩
  obtain ⟨b2, q2'⟩ : ∃ b2, b2 = wval xs / 18446744073709551616 ^ h / 18446744073709551616 ^ h := ⟨_, rfl⟩
  have CV := hide (vals_any w1 _ _ _ _ _ h ys a0 a1 a2 hyl hlb h1 hlt1 h3 r1 hdy q0 q1 q2)
  have CV' := hide (fun W (bb : Below w1.heap.size w1 W) => vals_any W _ _ _ _ _ h xs b0 b1 b2 hxl hla h1 hlt h3' (r1'.next bb) hdx q0' q1' q2')
  clear r1 r1'
  go_wp2_with fail
  refine (unhide CV).mono ?_
  rintro e w2 ⟨v2, rfl, p2, bs2⟩
  have CV' := hide (unhide CV' _ bs2)
  clear CV
  go_wp2_with fail
  refine (unhide CV').mono ?_
  rintro e w3 ⟨v3, rfl, p3, bs3⟩
  obtain ⟨g0, g1, g2, g3, g4, z0, z1, z2, z3, z4, rfl, t0, t1, t2, t3, t4⟩ := p2.out
  obtain ⟨g0', g1', g2', g3', g4', z0', z1', z2', z3', z4', rfl, t0', t1', t2', t3', t4'⟩ := p3.out
  have s2 := bs2.size
  have t0 := t0.next bs3
  have t1 := t1.next bs3
  have t2 := t2.next bs3
  have t3 := t3.next bs3
  have t4 := t4.next bs3
  have t0' := t0'.mono s2
  have t1' := t1'.mono s2
  have t2' := t2'.mono s2
  have t3' := t3'.mono s2
  have t4' := t4'.mono s2
  have b3 := bstep bs2 bs3
  have s3 := b3.size
  have O3 := hide ((unhide O1).next b3)
  have K3 := K1.next b3
  clear p2 p3 e0 e1 e2 CV' bs2 bs3
  obtain ⟨H1, hH1⟩ : ∃ H1, h + 1 = H1 := ⟨_, rfl⟩
  obtain ⟨n1, hn1⟩ : ∃ n1, lb - 2 * h = n1 := ⟨_, rfl⟩
  obtain ⟨m1, hm1⟩ : ∃ m1, la - 2 * h = m1 := ⟨_, rfl⟩
  rw [hH1, hn1, hm1]
  rw [hH1] at t1 t2 t3 t1' t2' t3'
  rw [hn1] at t4
  rw [hm1] at t4'
  have HF5 := five_mul a0 a1 a2 b0 b1 b2
  -- mark
  generalize decide (a0 + a2 < a1) = ba at *
  generalize decide (b0 + b2 < b1) = bb at *
  obtain ⟨bz, hbz⟩ : ∃ bz, (!(ba == bb)) = bz := ⟨_, rfl⟩
  have HF5 : Five (!(ba == bb)) _ _ _ _ _ _ _ _ := HF5
  rw [hbz] at HF5
  have bB : Below w3.heap.size w3 (((w3.alloc (.cells #[.slice (some ⟨g0, 0, none⟩) h h, .slice (some ⟨g1, 0, none⟩) H1 H1, .slice (some ⟨g2, 0, none⟩) H1 H1, .slice (some ⟨g3, 0, none⟩) H1 H1, .slice (some ⟨g4, 0, none⟩) n1 n1, .bool ba] 105)).alloc (.cells #[.slice (some ⟨g0', 0, none⟩) h h, .slice (some ⟨g1', 0, none⟩) H1 H1, .slice (some ⟨g2', 0, none⟩) H1 H1, .slice (some ⟨g3', 0, none⟩) H1 H1, .slice (some ⟨g4', 0, none⟩) m1 m1, .bool bb] 105)).alloc (.cells #[.slice none 0 0, .slice none 0 0, .slice none 0 0, .slice none 0 0, .slice none 0 0, .bool bz] 105)) := (((Below.refl _ _).alloc (Nat.le_refl _) _).alloc (by simp) _).alloc (by simp; omega) _
  obtain ⟨kX, kY, kZ⟩ := boxes3 w3 (.cells #[.slice (some ⟨g0, 0, none⟩) h h, .slice (some ⟨g1, 0, none⟩) H1 H1, .slice (some ⟨g2, 0, none⟩) H1 H1, .slice (some ⟨g3, 0, none⟩) H1 H1, .slice (some ⟨g4, 0, none⟩) n1 n1, .bool ba] 105) (.cells #[.slice (some ⟨g0', 0, none⟩) h h, .slice (some ⟨g1', 0, none⟩) H1 H1, .slice (some ⟨g2', 0, none⟩) H1 H1, .slice (some ⟨g3', 0, none⟩) H1 H1, .slice (some ⟨g4', 0, none⟩) m1 m1, .bool bb] 105) (.cells #[.slice none 0 0, .slice none 0 0, .slice none 0 0, .slice none 0 0, .slice none 0 0, .bool bz] 105)
  have sB : (((w3.alloc (.cells #[.slice (some ⟨g0, 0, none⟩) h h, .slice (some ⟨g1, 0, none⟩) H1 H1, .slice (some ⟨g2, 0, none⟩) H1 H1, .slice (some ⟨g3, 0, none⟩) H1 H1, .slice (some ⟨g4, 0, none⟩) n1 n1, .bool ba] 105)).alloc (.cells #[.slice (some ⟨g0', 0, none⟩) h h, .slice (some ⟨g1', 0, none⟩) H1 H1, .slice (some ⟨g2', 0, none⟩) H1 H1, .slice (some ⟨g3', 0, none⟩) H1 H1, .slice (some ⟨g4', 0, none⟩) m1 m1, .bool bb] 105)).alloc (.cells #[.slice none 0 0, .slice none 0 0, .slice none 0 0, .slice none 0 0, .slice none 0 0, .bool bz] 105)).heap.size = w3.heap.size + 1 + 1 + 1 := by simp
  obtain ⟨W0, hW0⟩ : ∃ W0, ((w3.alloc (.cells #[.slice (some ⟨g0, 0, none⟩) h h, .slice (some ⟨g1, 0, none⟩) H1 H1, .slice (some ⟨g2, 0, none⟩) H1 H1, .slice (some ⟨g3, 0, none⟩) H1 H1, .slice (some ⟨g4, 0, none⟩) n1 n1, .bool ba] 105)).alloc (.cells #[.slice (some ⟨g0', 0, none⟩) h h, .slice (some ⟨g1', 0, none⟩) H1 H1, .slice (some ⟨g2', 0, none⟩) H1 H1, .slice (some ⟨g3', 0, none⟩) H1 H1, .slice (some ⟨g4', 0, none⟩) m1 m1, .bool bb] 105)).alloc (.cells #[.slice none 0 0, .slice none 0 0, .slice none 0 0, .slice none 0 0, .slice none 0 0, .bool bz] 105) = W0 := ⟨_, rfl⟩
  rw [hW0] at bB kX kY kZ sB
  obtain ⟨X, hX⟩ : ∃ X, w3.heap.size = X := ⟨_, rfl⟩
  rw [hX] at kX kY kZ sB
  have sW := bB.size
  have l0 : g0 < X := by rw [← hX]; exact t0.blk.lt
  have l1 : g1 < X := by rw [← hX]; exact t1.blk.lt
  have l2 : g2 < X := by rw [← hX]; exact t2.blk.lt
  have l3 : g3 < X := by rw [← hX]; exact t3.blk.lt
  have l4 : g4 < X := by rw [← hX]; exact t4.blk.lt
  have t0 := t0.next bB
  have t1 := t1.next bB
  have t2 := t2.next bB
  have t3 := t3.next bB
  have t4 := t4.next bB
  have y0 := t0.ge
  have y1 := t1.ge
  have y2 := t2.ge
  have y3 := t3.ge
  have y4 := t4.ge
  have l0' : g0' < X := by rw [← hX]; exact t0'.blk.lt
  have l1' : g1' < X := by rw [← hX]; exact t1'.blk.lt
  have l2' : g2' < X := by rw [← hX]; exact t2'.blk.lt
  have l3' : g3' < X := by rw [← hX]; exact t3'.blk.lt
  have l4' : g4' < X := by rw [← hX]; exact t4'.blk.lt
  have t0' := t0'.next bB
  have t1' := t1'.next bB
  have t2' := t2'.next bB
  have t3' := t3'.next bB
  have t4' := t4'.next bB
  have y0' := t0'.ge
  have y1' := t1'.ge
  have y2' := t2'.ge
  have y3' := t3'.ge
  have y4' := t4'.ge
  have O3 := hide ((unhide O3).next bB)
  have S0 := hide (unhide HS _ (unhide O3) (K3.next bB))
  have DN : ∀ q, w.heap.size ≤ q → ¬ (D q ∨ q = g) := fun q hq x => by
    rcases x with x | x
    · have := unhide HD q x; omega
    · omega
  have HDZ : Hid (¬ (D (X + 1 + 1) ∨ X + 1 + 1 = g)) := DN _ (by omega)
  have HDB : Hid (∀ q, (D q ∨ q = g) ∨ q = X + 1 + 1 → q < X + 1 + 1 + 1) := fun q x => by
    rcases x with (x | x) | x
    · have := unhide HD q x; omega
    · omega
    · omega
  have HZ0 : Hid (w.heap.size ≤ X + 1 + 1) := by show _ ≤ _; omega
  have HNX := hide ((unhide HI).next)
  have HN : Hid (∀ q, w.heap.size ≤ q → q < X + 1 + 1 → ¬ ((D q ∨ q = g) ∨ q = X + 1 + 1)) := fun q hq hz x => by
    rcases x with x | x
    · exact DN q hq x
    · omega
  have HX0 : Hid (∀ W, Out (fun j => (D j ∨ j = g) ∨ j = X + 1 + 1) W0 W → W.cell? ⟨X, 0, none⟩ = some (.slice (some ⟨g0, 0, none⟩) h h)) := fun W q => cell_of_row _ X 0 _ _ (0, 0) ((q.block X (Array.getElem?_eq_some_iff.1 kX).1 (unhide HN _ (by omega) (by omega))).trans kX)
  have HY0 : Hid (∀ W, Out (fun j => (D j ∨ j = g) ∨ j = X + 1 + 1) W0 W → W.cell? ⟨X + 1, 0, none⟩ = some (.slice (some ⟨g0', 0, none⟩) h h)) := fun W q => cell_of_row _ (X + 1) 0 _ _ (0, 0) ((q.block (X + 1) (Array.getElem?_eq_some_iff.1 kY).1 (unhide HN _ (by omega) (by omega))).trans kY)
  have HX1 : Hid (∀ W, Out (fun j => (D j ∨ j = g) ∨ j = X + 1 + 1) W0 W → W.cell? ⟨X, 1, none⟩ = some (.slice (some ⟨g1, 0, none⟩) H1 H1)) := fun W q => cell_of_row _ X 1 _ _ (0, 0) ((q.block X (Array.getElem?_eq_some_iff.1 kX).1 (unhide HN _ (by omega) (by omega))).trans kX)
  have HY1 : Hid (∀ W, Out (fun j => (D j ∨ j = g) ∨ j = X + 1 + 1) W0 W → W.cell? ⟨X + 1, 1, none⟩ = some (.slice (some ⟨g1', 0, none⟩) H1 H1)) := fun W q => cell_of_row _ (X + 1) 1 _ _ (0, 0) ((q.block (X + 1) (Array.getElem?_eq_some_iff.1 kY).1 (unhide HN _ (by omega) (by omega))).trans kY)
  have HX2 : Hid (∀ W, Out (fun j => (D j ∨ j = g) ∨ j = X + 1 + 1) W0 W → W.cell? ⟨X, 2, none⟩ = some (.slice (some ⟨g2, 0, none⟩) H1 H1)) := fun W q => cell_of_row _ X 2 _ _ (0, 0) ((q.block X (Array.getElem?_eq_some_iff.1 kX).1 (unhide HN _ (by omega) (by omega))).trans kX)
  have HY2 : Hid (∀ W, Out (fun j => (D j ∨ j = g) ∨ j = X + 1 + 1) W0 W → W.cell? ⟨X + 1, 2, none⟩ = some (.slice (some ⟨g2', 0, none⟩) H1 H1)) := fun W q => cell_of_row _ (X + 1) 2 _ _ (0, 0) ((q.block (X + 1) (Array.getElem?_eq_some_iff.1 kY).1 (unhide HN _ (by omega) (by omega))).trans kY)
  have HX3 : Hid (∀ W, Out (fun j => (D j ∨ j = g) ∨ j = X + 1 + 1) W0 W → W.cell? ⟨X, 3, none⟩ = some (.slice (some ⟨g3, 0, none⟩) H1 H1)) := fun W q => cell_of_row _ X 3 _ _ (0, 0) ((q.block X (Array.getElem?_eq_some_iff.1 kX).1 (unhide HN _ (by omega) (by omega))).trans kX)
  have HY3 : Hid (∀ W, Out (fun j => (D j ∨ j = g) ∨ j = X + 1 + 1) W0 W → W.cell? ⟨X + 1, 3, none⟩ = some (.slice (some ⟨g3', 0, none⟩) H1 H1)) := fun W q => cell_of_row _ (X + 1) 3 _ _ (0, 0) ((q.block (X + 1) (Array.getElem?_eq_some_iff.1 kY).1 (unhide HN _ (by omega) (by omega))).trans kY)
  have HX4 : Hid (∀ W, Out (fun j => (D j ∨ j = g) ∨ j = X + 1 + 1) W0 W → W.cell? ⟨X, 4, none⟩ = some (.slice (some ⟨g4, 0, none⟩) n1 n1)) := fun W q => cell_of_row _ X 4 _ _ (0, 0) ((q.block X (Array.getElem?_eq_some_iff.1 kX).1 (unhide HN _ (by omega) (by omega))).trans kX)
  have HY4 : Hid (∀ W, Out (fun j => (D j ∨ j = g) ∨ j = X + 1 + 1) W0 W → W.cell? ⟨X + 1, 4, none⟩ = some (.slice (some ⟨g4', 0, none⟩) m1 m1)) := fun W q => cell_of_row _ (X + 1) 4 _ _ (0, 0) ((q.block (X + 1) (Array.getElem?_eq_some_iff.1 kY).1 (unhide HN _ (by omega) (by omega))).trans kY)
  have Q0 : Hid (∀ W, Out (fun j => (D j ∨ j = g) ∨ j = X + 1 + 1) W0 W → St 0 W → Calls Tryz.prog k (fs ++ (#[.slice (some ⟨g0, 0, none⟩) h h, .slice (some ⟨g0', 0, none⟩) h h] ++ cs)) W fun e W' => ∃ r, e = .returned r ∧ NewI (X + 1 + 1 + 1) W' r (a0 * b0) ∧ St 1 W' ∧ Out (fun j => D j ∨ j = g) W W') := fun W q st => by
    have sz := q.size
    rw [← Array.append_assoc]
    refine ((unhide HI).call 0 W _ _ _ _ (by omega) st (by rw [show (tlen lb la h 0).1 = h from rfl]; exact t0.inD q (unhide HN _ (by omega) (by omega)) (DN _ (by omega))) (by rw [show (tlen lb la h 0).2 = h from rfl]; exact t0'.inD q (unhide HN _ (by omega) (by omega)) (DN _ (by omega)))).mono ?_
    rintro e W' ⟨r, rfl, n, st', q'⟩
    exact ⟨r, rfl, n.mono (by omega), st', q'⟩
  have Q1 : Hid (∀ W, Out (fun j => (D j ∨ j = g) ∨ j = X + 1 + 1) W0 W → St 1 W → Calls Tryz.prog k (fs ++ (#[.slice (some ⟨g1, 0, none⟩) H1 H1, .slice (some ⟨g1', 0, none⟩) H1 H1] ++ cs)) W fun e W' => ∃ r, e = .returned r ∧ NewI (X + 1 + 1 + 1) W' r ((a0 + a1 + a2) * (b0 + b1 + b2)) ∧ St 2 W' ∧ Out (fun j => D j ∨ j = g) W W') := fun W q st => by
    have sz := q.size
    rw [← Array.append_assoc]
    refine ((unhide HI).call 1 W _ _ _ _ (by omega) st (by rw [show (tlen lb la h 1).1 = H1 from hH1]; exact t1.inD q (unhide HN _ (by omega) (by omega)) (DN _ (by omega))) (by rw [show (tlen lb la h 1).2 = H1 from hH1]; exact t1'.inD q (unhide HN _ (by omega) (by omega)) (DN _ (by omega)))).mono ?_
    rintro e W' ⟨r, rfl, n, st', q'⟩
    exact ⟨r, rfl, n.mono (by omega), st', q'⟩
  have Q2 : Hid (∀ W, Out (fun j => (D j ∨ j = g) ∨ j = X + 1 + 1) W0 W → St 2 W → Calls Tryz.prog k (fs ++ (#[.slice (some ⟨g2, 0, none⟩) H1 H1, .slice (some ⟨g2', 0, none⟩) H1 H1] ++ cs)) W fun e W' => ∃ r, e = .returned r ∧ NewI (X + 1 + 1 + 1) W' r (nd (a0 + a2) a1 * nd (b0 + b2) b1) ∧ St 3 W' ∧ Out (fun j => D j ∨ j = g) W W') := fun W q st => by
    have sz := q.size
    rw [← Array.append_assoc]
    refine ((unhide HI).call 2 W _ _ _ _ (by omega) st (by rw [show (tlen lb la h 2).1 = H1 from hH1]; exact t2.inD q (unhide HN _ (by omega) (by omega)) (DN _ (by omega))) (by rw [show (tlen lb la h 2).2 = H1 from hH1]; exact t2'.inD q (unhide HN _ (by omega) (by omega)) (DN _ (by omega)))).mono ?_
    rintro e W' ⟨r, rfl, n, st', q'⟩
    exact ⟨r, rfl, n.mono (by omega), st', q'⟩
  have Q3 : Hid (∀ W, Out (fun j => (D j ∨ j = g) ∨ j = X + 1 + 1) W0 W → St 3 W → Calls Tryz.prog k (fs ++ (#[.slice (some ⟨g3, 0, none⟩) H1 H1, .slice (some ⟨g3', 0, none⟩) H1 H1] ++ cs)) W fun e W' => ∃ r, e = .returned r ∧ NewI (X + 1 + 1 + 1) W' r ((a0 + 2 * a1 + 4 * a2) * (b0 + 2 * b1 + 4 * b2)) ∧ St 4 W' ∧ Out (fun j => D j ∨ j = g) W W') := fun W q st => by
    have sz := q.size
    rw [← Array.append_assoc]
    refine ((unhide HI).call 3 W _ _ _ _ (by omega) st (by rw [show (tlen lb la h 3).1 = H1 from hH1]; exact t3.inD q (unhide HN _ (by omega) (by omega)) (DN _ (by omega))) (by rw [show (tlen lb la h 3).2 = H1 from hH1]; exact t3'.inD q (unhide HN _ (by omega) (by omega)) (DN _ (by omega)))).mono ?_
    rintro e W' ⟨r, rfl, n, st', q'⟩
    exact ⟨r, rfl, n.mono (by omega), st', q'⟩
  have Q4 : Hid (∀ W, Out (fun j => (D j ∨ j = g) ∨ j = X + 1 + 1) W0 W → St 4 W → Calls Tryz.prog k (fs ++ (#[.slice (some ⟨g4, 0, none⟩) n1 n1, .slice (some ⟨g4', 0, none⟩) m1 m1] ++ cs)) W fun e W' => ∃ r, e = .returned r ∧ NewI (X + 1 + 1 + 1) W' r (a2 * b2) ∧ St 5 W' ∧ Out (fun j => D j ∨ j = g) W W') := fun W q st => by
    have sz := q.size
    rw [← Array.append_assoc]
    refine ((unhide HI).call 4 W _ _ _ _ (by omega) st (by rw [show (tlen lb la h 4).1 = n1 from hn1]; exact t4.inD q (unhide HN _ (by omega) (by omega)) (DN _ (by omega))) (by rw [show (tlen lb la h 4).2 = m1 from hm1]; exact t4'.inD q (unhide HN _ (by omega) (by omega)) (DN _ (by omega)))).mono ?_
    rintro e W' ⟨r, rfl, n, st', q'⟩
    exact ⟨r, rfl, n.mono (by omega), st', q'⟩
  have R0 : Hid (TRnd (X + 1 + 1 + 1) D g (X + 1 + 1) bz St W0 W0 0 (.slice none 0 0) (.slice none 0 0) (.slice none 0 0) (.slice none 0 0) (.slice none 0 0) (a0 * b0) ((a0 + a1 + a2) * (b0 + b1 + b2)) (nd (a0 + a2) a1 * nd (b0 + b2) b1) ((a0 + 2 * a1 + 4 * a2) * (b0 + 2 * b1 + 4 * b2)) (a2 * b2)) := ⟨unhide S0, kZ, Out.refl _ _, fun h => absurd h (by decide), fun h => absurd h (by decide), fun h => absurd h (by decide), fun h => absurd h (by decide), fun h => absurd h (by decide)⟩
  have CJ : Hid (∀ W u0 u1 u2 u3 u4, InW W u0 (a0 * b0) → InW W u1 ((a0 + a1 + a2) * (b0 + b1 + b2)) → InW W u2 (nd (a0 + a2) a1 * nd (b0 + b2) b1) → InW W u3 ((a0 + 2 * a1 + 4 * a2) * (b0 + 2 * b1 + 4 * b2)) → InW W u4 (a2 * b2) → Calls Tryz.prog 81 #[.agg #[u0, u1, u2, u3, u4, .bool bz], .int .i64 (h : Int)] W fun e w' => ∃ r, e = .returned r ∧ NewW W.heap.size w' r (sum5 h (a0 * b0) (a0 * b1 + a1 * b0) (a0 * b2 + a1 * b1 + a2 * b0) (a1 * b2 + a2 * b1) (a2 * b2)) ∧ Below W.heap.size W w') := fun W u0 u1 u2 u3 u4 i0 i1 i2 i3 i4 => vjoin_any W u0 u1 u2 u3 u4 bz _ _ _ _ _ _ _ _ h (h + 1 + (h + 1) + 1) (by omega) (by omega) HF5 (two_bound (by rw [← t3.val]; have := wval_lt_pow t3.dig; rw [t3.len, ← hH1] at this; exact this) (by rw [← t3'.val]; have := wval_lt_pow t3'.dig; rw [t3'.len, ← hH1] at this; exact this)) i0 i1 i2 i3 i4
  have HV := hide (sum5_mul h (wval ys) (wval xs) a0 a1 a2 b0 b1 b2 q0 q1 q2 q0' q1' q2')
  rw [Nat.mul_comm (wval ys) (wval xs)] at HV
  have HF : Hid (∀ i, (D i ∨ i = g) ∨ i = X + 1 + 1 → (D i ∨ i = g) ∨ w.heap.size ≤ i) := fun i x => by
    rcases x with x | x
    · exact Or.inl x
    · exact Or.inr (by omega)
  have sW0 : Hid (w.heap.size ≤ W0.heap.size) := by show _ ≤ _; omega
  have sW1 : Hid (X + 1 + 1 + 1 ≤ W0.heap.size) := by show _ ≤ _; omega
  have hl2 := hide hl0
  have hl3 := hide hl1
  clear HS HD HR' HR HE S0 O1 K3 K1 DN HN kX kY kZ bB b3 t0 t1 t2 t3 t4 l0 l1 l2 l3 l4 y0 y1 y2 y3 y4 t0' t1' t2' t3' t4' l0' l1' l2' l3' l4' y0' y1' y2' y3' y4' HF5 q0 q1 q2 q0' q1' q2' s1 s2 s3 sW sB hH1 hn1 hm1 hl0 hl1 h1 h3 h3' hlt hlt1 hgl hK2 hlb hla hyl hxl hdy hdx
  generalize a0 * b0 = P0 at *
  generalize (a0 + a1 + a2) * (b0 + b1 + b2) = P1 at *
  generalize nd (a0 + a2) a1 * nd (b0 + b2) b1 = P2 at *
  generalize (a0 + 2 * a1 + 4 * a2) * (b0 + 2 * b1 + 4 * b2) = P3 at *
  generalize a2 * b2 = P4 at *
  go_wp2
  clear hW0
  go_loopw [66] (fun iv wr => ∃ (i : Nat) (v0 v1 v2 v3 v4 : Value), i ≤ 5 ∧ iv = .int .i64 (i : Int) ∧ TRnd (X + 1 + 1 + 1) D g (X + 1 + 1) bz St W0 wr i v0 v1 v2 v3 v4 P0 P1 P2 P3 P4) (fun iv _ => 5 - (intOf iv).toNat)
  case atStart => exact ⟨0, _, _, _, _, _, by decide, rfl, unhide R0⟩
  case round =>
    clear R0
    obtain ⟨i, v0, v1, v2, v3, v4, hi, rfl, hr⟩ := hrel
    have hi6 : i = 0 ∨ i = 1 ∨ i = 2 ∨ i = 3 ∨ i = 4 ∨ i = 5 := by omega
    clear hi
    rcases hi6 with rfl | rfl | rfl | rfl | rfl | rfl
    · have hd := hr.drew (unhide HNX)
      have cx := unhide HX0 _ hr.out
      have cy := unhide HY0 _ hr.out
      have od := hd.out
      have HK : Hid (∀ W, Out (fun j => (D j ∨ j = g) ∨ j = X + 1 + 1) W0 W → W.cell? ⟨X, 0, none⟩ = some (.slice (some ⟨g0, 0, none⟩) h h) ∧ W.cell? ⟨X + 1, 0, none⟩ = some (.slice (some ⟨g0', 0, none⟩) h h)) := fun W q => ⟨unhide HX0 W q, unhide HY0 W q⟩
      have CC := hide (unhide Q0 _ hd.out hd.st)
      have HRR := hide hd
      clear hr hd
      go_wp2
      go_region_held3 (fun w' => w'.cell? ⟨X, 0, none⟩ = some (.slice (some ⟨g0, 0, none⟩) h h) ∧ w'.cell? ⟨X + 1, 0, none⟩ = some (.slice (some ⟨g0', 0, none⟩) h h)) (first | (with_reducible exact unhide HK _ od) | (with_reducible exact unhide HK _ ow) | (with_reducible exact unhide HK _ (unhide R5).out) | go_keep) (first
        | (with_reducible refine (unhide CC).mono ?_; rintro e w5 ⟨r, rfl, nr, st5, o5⟩; obtain ⟨sa, sn, sc, rfl⟩ := nr.inW.is; have Z5 := (unhide HRR).box5 o5 (unhide HDZ); have cz := box6_c0 Z5; have fz := Z5.frozen 0; have R5 := hide ((unhide HRR).step0 (unhide HNX) (unhide HZ0) (unhide HDZ) (unhide HDB) nr st5 o5); have ow := od.trans (o5.mono (fun k e => Or.inl e)); clear nr st5 o5 Z5 cx cy; obtain ⟨cx, cy⟩ := unhide HK _ ow)
        | fail)
      all_goals
        focus
          clear CC HRR cx cy od ow HK
          go_wp2
          go_roundw
          case rel => exact ⟨1, _, _, _, _, _, by decide, rfl, unhide R5⟩
          case measure => simp [intOf]
    · have hd := hr.drew (unhide HNX)
      have cx := unhide HX1 _ hr.out
      have cy := unhide HY1 _ hr.out
      have od := hd.out
      have HK : Hid (∀ W, Out (fun j => (D j ∨ j = g) ∨ j = X + 1 + 1) W0 W → W.cell? ⟨X, 1, none⟩ = some (.slice (some ⟨g1, 0, none⟩) H1 H1) ∧ W.cell? ⟨X + 1, 1, none⟩ = some (.slice (some ⟨g1', 0, none⟩) H1 H1)) := fun W q => ⟨unhide HX1 W q, unhide HY1 W q⟩
      have CC := hide (unhide Q1 _ hd.out hd.st)
      have HRR := hide hd
      clear hr hd
      go_wp2
      go_region_held3 (fun w' => w'.cell? ⟨X, 1, none⟩ = some (.slice (some ⟨g1, 0, none⟩) H1 H1) ∧ w'.cell? ⟨X + 1, 1, none⟩ = some (.slice (some ⟨g1', 0, none⟩) H1 H1)) (first | (with_reducible exact unhide HK _ od) | (with_reducible exact unhide HK _ ow) | (with_reducible exact unhide HK _ (unhide R5).out) | go_keep) (first
        | (with_reducible refine (unhide CC).mono ?_; rintro e w5 ⟨r, rfl, nr, st5, o5⟩; obtain ⟨sa, sn, sc, rfl⟩ := nr.inW.is; have Z5 := (unhide HRR).box5 o5 (unhide HDZ); have cz := box6_c1 Z5; have fz := Z5.frozen 1; have R5 := hide ((unhide HRR).step1 (unhide HNX) (unhide HZ0) (unhide HDZ) (unhide HDB) nr st5 o5); have ow := od.trans (o5.mono (fun k e => Or.inl e)); clear nr st5 o5 Z5 cx cy; obtain ⟨cx, cy⟩ := unhide HK _ ow)
        | fail)
      all_goals
        focus
          clear CC HRR cx cy od ow HK
          go_wp2
          go_roundw
          case rel => exact ⟨2, _, _, _, _, _, by decide, rfl, unhide R5⟩
          case measure => simp [intOf]
    · have hd := hr.drew (unhide HNX)
      have cx := unhide HX2 _ hr.out
      have cy := unhide HY2 _ hr.out
      have od := hd.out
      have HK : Hid (∀ W, Out (fun j => (D j ∨ j = g) ∨ j = X + 1 + 1) W0 W → W.cell? ⟨X, 2, none⟩ = some (.slice (some ⟨g2, 0, none⟩) H1 H1) ∧ W.cell? ⟨X + 1, 2, none⟩ = some (.slice (some ⟨g2', 0, none⟩) H1 H1)) := fun W q => ⟨unhide HX2 W q, unhide HY2 W q⟩
      have CC := hide (unhide Q2 _ hd.out hd.st)
      have HRR := hide hd
      clear hr hd
      go_wp2
      go_region_held3 (fun w' => w'.cell? ⟨X, 2, none⟩ = some (.slice (some ⟨g2, 0, none⟩) H1 H1) ∧ w'.cell? ⟨X + 1, 2, none⟩ = some (.slice (some ⟨g2', 0, none⟩) H1 H1)) (first | (with_reducible exact unhide HK _ od) | (with_reducible exact unhide HK _ ow) | (with_reducible exact unhide HK _ (unhide R5).out) | go_keep) (first
        | (with_reducible refine (unhide CC).mono ?_; rintro e w5 ⟨r, rfl, nr, st5, o5⟩; obtain ⟨sa, sn, sc, rfl⟩ := nr.inW.is; have Z5 := (unhide HRR).box5 o5 (unhide HDZ); have cz := box6_c2 Z5; have fz := Z5.frozen 2; have R5 := hide ((unhide HRR).step2 (unhide HNX) (unhide HZ0) (unhide HDZ) (unhide HDB) nr st5 o5); have ow := od.trans (o5.mono (fun k e => Or.inl e)); clear nr st5 o5 Z5 cx cy; obtain ⟨cx, cy⟩ := unhide HK _ ow)
        | fail)
      all_goals
        focus
          clear CC HRR cx cy od ow HK
          go_wp2
          go_roundw
          case rel => exact ⟨3, _, _, _, _, _, by decide, rfl, unhide R5⟩
          case measure => simp [intOf]
    · have hd := hr.drew (unhide HNX)
      have cx := unhide HX3 _ hr.out
      have cy := unhide HY3 _ hr.out
      have od := hd.out
      have HK : Hid (∀ W, Out (fun j => (D j ∨ j = g) ∨ j = X + 1 + 1) W0 W → W.cell? ⟨X, 3, none⟩ = some (.slice (some ⟨g3, 0, none⟩) H1 H1) ∧ W.cell? ⟨X + 1, 3, none⟩ = some (.slice (some ⟨g3', 0, none⟩) H1 H1)) := fun W q => ⟨unhide HX3 W q, unhide HY3 W q⟩
      have CC := hide (unhide Q3 _ hd.out hd.st)
      have HRR := hide hd
      clear hr hd
      go_wp2
      go_region_held3 (fun w' => w'.cell? ⟨X, 3, none⟩ = some (.slice (some ⟨g3, 0, none⟩) H1 H1) ∧ w'.cell? ⟨X + 1, 3, none⟩ = some (.slice (some ⟨g3', 0, none⟩) H1 H1)) (first | (with_reducible exact unhide HK _ od) | (with_reducible exact unhide HK _ ow) | (with_reducible exact unhide HK _ (unhide R5).out) | go_keep) (first
        | (with_reducible refine (unhide CC).mono ?_; rintro e w5 ⟨r, rfl, nr, st5, o5⟩; obtain ⟨sa, sn, sc, rfl⟩ := nr.inW.is; have Z5 := (unhide HRR).box5 o5 (unhide HDZ); have cz := box6_c3 Z5; have fz := Z5.frozen 3; have R5 := hide ((unhide HRR).step3 (unhide HNX) (unhide HZ0) (unhide HDZ) (unhide HDB) nr st5 o5); have ow := od.trans (o5.mono (fun k e => Or.inl e)); clear nr st5 o5 Z5 cx cy; obtain ⟨cx, cy⟩ := unhide HK _ ow)
        | fail)
      all_goals
        focus
          clear CC HRR cx cy od ow HK
          go_wp2
          go_roundw
          case rel => exact ⟨4, _, _, _, _, _, by decide, rfl, unhide R5⟩
          case measure => simp [intOf]
    · have hd := hr.drew (unhide HNX)
      have cx := unhide HX4 _ hr.out
      have cy := unhide HY4 _ hr.out
      have od := hd.out
      have HK : Hid (∀ W, Out (fun j => (D j ∨ j = g) ∨ j = X + 1 + 1) W0 W → W.cell? ⟨X, 4, none⟩ = some (.slice (some ⟨g4, 0, none⟩) n1 n1) ∧ W.cell? ⟨X + 1, 4, none⟩ = some (.slice (some ⟨g4', 0, none⟩) m1 m1)) := fun W q => ⟨unhide HX4 W q, unhide HY4 W q⟩
      have CC := hide (unhide Q4 _ hd.out hd.st)
      have HRR := hide hd
      clear hr hd
      go_wp2
      go_region_held3 (fun w' => w'.cell? ⟨X, 4, none⟩ = some (.slice (some ⟨g4, 0, none⟩) n1 n1) ∧ w'.cell? ⟨X + 1, 4, none⟩ = some (.slice (some ⟨g4', 0, none⟩) m1 m1)) (first | (with_reducible exact unhide HK _ od) | (with_reducible exact unhide HK _ ow) | (with_reducible exact unhide HK _ (unhide R5).out) | go_keep) (first
        | (with_reducible refine (unhide CC).mono ?_; rintro e w5 ⟨r, rfl, nr, st5, o5⟩; obtain ⟨sa, sn, sc, rfl⟩ := nr.inW.is; have Z5 := (unhide HRR).box5 o5 (unhide HDZ); have cz := box6_c4 Z5; have fz := Z5.frozen 4; have R5 := hide ((unhide HRR).step4 (unhide HNX) (unhide HZ0) (unhide HDZ) (unhide HDB) nr st5 o5); have ow := od.trans (o5.mono (fun k e => Or.inl e)); clear nr st5 o5 Z5 cx cy; obtain ⟨cx, cy⟩ := unhide HK _ ow)
        | fail)
      all_goals
        focus
          clear CC HRR cx cy od ow HK
          go_wp2
          go_roundw
          case rel => exact ⟨5, _, _, _, _, _, by decide, rfl, unhide R5⟩
          case measure => simp [intOf]
    · have c0 : wr.cell? ⟨X + 1 + 1, 0, none⟩ = some v0 := hr.box.cell 0 (by simp)
      have c1 : wr.cell? ⟨X + 1 + 1, 1, none⟩ = some v1 := hr.box.cell 1 (by simp)
      have c2 : wr.cell? ⟨X + 1 + 1, 2, none⟩ = some v2 := hr.box.cell 2 (by simp)
      have c3 : wr.cell? ⟨X + 1 + 1, 3, none⟩ = some v3 := hr.box.cell 3 (by simp)
      have c4 : wr.cell? ⟨X + 1 + 1, 4, none⟩ = some v4 := hr.box.cell 4 (by simp)
      have c5 : wr.cell? ⟨X + 1 + 1, 5, none⟩ = some (.bool bz) := hr.box.cell 5 (by simp)
      have CJ := hide (unhide CJ wr v0 v1 v2 v3 v4 (hr.r0 (by decide)).inW (hr.r1 (by decide)).inW (hr.r2 (by decide)).inW (hr.r3 (by decide)).inW (hr.r4 (by decide)).inW)
      have ST := hide hr.st
      have OW := hide hr.out
      clear hr Q0 Q1 Q2 Q3 Q4 HX0 HX1 HX2 HX3 HX4 HY0 HY1 HY2 HY3 HY4 HDZ HZ0
      go_wp2_with fail
      refine (unhide CJ).mono ?_
      rintro e w8 ⟨r8, rfl, n8, b8⟩
      have st8 := unhide HNX 5 wr w8 (unhide ST) (Out.of_below b8)
      obtain ⟨s8, m8, K8⟩ := (unhide HI).eng 5 w8 st8
      rw [unhide HV] at n8
      have ST8 := hide st8
      have M8 := hide K8.kara.eng.met
      have OA := hide ((((unhide O3).mono (fun k e => Or.inr e)).fresh (unhide OW) (unhide HF)).next b8)
      have N8 := hide n8
      have SZ := hide (Nat.le_trans (unhide sW0) (unhide OW).size)
      have GL := hide (Nat.lt_of_lt_of_le (unhide HDB g (Or.inl (Or.inr rfl))) (Nat.le_trans (unhide sW1) (unhide OW).size))
      clear n8 st8 K8 HV CJ c0 c1 c2 c3 c4 c5 b8 HI HNX ST OW hcf
      go_wp2
      refine leaves_cons (f := 67) (args := #[.pointer (some ⟨g, 0, none⟩)]) (by simp) (by simp [go_sem]) ?_
      refine (leave_deferred l .returning (unhide M8) (by have := unhide hl2; omega) (by have := unhide hl2; omega) (by have := unhide hl3; omega)).mono ?_
      rintro e u' w9 ⟨rfl, rfl, M9, T9⟩
      have O9 := Out.of_grown T9.grown
      refine ⟨_, results_tmp2 rfl _ _ _, r8, w8, rfl, ?_, unhide ST8, O9, ?_, ?_⟩
      · exact (O9.newW (unhide N8) (fun k e => by rw [e]; exact unhide GL)).mono (unhide SZ)
      · intro s' m' K
        obtain ⟨rfl, _, rfl⟩ := K.kara.eng.met.one (unhide M8)
        exact K.step M9 T9
      · exact (unhide OA).trans (O9.mono (fun k e => Or.inr e))

theorem spec_toom : SpecToomT := by
  intro w gt gk ge g s l m T ga gb b o cap la b' o' cap' lb h xs ys k fs cs D St h1 h2 h3 h4 h5 h6 h7 h8 h9 h10 h11 h12 h13 h14 h15 h16 h17 h18 h19 h20 h21 h22
  by_cases hsw : la < lb
  · exact toom_ba w gt gk ge g s l m T ga gb b o cap la b' o' cap' lb h xs ys k fs cs D St h1 h2 h3 h4 h5 h6 h7 h8 h9 h10 h11 h12 h13 h14 h15 h16 h17 h18 h19 h20 h21 h22 hsw
  · exact toom_ab w gt gk ge g s l m T ga gb b o cap la b' o' cap' lb h xs ys k fs cs D St h1 h2 h3 h4 h5 h6 h7 h8 h9 h10 h11 h12 h13 h14 h15 h16 h17 h18 h19 h20 h21 h22 hsw

set_option maxHeartbeats 1600000 in
theorem tsqr_no (w : World) (gt : Nat) (ga : Option Addr) (cap la h : Nat) (F : Value) (hla : la ≤ 16384) (hh : h = (la + 2) / 3) (hle : la ≤ 2 * h) :
    Calls Tryz.prog 57 #[.pointer (some ⟨gt, 0, none⟩), .slice ga la cap, F] w fun e w' => e = .returned (.tuple #[.slice none 0 0, .bool false]) ∧ w' = w := by
  have CH := hide (fun w => piece_any w ga la cap h (by omega) hh)
  obtain ⟨K2, hK2⟩ : ∃ K2, 2 * h = K2 := ⟨_, rfl⟩
  have j1 : 2 * (h : Int) = (K2 : Int) := by omega
  have j2 : IntKind.i64.wrap (K2 : Int) = (K2 : Int) := by rw [IntKind.wrap_i64]; omega
  have hle : la ≤ K2 := by omega
  clear hh hla hK2
  go_enter_defers Tryz.func57, Tryz.ntmps57
  go_wp2_with fail
  refine (unhide CH _).mono ?_
  rintro e w1 ⟨rfl, hw1⟩
  obtain rfl := hw1.symm
  clear hw1 CH
  go_wp2
  exact ⟨_, results_tmp2 rfl _ _ _, rfl, rfl⟩
theorem spec_tsqr_no : SpecToomSqrNo := by
  intro w gt gk ge g s l m T ga cap la h F _ _ _ hla hh hle
  refine (tsqr_no w gt ga cap la h F hla hh hle).mono ?_
  rintro e w' ⟨rfl, rfl⟩
  exact ⟨⟨none, 0, rfl⟩, Out.refl _ _⟩

set_option maxHeartbeats 1600000 in
theorem toom_no (w : World) (gt : Nat) (ga gb : Option Addr) (cap la cap' lb h : Nat) (F : Value) (hla : la ≤ 16384) (hlb : lb ≤ 16384) (hh : h = (max la lb + 2) / 3) (hle : min la lb ≤ 2 * h) :
    Calls Tryz.prog 63 #[.pointer (some ⟨gt, 0, none⟩), .slice ga la cap, .slice gb lb cap', F] w fun e w' => e = .returned (.tuple #[.slice none 0 0, .bool false]) ∧ w' = w := by
  obtain ⟨K2, hK2⟩ : ∃ K2, 2 * h = K2 := ⟨_, rfl⟩
  have j1 : 2 * (h : Int) = (K2 : Int) := by omega
  have j2 : IntKind.i64.wrap (K2 : Int) = (K2 : Int) := by rw [IntKind.wrap_i64]; omega
  by_cases hsw : la < lb
  · have CH := hide (fun w => piece_any w gb lb cap' h (by omega) (by omega))
    have hle : la ≤ K2 := by omega
    clear hh hla hlb hK2
    go_enter_defers Tryz.func63, Tryz.ntmps63
    go_wp2_with fail
    refine (unhide CH _).mono ?_
    rintro e w1 ⟨rfl, hw1⟩
    obtain rfl := hw1.symm
    clear hw1 CH
    go_wp2
    exact ⟨_, results_tmp2 rfl _ _ _, rfl, rfl⟩
  · have CH := hide (fun w => piece_any w ga la cap h (by omega) (by omega))
    have hle : lb ≤ K2 := by omega
    clear hh hla hlb hK2
    go_enter_defers Tryz.func63, Tryz.ntmps63
    go_wp2_with fail
    refine (unhide CH _).mono ?_
    rintro e w1 ⟨rfl, hw1⟩
    obtain rfl := hw1.symm
    clear hw1 CH
    go_wp2
    exact ⟨_, results_tmp2 rfl _ _ _, rfl, rfl⟩
theorem spec_toom_no : SpecToomNo := by
  intro w gt gk ge g s l m T ga gb cap la cap' lb h F _ _ _ hla hlb hh hle
  refine (toom_no w gt ga gb cap la cap' lb h F hla hlb hh hle).mono ?_
  rintro e w' ⟨rfl, rfl⟩
  exact ⟨⟨none, 0, rfl⟩, Out.refl _ _⟩

end Go.Proofs.YtiekgpphggejcaaGreatDoor

/- KaraSqr: a square in two pieces. -/
namespace Go.Proofs.YtiekgpphggejcaaGreatDoor
open Go.RowKit

set_option maxRecDepth 100000 in
set_option maxHeartbeats 6400000 in
theorem spec_ksqr : SpecKaraSqr := by
  intro w gk ge g s l m T ga b o cap la h xs k fs cs D St hE hl0 hl1 hxl hR hdx hbD hla hh hlt nk ne ng hD hI hS
  have CH := hide (fun w => half_any w ga la cap h hla hh)
  have hM := hE.eng.met
  have hgl := hM.lt
  have CE := hide (enter_any (l + 1) (max m (l + 1)) hM rfl rfl (by omega) (by omega))
  have e0 := hE.ptr
  have e1 := hE.eng.ptr
  have HE := hide hE
  have ngt : ¬ la ≤ h := by omega
  have hcf := hI.go
  have HI := hide hI
  have HS := hide hS
  have HD := hide hD
  have HR := hide hR
  have h2 : la ≤ 2 * h := by omega
  clear hE hM hI hS hD hR hh nk ne ng hbD
  go_enter_defers Tryz.func56, Tryz.ntmps56
  go_wp2_with fail
  refine (unhide CH _).mono ?_
  rintro e w1 ⟨rfl, hw1⟩
  obtain rfl := hw1.symm
  clear hw1 CH
  go_wp2_with fail
  refine (unhide CE).mono ?_
  rintro e w1 ⟨rfl, M1, T1⟩
  have K1 := (unhide HE).step M1 T1
  have r1 := (unhide HR).touch (unhide HE).eng.met T1
  have e0 := K1.ptr
  have e1 := K1.eng.ptr
  have s1 := T1.grown.size
  have O1 := hide (Out.of_grown T1.grown)
  clear CE M1 T1
  go_wp2_with fail
  refine (kcut_any _ _ _ _ _ _ h xs hxl hla (by omega) (by omega) (by omega) r1 hdx).mono ?_
  rintro e w3 ⟨v2, rfl, p2, b3⟩
  obtain ⟨g0, g1, g2, zs, rfl, i0, i1, i2, k0, k1, k2, z0, z1, z2⟩ := p2.out
  rw [hxl]
  have s3 := b3.size
  have O3 := hide ((unhide O1).next b3)
  have K3 := K1.next b3
  clear r1 p2 b3 e0 e1
  obtain ⟨H1, hH1⟩ : ∃ H1, h + 1 = H1 := ⟨_, rfl⟩
  obtain ⟨n1, hn1⟩ : ∃ n1, la - h = n1 := ⟨_, rfl⟩
  have lx0 : (xs.take h).length = h := by simp; omega
  have lx1 : (xs.drop h).length = n1 := by simp; omega
  have dx0 := wDig_take hdx h
  have dx1 := wDig_drop hdx h
  rw [hH1, hn1]
  rw [hH1] at z0
  have HV := hide (kara_rows xs xs h)
  have HL : Hid (wval (xs.take h) * wval (xs.take h) + wval (xs.drop h) * wval (xs.drop h) ≤ wval zs * wval zs) := by
    show _ ≤ _
    rw [z2]
    exact kara_le _ _ _ _
  have HP : Hid (wval zs * wval zs < 18446744073709551616 ^ (H1 + H1)) := by
    show _ < _
    rw [Nat.pow_add]
    have q1 := wval_lt_pow z1
    rw [z0] at q1
    exact Nat.mul_lt_mul'' q1 q1
  rw [← z2] at HV
  clear z2
  -- the box
  have bb : Below w3.heap.size w3 (w3.alloc (.cells #[.slice (some ⟨g0, 0, none⟩) h h, .slice (some ⟨g1, 0, none⟩) n1 n1, .slice (some ⟨g2, 0, none⟩) H1 H1] 100)) := (Below.refl _ _).alloc (Nat.le_refl _) _
  have kP := heap_alloc_new w3 (.cells #[.slice (some ⟨g0, 0, none⟩) h h, .slice (some ⟨g1, 0, none⟩) n1 n1, .slice (some ⟨g2, 0, none⟩) H1 H1] 100)
  obtain ⟨W0, hW0⟩ : ∃ W0, w3.alloc (.cells #[.slice (some ⟨g0, 0, none⟩) h h, .slice (some ⟨g1, 0, none⟩) n1 n1, .slice (some ⟨g2, 0, none⟩) H1 H1] 100) = W0 := ⟨_, rfl⟩
  rw [hW0] at bb kP
  obtain ⟨P0, hP0⟩ : ∃ P0, w3.heap.size = P0 := ⟨_, rfl⟩
  rw [hP0] at kP
  have sW := bb.size
  have k0 : Blk W0 g0 _ := (bb.block _ k0.lt).trans k0
  have k1 : Blk W0 g1 _ := (bb.block _ k1.lt).trans k1
  have k2 : Blk W0 g2 _ := (bb.block _ k2.lt).trans k2
  have O3 := hide ((unhide O3).next bb)
  have S0 := hide (unhide HS _ (unhide O3) (K3.next bb))
  have DN : ∀ q, w.heap.size ≤ q → ¬ (D q ∨ q = g) := fun q hq x => by
    rcases x with x | x
    · have := unhide HD q x; omega
    · omega
  have DB : ∀ q, (D q ∨ q = g) → q < W0.heap.size := fun q x => by
    rcases x with x | x
    · have := unhide HD q x; omega
    · omega
  have HC : Hid (∀ W, Out (fun j => D j ∨ j = g) W0 W → W.cell? ⟨P0, 0, none⟩ = some (.slice (some ⟨g0, 0, none⟩) h h) ∧ W.cell? ⟨P0, 1, none⟩ = some (.slice (some ⟨g1, 0, none⟩) n1 n1) ∧ W.cell? ⟨P0, 2, none⟩ = some (.slice (some ⟨g2, 0, none⟩) H1 H1)) := fun W q => by
    have j0 := (q.block P0 (Array.getElem?_eq_some_iff.1 kP).1 (DN P0 (by omega))).trans kP
    exact ⟨cell_of_row _ P0 0 _ _ (0, 0) j0, cell_of_row _ P0 1 _ _ (0, 0) j0, cell_of_row _ P0 2 _ _ (0, 0) j0⟩
  have Q0 : Hid (∀ W, Out (fun j => D j ∨ j = g) W0 W → St 0 W → Calls Tryz.prog k (fs.push (.slice (some ⟨g0, 0, none⟩) h h) ++ cs) W fun e W' => ∃ r, e = .returned r ∧ NewI W0.heap.size W' r (wval (xs.take h) * wval (xs.take h)) ∧ St 1 W' ∧ Out (fun j => D j ∨ j = g) W0 W' ∧ Out (fun j => D j ∨ j = g) W W') := fun W q st => by
    rw [← Array.append_singleton]
    refine ((unhide HI).call 0 W _ _ (by omega) st (inD_blk (q.blk k0 (DN _ (by omega))) lx0 dx0 (DN _ (by omega)))).mono ?_
    rintro e W' ⟨r, rfl, n, st', q'⟩
    exact ⟨r, rfl, n.mono q.size, st', q.trans q', q'⟩
  have Q1 : Hid (∀ W, Out (fun j => D j ∨ j = g) W0 W → St 1 W → Calls Tryz.prog k (fs.push (.slice (some ⟨g1, 0, none⟩) n1 n1) ++ cs) W fun e W' => ∃ r, e = .returned r ∧ NewI W0.heap.size W' r (wval (xs.drop h) * wval (xs.drop h)) ∧ St 2 W' ∧ Out (fun j => D j ∨ j = g) W0 W' ∧ Out (fun j => D j ∨ j = g) W W') := fun W q st => by
    rw [← Array.append_singleton]
    refine ((unhide HI).call 1 W _ _ (by omega) st (by rw [show (klen la la h 1).1 = n1 from hn1]; exact inD_blk (q.blk k1 (DN _ (by omega))) lx1 dx1 (DN _ (by omega)))).mono ?_
    rintro e W' ⟨r, rfl, n, st', q'⟩
    exact ⟨r, rfl, n.mono q.size, st', q.trans q', q'⟩
  have Q2 : Hid (∀ W, Out (fun j => D j ∨ j = g) W0 W → St 2 W → Calls Tryz.prog k (fs.push (.slice (some ⟨g2, 0, none⟩) H1 H1) ++ cs) W fun e W' => ∃ r, e = .returned r ∧ NewI W0.heap.size W' r (wval zs * wval zs) ∧ St 3 W' ∧ Out (fun j => D j ∨ j = g) W0 W' ∧ Out (fun j => D j ∨ j = g) W W') := fun W q st => by
    rw [← Array.append_singleton]
    refine ((unhide HI).call 2 W _ _ (by omega) st (by rw [show (klen la la h 2).1 = H1 from hH1]; exact inD_blk (q.blk k2 (DN _ (by omega))) z0 z1 (DN _ (by omega)))).mono ?_
    rintro e W' ⟨r, rfl, n, st', q'⟩
    exact ⟨r, rfl, n.mono q.size, st', q.trans q', q'⟩
  have DB := hide DB
  have h16 : h ≤ 16384 := by omega
  have HH1 : Hid (H1 + H1 ≤ 1073741824) := by show _ ≤ _; omega
  have sW0 := hide (show w.heap.size ≤ W0.heap.size by omega)
  have hl2 := hide hl0
  have hl3 := hide hl1
  generalize wval (xs.take h) = X0 at *
  generalize wval (xs.drop h) = X1 at *
  generalize wval zs = X2 at *
  clear k0 k1 k2 kP K3 K1 HE HS HR HD lx0 lx1 dx0 dx1 z0 z1 DN bb O1 i0 i1 i2 s1 s3 sW hgl hH1 hn1 hl0 hl1
  go_wp2
  clear hW0
  obtain ⟨p0, p1, p2⟩ := unhide HC W0 (Out.refl _ _)
  have st0 := (unhide HI).next 0 W0 W0.drew (unhide S0) ((Below.refl _ _).drew)
  have o0 : Out (fun j => D j ∨ j = g) W0 W0.drew := Out.of_below ((Below.refl _ _).drew)
  go_region_held3 (fun w' => w'.cell? ⟨P0, 0, none⟩ = some (.slice (some ⟨g0, 0, none⟩) h h) ∧ w'.cell? ⟨P0, 1, none⟩ = some (.slice (some ⟨g1, 0, none⟩) n1 n1) ∧ w'.cell? ⟨P0, 2, none⟩ = some (.slice (some ⟨g2, 0, none⟩) H1 H1)) (first | (exact unhide HC _ o4) | (exact unhide HC _ o3) | (exact unhide HC _ o2) | (exact unhide HC _ o1) | (exact unhide HC _ o0) | go_keep) (first
    | (refine (unhide Q0 _ o0 st0).mono ?_; rintro e w5 ⟨r5, rfl, n5, st1, o1, q1⟩; obtain ⟨p0, p1, p2⟩ := unhide HC _ o1)
    | (refine (unhide Q1 _ o1 st1).mono ?_; rintro e w6 ⟨r6, rfl, n6, st2, o2, q2⟩; have n5 := n5.out q2 (unhide DB); obtain ⟨p0, p1, p2⟩ := unhide HC _ o2)
    | (refine (unhide Q2 _ o2 st2).mono ?_; rintro e w7 ⟨r7, rfl, n7, st3, o3, q3⟩; have n5 := n5.out q3 (unhide DB); have n6 := n6.out q3 (unhide DB); obtain ⟨p0, p1, p2⟩ := unhide HC _ o3)
    | (go_at_call 78; refine (kjoin_any _ _ _ _ _ _ _ h (H1 + H1) h16 (unhide HH1) (unhide HP) (unhide HL) n5.inW n6.inW n7.inW).mono ?_; rintro e w8 ⟨r8, rfl, n8, b8⟩; have o4 := o3.next b8; obtain ⟨p0, p1, p2⟩ := unhide HC _ o4)
    | fail)
  have st8 := (unhide HI).next 3 w7 w8 st3 b8
  obtain ⟨s8, m8, K8⟩ := (unhide HI).eng 3 w8 st8
  rw [unhide HV] at n8
  have ST8 := hide st8
  have M8 := hide K8.eng.met
  have OA := hide (((unhide O3).mono (fun k e => Or.inr e)).trans o4)
  have N8 := hide n8
  have SZ := hide (Nat.le_trans (unhide sW0) o3.size)
  have GL := hide (Nat.lt_of_lt_of_le (unhide DB g (Or.inr rfl)) o3.size)
  clear p0 p1 p2 n5 n6 n7 n8 st8 st3 st2 st1 st0 o4 o3 o2 o1 o0 q1 q2 q3 b8 K8 HV HL HP HC Q0 Q1 Q2 hcf S0
  go_wp2
  refine leaves_cons (f := 67) (args := #[.pointer (some ⟨g, 0, none⟩)]) (by simp) (by simp [go_sem]) ?_
  refine (leave_deferred l .returning (unhide M8) (by have := unhide hl2; omega) (by have := unhide hl2; omega) (by have := unhide hl3; omega)).mono ?_
  rintro e u' w9 ⟨rfl, rfl, M9, T9⟩
  have O9 := Out.of_grown T9.grown
  refine ⟨_, results_tmp2 rfl _ _ _, r8, w8, rfl, ?_, unhide ST8, O9, ?_, ?_⟩
  · exact (O9.newW (unhide N8) (fun k e => by rw [e]; exact unhide GL)).mono (unhide SZ)
  · intro s' m' K
    obtain ⟨rfl, _, rfl⟩ := K.eng.met.one (unhide M8)
    exact K.step M9 T9
  · exact (unhide OA).trans (O9.mono (fun k e => Or.inr e))

set_option maxHeartbeats 1600000 in
theorem spec_ksqr_no : SpecKaraSqrNo := by
  intro w gk ge g s l m T ga cap la F hE hl0 hl1 hla
  obtain ⟨h, hh⟩ : ∃ h, h = (la + 1) / 2 := ⟨_, rfl⟩
  have CH := hide (fun w => half_any w ga la cap h (by omega) hh)
  have hle : la ≤ h := by omega
  clear hh hE hl0 hl1 hla
  go_enter_defers Tryz.func56, Tryz.ntmps56
  go_wp2_with fail
  refine (unhide CH _).mono ?_
  rintro e w1 ⟨rfl, hw1⟩
  obtain rfl := hw1.symm
  clear hw1 CH
  go_wp2
  exact ⟨_, results_tmp2 rfl _ _ _, ⟨none, 0, rfl⟩, Out.refl _ _⟩

set_option maxHeartbeats 1600000 in
theorem kara_no (w : World) (gk : Nat) (ga gb : Option Addr) (cap la cap' lb h : Nat) (F : Value) (hla : la ≤ 16384) (hlb : lb ≤ 16384) (hh : h = (max la lb + 1) / 2) (hle : min la lb ≤ h) :
    Calls Tryz.prog 62 #[.pointer (some ⟨gk, 0, none⟩), .slice ga la cap, .slice gb lb cap', F] w fun e w' => e = .returned (.tuple #[.slice none 0 0, .bool false]) ∧ w' = w := by
  by_cases hsw : la < lb
  · have CH := hide (fun w => half_any w gb lb cap' h (by omega) (by omega))
    have hle : la ≤ h := by omega
    clear hh
    go_enter_defers Tryz.func62, Tryz.ntmps62
    go_wp2_with fail
    refine (unhide CH _).mono ?_
    rintro e w1 ⟨rfl, hw1⟩
    obtain rfl := hw1.symm
    clear hw1 CH
    go_wp2
    exact ⟨_, results_tmp2 rfl _ _ _, rfl, rfl⟩
  · have CH := hide (fun w => half_any w ga la cap h (by omega) (by omega))
    have hle : lb ≤ h := by omega
    clear hh
    go_enter_defers Tryz.func62, Tryz.ntmps62
    go_wp2_with fail
    refine (unhide CH _).mono ?_
    rintro e w1 ⟨rfl, hw1⟩
    obtain rfl := hw1.symm
    clear hw1 CH
    go_wp2
    exact ⟨_, results_tmp2 rfl _ _ _, rfl, rfl⟩
theorem spec_kara_no : SpecKaraNo := by
  intro w gk ge g s l m T ga gb cap la cap' lb h F _ _ _ hla hlb hh hle
  refine (kara_no w gk ga gb cap la cap' lb h F hla hlb hh hle).mono ?_
  rintro e w' ⟨rfl, rfl⟩
  exact ⟨⟨none, 0, rfl⟩, Out.refl _ _⟩

end Go.Proofs.YtiekgpphggejcaaGreatDoor
