/- Package conv: a row of numbers by their remainders. -/
import Derived.Test.YtpifgkhgnilpdaaDoorCVGarW
import Derived.Test.YtpifgkhgnilpdaaDoorM14
import Derived.Test.YtpifgkhgnilpdaaDoorM6
import Derived.Test.YtpifgkhgnilpdaaDoorM4
import Derived.Test.YtpifgkhgnilpdaaDoorM5
namespace Go.Proofs.YtpifgkhgnilpdaaDoor
open Go.RowKit

theorem Tryd.infoTri : (Tryd.prog.info? 40).map (fun i => (i.zero, i.size, i.bytes)) = some (some (.agg #[.int .u64 0, .int .u64 0, .int .u64 0]), 3, 24) := by kernel_rfl
theorem info_tri : ∃ i : TypeInfo, Tryd.prog.info? 40 = some i ∧ i.zero = some (.agg #[.int .u64 0, .int .u64 0, .int .u64 0]) ∧ i.size = 3 ∧ i.bytes = 24 := by
  have h := Tryd.infoTri
  cases hi : Tryd.prog.info? 40 with
  | none => rw [hi] at h; cases h
  | some i =>
    rw [hi] at h
    simp at h
    exact ⟨i, rfl, h.1, h.2.1, h.2.2⟩
theorem made_tri (n : Nat) : madeCells (Value.agg #[.int .u64 0, .int .u64 0, .int .u64 0]).cells n = (zlist n).toArray := by
  have e : (Value.agg #[.int .u64 0, .int .u64 0, .int .u64 0]).cells = #[Value.int .u64 0, Value.int .u64 0, Value.int .u64 0] := rfl
  rw [e]
  unfold madeCells zlist
  apply Array.ext
  · simp [cellsOf]
  · intro i h1 h2
    simp [cellsOf]
    have h3 : i % 3 < 3 := Nat.mod_lt _ (by decide)
    have : i % 3 = 0 ∨ i % 3 = 1 ∨ i % 3 = 2 := by omega
    rcases this with h | h | h <;> rw [h] <;> rfl
theorem make_tri (n : Nat) (hb : n ≤ 2097152) : ∀ w, (Instr.makeSlice 28 (.int .i64 (n : Int)) (.int .i64 (n : Int))).run Tryd.prog w = .ok (.slice (some ⟨w.heap.size, 0, none⟩) n n) (w.alloc (.cells (zlist (n * 3)).toArray 40)) := fun w => by
  obtain ⟨i0, hi, hz0, hz1, hz2⟩ := info_tri
  have h := run_make (P := Tryd.prog) w 28 40 i0 (.agg #[.int .u64 0, .int .u64 0, .int .u64 0]) Tryd.underlying28 hi hz0 .i64 .i64 (n : Int) (n : Int) (by omega) (by omega) (by rw [hz2]; omega) (by omega)
  rw [h]
  have e1 : ((n : Int)).toNat = n := by omega
  rw [e1, hz1, made_tri]

/-- Block g holds words, of cells whose type is that of three. -/
def TBlk (w : World) (g : Nat) (zs : List Nat) : Prop := w.heap[g]? = some (.cells (cellsOf zs).toArray 40 (0, 0))
theorem TBlk.lt {w : World} {g : Nat} {zs : List Nat} (h : TBlk w g zs) : g < w.heap.size := (Array.getElem?_eq_some_iff.1 h).1
theorem TBlk.cell {w : World} {g : Nat} {zs : List Nat} (h : TBlk w g zs) (j : Nat) (hj : j < zs.length) : w.cell? ⟨g, j, none⟩ = some (.int .u64 ((zs.getD j 0 : Nat) : Int)) := by
  rw [cell_of_row w g j _ _ (0, 0) h]
  simp [cellsOf, hj]
theorem TBlk.frozen {w : World} {g : Nat} {zs : List Nat} (h : TBlk w g zs) (j : Nat) : w.frozen? ⟨g, j, none⟩ = false := frozen_of_row w g j _ _ h
theorem TBlk.set {w : World} {g : Nat} {zs : List Nat} (h : TBlk w g zs) (k d : Nat) : TBlk (w.setCell ⟨g, k, none⟩ (.int .u64 ((d : Nat) : Int))) g (zs.set k d) := by
  have := heap_setCell_same w g k _ _ (.int .u64 ((d : Nat) : Int)) h
  show _ = _
  rw [this]
  simp [cellsOf, List.map_set]
theorem TBlk.next {w w' : World} {g : Nat} {zs : List Nat} (h : TBlk w g zs) (hb : Below w.heap.size w w') : TBlk w' g zs := (hb.block g h.lt).trans h
/-- The first k numbers stand in a row of words. -/
def Num3 (T : Nat → Nat) (zs : List Nat) (k : Nat) : Prop := ∀ j, j < k → ∃ t0 t1 t2 : Nat, t0 < 18446744073709551616 ∧ t1 < 18446744073709551616 ∧ t2 < 18446744073709551616 ∧ v3 t0 t1 t2 = T j ∧ zs.getD (j * 3) 0 = t0 ∧ zs.getD (j * 3 + 1) 0 = t1 ∧ zs.getD (j * 3 + 2) 0 = t2
theorem Num3.start (T : Nat → Nat) (zs : List Nat) : Num3 T zs 0 := fun _ h => absurd h (by omega)
theorem set3_at (zs : List Nat) (k t0 t1 t2 j : Nat) (hl : k * 3 + 2 < zs.length) : (((zs.set (k * 3) t0).set (k * 3 + 1) t1).set (k * 3 + 2) t2).getD j 0 = if j = k * 3 then t0 else if j = k * 3 + 1 then t1 else if j = k * 3 + 2 then t2 else zs.getD j 0 := by
  rw [List.getD_eq_getElem?_getD, List.getElem?_set, List.getElem?_set, List.getElem?_set]
  simp only [List.length_set]
  by_cases h2 : k * 3 + 2 = j
  · subst h2
    rw [if_pos rfl, if_pos hl, if_neg (by omega), if_neg (by omega), if_pos rfl]; rfl
  · rw [if_neg h2]
    by_cases h1 : k * 3 + 1 = j
    · subst h1
      rw [if_pos rfl, if_pos (by omega), if_neg (by omega), if_pos rfl]; rfl
    · rw [if_neg h1]
      by_cases h0 : k * 3 = j
      · subst h0
        rw [if_pos rfl, if_pos (by omega), if_pos rfl]; rfl
      · rw [if_neg h0, if_neg (fun h => h0 h.symm), if_neg (fun h => h1 h.symm), if_neg (fun h => h2 h.symm), List.getD_eq_getElem?_getD]
theorem Num3.step {T : Nat → Nat} {zs : List Nat} {k t0 t1 t2 : Nat} (h : Num3 T zs k) (hl : k * 3 + 2 < zs.length) (a0 : t0 < 18446744073709551616) (a1 : t1 < 18446744073709551616) (a2 : t2 < 18446744073709551616) (e : v3 t0 t1 t2 = T k) : Num3 T (((zs.set (k * 3) t0).set (k * 3 + 1) t1).set (k * 3 + 2) t2) (k + 1) := fun j hj => by
  rw [set3_at _ _ _ _ _ _ hl, set3_at _ _ _ _ _ _ hl, set3_at _ _ _ _ _ _ hl]
  by_cases hjk : j = k
  · subst hjk
    refine ⟨t0, t1, t2, a0, a1, a2, e, if_pos rfl, ?_, ?_⟩
    · rw [if_neg (by omega), if_pos rfl]
    · rw [if_neg (by omega), if_neg (by omega), if_pos rfl]
  · obtain ⟨s0, s1, s2, b0, b1, b2, e', c0, c1, c2⟩ := h j (by omega)
    refine ⟨s0, s1, s2, b0, b1, b2, e', ?_, ?_, ?_⟩
    · rw [if_neg (by omega), if_neg (by omega), if_neg (by omega)]; exact c0
    · rw [if_neg (by omega), if_neg (by omega), if_neg (by omega)]; exact c1
    · rw [if_neg (by omega), if_neg (by omega), if_neg (by omega)]; exact c2
theorem Num3.tri {w : World} {g n : Nat} {T : Nat → Nat} {zs : List Nat} (h : Num3 T zs n) (hB : TBlk w g zs) (hl : zs.length = n * 3) : TriAt w g n T := fun k hk => by
  obtain ⟨t0, t1, t2, a0, a1, a2, e, c0, c1, c2⟩ := h k hk
  refine ⟨t0, t1, t2, a0, a1, a2, e, ?_, ?_, ?_⟩
  · rw [hB.cell _ (by omega), c0]
  · rw [hB.cell _ (by omega), c1]
  · rw [hB.cell _ (by omega), c2]

/-- The number n has these remainders. -/
structure Res3 (r0 r1 r2 n : Nat) : Prop where
  m0 : n % tp0 = r0 % tp0
  m1 : n % tp1 = r1 % tp1
  m2 : n % tp2 = r2 % tp2
  lt : n < tp0 * tp1 * tp2
def d0 (n : Nat) : Nat := n % 18446744073709551616
def d1 (n : Nat) : Nat := n / 18446744073709551616 % 18446744073709551616
def d2 (n : Nat) : Nat := n / 18446744073709551616 / 18446744073709551616
theorem v3_words {t0 t1 t2 n : Nat} (h0 : t0 < 18446744073709551616) (h1 : t1 < 18446744073709551616) (h : v3 t0 t1 t2 = n) : t0 = d0 n ∧ t1 = d1 n ∧ t2 = d2 n := by
  subst h
  unfold v3 d0 d1 d2
  refine ⟨?_, ?_, ?_⟩ <;> omega
theorem d_words (n : Nat) (h : n < tp0 * tp1 * tp2) : d0 n < 18446744073709551616 ∧ d1 n < 18446744073709551616 ∧ d2 n < 18446744073709551616 ∧ v3 (d0 n) (d1 n) (d2 n) = n := by
  have hb : tp0 * tp1 * tp2 < 18446744073709551616 * (18446744073709551616 * 18446744073709551616) := by decide +kernel
  have hn := Nat.lt_trans h hb
  clear h hb
  unfold d0 d1 d2 v3
  refine ⟨?_, ?_, ?_, ?_⟩
  · omega
  · omega
  · rw [Nat.div_div_eq_div_mul, Nat.div_lt_iff_lt_mul (by omega)]
    omega
  · omega
theorem number_at {w : World} {g gp gq gr v v2 v3' : Nat} (h : GS w g gp gq gr v v2 v3') {r0 r1 r2 n : Nat} (hr : Res3 r0 r1 r2 n) :
    Calls Tryd.prog 43 #[.pointer (some ⟨g, 0, none⟩), .int .u64 (r0 : Int), .int .u64 (r1 : Int), .int .u64 (r2 : Int)] w fun e w' => e = .returned (.agg #[.int .u64 (d0 n : Int), .int .u64 (d1 n : Int), .int .u64 (d2 n : Int)]) ∧ Below w.heap.size w w' := by
  refine (number_any h r0 r1 r2).mono ?_
  rintro e w' ⟨t0, t1, t2, rfl, ⟨a0, a1, a2, m0, m1, m2, hl⟩, b⟩
  have e := three_one (m0.trans hr.m0.symm) (m1.trans hr.m1.symm) (m2.trans hr.m2.symm) hl hr.lt
  obtain ⟨rfl, rfl, rfl⟩ := v3_words a0 a1 e
  exact ⟨rfl, b⟩

set_option maxRecDepth 100000 in
set_option maxHeartbeats 3200000 in
/-- Three rows of remainders: the numbers. -/
theorem numbers_any {w : World} {g0 g1 g2 n N0 N1 N2 : Nat} {xs ys zs : List Nat} (T : Nat → Nat) (hn : n ≤ 2097152) (h0 : Rep w (some ⟨g0, 0, none⟩) g0 0 N0 xs) (h1 : Rep w (some ⟨g1, 0, none⟩) g1 0 N1 ys) (h2 : Rep w (some ⟨g2, 0, none⟩) g2 0 N2 zs) (l0 : xs.length = n) (l1 : ys.length = n) (l2 : zs.length = n)
    (hT : ∀ k, k < n → Res3 (xs.getD k 0) (ys.getD k 0) (zs.getD k 0) (T k)) :
    Calls Tryd.prog 29 #[.agg #[.slice (some ⟨g0, 0, none⟩) n N0, .slice (some ⟨g1, 0, none⟩) n N1, .slice (some ⟨g2, 0, none⟩) n N2]] w fun e w' => ∃ g, e = .returned (.slice (some ⟨g, 0, none⟩) n n) ∧ w.heap.size ≤ g ∧ TriAt w' g n T ∧ Below w.heap.size w w' := by
  have CN := hide (fun w => newGarner_any w)
  have hmk := make_tri n hn
  have bl : Below w.heap.size w (w.alloc (.cells #[.slice (some ⟨g0, 0, none⟩) n N0, .slice (some ⟨g1, 0, none⟩) n N1, .slice (some ⟨g2, 0, none⟩) n N2] 53)) := (Below.refl _ _).alloc (Nat.le_refl _) _
  have hk := heap_alloc_new w (.cells #[.slice (some ⟨g0, 0, none⟩) n N0, .slice (some ⟨g1, 0, none⟩) n N1, .slice (some ⟨g2, 0, none⟩) n N2] 53)
  obtain ⟨W1, hW1⟩ : ∃ W1, w.alloc (.cells #[.slice (some ⟨g0, 0, none⟩) n N0, .slice (some ⟨g1, 0, none⟩) n N1, .slice (some ⟨g2, 0, none⟩) n N2] 53) = W1 := ⟨_, rfl⟩
  rw [hW1] at hk bl
  obtain ⟨A, hA⟩ : ∃ A, w.heap.size = A := ⟨_, rfl⟩
  rw [hA] at hk
  have c0 : W1.cell? ⟨A, 0, none⟩ = some (.slice (some ⟨g0, 0, none⟩) n N0) := cell_of_row _ A 0 _ _ (0, 0) hk
  have c1 : W1.cell? ⟨A, 1, none⟩ = some (.slice (some ⟨g1, 0, none⟩) n N1) := cell_of_row _ A 1 _ _ (0, 0) hk
  have c2 : W1.cell? ⟨A, 2, none⟩ = some (.slice (some ⟨g2, 0, none⟩) n N2) := cell_of_row _ A 2 _ _ (0, 0) hk
  have hal : A < W1.heap.size := World.block_lt_of_cell? _ _ c0
  have BL := hide bl
  have H0 := hide (h0.next bl)
  have H1 := hide (h1.next bl)
  have H2 := hide (h2.next bl)
  have HT := hide hT
  have HA := hide hA
  clear h0 h1 h2 hk bl hT
  go_enter Tryd.func29, Tryd.ntmps29
  go_wp2_with fail
  refine (unhide CN _).mono ?_
  rintro e w1 ⟨g, gp, gq, gr, v, v2, v3', rfl, hgs, b1⟩
  have H0 := hide ((unhide H0).next b1)
  have H1 := hide ((unhide H1).next b1)
  have H2 := hide ((unhide H2).next b1)
  have BL := hide (bstep (unhide BL) b1)
  have c0 := (b1.cell (p := ⟨A, 0, none⟩) hal).trans c0
  have c1 := (b1.cell (p := ⟨A, 1, none⟩) hal).trans c1
  have c2 := (b1.cell (p := ⟨A, 2, none⟩) hal).trans c2
  have D0 := hide c0
  have D1 := hide c1
  have D2 := hide c2
  have al1 : Hid (A < w1.heap.size) := World.block_lt_of_cell? _ _ c0
  have hB0 : TBlk (w1.alloc (.cells (zlist (n * 3)).toArray 40)) w1.heap.size (List.replicate (n * 3) 0) := heap_alloc_new w1 _
  have hal1 : Below w1.heap.size w1 (w1.alloc (.cells (zlist (n * 3)).toArray 40)) := (Below.refl _ _).alloc (Nat.le_refl _) _
  obtain ⟨W2, hW2⟩ : ∃ W2, w1.alloc (.cells (zlist (n * 3)).toArray 40) = W2 := ⟨_, rfl⟩
  rw [hW2] at hB0 hal1
  obtain ⟨G, hG⟩ : ∃ G, w1.heap.size = G := ⟨_, rfl⟩
  rw [hG] at hB0
  have HB0 := hide hB0
  have HAL := hide hal1
  have HG := hide hG
  have HGS := hide hgs
  have WG : Hid (w.heap.size ≤ G) := by show _ ≤ _; rw [← hG]; exact (unhide BL).size
  clear hgs b1 hB0 hal1 CN hal hW1 hA c1 c2
  go_wp2
  clear hW2 hG hmk c0
  go_loopw [13] (fun iv wr => ∃ (k : Nat) (us : List Nat), k ≤ n ∧ iv = .int .i64 (k : Int) ∧ us.length = n * 3 ∧ Hid (Num3 T us k) ∧ TBlk wr G us ∧ Below w1.heap.size w1 wr) (fun iv _ => n - (intOf iv).toNat)
  case atStart => exact ⟨0, _, Nat.zero_le _, rfl, List.length_replicate, Num3.start T _, unhide HB0, unhide HAL⟩
  case round =>
    clear HB0 HAL
    obtain ⟨k, us, hk, rfl, hl, hN, hB, hb⟩ := hrel
    by_cases hkn : k < n
    · have hki : (k : Int) < (n : Int) := by omega
      obtain ⟨q, hq⟩ : ∃ q, q = k * 3 := ⟨_, rfl⟩
      obtain ⟨x, hx⟩ : ∃ x, x = xs.getD k 0 := ⟨_, rfl⟩
      obtain ⟨y, hy⟩ : ∃ y, y = ys.getD k 0 := ⟨_, rfl⟩
      obtain ⟨z, hz⟩ : ∃ z, z = zs.getD k 0 := ⟨_, rfl⟩
      have hT := unhide HT k hkn
      rw [← hx, ← hy, ← hz] at hT
      have cx : wr.cell? ⟨g0, k, none⟩ = some (.int .u64 (x : Int)) := by rw [hx]; have := ((unhide H0).next hb).cell k (by omega); rwa [Nat.zero_add] at this
      have cy : wr.cell? ⟨g1, k, none⟩ = some (.int .u64 (y : Int)) := by rw [hy]; have := ((unhide H1).next hb).cell k (by omega); rwa [Nat.zero_add] at this
      have cz : wr.cell? ⟨g2, k, none⟩ = some (.int .u64 (z : Int)) := by rw [hz]; have := ((unhide H2).next hb).cell k (by omega); rwa [Nat.zero_add] at this
      have c0 := (hb.cell (p := ⟨A, 0, none⟩) (unhide al1)).trans (unhide D0)
      have c1 := (hb.cell (p := ⟨A, 1, none⟩) (unhide al1)).trans (unhide D1)
      have c2 := (hb.cell (p := ⟨A, 2, none⟩) (unhide al1)).trans (unhide D2)
      have yx := Old.cell cx
      have yy := Old.cell cy
      have yz := Old.cell cz
      have y0 := Old.cell c0
      have y1 := Old.cell c1
      have y2 := Old.cell c2
      have inst := old_some wr
      have CM : Hid (∀ u : Old wr, Calls Tryd.prog 43 #[.pointer (some ⟨g, 0, none⟩), .int .u64 (x : Int), .int .u64 (y : Int), .int .u64 (z : Int)] u.val fun e w' => e = .returned (.agg #[.int .u64 (d0 (T k) : Int), .int .u64 (d1 (T k) : Int), .int .u64 (d2 (T k) : Int)]) ∧ Below u.val.heap.size u.val w') := fun u => number_at (((unhide HGS).next hb).next u.old) hT
      obtain ⟨a0, a1, a2, e3⟩ := d_words (T k) hT.lt
      have HN2 : Hid (Num3 T (((us.set q (d0 (T k))).set (q + 1) (d1 (T k))).set (q + 2) (d2 (T k))) (k + 1)) := by rw [hq]; exact (unhide hN).step (by omega) a0 a1 a2 e3
      have hmm : Hid (n - (k + 1) < n - k) := by show _ < _; omega
      have HB := hide hb
      have hql : q + 2 < us.length := by omega
      have HL : Hid ((((us.set q (d0 (T k))).set (q + 1) (d1 (T k))).set (q + 2) (d2 (T k))).length = n * 3) := by simp only [List.length_set]; exact hl
      have hBB := hide hB
      generalize d0 (T k) = u0 at *
      generalize d1 (T k) = u1 at *
      generalize d2 (T k) = u2 at *
      have hq2 := hq.symm
      clear hx hy hz hT hN hb hB hl cx cy cz c0 c1 c2 a0 a1 a2 e3 hq
      go_wp2_with fail
      refine region_last 20 (by kernel_rfl) (by kernel_rfl) (by kernel_rfl) (by kernel_rfl) (by kernel_rfl) (by kernel_rfl) ?_
      simp only [List.take_succ_cons, List.take_zero, List.drop_succ_cons, List.drop_zero]
      repeat (go_big_quiet_step (first | (go_at_call 43; exact Calls.old (unhide CM _))))
      refine wpQuiet_nil ?_
      intro w5 hw5
      obtain ⟨u, rfl⟩ := hw5
      have hB5 := (unhide hBB).next u.old
      have hb5 := bstep (unhide HB) u.old
      have r0 := hB5.cell q (by omega)
      have r1 := hB5.cell (q + 1) (by omega)
      have r2 := hB5.cell (q + 2) (by omega)
      have f0 := hB5.frozen q
      have f1 := hB5.frozen (q + 1)
      have f2 := hB5.frozen (q + 2)
      generalize u.val = w5 at *
      clear u yx yy yz y0 y1 y2 inst CM
      have B7 := hide (((hB5.set q u0).set (q + 1) u1).set (q + 2) u2)
      have b7 := hide (((hb5.setCell (p := ⟨G, q, none⟩) (Nat.le_of_eq (unhide HG)) (.int .u64 (u0 : Int))).setCell (p := ⟨G, q + 1, none⟩) (Nat.le_of_eq (unhide HG)) (.int .u64 (u1 : Int))).setCell (p := ⟨G, q + 2, none⟩) (Nat.le_of_eq (unhide HG)) (.int .u64 (u2 : Int)))
      clear hB5 hb5
      go_wp2
      go_roundw
      case rel => exact ⟨k + 1, _, by omega, by go_num, unhide HL, HN2, unhide B7, unhide b7⟩
      case measure => simp [intOf]; have := unhide hmm; omega
    · obtain rfl : k = n := by omega
      have hTri := (unhide hN).tri hB hl
      have bl := bstep (unhide BL) hb
      clear hN hB hl hb
      go_wp2
      go_ret
      exact ⟨G, rfl, unhide WG, hTri, bl⟩

end Go.Proofs.YtpifgkhgnilpdaaDoor
