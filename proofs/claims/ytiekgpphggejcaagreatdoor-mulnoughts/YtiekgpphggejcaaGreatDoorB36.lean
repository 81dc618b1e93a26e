/- Package conv: a number by its three remainders. -/
import Derived.Test.YtiekgpphggejcaaGreatDoorB5
import Derived.Test.YtiekgpphggejcaaGreatDoorB14
import Derived.Test.YtiekgpphggejcaaGreatDoorB34
import Derived.Test.YtiekgpphggejcaaGreatDoorB6
namespace Go.Proofs.YtiekgpphggejcaaGreatDoor
open Go.RowKit

set_option maxHeartbeats 1600000 in
theorem timesPlus_any (a b c hi lo : Nat) (w : World) (ha : a < 18446744073709551616) (hb : b < 18446744073709551616) (hc : c < 18446744073709551616) (h : hi * 18446744073709551616 + lo = a * b + c) (hlo : lo < 18446744073709551616) :
    Calls Tryz.prog 145 #[.int .u64 (a : Int), .int .u64 (b : Int), .int .u64 (c : Int)] w fun e w' => e = .returned (.tuple #[.int .u64 (hi : Int), .int .u64 (lo : Int)]) ∧ w' = w := by
  have hlt := times_lt ha hb hc
  have C1 := hide (fun w => word_mul a b w ha hb)
  have hT := Nat.div_add_mod (a * b) 18446744073709551616
  have hl1 := Nat.mod_lt (a * b) (show 0 < 18446744073709551616 by omega)
  generalize a * b / 18446744073709551616 = h1 at *
  generalize a * b % 18446744073709551616 = l1 at *
  generalize a * b = ab at *
  have C2 : Hid (∀ w, Calls Tryz.prog 119 #[.int .u64 (l1 : Int), .int .u64 (c : Int), .int .u64 0] w fun e w' => e = .returned (.tuple #[.int .u64 (((l1 + c + 0) % 18446744073709551616 : Nat) : Int), .int .u64 (((l1 + c + 0) / 18446744073709551616 : Nat) : Int)]) ∧ w' = w) := fun w => word_add l1 c 0 0 w (.inl ⟨rfl, rfl⟩)
  have hT2 := Nat.div_add_mod (l1 + c + 0) 18446744073709551616
  have hl2 := Nat.mod_lt (l1 + c + 0) (show 0 < 18446744073709551616 by omega)
  generalize (l1 + c + 0) / 18446744073709551616 = k at *
  generalize (l1 + c + 0) % 18446744073709551616 = l2 at *
  have e1 : l2 = lo := by omega
  have e2 : (h1 : Int) + (k : Int) = (hi : Int) := by omega
  have e3 : IntKind.u64.wrap (hi : Int) = (hi : Int) := by rw [IntKind.wrap_u64]; omega
  subst e1
  clear ha hb hc h hlo hlt hT hl1 hT2 hl2
  go_enter Tryz.func145, Tryz.ntmps145
  go_wp2_with fail
  refine (unhide C1 _).mono ?_
  rintro e w1 ⟨rfl, hw⟩
  obtain rfl := hw.symm
  clear hw
  go_wp2_with fail
  refine (unhide C2 _).mono ?_
  rintro e w1 ⟨rfl, hw⟩
  obtain rfl := hw.symm
  clear hw
  go_wp2
  go_ret2
  exact ⟨rfl, rfl⟩

/-- 1 over p modulo q, in Montgomery's form. -/
theorem over_any {w : World} {gp gq p q : Nat} (hp : MW w gp p) (hq : MW w gq q) (hg : Nat.gcd p q = 1) :
    Calls Tryz.prog 143 #[.pointer (some ⟨gp, 0, none⟩), .pointer (some ⟨gq, 0, none⟩)] w fun e w' => ∃ v, e = .returned (.int .u64 (ml q v 18446744073709551616 : Int)) ∧ ml q p v = 1 ∧ Below w.heap.size w w' := by
  have CP := hide (modP_any hp)
  have CI := hide (inv_any hq p)
  have CM := hide (fun w' (b : Below w.heap.size w w') v => mont_any (hq.next b) v)
  clear hp hq
  generalize hF : (fun v => ml q v 18446744073709551616) = F at *
  have CM : Hid (∀ w' (_ : Below w.heap.size w w') (v : Nat), Calls Tryz.prog 140 #[.pointer (some ⟨gq, 0, none⟩), .int .u64 (v : Int)] w' fun e w'' => e = .returned (.int .u64 (F v : Int)) ∧ w'' = w') := by rw [← hF]; exact unhide CM
  have HF : Hid (∀ v, F v = ml q v 18446744073709551616) := by rw [← hF]; intro v; rfl
  clear hF
  go_enter Tryz.func143, Tryz.ntmps143
  go_wp2_with fail
  refine (unhide CP).mono ?_
  rintro e w1 ⟨rfl, hw⟩
  obtain rfl := hw.symm
  clear hw
  go_wp2_with fail
  refine (unhide CI).mono ?_
  rintro e w1 ⟨v, rfl, hv, b1⟩
  rcases hv with ⟨_, x, hx, h1, rfl⟩ | ⟨hn, _⟩
  · have CM := hide (unhide CM w1 b1 x)
    clear CP CI
    go_wp2_with fail
    refine (unhide CM).mono ?_
    rintro e w2 ⟨rfl, hw⟩
    obtain rfl := hw.symm
    clear hw
    go_wp2
    go_ret
    exact ⟨x, ret_int (by rw [unhide HF x]), h1, b1⟩
  · exact absurd hg hn

/-- At block g lie the three moduli and the inverses. -/
structure GS (w : World) (g gp gq gr v v2 v3 : Nat) : Prop where
  c0 : w.cell? ⟨g, 0, none⟩ = some (.pointer (some ⟨gp, 0, none⟩))
  c1 : w.cell? ⟨g, 1, none⟩ = some (.pointer (some ⟨gq, 0, none⟩))
  c2 : w.cell? ⟨g, 2, none⟩ = some (.pointer (some ⟨gr, 0, none⟩))
  c3 : w.cell? ⟨g, 3, none⟩ = some (.int .u64 (ml tp1 v 18446744073709551616 : Int))
  c4 : w.cell? ⟨g, 4, none⟩ = some (.int .u64 (ml tp2 v2 18446744073709551616 : Int))
  c5 : w.cell? ⟨g, 5, none⟩ = some (.int .u64 (ml tp2 v3 18446744073709551616 : Int))
  mp : MW w gp tp0
  mq : MW w gq tp1
  mr : MW w gr tp2
  i1 : ml tp1 tp0 v = 1
  i2 : ml tp2 tp0 v2 = 1
  i3 : ml tp2 tp1 v3 = 1
theorem GS.lt {w : World} {g gp gq gr v v2 v3 : Nat} (h : GS w g gp gq gr v v2 v3) : g < w.heap.size := World.block_lt_of_cell? _ _ h.c0
theorem GS.next {w w' : World} {g gp gq gr v v2 v3 : Nat} (h : GS w g gp gq gr v v2 v3) (b : Below w.heap.size w w') : GS w' g gp gq gr v v2 v3 :=
  ⟨(b.cell (p := ⟨g, 0, none⟩) h.lt).trans h.c0, (b.cell (p := ⟨g, 1, none⟩) h.lt).trans h.c1, (b.cell (p := ⟨g, 2, none⟩) h.lt).trans h.c2, (b.cell (p := ⟨g, 3, none⟩) h.lt).trans h.c3, (b.cell (p := ⟨g, 4, none⟩) h.lt).trans h.c4, (b.cell (p := ⟨g, 5, none⟩) h.lt).trans h.c5, h.mp.next b, h.mq.next b, h.mr.next b, h.i1, h.i2, h.i3⟩

theorem gcd01 : Nat.gcd tp0 tp1 = 1 := by decide +kernel
theorem gcd02 : Nat.gcd tp0 tp2 = 1 := by decide +kernel
theorem gcd12 : Nat.gcd tp1 tp2 = 1 := by decide +kernel

set_option maxRecDepth 100000 in
set_option maxHeartbeats 3200000 in
theorem newGarner_any (w : World) :
    Calls Tryz.prog 117 #[] w fun e w' => ∃ g gp gq gr v v2 v3, e = .returned (.pointer (some ⟨g, 0, none⟩)) ∧ GS w' g gp gq gr v v2 v3 ∧ Below w.heap.size w w' := by
  have C3 := hide (fun w => primesThree_any w)
  have N0 : Hid (∀ w, Calls Tryz.prog 133 #[.int .u64 180143985094819841] w fun e w' => ∃ g, e = .returned (.tuple #[.pointer (some ⟨g, 0, none⟩), .int .i64 0]) ∧ MW w' g tp0 ∧ w.heap.size ≤ g ∧ Below w.heap.size w w') := fun w => modNew_any tp0 w (by decide) (by decide) (by decide)
  have N1 : Hid (∀ w, Calls Tryz.prog 133 #[.int .u64 1945555039024054273] w fun e w' => ∃ g, e = .returned (.tuple #[.pointer (some ⟨g, 0, none⟩), .int .i64 0]) ∧ MW w' g tp1 ∧ w.heap.size ≤ g ∧ Below w.heap.size w w') := fun w => modNew_any tp1 w (by decide) (by decide) (by decide)
  have N2 : Hid (∀ w, Calls Tryz.prog 133 #[.int .u64 4179340454199820289] w fun e w' => ∃ g, e = .returned (.tuple #[.pointer (some ⟨g, 0, none⟩), .int .i64 0]) ∧ MW w' g tp2 ∧ w.heap.size ≤ g ∧ Below w.heap.size w w') := fun w => modNew_any tp2 w (by decide) (by decide) (by decide)
  go_enter Tryz.func117, Tryz.ntmps117
  go_wp2_with fail
  refine (unhide C3 _).mono ?_
  rintro e w1 ⟨rfl, b⟩
  have hk := heap_alloc_new w1 (.cells #[.int .u64 180143985094819841, .int .i64 55, .int .u64 6, .int .u64 1945555039024054273, .int .i64 56, .int .u64 5, .int .u64 4179340454199820289, .int .i64 57, .int .u64 3] 140)
  have bl := b.alloc b.size (.cells #[.int .u64 180143985094819841, .int .i64 55, .int .u64 6, .int .u64 1945555039024054273, .int .i64 56, .int .u64 5, .int .u64 4179340454199820289, .int .i64 57, .int .u64 3] 140)
  obtain ⟨W1, hW1⟩ : ∃ W1, w1.alloc (.cells #[.int .u64 180143985094819841, .int .i64 55, .int .u64 6, .int .u64 1945555039024054273, .int .i64 56, .int .u64 5, .int .u64 4179340454199820289, .int .i64 57, .int .u64 3] 140) = W1 := ⟨_, rfl⟩
  rw [hW1] at hk bl
  obtain ⟨G, hG⟩ : ∃ G, w1.heap.size = G := ⟨_, rfl⟩
  rw [hG] at hk
  have c0 : W1.cell? ⟨G, 0, none⟩ = some (.int .u64 180143985094819841) := cell_of_row _ G 0 _ _ (0, 0) hk
  have c3 : W1.cell? ⟨G, 3, none⟩ = some (.int .u64 1945555039024054273) := cell_of_row _ G 3 _ _ (0, 0) hk
  have c6 : W1.cell? ⟨G, 6, none⟩ = some (.int .u64 4179340454199820289) := cell_of_row _ G 6 _ _ (0, 0) hk
  have gl : Hid (G < W1.heap.size) := World.block_lt_of_cell? _ _ c0
  have bl := hide bl
  have B1 := hide (Below.refl W1.heap.size W1)
  have D3 : Hid (∀ W, Below W1.heap.size W1 W → W.cell? ⟨G, 3, none⟩ = some (.int .u64 1945555039024054273)) := fun W b => (b.cell (p := ⟨G, 3, none⟩) (unhide gl)).trans c3
  have D6 : Hid (∀ W, Below W1.heap.size W1 W → W.cell? ⟨G, 6, none⟩ = some (.int .u64 4179340454199820289)) := fun W b => (b.cell (p := ⟨G, 6, none⟩) (unhide gl)).trans c6
  clear C3 b hk c3 c6 gl
  go_wp2_with fail
  refine (unhide N0 _).mono ?_
  rintro e w2 ⟨gp, rfl, mp, _, b⟩
  have bl := hide (bstep (unhide bl) b)
  have B1 := hide (bstep (unhide B1) b)
  have c3 := unhide D3 _ (unhide B1)
  clear N0 b c0 hW1 hG
  go_wp2_with fail
  refine (unhide N1 _).mono ?_
  rintro e w3 ⟨gq, rfl, mq, _, b⟩
  have bl := hide (bstep (unhide bl) b)
  have mp := mp.next b
  have B1 := hide (bstep (unhide B1) b)
  have c6 := unhide D6 _ (unhide B1)
  clear N1 b c3 D3
  go_wp2_with fail
  refine (unhide N2 _).mono ?_
  rintro e w4 ⟨gr, rfl, mr, _, b⟩
  have bl := hide (bstep (unhide bl) b)
  have mp := mp.next b
  have mq := mq.next b
  clear N2 b c6 D6
  go_wp2_with fail
  refine (over_any mp mq gcd01).mono ?_
  rintro e w5 ⟨v, rfl, i1, b⟩
  have bl := hide (bstep (unhide bl) b)
  have mp := mp.next b
  have mq := mq.next b
  have mr := mr.next b
  have I1 := hide i1
  clear b i1
  go_wp2_with fail
  refine (over_any mp mr gcd02).mono ?_
  rintro e w6 ⟨v2, rfl, i2, b⟩
  have bl := hide (bstep (unhide bl) b)
  have mp := mp.next b
  have mq := mq.next b
  have mr := mr.next b
  have I2 := hide i2
  clear b i2
  go_wp2_with fail
  refine (over_any mq mr gcd12).mono ?_
  rintro e w7 ⟨v3, rfl, i3, b⟩
  have bl := hide (bstep (unhide bl) b)
  have mp := hide (mp.next b)
  have mq := hide (mq.next b)
  have mr := hide (mr.next b)
  have I3 := hide i3
  clear b i3
  obtain ⟨m1, h1⟩ : ∃ m, m = ml tp1 v 18446744073709551616 := ⟨_, rfl⟩
  obtain ⟨m2, h2⟩ : ∃ m, m = ml tp2 v2 18446744073709551616 := ⟨_, rfl⟩
  obtain ⟨m3, h3⟩ : ∃ m, m = ml tp2 v3 18446744073709551616 := ⟨_, rfl⟩
  rw [← h1, ← h2, ← h3]
  have H1 := hide h1
  have H2 := hide h2
  have H3 := hide h3
  clear h1 h2 h3
  go_wp2
  go_ret
  have hk := heap_alloc_new w7 (.cells #[.pointer (some ⟨gp, 0, none⟩), .pointer (some ⟨gq, 0, none⟩), .pointer (some ⟨gr, 0, none⟩), .int .u64 (m1 : Int), .int .u64 (m2 : Int), .int .u64 (m3 : Int)] 182)
  have hal : Below w7.heap.size w7 (w7.alloc (.cells #[.pointer (some ⟨gp, 0, none⟩), .pointer (some ⟨gq, 0, none⟩), .pointer (some ⟨gr, 0, none⟩), .int .u64 (m1 : Int), .int .u64 (m2 : Int), .int .u64 (m3 : Int)] 182)) := (Below.refl _ _).alloc (Nat.le_refl _) _
  refine ⟨w7.heap.size, gp, gq, gr, v, v2, v3, rfl, ⟨cell_of_row _ w7.heap.size 0 _ _ (0, 0) hk, cell_of_row _ w7.heap.size 1 _ _ (0, 0) hk, cell_of_row _ w7.heap.size 2 _ _ (0, 0) hk, ?_, ?_, ?_, (unhide mp).next hal, (unhide mq).next hal, (unhide mr).next hal, unhide I1, unhide I2, unhide I3⟩, bstep (unhide bl) hal⟩
  · rw [← unhide H1]; exact cell_of_row _ w7.heap.size 3 _ _ (0, 0) hk
  · rw [← unhide H2]; exact cell_of_row _ w7.heap.size 4 _ _ (0, 0) hk
  · rw [← unhide H3]; exact cell_of_row _ w7.heap.size 5 _ _ (0, 0) hk

theorem tp_words : tp0 < 18446744073709551616 ∧ tp1 < 18446744073709551616 ∧ tp2 < 18446744073709551616 := by decide
/-- Two words of a number. -/
theorem two_words (n : Nat) : n / 18446744073709551616 * 18446744073709551616 + n % 18446744073709551616 = n := by
  have := Nat.div_add_mod n 18446744073709551616
  omega

/-- The least number with three remainders. -/
def TriAns (r0 r1 r2 t0 t1 t2 : Nat) : Prop := t0 < 18446744073709551616 ∧ t1 < 18446744073709551616 ∧ t2 < 18446744073709551616 ∧ v3 t0 t1 t2 % tp0 = r0 % tp0 ∧ v3 t0 t1 t2 % tp1 = r1 % tp1 ∧ v3 t0 t1 t2 % tp2 = r2 % tp2 ∧ v3 t0 t1 t2 < tp0 * tp1 * tp2

set_option maxRecDepth 100000 in
set_option maxHeartbeats 6400000 in
theorem number_any {w : World} {g gp gq gr v v2 v3' : Nat} (h : GS w g gp gq gr v v2 v3') (r0 r1 r2 : Nat) :
    Calls Tryz.prog 118 #[.pointer (some ⟨g, 0, none⟩), .int .u64 (r0 : Int), .int .u64 (r1 : Int), .int .u64 (r2 : Int)] w fun e w' => ∃ t0 t1 t2 : Nat, e = .returned (.agg #[.int .u64 (t0 : Int), .int .u64 (t1 : Int), .int .u64 (t2 : Int)]) ∧ TriAns r0 r1 r2 t0 t1 t2 ∧ Below w.heap.size w w' := by
  obtain ⟨l0, l1, l2⟩ := tp_words
  have hx := gx_lt r0
  have hy := gy_lt r0 r1 v
  have hz := gz_lt r0 r1 r2 v v2 v3'
  have G0 := gn_0 r0 r1 r2 v v2 v3'
  have G1 := gn_1 (r0 := r0) (r1 := r1) (r2 := r2) (v2 := v2) (v3 := v3') h.i1
  have G2 := gn_2 (r0 := r0) (r1 := r1) (r2 := r2) (v := v) h.i2 h.i3
  have G3 := gn_lt r0 r1 r2 v v2 v3'
  unfold gn at G0 G1 G2 G3
  have CR : Hid (∀ W, Below w.heap.size w W → Calls Tryz.prog 137 #[.pointer (some ⟨gp, 0, none⟩), .int .u64 (r0 : Int)] W fun e w' => e = .returned (.int .u64 (gx r0 : Int)) ∧ w' = W) := fun W b => red_any (h.mp.next b) r0
  have CS1 := hide (fun W (b : Below w.heap.size w W) => sub_mod (h.mq.next b) r1 (gx r0))
  have CM1 : Hid (∀ W, Below w.heap.size w W → Calls Tryz.prog 142 #[.pointer (some ⟨gq, 0, none⟩), .int .u64 (sb tp1 r1 (gx r0) : Int), .int .u64 (ml tp1 v 18446744073709551616 : Int)] W fun e w' => e = .returned (.int .u64 (gy r0 r1 v : Int)) ∧ w' = W) := fun W b => by
    have := montMul_any (h.mq.next b) (sb tp1 r1 (gx r0)) (ml tp1 v 18446744073709551616)
    rw [mm_in _ _ (by decide) l1] at this
    exact this
  have CS2 := hide (fun W (b : Below w.heap.size w W) => sub_mod (h.mr.next b) r2 (gx r0))
  have CM2 : Hid (∀ W, Below w.heap.size w W → Calls Tryz.prog 142 #[.pointer (some ⟨gr, 0, none⟩), .int .u64 (sb tp2 r2 (gx r0) : Int), .int .u64 (ml tp2 v2 18446744073709551616 : Int)] W fun e w' => e = .returned (.int .u64 (ml tp2 (sb tp2 r2 (gx r0)) v2 : Int)) ∧ w' = W) := fun W b => by
    have := montMul_any (h.mr.next b) (sb tp2 r2 (gx r0)) (ml tp2 v2 18446744073709551616)
    rw [mm_in _ _ (by decide) l2] at this
    exact this
  have CS3 := hide (fun W (b : Below w.heap.size w W) => sub_mod (h.mr.next b) (ml tp2 (sb tp2 r2 (gx r0)) v2) (gy r0 r1 v))
  have CM3 : Hid (∀ W, Below w.heap.size w W → Calls Tryz.prog 142 #[.pointer (some ⟨gr, 0, none⟩), .int .u64 (sb tp2 (ml tp2 (sb tp2 r2 (gx r0)) v2) (gy r0 r1 v) : Int), .int .u64 (ml tp2 v3' 18446744073709551616 : Int)] W fun e w' => e = .returned (.int .u64 (gz r0 r1 r2 v v2 v3' : Int)) ∧ w' = W) := fun W b => by
    have := montMul_any (h.mr.next b) (sb tp2 (ml tp2 (sb tp2 r2 (gx r0)) v2) (gy r0 r1 v)) (ml tp2 v3' 18446744073709551616)
    rw [mm_in _ _ (by decide) l2] at this
    exact this
  have CPq := hide (fun W (b : Below w.heap.size w W) => modP_any (h.mq.next b))
  have CPp := hide (fun W (b : Below w.heap.size w W) => modP_any (h.mp.next b))
  have D0 := hide (fun W (b : Below w.heap.size w W) => (h.next b).c0)
  have D1 := hide (fun W (b : Below w.heap.size w W) => (h.next b).c1)
  have D2 := hide (fun W (b : Below w.heap.size w W) => (h.next b).c2)
  have D3 := hide (fun W (b : Below w.heap.size w W) => (h.next b).c3)
  have D4 := hide (fun W (b : Below w.heap.size w W) => (h.next b).c4)
  have D5 := hide (fun W (b : Below w.heap.size w W) => (h.next b).c5)
  clear h
  generalize sb tp2 (ml tp2 (sb tp2 r2 (gx r0)) v2) (gy r0 r1 v) = s3 at *
  generalize ml tp2 (sb tp2 r2 (gx r0)) v2 = rest at *
  generalize sb tp2 r2 (gx r0) = s2 at *
  generalize sb tp1 r1 (gx r0) = s1 at *
  generalize ml tp1 v 18446744073709551616 = m1 at *
  generalize ml tp2 v2 18446744073709551616 = m2 at *
  generalize ml tp2 v3' 18446744073709551616 = m3 at *
  generalize gz r0 r1 r2 v v2 v3' = z at *
  generalize gy r0 r1 v = y at *
  generalize gx r0 = x at *
  have E1 := two_words (z * tp1 + y)
  have L1 := Nat.mod_lt (z * tp1 + y) (show 0 < 18446744073709551616 by omega)
  generalize (z * tp1 + y) / 18446744073709551616 = hi at *
  generalize (z * tp1 + y) % 18446744073709551616 = lo at *
  have E2 := two_words (lo * tp0 + x)
  have L2 := Nat.mod_lt (lo * tp0 + x) (show 0 < 18446744073709551616 by omega)
  generalize (lo * tp0 + x) / 18446744073709551616 = mid at *
  generalize (lo * tp0 + x) % 18446744073709551616 = w0 at *
  have E3 := two_words (hi * tp0 + mid)
  have L3 := Nat.mod_lt (hi * tp0 + mid) (show 0 < 18446744073709551616 by omega)
  generalize (hi * tp0 + mid) / 18446744073709551616 = t2 at *
  generalize (hi * tp0 + mid) % 18446744073709551616 = t1 at *
  have hhi : hi < 18446744073709551616 := by
    have := times_lt (a := z) (b := tp1) (c := y) (by omega) l1 (by omega)
    omega
  have hmid : mid < 18446744073709551616 := by
    have := times_lt (a := lo) (b := tp0) (c := x) L1 l0 (by omega)
    omega
  have ht2 : t2 < 18446744073709551616 := by
    have := times_lt (a := hi) (b := tp0) (c := mid) hhi l0 hmid
    omega
  have EW := words_of E1 E2 E3
  have CT1 := hide (fun w => timesPlus_any z tp1 y hi lo w (by omega) l1 (by omega) E1 L1)
  have CT2 := hide (fun w => timesPlus_any lo tp0 x mid w0 w L1 l0 (by omega) E2 L2)
  have CT3 := hide (fun w => timesPlus_any hi tp0 mid t2 t1 w hhi l0 hmid E3 L3)
  have ANS : Hid (TriAns r0 r1 r2 w0 t1 t2) := by
    show TriAns r0 r1 r2 w0 t1 t2
    rw [← EW] at G0 G1 G2 G3
    exact ⟨L2, L3, ht2, G0, G1, G2, G3⟩
  clear E1 E2 E3 L1 L2 L3 EW G0 G1 G2 G3 hx hy hz hhi hmid ht2 l0 l1 l2
  generalize tp0 = P0 at *
  generalize tp1 = P1 at *
  generalize tp2 = P2 at *
  have bl := (Below.refl w.heap.size w).alloc (Nat.le_refl _) (.cells #[.int .u64 0, .int .u64 0, .int .u64 0] 151)
  have hk := heap_alloc_new w (.cells #[.int .u64 0, .int .u64 0, .int .u64 0] 151)
  obtain ⟨W1, hW1⟩ : ∃ W1, w.alloc (.cells #[.int .u64 0, .int .u64 0, .int .u64 0] 151) = W1 := ⟨_, rfl⟩
  rw [hW1] at hk bl
  obtain ⟨G, hG⟩ : ∃ G, w.heap.size = G := ⟨_, rfl⟩
  rw [hG] at hk
  have c0 := unhide D0 _ bl
  have CR := hide (unhide CR _ bl)
  have B1 := hide (Below.refl W1.heap.size W1)
  have HG : Hid (w.heap.size ≤ G) := Nat.le_of_eq hG
  have HK : Hid (∀ W, Below W1.heap.size W1 W → (W.cell? ⟨G, 0, none⟩ = some (.int .u64 0) ∧ W.cell? ⟨G, 1, none⟩ = some (.int .u64 0) ∧ W.cell? ⟨G, 2, none⟩ = some (.int .u64 0)) ∧ W.frozen? ⟨G, 0, none⟩ = false ∧ W.frozen? ⟨G, 1, none⟩ = false ∧ W.frozen? ⟨G, 2, none⟩ = false) := fun W b => by
    have hk' := (b.block G (Array.getElem?_eq_some_iff.1 hk).1).trans hk
    exact ⟨⟨cell_of_row _ G 0 _ _ (0, 0) hk', cell_of_row _ G 1 _ _ (0, 0) hk', cell_of_row _ G 2 _ _ (0, 0) hk'⟩, frozen_of_row _ G 0 _ _ hk', frozen_of_row _ G 1 _ _ hk', frozen_of_row _ G 2 _ _ hk'⟩
  go_enter Tryz.func118, Tryz.ntmps118
  go_wp2_with fail
  refine (unhide CR).mono ?_
  rintro e w1 ⟨rfl, hw⟩
  obtain rfl := hw.symm
  clear hw CR c0 hW1 hG hk
  have y1 := Old.cell (unhide D1 _ bl)
  have y2 := Old.cell (unhide D3 _ bl)
  have inst := old_some W1
  have CS : Hid (∀ u : Old W1, _) := fun u => unhide CS1 u.val (bstep bl u.old)
  have CM : Hid (∀ u : Old W1, _) := fun u => unhide CM1 u.val (bstep bl u.old)
  have BL := hide bl
  clear bl CS1 CM1
  go_wp2_with fail
  refine region_old (by kernel_rfl) (by kernel_rfl) ?_
  repeat (go_big_quiet_step (first | (go_at_call 144; exact Calls.old_same (unhide CS _)) | (go_at_call 142; exact Calls.old_same (unhide CM _))))
  refine wpQuiet_nil ?_
  intro w5 hw5
  obtain ⟨u, rfl⟩ := hw5
  have bl := bstep (unhide BL) u.old
  have B1 := hide (bstep (unhide B1) u.old)
  generalize u.val = w2 at *
  clear u y1 y2 inst CS CM BL
  have y1 := Old.cell (unhide D2 _ bl)
  have y2 := Old.cell (unhide D4 _ bl)
  have inst := old_some w2
  have CS : Hid (∀ u : Old w2, _) := fun u => unhide CS2 u.val (bstep bl u.old)
  have CM : Hid (∀ u : Old w2, _) := fun u => unhide CM2 u.val (bstep bl u.old)
  have BL := hide bl
  clear bl CS2 CM2
  go_wp2_with fail
  refine region_old (by kernel_rfl) (by kernel_rfl) ?_
  repeat (go_big_quiet_step (first | (go_at_call 144; exact Calls.old_same (unhide CS _)) | (go_at_call 142; exact Calls.old_same (unhide CM _))))
  refine wpQuiet_nil ?_
  intro w5 hw5
  obtain ⟨u, rfl⟩ := hw5
  have bl := bstep (unhide BL) u.old
  have B1 := hide (bstep (unhide B1) u.old)
  generalize u.val = w3 at *
  clear u y1 y2 inst CS CM BL
  have y1 := Old.cell (unhide D2 _ bl)
  have y2 := Old.cell (unhide D5 _ bl)
  have inst := old_some w3
  have CS : Hid (∀ u : Old w3, _) := fun u => unhide CS3 u.val (bstep bl u.old)
  have CM : Hid (∀ u : Old w3, _) := fun u => unhide CM3 u.val (bstep bl u.old)
  have BL := hide bl
  clear bl CS3 CM3
  go_wp2_with fail
  refine region_old (by kernel_rfl) (by kernel_rfl) ?_
  repeat (go_big_quiet_step (first | (go_at_call 144; exact Calls.old_same (unhide CS _)) | (go_at_call 142; exact Calls.old_same (unhide CM _))))
  refine wpQuiet_nil ?_
  intro w5 hw5
  obtain ⟨u, rfl⟩ := hw5
  have bl := bstep (unhide BL) u.old
  have B1 := hide (bstep (unhide B1) u.old)
  generalize u.val = w4 at *
  clear u y1 y2 inst CS CM BL
  have y1 := unhide D1 _ bl
  go_wp2_with fail
  refine (unhide CPq _ bl).mono ?_
  rintro e w5 ⟨rfl, hw⟩
  obtain rfl := hw.symm
  clear hw y1
  go_wp2_with fail
  refine (unhide CT1 _).mono ?_
  rintro e w5 ⟨rfl, hw⟩
  obtain rfl := hw.symm
  clear hw
  have y1 := unhide D0 _ bl
  go_wp2_with fail
  refine (unhide CPp _ bl).mono ?_
  rintro e w5 ⟨rfl, hw⟩
  obtain rfl := hw.symm
  clear hw y1
  go_wp2_with fail
  refine (unhide CT2 _).mono ?_
  rintro e w5 ⟨rfl, hw⟩
  obtain rfl := hw.symm
  clear hw
  have y1 := unhide D0 _ bl
  go_wp2_with fail
  refine (unhide CPp _ bl).mono ?_
  rintro e w5 ⟨rfl, hw⟩
  obtain rfl := hw.symm
  clear hw y1
  go_wp2_with fail
  refine (unhide CT3 _).mono ?_
  rintro e w5 ⟨rfl, hw⟩
  obtain rfl := hw.symm
  clear hw
  obtain ⟨⟨z0, z1, z2⟩, f0, f1, f2⟩ := unhide HK _ (unhide B1)
  have BL := hide bl
  clear bl
  go_wp2
  refine bodyPost_ret (v := .agg #[.int .u64 (w0 : Int), .int .u64 (t1 : Int), .int .u64 (t2 : Int)]) (by simp [results, Tryz.results118, go_sem, z0, z1, z2]) rfl ⟨w0, t1, t2, rfl, unhide ANS, ?_⟩
  exact (((unhide BL).setCell (p := ⟨G, 0, none⟩) (unhide HG) _).setCell (p := ⟨G, 1, none⟩) (unhide HG) _).setCell (p := ⟨G, 2, none⟩) (unhide HG) _

end Go.Proofs.YtiekgpphggejcaaGreatDoor
