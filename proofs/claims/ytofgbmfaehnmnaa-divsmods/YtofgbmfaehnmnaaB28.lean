/- Small things of the laws over engines: tables in memory, rows of one word. -/
import Derived.Test.YtofgbmfaehnmnaaB27
import Derived.Test.YtofgbmfaehnmnaaB24
import Derived.Test.YtofgbmfaehnmnaaB14
import Derived.Test.YtofgbmfaehnmnaaB26
import Derived.Deep.RegionHeld3
import Derived.Test.YtofgbmfaehnmnaaB21
import Derived.Laws.CopyOwn
import Derived.Test.YtofgbmfaehnmnaaB2
namespace Go.Proofs.Ytofgbmfaehnmnaa
open Go.RowKit

theorem TabAt.out {D : Nat → Prop} {w w' : World} {g : Nat} {T : Tab} (h : TabAt w g T) (o : Out D w w') (hd : ¬ D g) : TabAt w' g T :=
  ⟨o.cell h.c0 hd, o.cell h.c1 hd, o.cell h.c2 hd, o.cell h.c3 hd, o.cell h.c4 hd, o.cell h.c5 hd, o.cell h.c6 hd, o.cell h.c7 hd, o.cell h.c8 hd, o.cell h.c9 hd, o.cell h.c10 hd⟩
theorem TabAt.lt {w : World} {g : Nat} {T : Tab} (h : TabAt w g T) : g < w.heap.size := World.block_lt_of_cell? _ _ h.c0
theorem NewW.shape {B : Nat} {w : World} {v : Value} {n : Nat} (h : NewW B w v n) : ∃ ga l cap, v = .slice ga l cap := by
  obtain ⟨ga, b, cap, xs, rfl, _⟩ := h.rep
  exact ⟨ga, _, cap, rfl⟩
theorem MEng.inM {w w' : World} {gm gt gk ge g : Nat} {s l m : Int} {T : Tab} (h : MEng w gm gt gk ge g s l m T) (o : Out (· = g) w w') {v : Value} {n : Nat} (r : InM w v n) : InM w' v n := by
  obtain ⟨ga, b, oo, cap, xs, rfl, hr, hd, hv, hl⟩ := r
  exact ⟨ga, b, oo, cap, xs, rfl, h.rep o hr, hd, hv, hl⟩

theorem blk_one (w : World) (a : Nat) : Blk (w.alloc (.cells #[.int .u64 (a : Int)] 72)) w.heap.size [a] := heap_alloc_new w _
theorem dig_one {a : Nat} (h : a < 18446744073709551616) : WDig [a] := fun j => by
  match j with
  | 0 => exact h
  | j + 1 => exact Nat.zero_lt_succ _
theorem can_one {a : Nat} (h : a < 18446744073709551616) (h0 : 0 < a) : WCan [a] := ⟨dig_one h, fun _ => h0⟩
theorem inM_one (w : World) (a : Nat) (h : a < 18446744073709551616) : InM (w.alloc (.cells #[.int .u64 (a : Int)] 72)) (.slice (some ⟨w.heap.size, 0, none⟩) 1 1) a :=
  ⟨_, _, _, _, [a], rfl, Blk.whole (blk_one w a) (n := 1) rfl, dig_one h, by simp [wval], by simp⟩
/-- What is answered, held against a row of one word. -/
theorem same_one (w : World) (B a : Nat) (r : Value) (h : a < 18446744073709551616) (h0 : 0 < a) (nr : NewW B w r a) :
    Calls Try.prog 31 #[r, .slice (some ⟨w.heap.size, 0, none⟩) 1 1] (w.alloc (.cells #[.int .u64 (a : Int)] 72)) fun e w' => e = .returned (.bool true) ∧ Below w.heap.size w w' := by
  have hb : Below w.heap.size w (w.alloc (.cells #[.int .u64 (a : Int)] 72)) := (Below.refl _ _).alloc (Nat.le_refl _) _
  obtain ⟨ga, b, cap, rfl, rr⟩ := new_words nr (can_one h h0) (by simp [wval])
  refine (keepSame_any _ ga _ b 0 cap _ 0 1 1 [a] rfl (by omega) (rr.next hb) (Blk.whole (blk_one w a) (n := 1) rfl)).mono ?_
  rintro e w' ⟨rfl, b2⟩
  exact ⟨rfl, bstep hb b2⟩

end Go.Proofs.Ytofgbmfaehnmnaa

/- takeFrom and divisorOf of divs, and its trim. -/
namespace Go.Proofs.Ytofgbmfaehnmnaa
open Go.RowKit

/-- What takeFrom leaves: the divisor is taken as often as it goes, where what stands there is below B times the divisor. -/
def TfAns (w : World) (g o M D : Nat) (zs : List Nat) (e : Ending) (w' : World) : Prop :=
  ∃ (q : Nat) (zs' : List Nat), e = .returned (.int .u64 (q : Int)) ∧ q < 18446744073709551616 ∧ Same2 zs zs' o M ∧ WDig zs' ∧ Blk w' g zs' ∧ Out (· = g) w w' ∧ (seg zs o (M + 1) < D * 18446744073709551616 → q = seg zs o (M + 1) / D ∧ seg zs' o M = seg zs o (M + 1) % D)

theorem Same2.trans {a b c : List Nat} {o m : Nat} (h : Same2 a b o m) (k : Same2 b c o m) : Same2 a c o m := ⟨k.1.trans h.1, fun j hj => (k.2 j hj).trans (h.2 j hj)⟩
theorem box_d (w : World) (u v : Value) : (w.alloc (.cells #[u, v] 96)).cell? ⟨w.heap.size, 0, none⟩ = some u ∧ (w.alloc (.cells #[u, v] 96)).cell? ⟨w.heap.size, 1, none⟩ = some v := by
  have := heap_alloc_new w (.cells #[u, v] 96)
  exact ⟨cell_of_row _ _ _ _ _ (0, 0) this, cell_of_row _ _ _ _ _ (0, 0) this⟩

set_option maxRecDepth 100000 in
set_option maxHeartbeats 3200000 in
theorem takeFrom_any2 (w : World) (g o n cap bb ob cb m M v D : Nat) (gb : Option Addr) (zs ds : List Nat) (hz : o + n ≤ zs.length) (hdl : ds.length = M) (hM : M = m + 2) (hlb : M + 1 ≤ n) (hn : o + n ≤ 1099511627776)
    (hZ : Blk w g zs) (dz : WDig zs) (hB : Rep w gb bb ob cb ds) (dd : WDig ds) (h63 : 9223372036854775808 ≤ ds.getD (m + 1) 0) (hv : v = inv2 (ds.getD (m + 1) 0 * 18446744073709551616 + ds.getD m 0)) (hD : D = wval ds) (hne : bb ≠ g) :
    Calls Try.prog 48 #[.agg #[.slice gb M cb, .int .u64 (v : Int)], .slice (some ⟨g, o, none⟩) n cap] w (TfAns w g o M D zs) := by
  obtain rfl := hB.head (by omega)
  obtain ⟨P0, hP0⟩ : ∃ P0, w.heap.size = P0 := ⟨_, rfl⟩
  have bA : Below w.heap.size w (w.alloc (.cells #[.slice (some ⟨bb, ob, none⟩) M cb, .int .u64 (v : Int)] 96)) := (Below.refl _ w).alloc (Nat.le_refl _) _
  obtain ⟨x0, x1⟩ := box_d w (.slice (some ⟨bb, ob, none⟩) M cb) (.int .u64 (v : Int))
  have hs1 : (w.alloc (.cells #[.slice (some ⟨bb, ob, none⟩) M cb, .int .u64 (v : Int)] 96)).heap.size = P0 + 1 := by simp [hP0]
  obtain ⟨W1, hW1⟩ : ∃ W1, w.alloc (.cells #[.slice (some ⟨bb, ob, none⟩) M cb, .int .u64 (v : Int)] 96) = W1 := ⟨_, rfl⟩
  rw [hW1] at bA x0 x1 hs1
  rw [hP0] at x0 x1
  have hgl := hZ.lt
  rw [hP0] at hgl
  obtain ⟨h, hh⟩ : ∃ h, h = gss (zs.getD (o + m + 2) 0) (zs.getD (o + m + 1) 0) (zs.getD (o + m) 0) (ds.getD (m + 1) 0) (ds.getD m 0) := ⟨_, rfl⟩
  have hhb : h < 18446744073709551616 := by rw [hh]; exact gss_lt (dz _) (dz _) (dd _)
  have CG := hide (guess_any W1 g o n cap bb ob cb m M v h (some ⟨bb, ob, none⟩) zs ds hz hdl hM hlb hn (hZ.next bA) dz (hB.next bA) dd h63 hv hh)
  obtain ⟨top, htop⟩ : ∃ top, top = zs.getD (o + M) 0 := ⟨_, rfl⟩
  have HFin : Hid (∀ c zs1, TkAt zs zs1 ds h o M c → seg zs o (M + 1) < D * 18446744073709551616 → (c ≤ top → h = seg zs o (M + 1) / D ∧ seg zs1 o M = seg zs o (M + 1) % D) ∧ (top < c → ∀ c' zs2, PbAt zs1 zs2 ds o M c' → (h + 18446744073709551615) % 18446744073709551616 = seg zs o (M + 1) / D ∧ seg zs2 o M = seg zs o (M + 1) % D)) := by
    intro c zs1 ht hu
    subst hM
    have hDp : 0 < D := by
      rw [hD]
      have := seg_two ds 0 m
      rw [seg_zero ds (m + 2) (by omega)] at this
      simp only [Nat.zero_add] at this
      have h1 : 1 * 1 ≤ (ds.getD (m + 1) 0 * 18446744073709551616 + ds.getD m 0) * 18446744073709551616 ^ m := Nat.mul_le_mul (by omega) (wpow_pos m)
      omega
    have hDm : D ≤ 18446744073709551616 ^ (m + 2) := by have := wval_lt_pow dd; rw [hdl, ← hD] at this; omega
    obtain ⟨g1, g2⟩ := gss_ok (o := o) dz dd hdl hD h63 rfl hu
    rw [← hh] at g1 g2
    refine ⟨fun hc => take_right ht (by omega) hD hDm hDp rfl g1 (by rw [← htop]; exact hc), fun hc c' zs2 hb => ?_⟩
    obtain ⟨t1, t2, t3⟩ := take_over ht hb (by omega) hD hDm hDp rfl g2 (by rw [← htop]; exact hc)
    exact ⟨by omega, t3⟩
  have HT : Hid (∀ W, Out (· = g) W1 W → Blk W g zs → Calls Try.prog 57 #[.slice (some ⟨g, o, none⟩) n cap, .slice (some ⟨bb, ob, none⟩) M cb, .int .u64 (h : Int)] W fun e w' => ∃ (c : Nat) (zs1 : List Nat), e = .returned (.int .u64 (c : Int)) ∧ TkAt zs zs1 ds h o M c ∧ Blk w' g zs1 ∧ Out (· = g) W1 w' ∧ (w'.cell? ⟨P0, 0, none⟩ = some (.slice (some ⟨bb, ob, none⟩) M cb) ∧ w'.cell? ⟨g, o + M, none⟩ = some (.int .u64 (top : Int)))) := by
    intro W oW bW
    refine (takeTimes_any W g o n cap bb ob cb M h _ zs ds hz hdl (by omega) hn hhb bW dz (oW.rep (hB.next bA) (fun _ => hne)) dd (fun _ => hne)).mono ?_
    rintro e w' ⟨c, zs1, rfl, ht, hb, hg⟩
    have o2 := oW.trans (Out.of_grown hg)
    refine ⟨c, zs1, rfl, ht, hb, o2, o2.cell x0 (by show ¬ P0 = g; omega), ?_⟩
    rw [hb.cell (o + M) (by rw [ht.1.1]; omega), ht.1.2 (o + M) (Or.inr (Nat.le_refl _)), ← htop]
  have HP : Hid (∀ W zs1, Out (· = g) W1 W → Blk W g zs1 → WDig zs1 → zs1.length = zs.length → Calls Try.prog 58 #[.slice (some ⟨g, o, none⟩) n cap, .slice (some ⟨bb, ob, none⟩) M cb] W fun e w' => ∃ (c : Nat) (zs2 : List Nat), e = .returned (.tuple #[]) ∧ PbAt zs1 zs2 ds o M c ∧ Blk w' g zs2 ∧ Out (· = g) W1 w') := by
    intro W zs1 oW bW d1 hl
    refine (putBack_any W g o n cap bb ob cb M _ zs1 ds (by rw [hl]; exact hz) hdl (by omega) hn bW d1 (oW.rep (hB.next bA) (fun _ => hne)) dd (fun _ => hne)).mono ?_
    rintro e w' ⟨c, zs2, rfl, ht, hb, hg⟩
    exact ⟨c, zs2, rfl, ht, hb, oW.trans (Out.of_grown hg)⟩
  have oA : Hid (Out (· = g) w W1) := Out.of_below bA
  have hZ1 := hZ.next bA
  have hcell := (hZ.next bA).cell (o + M) (by omega)
  rw [← htop] at hcell
  have hMn : M < n := by omega
  have Mb : M ≤ 1099511627776 := by omega
  have eh : IntKind.u64.wrap ((h : Int) - 1) = (((h + 18446744073709551615) % 18446744073709551616 : Nat) : Int) := by rw [IntKind.wrap_u64]; omega
  have ehb : (h + 18446744073709551615) % 18446744073709551616 < 18446744073709551616 := Nat.mod_lt _ (by omega)
  generalize (h + 18446744073709551615) % 18446744073709551616 = h1 at *
  have hPg : ¬ P0 = g := by omega
  clear hh hv hM hZ dd h63 hD hdl hz hlb hn htop hB bA
  have dz := hide dz
  go_enter Try.func48, Try.ntmps48
  go_wp2_with fail
  refine (unhide CG).mono ?_
  rintro e w2 ⟨rfl, b2⟩
  have x0 := (b2.cell (p := ⟨P0, 0, none⟩) (by show P0 < _; omega)).trans x0
  have hcell := (b2.cell (p := ⟨g, o + M, none⟩) hZ1.lt).trans hcell
  have oB : Out (· = g) W1 w2.drew := (Out.of_below b2).next (Below.refl _ _).drew
  have hZ2 : Blk w2.drew g zs := Blk.drewN (hZ1.next b2) 1
  clear CG hZ1 b2 x1
  go_wp2
  go_region_held3 (fun w' => w'.cell? ⟨P0, 0, none⟩ = some (.slice (some ⟨bb, ob, none⟩) M cb) ∧ w'.cell? ⟨g, o + M, none⟩ = some (.int .u64 (top : Int))) (first | (assumption) | go_keep) (first
    | (go_at_call 57; with_reducible refine (unhide HT _ oB hZ2).mono ?_; rintro e w3 ⟨c, zs1, rfl, ht, hb, o3, hS⟩))
  have hS0 := hS.1
  have HT2 := hide ht
  have HB2 := hide hb
  clear hS HT oB hZ2 x0 hcell
  by_cases hc : top < c
  · have CP := hide (unhide HP _ zs1 o3 hb ht.2.1 ht.1.1)
    have hci : (top : Int) < (c : Int) := by omega
    clear ht hb
    go_wp2_with fail
    refine (unhide CP).mono ?_
    rintro e w4 ⟨c', zs2, rfl, hp, hb2, o4⟩
    have HF := hide (fun hu => ((unhide HFin) c zs1 (unhide HT2) hu).2 hc c' zs2 hp)
    have HP2 := hide hp
    clear hp CP HFin
    go_wp2
    go_ret
    exact ⟨h1, zs2, ret_int rfl, ehb, (unhide HT2).1.trans (unhide HP2).1, (unhide HP2).2.1, hb2, (unhide oA).trans o4, unhide HF⟩
  · have hci : ¬ (top : Int) < (c : Int) := by omega
    have HF := hide (fun hu => ((unhide HFin) c zs1 (unhide HT2) hu).1 (by omega))
    clear ht hb HFin
    go_wp2
    go_ret
    exact ⟨h, zs1, rfl, hhb, (unhide HT2).1, (unhide HT2).2.1, unhide HB2, (unhide oA).trans o3, unhide HF⟩

/-- divs' own trim: a piece of the same memory. -/
theorem dtrim_any (w : World) (ga : Option Addr) (b o cap n m : Nat) (xs : List Nat) (hl : xs.length = n) (hn : n ≤ 1099511627776) (hR : Rep w ga b o cap xs) (hm : m = nlen xs n) :
    Calls Try.prog 24 #[.slice ga n cap] w fun e w' => e = .returned (.slice ga m cap) ∧ w' = w := by
  have hmn : m ≤ n := by rw [hm]; exact nlen_le xs n
  have hcap : n ≤ cap := by have := hR.room; omega
  have CL := hide (fun w' (h : w' = w) => h ▸ len_any w ga b o cap n xs hl hn hR)
  rw [← hm] at CL
  clear hm hR
  go_enter Try.func24, Try.ntmps24
  go_wp2_with fail
  refine (unhide CL _ rfl).mono ?_
  rintro e w' ⟨rfl, rfl⟩
  go_wp2
  go_ret
  exact ⟨ret_slice rfl, rfl⟩

set_option maxRecDepth 100000 in
set_option maxHeartbeats 3200000 in
theorem divisorOf_any (w : World) (gb : Option Addr) (bb ob cb m M v : Nat) (ds : List Nat) (hdl : ds.length = M) (hM : M = m + 2) (hn : M ≤ 1099511627776) (hB : Rep w gb bb ob cb ds) (dd : WDig ds) (h63 : 9223372036854775808 ≤ ds.getD (m + 1) 0) (hv : v = inv2 (ds.getD (m + 1) 0 * 18446744073709551616 + ds.getD m 0)) :
    Calls Try.prog 45 #[.slice gb M cb] w fun e w' => e = .returned (.agg #[.slice gb M cb, .int .u64 (v : Int)]) ∧ Below w.heap.size w w' := by
  obtain rfl := hB.head (by omega)
  obtain ⟨m1, hm1⟩ : ∃ m1, m1 = m + 1 := ⟨_, rfl⟩
  obtain ⟨W1, hW1⟩ : ∃ W1, w.alloc (.cells #[.slice none 0 0, .int .u64 0] 96) = W1 := ⟨_, rfl⟩
  have bA : Below w.heap.size w (w.alloc (.cells #[.slice none 0 0, .int .u64 0] 96)) := (Below.refl _ w).alloc (Nat.le_refl _) _
  rw [hW1] at bA
  have b1 := (hB.next bA).cell m1 (by omega)
  have b0 := (hB.next bA).cell m (by omega)
  rw [hm1] at b1
  have p1 := dd (m + 1)
  have p0 := dd m
  generalize ds.getD (m + 1) 0 = d1 at *
  generalize ds.getD m 0 = d0 at *
  rw [← hm1] at b1
  have CI := hide (fun w => word_Inverse2 d1 d0 _ v w h63 p1 p0 rfl hv)
  have i1 : (M : Int) - 1 = (m1 : Int) := by omega
  have i2 : (M : Int) - 2 = (m : Int) := by omega
  have j1 : m1 < M ∧ m < M := by omega
  obtain ⟨j1, j2⟩ := j1
  have k1 : IntKind.i64.wrap (m1 : Int) = (m1 : Int) := by rw [IntKind.wrap_i64]; omega
  have k2 : IntKind.i64.wrap (m : Int) = (m : Int) := by rw [IntKind.wrap_i64]; omega
  have hs1 : W1.heap.size = w.heap.size + 1 := by rw [← hW1]; simp
  obtain ⟨P0, hP0⟩ : ∃ P0, w.heap.size = P0 := ⟨_, rfl⟩
  have hbx : Hid (W1.heap[P0]? = some (.cells #[.slice none 0 0, .int .u64 0] 96 (0, 0))) := by show _ = _; rw [← hW1, ← hP0]; exact heap_alloc_new w _
  have HL := hide (World.block_lt_of_cell? _ _ b0)
  have BA := hide bA
  have HC : Hid (∀ W, Below W1.heap.size W1 W → W.cell? ⟨bb, ob + m1, none⟩ = some (.int .u64 (d1 : Int)) ∧ W.cell? ⟨bb, ob + m, none⟩ = some (.int .u64 (d0 : Int))) := fun W b => ⟨(b.cell (p := ⟨bb, ob + m1, none⟩) (unhide HL)).trans b1, (b.cell (p := ⟨bb, ob + m, none⟩) (unhide HL)).trans b0⟩
  clear hv hM hm1 hB dd hdl h63 p1 p0 bA
  go_enter Try.func45, Try.ntmps45
  go_wp2_with fail
  have bl : Below W1.heap.size W1 W1.drew := (Below.refl _ _).drew
  go_region_held3 (fun w' => w'.cell? ⟨bb, ob + m1, none⟩ = some (.int .u64 (d1 : Int)) ∧ w'.cell? ⟨bb, ob + m, none⟩ = some (.int .u64 (d0 : Int))) (first | (exact unhide HC _ bl) | go_keep) (first
    | (go_at_call 53; with_reducible refine (unhide CI _).mono ?_; rintro e w3 ⟨rfl, b3⟩; have bl := bl.trans (b3.mono bl.size)))
  have hk := (bl.block P0 (by rw [hs1]; omega)).trans (unhide hbx)
  have c0 : w3.cell? ⟨P0, 0, none⟩ = some (.slice none 0 0) := cell_of_row _ _ _ _ _ (0, 0) hk
  have c1 : w3.cell? ⟨P0, 1, none⟩ = some (.int .u64 0) := cell_of_row _ _ _ _ _ (0, 0) hk
  have f0 : w3.frozen? ⟨P0, 0, none⟩ = false := frozen_of_row _ _ _ _ _ hk
  have f1 : w3.frozen? ⟨P0, 1, none⟩ = false := frozen_of_row _ _ _ _ _ hk
  have z0 : (w3.setCell ⟨P0, 0, none⟩ (.slice (some ⟨bb, ob, none⟩) M cb)).cell? ⟨P0, 0, none⟩ = some (.slice (some ⟨bb, ob, none⟩) M cb) := World.cell?_setCell_same' _ _ _ (by rw [c0]; rfl)
  have d1' : (w3.setCell ⟨P0, 0, none⟩ (.slice (some ⟨bb, ob, none⟩) M cb)).cell? ⟨P0, 1, none⟩ = some (.int .u64 0) := by
    rw [World.cell?_setCell_other _ _ _ _ (by simp)]; exact c1
  have z1 : ((w3.setCell ⟨P0, 0, none⟩ (.slice (some ⟨bb, ob, none⟩) M cb)).setCell ⟨P0, 1, none⟩ (.int .u64 (v : Int))).cell? ⟨P0, 1, none⟩ = some (.int .u64 (v : Int)) := World.cell?_setCell_same' _ _ _ (by rw [d1']; rfl)
  clear hk d1'
  go_wp2
  refine bodyPost_ret (v := .agg #[.slice (some ⟨bb, ob, none⟩) M cb, .int .u64 (v : Int)]) (by simp [results, Try.results45, go_sem, z0, z1]) rfl ?_
  exact ⟨rfl, (((unhide BA).trans (bl.mono (unhide BA).size)).setCell (by show w.heap.size ≤ P0; omega) _).setCell (by show w.heap.size ≤ P0; omega) _⟩

end Go.Proofs.Ytofgbmfaehnmnaa

/- What byMany of divs begins with: both numbers moved so that the divisor's top bit is set; a row laid over noughts. -/
namespace Go.Proofs.Ytofgbmfaehnmnaa
open Go.RowKit

theorem moved_lt {t s : Nat} (hs : s ≤ 63) (h : t * 2 ^ s < 18446744073709551616) : (t + 1) * 2 ^ s ≤ 18446744073709551616 := by
  have e : (18446744073709551616 : Nat) = 2 ^ (64 - s) * 2 ^ s := by rw [← Nat.pow_add, show 64 - s + s = 64 by omega]
  rw [e] at h ⊢
  exact Nat.mul_le_mul_right _ (Nat.lt_of_mul_lt_mul_right h)
/-- The divisor moved up: as many words, and the top bit is set. -/
theorem moved_top {vs ds : List Nat} {m s : Nat} (cB : WCan vs) (hl : vs.length = m + 1) (cD : WCan ds) (hs : s ≤ 63) (h1 : 9223372036854775808 ≤ vs.getD m 0 * 2 ^ s) (h2 : vs.getD m 0 * 2 ^ s < 18446744073709551616) (hd : wval ds = wval vs * 2 ^ s) :
    ds.length = m + 1 ∧ 9223372036854775808 ≤ ds.getD m 0 := by
  have e1 := wval_take_succ vs m
  rw [show m + 1 = vs.length from hl.symm, List.take_length] at e1
  have l1 := wval_lt cB.1 m
  have l2 := moved_lt hs h2
  have hX := wpow_pos m
  generalize vs.getD m 0 = t at *
  generalize wval (vs.take m) = lo at *
  have hup : wval ds < 18446744073709551616 ^ (m + 1) := by
    rw [hd, Nat.pow_succ]
    have a1 : wval vs < 18446744073709551616 ^ m * (t + 1) := by rw [e1, Nat.mul_succ]; omega
    have a2 : wval vs * 2 ^ s < 18446744073709551616 ^ m * (t + 1) * 2 ^ s := Nat.mul_lt_mul_of_pos_right a1 (Nat.two_pow_pos s)
    rw [Nat.mul_assoc] at a2
    exact Nat.lt_of_lt_of_le a2 (Nat.mul_le_mul_left _ l2)
  have hlow : 18446744073709551616 ^ m * 9223372036854775808 ≤ wval ds := by
    rw [hd, e1, Nat.add_mul, Nat.mul_assoc]
    have := Nat.mul_le_mul_left (18446744073709551616 ^ m) h1
    omega
  have len1 := wlen_le cD hup
  have len2 : m < ds.length := by
    refine Nat.lt_of_not_le fun h => ?_
    have := wval_lt_pow cD.1
    have h3 : 18446744073709551616 ^ ds.length ≤ 18446744073709551616 ^ m := Nat.pow_le_pow_right (by omega) h
    have h4 : 18446744073709551616 ^ m * 1 ≤ 18446744073709551616 ^ m * 9223372036854775808 := Nat.mul_le_mul_left _ (by omega)
    omega
  have hlen : ds.length = m + 1 := by omega
  refine ⟨hlen, ?_⟩
  have e2 := wval_take_succ ds m
  rw [show m + 1 = ds.length from hlen.symm, List.take_length] at e2
  have l3 := wval_lt cD.1 m
  refine Nat.le_of_not_lt fun h => ?_
  have h5 : 18446744073709551616 ^ m * (ds.getD m 0 + 1) ≤ 18446744073709551616 ^ m * 9223372036854775808 := Nat.mul_le_mul_left _ h
  rw [Nat.mul_succ] at h5
  omega
theorem moved_small {us : List Nat} {n s : Nat} (dA : WDig us) (hl : us.length = n) (hs : s ≤ 63) : wval us * 2 ^ s < 18446744073709551616 ^ (n + 1) := by
  have h1 := wval_lt_pow dA
  rw [hl] at h1
  rw [Nat.pow_succ]
  have h2 : (2 : Nat) ^ s ≤ 2 ^ 63 := Nat.pow_le_pow_right (by omega) hs
  have h3 : (2 : Nat) ^ s ≤ 18446744073709551616 := by omega
  exact Nat.mul_lt_mul_of_lt_of_le h1 h3 (by omega)

/-- copy lays a row over the head of a row of noughts. -/
theorem copy_run (W : World) (gr N : Nat) (ga : Option Addr) (ba oa cap l : Nat) (xs : List Nat) (hZ : Blk W gr (List.replicate N 0)) (hR : Rep W ga ba oa cap xs) (hl : xs.length = l) (hlN : l ≤ N) :
    ∃ W', (∀ ty, (Builtin.copy_ #[29, 29] ty #[.slice (some ⟨gr, 0, none⟩) N N, .slice ga l cap]).run Try.prog W = .ok (.int .i64 (l : Int)) W') ∧ Blk W' gr (xs ++ List.replicate (N - l) 0) ∧ Out (· = gr) W W' := by
  subst hl
  by_cases h0 : xs.length = 0
  · obtain rfl : xs = [] := List.eq_nil_of_length_eq_zero h0
    refine ⟨W, fun ty => run_copy_none W 29 29 ty 72 _ _ _ _ _ _ Try.underlying29 Try.sizeU (by simp), by simpa using hZ, Out.refl _ _⟩
  · obtain rfl := hR.head (by omega)
    have hZ' : W.heap[gr]? = some (.cells (cellsOf (List.replicate N 0)).toArray 72 (0, 0)) := hZ
    have ecl : goInt ((crow xs).length : Int) = .int .i64 (xs.length : Int) := by rw [crow_len]; rfl
    have hc := run_copy_row (P := Try.prog) W 29 29 (cs := crow xs) (elem := 72) (g := gr) (o := 0) (dLen := N) (dCap := N) (a := ⟨ba, oa, none⟩) (sLen := xs.length) (sCap := cap) (cur := (cellsOf (List.replicate N 0)).toArray) (t := 72)
    have hsr : ∀ j v, (crow xs)[j]? = some v → W.cell? ((⟨ba, oa, none⟩ : Addr).add j) = some v := by
      intro j v hj
      have hjl : j < xs.length := by
        have := (List.getElem?_eq_some_iff.1 hj).1
        rwa [crow_len] at this
      have := hR.cell j hjl
      have e : (⟨ba, oa, none⟩ : Addr).add j = ⟨ba, oa + j, none⟩ := by unfold Addr.add; split <;> simp_all
      rw [e, this, ← hj]
      simp [crow, cellsOf, hjl]
    refine ⟨_, fun ty => by rw [← ecl]; exact hc ty Try.underlying29 Try.sizeU hZ' (by rw [crow_len]; exact (Nat.min_eq_left hlN).symm) hsr (by rw [crow_len]; simp [cellsOf]; omega) (cells_one _), ?_, ?_⟩
    · have h := setRow_heap W gr _ ((cellsOf (List.replicate N 0)).toArray.toList.take 0 ++ crow xs ++ (cellsOf (List.replicate N 0)).toArray.toList.drop (0 + (crow xs).length)).toArray _ _ hZ'
      show _ = _
      rw [h]
      simp [crow, cellsOf]
    · exact Out.of_grown ⟨rfl, rfl, rfl, by simp [World.setRow], fun k hk hne => setRow_other W gr k _ (fun e => hne (by rw [e]))⟩

end Go.Proofs.Ytofgbmfaehnmnaa

/- What the laws on package divs call themselves: a row as a natural, how many words it has. -/
namespace Go.Proofs.Ytofgbmfaehnmnaa
open Go.RowKit

set_option maxHeartbeats 1600000 in
theorem from_divs (w : World) (ga : Option Addr) (b o cap n A : Nat) (us : List Nat) (hl : us.length = n) (hn : n ≤ 1073741824) (hR : Rep w ga b o cap us) (hd : WDig us) (hA : A = wval us) :
    Calls Try.prog 13 #[.slice ga n cap] w fun e w' => ∃ v, e = .returned v ∧ IsN w' v A ∧ Below w.heap.size w w' := by
  subst hl
  have CF := hide (from_any w ga b o cap us (by omega) hR (wDig_mem hd))
  rw [← hA] at CF
  clear hA
  generalize us.length = n at *
  go_enter Try.func13, Try.ntmps13
  go_wp2_with fail
  refine (unhide CF).mono ?_
  rintro e w1 ⟨v, rfl, h1, h2⟩
  clear CF
  go_wp2
  go_ret
  exact ⟨v, rfl, h1, h2⟩

set_option maxHeartbeats 1600000 in
theorem dwords_any (w : World) (ga : Option Addr) (b o cap n A : Nat) (us : List Nat) (hl : us.length = n) (hn : n ≤ 1073741824) (hR : Rep w ga b o cap us) (hd : WDig us) (hA : A = wval us) :
    Calls Try.prog 10 #[.slice ga n cap] w fun e w' => e = .returned (.int .i64 (wl A : Int)) ∧ w' = w := by
  have CF := len_any w ga b o cap n us hl (by omega) hR
  rw [← hl, nlen_wl hd, ← hA, hl] at CF
  replace CF := hide CF
  clear hA hR hd
  go_enter Try.func10, Try.ntmps10
  go_wp2_with fail
  refine (unhide CF).mono ?_
  rintro e w1 ⟨rfl, rfl⟩
  clear CF
  go_wp2
  go_ret
  exact ⟨rfl, rfl⟩

end Go.Proofs.Ytofgbmfaehnmnaa

/- Package divs: the example of the document. -/
namespace Go.Proofs.Ytofgbmfaehnmnaa
open Go.RowKit

theorem blk_up (w : World) : Blk (w.alloc (.cells #[.int .u64 0, .int .u64 1] 72)) w.heap.size [0, 1] := heap_alloc_new w _
theorem inM_up (w : World) : InM (w.alloc (.cells #[.int .u64 0, .int .u64 1] 72)) (.slice (some ⟨w.heap.size, 0, none⟩) 2 2) 18446744073709551616 :=
  ⟨_, _, _, _, [0, 1], rfl, Blk.whole (blk_up w) (n := 2) rfl, (fun j => by
    match j with
    | 0 => decide
    | 1 => decide
    | j + 2 => exact Nat.zero_lt_succ _), by simp [wval], by simp⟩
theorem newW_single {B : Nat} {w : World} {v : Value} {a : Nat} (h : NewW B w v a) (h1 : a < 18446744073709551616) (h0 : 0 < a) : ∃ ga cap, v = .slice ga 1 cap := by
  obtain ⟨ga, b, cap, rfl, rr⟩ := new_words h (can_one h1 h0) (by simp [wval])
  exact ⟨ga, cap, rfl⟩

set_option maxRecDepth 100000 in
set_option maxHeartbeats 6400000 in
theorem divsWakes_any (SN : SpecDNew) (SL : SpecLong) (w : World) : Calls Try.prog 11 #[] w fun e w' => e = .returned (.bool true) ∧ Below w.heap.size w w' := by
  have CN := hide (fun w => SN ⟨0, 0, 0, 0, 0, 0, 0, 0, 0, 0, 0⟩ w)
  unfold Tab.val at CN
  have HSL := hide SL
  clear SN SL
  go_enter Try.func11, Try.ntmps11
  go_wp2_with fail
  refine (unhide CN _).mono ?_
  rintro e w1 ⟨gd, gm, gt, gk, ge, g, rfl, E, hn, b⟩
  have bl := b
  have hg : w.heap.size ≤ g := by omega
  have d1 : Below w1.heap.size w1 (w1.alloc (.cells #[.int .u64 0, .int .u64 1] 72)) := (Below.refl _ _).alloc (Nat.le_refl _) _
  have d2 : Below (w1.alloc (.cells #[.int .u64 0, .int .u64 1] 72)).heap.size (w1.alloc (.cells #[.int .u64 0, .int .u64 1] 72)) ((w1.alloc (.cells #[.int .u64 0, .int .u64 1] 72)).alloc (.cells #[.int .u64 3] 72)) := (Below.refl _ _).alloc (Nat.le_refl _) _
  have z1 : (w1.alloc (.cells #[.int .u64 0, .int .u64 1] 72)).heap.size = w1.heap.size + 1 := by simp
  have i1 := (inM_up w1).next d2
  have i2 := inM_one (w1.alloc (.cells #[.int .u64 0, .int .u64 1] 72)) 3 (by decide)
  rw [z1] at i2
  have E2 := (E.next d1).next d2
  have b2 := hide (bstep (bstep bl d1) d2)
  have CP := hide (unhide HSL _ gd gm gt gk ge g 0 0 0 _ _ _ 18446744073709551616 3 E2 (by decide) (by decide) (by decide) (by decide) i1 i2 (by decide))
  clear d1 d2 E b bl hn CN z1 i1 i2 E2 HSL
  go_wp2_with fail
  refine (unhide CP).mono ?_
  generalize ((w1.alloc (.cells #[.int .u64 0, .int .u64 1] 72)).alloc (.cells #[.int .u64 3] 72)) = W2 at *
  rintro e w5 ⟨q, r, gq, gr, m', rfl, nq, nr, _, _, _, o⟩
  have nr : NewW gr w5 r 1 := nr.toW
  have nq : NewW gq w5 q 6148914691236517205 := nq.toW
  have b5 := hide ((unhide b2).trans (o.below (B := w.heap.size) (unhide b2).size (fun k hk => by rw [hk]; exact hg)))
  have CS := hide (same_one w5 _ 1 r (by decide) (by decide) nr)
  obtain ⟨qa, qc, rfl⟩ := newW_single nq (by decide) (by decide)
  obtain ⟨ra, rl, rc, rfl⟩ := nr.shape
  clear CP b2 nr nq o
  go_wp2_with fail
  refine (unhide CS).mono ?_
  rintro e w6 ⟨rfl, b6⟩
  have bl := bstep (unhide b5) b6
  clear CS b5 b6
  go_wp2
  go_ret
  exact ⟨rfl, bl⟩

end Go.Proofs.Ytofgbmfaehnmnaa
