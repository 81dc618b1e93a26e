/- What the laws on package mul call themselves: a row as a natural, how many words it has, how deep products may go. -/
import Derived.Test.YtiekgpphggejcaaGreatDoorB41
import Derived.Test.YtiekgpphggejcaaGreatDoorB22
import Derived.Test.YtiekgpphggejcaaGreatDoorB3
import Derived.Test.YtiekgpphggejcaaGreatDoorB14
import Derived.Test.YtiekgpphggejcaaGreatDoorB39
import Derived.Test.YtiekgpphggejcaaGreatDoorB33
import Derived.Test.YtiekgpphggejcaaGreatDoorB32
import Derived.Test.YtiekgpphggejcaaGreatDoorB5
namespace Go.Proofs.YtiekgpphggejcaaGreatDoor
open Go.RowKit

theorem TabAt.out {D : Nat → Prop} {w w' : World} {g : Nat} {T : Tab} (h : TabAt w g T) (o : Out D w w') (hd : ¬ D g) : TabAt w' g T :=
  ⟨o.cell h.c0 hd, o.cell h.c1 hd, o.cell h.c2 hd, o.cell h.c3 hd, o.cell h.c4 hd, o.cell h.c5 hd, o.cell h.c6 hd, o.cell h.c7 hd, o.cell h.c8 hd, o.cell h.c9 hd, o.cell h.c10 hd⟩
theorem TabAt.lt {w : World} {g : Nat} {T : Tab} (h : TabAt w g T) : g < w.heap.size := World.block_lt_of_cell? _ _ h.c0
theorem NewW.shape {B : Nat} {w : World} {v : Value} {n : Nat} (h : NewW B w v n) : ∃ ga l cap, v = .slice ga l cap := by
  obtain ⟨ga, b, cap, xs, rfl, _⟩ := h.rep
  exact ⟨ga, _, cap, rfl⟩
theorem MEng.inM {w w' : World} {gm gt gk ge g : Nat} {s l m : Int} {T : Tab} (h : MEng w gm gt gk ge g s l m T) (o : Out (· = g) w w') {v : Value} {n : Nat} (r : InM w v n) : InM w' v n := by
  obtain ⟨ga, b, oo, cap, xs, rfl, hr, hd, hv, hl⟩ := r
  exact ⟨ga, b, oo, cap, xs, rfl, h.rep o hr, hd, hv, hl⟩

set_option maxHeartbeats 1600000 in
theorem from_mul (w : World) (ga : Option Addr) (b o cap n A : Nat) (us : List Nat) (hl : us.length = n) (hn : n ≤ 1073741824) (hR : Rep w ga b o cap us) (hd : WDig us) (hA : A = wval us) :
    Calls Tryz.prog 16 #[.slice ga n cap] w fun e w' => ∃ v, e = .returned v ∧ IsN w' v A ∧ Below w.heap.size w w' := by
  subst hl
  have CF := hide (from_any w ga b o cap us (by omega) hR (wDig_mem hd))
  rw [← hA] at CF
  clear hA
  generalize us.length = n at *
  go_enter Tryz.func16, Tryz.ntmps16
  go_wp2_with fail
  refine (unhide CF).mono ?_
  rintro e w1 ⟨v, rfl, h1, h2⟩
  clear CF
  go_wp2
  go_ret
  exact ⟨v, rfl, h1, h2⟩

set_option maxHeartbeats 1600000 in
theorem lwords_any (w : World) (ga : Option Addr) (b o cap n A : Nat) (us : List Nat) (hl : us.length = n) (hn : n ≤ 1073741824) (hR : Rep w ga b o cap us) (hd : WDig us) (hA : A = wval us) :
    Calls Tryz.prog 13 #[.slice ga n cap] w fun e w' => e = .returned (.int .i64 (wl A : Int)) ∧ w' = w := by
  have CF := len_any w ga b o cap n us hl (by omega) hR
  rw [← hl, nlen_wl hd, ← hA, hl] at CF
  replace CF := hide CF
  clear hA hR hd
  go_enter Tryz.func13, Tryz.ntmps13
  go_wp2_with fail
  refine (unhide CF).mono ?_
  rintro e w1 ⟨rfl, rfl⟩
  clear CF
  go_wp2
  go_ret
  exact ⟨rfl, rfl⟩

set_option maxRecDepth 100000 in
set_option maxHeartbeats 1600000 in
theorem lawDeep_any (w : World) (n : Nat) (hn : n ≤ 16384) :
    Calls Tryz.prog 20 #[.int .i64 (n : Int)] w fun e w' => e = .returned (.int .i64 (dpt n : Int)) ∧ w' = w := by
  have hD : Hid (4 + 2 * Lib.bitLen n = dpt n) := by show _ = _; unfold dpt; omega
  go_enter Tryz.func20, Tryz.ntmps20
  go_wp2
  go_loopw [0, 3] (fun a k wr => ∃ (i q : Nat), a = .int .i64 (i : Int) ∧ k = .int .i64 (q : Int) ∧ i ≤ 16384 ∧ q + 2 * Lib.bitLen i = dpt n ∧ wr = w) (fun a _ _ => (intOf a).toNat)
  case atStart => exact ⟨n, 4, rfl, rfl, hn, unhide hD, rfl⟩
  case round =>
    obtain ⟨i, q, rfl, rfl, hi, hq, rfl⟩ := hrel
    by_cases h0 : i = 0
    · subst h0
      rw [bitLen_zero, Nat.mul_zero, Nat.add_zero] at hq
      subst hq
      go_wp2
      go_ret
      exact ⟨rfl, rfl⟩
    · have hq2 : q ≤ 100 := by
        have : Lib.bitLen n ≤ 16 := bitLen_small (by omega)
        unfold dpt at hq; omega
      have hb := Lib.bitLen_half i h0 (by omega)
      obtain ⟨j, hj⟩ : ∃ j, j = i / 2 := ⟨_, rfl⟩
      obtain ⟨q2, hq2e⟩ : ∃ q2, q2 = q + 2 := ⟨_, rfl⟩
      have hR : Hid (∃ (i q : Nat), (.int .i64 (j : Int) : Value) = .int .i64 (i : Int) ∧ (.int .i64 (q2 : Int) : Value) = .int .i64 (q : Int) ∧ i ≤ 16384 ∧ q + 2 * Lib.bitLen i = dpt n ∧ True) := ⟨j, q2, rfl, rfl, by omega, by rw [← hj] at hb; omega, trivial⟩
      have hM : Hid ((j : Int).toNat < (i : Int).toNat) := by show _ < _; omega
      have e1 : (i : Int).tdiv 2 = (j : Int) := by rw [Int.tdiv_eq_ediv_of_nonneg (by omega)]; omega
      have e1' : (i : Int) / 2 = (j : Int) := by omega
      have e2 : IntKind.i64.wrap (j : Int) = (j : Int) := by rw [IntKind.wrap_i64]; omega
      have e3 : (q : Int) + 2 = (q2 : Int) := by omega
      have e4 : IntKind.i64.wrap (q2 : Int) = (q2 : Int) := by rw [IntKind.wrap_i64]; omega
      have hp : (0 : Int) < (i : Int) := by omega
      clear hj hq2e hb hq hq2 hi hD h0 hn
      go_wp2
      go_roundw
      case rel => exact unhide hR
      case measure => exact unhide hM

end Go.Proofs.YtiekgpphggejcaaGreatDoor

/- What two tables' products cost. -/
namespace Go.Proofs.YtiekgpphggejcaaGreatDoor
open Go.RowKit

theorem costT_clamp {T U : Tab} (h : T.clamp = U.clamp) (n m : Int) : costT T n m = costT U n m := by
  unfold costT Tab.B Tab.D Tab.N
  rw [h]
theorem costT_le (T : Tab) (n m : Nat) (hn : n ≤ 16384) (hm : m ≤ 16384) : 0 ≤ costT T (n : Int) (m : Int) ∧ costT T (n : Int) (m : Int) ≤ 8 * ((n * m : Nat) : Int) := by
  unfold costT
  rw [if_pos (by omega)]
  have h := cst_le T.ent (max n m + 1) (max n m) (min n m) (by omega) (by omega)
  have e1 : (max (n : Int) (m : Int)).toNat = max n m := by omega
  have e2 : (min (n : Int) (m : Int)).toNat = min n m := by omega
  have e3 : max n m * min n m = n * m := by
    by_cases hc : m ≤ n
    · rw [Nat.max_eq_left hc, Nat.min_eq_right hc]
    · rw [Nat.max_eq_right (by omega), Nat.min_eq_left (by omega), Nat.mul_comm]
  rw [e1, e2]
  rw [e3] at h
  generalize cst T.B T.D T.N (max n m) (min n m) = c at *
  generalize n * m = q at *
  omega

end Go.Proofs.YtiekgpphggejcaaGreatDoor

/- What times and square, products and squares of rows as they are, come to; what is handed to Kara and Toom. -/
namespace Go.Proofs.YtiekgpphggejcaaGreatDoor
open Go.RowKit

def TimesSpec (M : Nat) : Prop := ∀ (w : World) (gm gt gk ge g : Nat) (s l m : Int) (T : Tab) (ga gb : Option Addr) (b o cap la b' o' cap' lb : Nat) (xs ys : List Nat),
  MEng w gm gt gk ge g s l m T → TB w → 0 ≤ s → s + 35184372088832 * ((M : Int) + 1) ≤ 2305843009213693952 → 0 ≤ l → l + (M : Int) ≤ 100000 →
  xs.length = la → Rep w ga b o cap xs → WDig xs → ys.length = lb → Rep w gb b' o' cap' ys → WDig ys → la ≤ M → lb ≤ M →
  Calls Tryz.prog 37 #[.pointer (some ⟨gm, 0, none⟩), .slice ga la cap, .slice gb lb cap'] w fun e w' => ∃ r m', e = .returned r ∧ NewW w.heap.size w' r (wval xs * wval ys) ∧ MEng w' gm gt gk ge g (s + (cst T.B T.D T.N (max la lb) (min la lb) : Nat)) l m' T ∧ m ≤ m' ∧ m' ≤ max m (l + (lev (max la lb) : Nat)) ∧ Out (· = g) w w'
def SquareSpec (M : Nat) : Prop := ∀ (w : World) (gm gt gk ge g : Nat) (s l m : Int) (T : Tab) (ga : Option Addr) (b o cap la : Nat) (xs : List Nat),
  MEng w gm gt gk ge g s l m T → TB w → 0 ≤ s → s + 35184372088832 * ((M : Int) + 1) ≤ 2305843009213693952 → 0 ≤ l → l + (M : Int) ≤ 100000 →
  xs.length = la → Rep w ga b o cap xs → WDig xs → la ≤ M →
  Calls Tryz.prog 45 #[.pointer (some ⟨gm, 0, none⟩), .slice ga la cap] w fun e w' => ∃ r m', e = .returned r ∧ NewW w.heap.size w' r (wval xs * wval xs) ∧ MEng w' gm gt gk ge g (s + (sqt T.B T.D T.N la : Nat)) l m' T ∧ m ≤ m' ∧ m' ≤ max m (l + (lev la : Nat)) ∧ Out (· = g) w w'

theorem cst_lit {B D N n m : Nat} (e : Ent B D N) (hm : m ≤ n) (hn : n ≤ 16384) : cst B D N n m ≤ 2147483648 := by
  have h := cst_le e (n + 1) n m (by omega) hm
  have : n * m ≤ 16384 * 16384 := Nat.mul_le_mul hn (by omega)
  omega
theorem sqt_lit {B D N n : Nat} (e : Ent B D N) (hn : n ≤ 16384) : sqt B D N n ≤ 2147483648 := by
  have h := sqt_eight e n
  have : n * n ≤ 16384 * 16384 := Nat.mul_le_mul hn hn
  omega

/-- The first i costs. -/
def acc (f : Nat → Nat) : Nat → Nat
  | 0 => 0
  | i + 1 => acc f i + f i
theorem acc_le {f : Nat → Nat} {c : Nat} (h : ∀ i, f i ≤ c) : ∀ i, acc f i ≤ i * c
  | 0 => by simp [acc]
  | i + 1 => by
    have := acc_le h i
    have := h i
    rw [acc, Nat.succ_mul]
    omega

theorem MEng.lts {w : World} {gm gt gk ge g : Nat} {s l m : Int} {T : Tab} (h : MEng w gm gt gk ge g s l m T) : gm < w.heap.size ∧ gt < w.heap.size ∧ gk < w.heap.size ∧ ge < w.heap.size ∧ g < w.heap.size :=
  ⟨h.lt, h.toom.lt, h.toom.kara.lt, World.block_lt_of_cell? _ _ h.eng.ptr, h.met.lt⟩
/-- What turns is new. -/
theorem MEng.far {w W W' : World} {gm gt gk ge g : Nat} {s l m s' l' m' : Int} {T : Tab} (h : MEng w gm gt gk ge g s l m T) (k : MEng W gm gt gk ge g s' l' m' T) (o : Out (fun j => w.heap.size ≤ j) W W') : MEng W' gm gt gk ge g s' l' m' T := by
  obtain ⟨h0, h1, h2, h3, h4⟩ := h.lts
  exact k.out o (Nat.not_le.2 h0) (Nat.not_le.2 h1) (Nat.not_le.2 h2) (Nat.not_le.2 h3) (Nat.not_le.2 h4)
theorem TB.far {w W W' : World} (h : TB w) (k : TB W) (o : Out (fun j => w.heap.size ≤ j) W W') : TB W' :=
  ⟨fun j hj => o.cell (k.b j hj) (Nat.not_le.2 (World.block_lt_of_cell? _ _ (h.b j hj))), fun j hj => o.cell (k.d j hj) (Nat.not_le.2 (World.block_lt_of_cell? _ _ (h.d j hj)))⟩

/-- The engine, when i pieces are done. -/
def StM (gm gt gk ge g : Nat) (s l m : Int) (T : Tab) (L : Nat) (f : Nat → Nat) (i : Nat) (W : World) : Prop :=
  ∃ m1 : Int, MEng W gm gt gk ge g (s + (acc f i : Nat)) (l + 1) m1 T ∧ max m (l + 1) ≤ m1 ∧ m1 ≤ max m (l + 1 + (L : Nat)) ∧ TB W
theorem StM.next {gm gt gk ge g : Nat} {s l m : Int} {T : Tab} {L : Nat} {f : Nat → Nat} {i : Nat} {W W' : World} (h : StM gm gt gk ge g s l m T L f i W) (b : Below W.heap.size W W') : StM gm gt gk ge g s l m T L f i W' := by
  obtain ⟨m1, h1, h2, h3, h4⟩ := h
  exact ⟨m1, h1.next b, h2, h3, h4.next b⟩
theorem StM.far {w : World} {gm gt gk ge g : Nat} {s l m s0 l0 m0 : Int} {T : Tab} {L : Nat} {f : Nat → Nat} {i : Nat} {W W' : World} (hE : MEng w gm gt gk ge g s0 l0 m0 T) (hT : TB w) (h : StM gm gt gk ge g s l m T L f i W) (o : Out (fun j => w.heap.size ≤ j) W W') : StM gm gt gk ge g s l m T L f i W' := by
  obtain ⟨m1, h1, h2, h3, h4⟩ := h
  exact ⟨m1, hE.far h1 o, h2, h3, hT.far h4 o⟩
theorem StM.call {M : Nat} (IH : TimesSpec M) {gm gt gk ge g : Nat} {s l m : Int} {T : Tab} {L : Nat} {f : Nat → Nat} {i : Nat} {W : World} (h : StM gm gt gk ge g s l m T L f i W) (hM : M ≤ 16384)
    (h0 : 0 ≤ s) (h1 : s + 35184372088832 * ((M : Int) + 2) ≤ 2305843009213693952) (h2 : 0 ≤ l) (h3 : l + 1 + (M : Int) ≤ 100000) (ha : acc f i ≤ 35184372088832) (hL : lev M ≤ L)
    {D : Nat → Prop} {u v : Value} {a c l1 l2 : Nat} (hu : InD D W u a l1) (hv : InD D W v c l2) (k1 : l1 ≤ M) (k2 : l2 ≤ l1) (hf : f i = cst T.B T.D T.N l1 l2) :
    Calls Tryz.prog 37 #[.pointer (some ⟨gm, 0, none⟩), u, v] W fun e W' => ∃ r, e = .returned r ∧ NewI W.heap.size W' r (a * c) ∧ StM gm gt gk ge g s l m T L f (i + 1) W' ∧ Out (· = g) W W' := by
  obtain ⟨m1, E, q1, q2, tb⟩ := h
  have lu := inD_lt hu
  have lv := inD_lt hv
  obtain ⟨ga, b, o, cap, xs, rfl, hl, hr, hd, rfl, _⟩ := hu
  obtain ⟨gb, b', o', cap', ys, rfl, hl', hr', hd', rfl, _⟩ := hv
  refine (IH W gm gt gk ge g _ _ _ T ga gb b o cap l1 b' o' cap' l2 xs ys E tb (by omega) (by omega) (by omega) (by omega) hl hr hd hl' hr' hd' k1 (by omega)).mono ?_
  rintro e W' ⟨r, m2, rfl, nr, E2, q3, q4, oo⟩
  have hp : wval xs * wval ys < 18446744073709551616 ^ (l1 + l2) := by rw [Nat.pow_add]; exact Nat.mul_lt_mul'' lu lv
  have el : lev (max l1 l2) ≤ L := Nat.le_trans (lev_mono (by omega) (by omega)) hL
  rw [Nat.max_eq_left k2, Nat.min_eq_right k2] at E2
  refine ⟨r, rfl, nr.toI hp (by omega), ⟨m2, ?_, by omega, by omega, E.tb oo tb⟩, oo⟩
  rw [acc, hf, Int.natCast_add, ← Int.add_assoc]
  exact E2
theorem StM.sqr {M : Nat} (IH : SquareSpec M) {gm gt gk ge g : Nat} {s l m : Int} {T : Tab} {L : Nat} {f : Nat → Nat} {i : Nat} {W : World} (h : StM gm gt gk ge g s l m T L f i W) (hM : M ≤ 16384)
    (h0 : 0 ≤ s) (h1 : s + 35184372088832 * ((M : Int) + 2) ≤ 2305843009213693952) (h2 : 0 ≤ l) (h3 : l + 1 + (M : Int) ≤ 100000) (ha : acc f i ≤ 35184372088832) (hL : lev M ≤ L)
    {D : Nat → Prop} {u : Value} {a l1 : Nat} (hu : InD D W u a l1) (k1 : l1 ≤ M) (hf : f i = sqt T.B T.D T.N l1) :
    Calls Tryz.prog 45 #[.pointer (some ⟨gm, 0, none⟩), u] W fun e W' => ∃ r, e = .returned r ∧ NewI W.heap.size W' r (a * a) ∧ StM gm gt gk ge g s l m T L f (i + 1) W' ∧ Out (· = g) W W' := by
  obtain ⟨m1, E, q1, q2, tb⟩ := h
  have lu := inD_lt hu
  obtain ⟨ga, b, o, cap, xs, rfl, hl, hr, hd, rfl, _⟩ := hu
  refine (IH W gm gt gk ge g _ _ _ T ga b o cap l1 xs E tb (by omega) (by omega) (by omega) (by omega) hl hr hd k1).mono ?_
  rintro e W' ⟨r, m2, rfl, nr, E2, q3, q4, oo⟩
  have hp : wval xs * wval xs < 18446744073709551616 ^ (l1 + l1) := by rw [Nat.pow_add]; exact Nat.mul_lt_mul'' lu lu
  have el : lev l1 ≤ L := Nat.le_trans (lev_mono (by omega) (by omega)) hL
  refine ⟨r, rfl, nr.toI hp (by omega), ⟨m2, ?_, by omega, by omega, E.tb oo tb⟩, oo⟩
  rw [acc, hf, Int.natCast_add, ← Int.add_assoc]
  exact E2

/-- What a product by one route comes to: P, at a cost of C, at most L levels deeper. -/
def ByDone (w : World) (gm gt gk ge g : Nat) (s l m : Int) (T : Tab) (P C L : Nat) (e : Ending) (w' : World) : Prop :=
  ∃ r m', e = .returned (.tuple #[r, .bool true]) ∧ NewW w.heap.size w' r P ∧ MEng w' gm gt gk ge g (s + (C : Nat)) l m' T ∧ m ≤ m' ∧ m' ≤ max m (l + (L : Nat)) ∧ Out (· = g) w w'

/-- What a product comes to, its value alone. -/
def OneDone (w : World) (gm gt gk ge g : Nat) (s l m : Int) (T : Tab) (P C L : Nat) (r : Value) (w' : World) : Prop :=
  ∃ m', NewW w.heap.size w' r P ∧ MEng w' gm gt gk ge g (s + (C : Nat)) l m' T ∧ m ≤ m' ∧ m' ≤ max m (l + (L : Nat)) ∧ Out (· = g) w w'
theorem byDone_iff {w : World} {gm gt gk ge g : Nat} {s l m : Int} {T : Tab} {P C L : Nat} {e : Ending} {w' : World} (h : ByDone w gm gt gk ge g s l m T P C L e w') : ∃ r, e = .returned (.tuple #[r, .bool true]) ∧ OneDone w gm gt gk ge g s l m T P C L r w' := by
  obtain ⟨r, m', h1, h2⟩ := h
  exact ⟨r, h1, m', h2⟩

/-- The costs of the pieces of Kara: n by m words. -/
def kcost (B D N n m h : Nat) (i : Nat) : Nat := if i = 0 then cst B D N h h else if i = 1 then cst B D N (n - h) (m - h) else cst B D N (h + 1) (h + 1)
def tcost (B D N n m h : Nat) (i : Nat) : Nat := if i = 0 then cst B D N h h else if i = 4 then cst B D N (n - 2 * h) (m - 2 * h) else cst B D N (h + 1) (h + 1)
def ksq (B D N n h : Nat) (i : Nat) : Nat := if i = 0 then sqt B D N h else if i = 1 then sqt B D N (n - h) else sqt B D N (h + 1)
def tsq (B D N n h : Nat) (i : Nat) : Nat := if i = 0 then sqt B D N h else if i = 4 then sqt B D N (n - 2 * h) else sqt B D N (h + 1)
theorem kcost_le {B D N n m h : Nat} (e : Ent B D N) (hm : m ≤ n) (hn : n ≤ 16384) (hh : h + 1 ≤ 16384) (i : Nat) : kcost B D N n m h i ≤ 2147483648 := by
  unfold kcost
  split
  · exact cst_lit e (Nat.le_refl _) (by omega)
  · split
    · exact cst_lit e (by omega) (by omega)
    · exact cst_lit e (Nat.le_refl _) (by omega)
theorem tcost_le {B D N n m h : Nat} (e : Ent B D N) (hm : m ≤ n) (hn : n ≤ 16384) (hh : h + 1 ≤ 16384) (i : Nat) : tcost B D N n m h i ≤ 2147483648 := by
  unfold tcost
  split
  · exact cst_lit e (Nat.le_refl _) (by omega)
  · split
    · exact cst_lit e (by omega) (by omega)
    · exact cst_lit e (Nat.le_refl _) (by omega)
theorem ksq_le {B D N n h : Nat} (e : Ent B D N) (hn : n ≤ 16384) (hh : h + 1 ≤ 16384) (i : Nat) : ksq B D N n h i ≤ 2147483648 := by
  unfold ksq
  split
  · exact sqt_lit e (by omega)
  · split
    · exact sqt_lit e (by omega)
    · exact sqt_lit e (by omega)
theorem tsq_le {B D N n h : Nat} (e : Ent B D N) (hn : n ≤ 16384) (hh : h + 1 ≤ 16384) (i : Nat) : tsq B D N n h i ≤ 2147483648 := by
  unfold tsq
  split
  · exact sqt_lit e (by omega)
  · split
    · exact sqt_lit e (by omega)
    · exact sqt_lit e (by omega)

end Go.Proofs.YtiekgpphggejcaaGreatDoor

/- Products of all: the reference's. -/
namespace Go.Proofs.YtiekgpphggejcaaGreatDoor
open Go.RowKit

theorem RowsIn.next {w w' : World} {gp : Option Addr} {bp op : Nat} {vs : List Value} (h : RowsIn w gp bp op vs) (hb : Below w.heap.size w w') : RowsIn w' gp bp op vs :=
  ⟨h.head, fun j hj => (hb.cell (World.block_lt_of_cell? _ _ (h.cell j hj))).trans (h.cell j hj), fun j hj => by
    obtain ⟨ga, b, o, cap, xs, e, hr, hd⟩ := h.each j hj
    exact ⟨ga, b, o, cap, xs, e, hr.next hb, hd⟩⟩
theorem InL.toM {K : Nat} {w : World} {v : Value} {n : Nat} (h : InL K w v n) (hK : K ≤ 16384) : InM w v n := by
  obtain ⟨ga, b, o, cap, xs, rfl, hr, hd, hv, hl⟩ := h
  exact ⟨ga, b, o, cap, xs, rfl, hr, hd, hv, by omega⟩
theorem prN_snoc {ns : List Nat} {q : Nat} (h : q < ns.length) : prN (ns.take (q + 1)) = prN (ns.take q) * ns.getD q 0 := by
  rw [take_snoc ns q h]
  unfold prN
  rw [List.foldl_append]
  simp [List.getD_eq_getElem?_getD, h]
theorem prN_lt {ns : List Nat} {K : Nat} (h : ∀ j, j < ns.length → ns.getD j 0 < 18446744073709551616 ^ K) : ∀ q, q ≤ ns.length → prN (ns.take q) < 18446744073709551616 ^ (K * q + 1)
  | 0, _ => by
    show 1 < _
    rw [Nat.mul_zero, Nat.zero_add, Nat.pow_one]
    decide
  | q + 1, hq => by
    rw [prN_snoc (by omega), show K * (q + 1) + 1 = (K * q + 1) + K by rw [Nat.mul_succ]; omega, Nat.pow_add]
    exact Nat.mul_lt_mul'' (prN_lt h q (by omega)) (h q (by omega))

set_option maxRecDepth 100000 in
set_option maxHeartbeats 3200000 in
theorem refProd_any (K : Nat) (w : World) (gp : Option Addr) (bp op cp np : Nat) (vs : List Value) (ns : List Nat) (hvl : vs.length = np) (hnp : np ≤ 100) (hK : K ≤ 100) (hP : RowsN K w gp bp op vs ns) :
    Calls Tryz.prog 28 #[.slice gp np cp] w fun e w' => ∃ r, e = .returned r ∧ IsN w' r (prN ns) ∧ Below w.heap.size w w' := by
  have hln : ns.length = np := by rw [hP.len, hvl]
  have hlt := prN_lt (ns := ns) (K := K) (fun j hj => (hP.each j (by omega)).lt)
  obtain ⟨L, hL⟩ : ∃ L, L = 2 * (K * np + K + 1) := ⟨_, rfl⟩
  have hLb : L ≤ 100000 := by
    have : K * np ≤ 100 * 100 := Nat.mul_le_mul hK hnp
    omega
  have hb : ∀ q, q ≤ np → prN (ns.take q) < 4294967296 ^ L := fun q hq => by
    have h1 := hlt q (by omega)
    rw [hL, ← wpow]
    refine pow_up h1 ?_
    have : K * q ≤ K * np := Nat.mul_le_mul_left _ hq
    omega
  have HB := hide hb
  have HLN := hide hln
  have CS := hide (small_any 1 (by omega) (by omega) w)
  clear hlt hb hln
  go_enter Tryz.func28, Tryz.ntmps28
  go_wp2_with fail
  refine (unhide CS).mono ?_
  rintro e w0 ⟨v0, rfl, n0, bz⟩
  clear CS
  go_wp2
  go_loopw [3, 4] (fun out i wr => ∃ (q : Nat), q ≤ np ∧ i = .int .i64 (q : Int) ∧ IsN wr out (prN (ns.take q)) ∧ Below w.heap.size w wr)
    (fun _ i _ => np - (intOf i).toNat)
  case atStart => exact ⟨0, Nat.zero_le _, rfl, n0, bz⟩
  case round =>
    obtain ⟨q, hqn, rfl, hN, hnx⟩ := hrel
    by_cases h1 : q < np
    · obtain rfl := hP.head (by omega)
      have cv := (hnx.cell (by exact hP.lt (by omega))).trans (hP.cell q (by omega))
      obtain ⟨ga, b, o, cap, xs, hve, hR, hd, hv, hl⟩ := hP.each q (by omega)
      have hn := (hP.each q (by omega)).lt
      rw [hve] at cv
      have hs : prN (ns.take (q + 1)) = prN (ns.take q) * wval xs := by rw [prN_snoc (by rw [unhide HLN]; exact h1), hv]
      have HS := hide hs
      have hx : wval xs < 4294967296 ^ L := by rw [hv, hL, ← wpow]; exact pow_up hn (by omega)
      have HX := hide hx
      have CF := hide (fun W (r : Rep W ga b o cap xs) => from_any W ga b o cap xs (by omega) r (wDig_mem hd))
      have rX := hR.next hnx
      generalize wval xs = n at *
      generalize xs.length = lx at *
      clear hve hv hs hx hn hd hL
      go_wp2_with fail
      refine (unhide CF _ rX).mono ?_
      rintro e w1 ⟨v1, rfl, n1, b1⟩
      have hN := hN.next b1
      go_wp2_with fail
      refine (mul_any _ _ _ _ _ L (by omega) (unhide HB q (by omega)) (unhide HX) hN n1).mono ?_
      rintro e w2 ⟨v2, rfl, n2, b2⟩
      have hb2 := (hnx.trans (b1.mono hnx.size)).trans (b2.mono (Nat.le_trans hnx.size b1.size))
      go_wp2
      exact ⟨⟨q + 1, by omega, by go_num, by rw [unhide HS]; exact n2, hb2⟩, by simp [intOf]; omega⟩
    · obtain rfl : q = np := by omega
      rw [List.take_of_length_le (by rw [unhide HLN]; exact Nat.le_refl _)] at hN
      go_wp2
      go_ret
      exact ⟨_, rfl, hN, hnx⟩

end Go.Proofs.YtiekgpphggejcaaGreatDoor

/- Steps of the laws on package mul: what is spent only bounded; what is answered, as a natural of the reference. -/
namespace Go.Proofs.YtiekgpphggejcaaGreatDoor
open Go.RowKit

theorem up_pow {x p L : Nat} (h : x < 18446744073709551616 ^ p) (hp : p ≤ L) : x < 4294967296 ^ (2 * L) := by
  rw [← wpow]
  exact pow_up h hp
theorem sqT_le (T : Tab) (n : Nat) (hn : n ≤ 16384) : 0 ≤ sqT T (n : Int) ∧ sqT T (n : Int) ≤ 8 * ((n * n : Nat) : Int) := by
  rw [sqT_nat T hn]
  have := sqt_eight T.ent n
  generalize sqt T.B T.D T.N n = c at *
  generalize n * n = q at *
  omega
theorem InM.wl_le {w : World} {v : Value} {n : Nat} (h : InM w v n) : wl n ≤ 16384 := by
  obtain ⟨ga, b, o, cap, xs, rfl, hr, hd, hv, hl⟩ := h
  rw [← hv]
  exact Nat.le_trans (wl_le_len hd) hl
theorem InW.shp {w : World} {v : Value} {n : Nat} (h : InW w v n) : ∃ g l c, v = .slice g l c := by
  obtain ⟨ga, b, o, cap, xs, rfl, _⟩ := h
  exact ⟨_, _, _, rfl⟩
theorem engMul_s (SM : SpecMMul) (w : World) (gm gt gk ge g : Nat) (s l m : Int) (T : Tab) (u v : Value) (A C : Nat) (hE : MEng w gm gt gk ge g s l m T) (hT : TB w) (h0 : 0 ≤ s) (h1 : s ≤ 576460752303423488) (h2 : 0 ≤ l) (h3 : l ≤ 1000) (hu : InM w u A) (hv : InM w v C) :
    Calls Tryz.prog 12 #[.pointer (some ⟨gm, 0, none⟩), u, v] w fun e w' => ∃ r s' m', e = .returned r ∧ NewW w.heap.size w' r (A * C) ∧ MEng w' gm gt gk ge g s' l m' T ∧ 0 ≤ s' ∧ s' ≤ s + 4294967296 ∧ Out (· = g) w w' := by
  refine (SM w gm gt gk ge g s l m T u v A C hE hT h0 (by omega) h2 h3 hu hv).mono ?_
  rintro e w' ⟨r, m', rfl, nr, E, _, _, o⟩
  have c := costT_le T (wl A) (wl C) hu.wl_le hv.wl_le
  have q : wl A * wl C ≤ 16384 * 16384 := Nat.mul_le_mul hu.wl_le hv.wl_le
  refine ⟨r, _, m', rfl, nr, E, ?_, ?_, o⟩
  · omega
  · omega
theorem engSqr_s (SQ : SpecMSqr) (w : World) (gm gt gk ge g : Nat) (s l m : Int) (T : Tab) (u : Value) (A : Nat) (hE : MEng w gm gt gk ge g s l m T) (hT : TB w) (h0 : 0 ≤ s) (h1 : s ≤ 576460752303423488) (h2 : 0 ≤ l) (h3 : l ≤ 1000) (hu : InM w u A) :
    Calls Tryz.prog 25 #[.pointer (some ⟨gm, 0, none⟩), u] w fun e w' => ∃ r s' m', e = .returned r ∧ NewW w.heap.size w' r (A * A) ∧ MEng w' gm gt gk ge g s' l m' T ∧ 0 ≤ s' ∧ s' ≤ s + 4294967296 ∧ Out (· = g) w w' := by
  refine (SQ w gm gt gk ge g s l m T u A hE hT h0 (by omega) h2 h3 hu).mono ?_
  rintro e w' ⟨r, m', rfl, nr, E, _, _, o⟩
  have c := sqT_le T (wl A) hu.wl_le
  have q : wl A * wl A ≤ 16384 * 16384 := Nat.mul_le_mul hu.wl_le hu.wl_le
  refine ⟨r, _, m', rfl, nr, E, ?_, ?_, o⟩
  · omega
  · omega
theorem from_new (w : World) (v : Value) (n B p : Nat) (hp : p ≤ 100000) (hn : n < 18446744073709551616 ^ p) (h : NewW B w v n) :
    Calls Tryz.prog 16 #[v] w fun e w' => ∃ r, e = .returned r ∧ IsN w' r n ∧ Below w.heap.size w w' := by
  obtain ⟨ga, b, cap, xs, rfl, hr, hc, hv, _⟩ := h.rep
  have := wlen_le hc (L := p) (by rw [hv]; exact hn)
  exact from_mul w ga b 0 cap xs.length n xs rfl (by omega) hr hc.1 hv.symm
theorem to_can_m (w : World) (v : Value) (n p : Nat) (hp : p ≤ 16384) (hn : n < 18446744073709551616 ^ p) (h : IsN w v n) :
    Calls Tryz.prog 40 #[v] w fun e w' => ∃ r, e = .returned r ∧ InM w' r n ∧ Below w.heap.size w w' := by
  refine (to_can w v n p (by omega) hn h).mono ?_
  rintro e w' ⟨ga, b, cap, ws, l, rfl, rfl, hl, hr, hd, hv, bb⟩
  exact ⟨_, rfl, ⟨ga, b, 0, cap, ws, rfl, hr, hd, hv, by omega⟩, bb⟩

end Go.Proofs.YtiekgpphggejcaaGreatDoor

/- Package mul: the example of the document. -/
namespace Go.Proofs.YtiekgpphggejcaaGreatDoor
open Go.RowKit

theorem blk_one (w : World) (a : Nat) : Blk (w.alloc (.cells #[.int .u64 (a : Int)] 78)) w.heap.size [a] := heap_alloc_new w _
theorem dig_one {a : Nat} (h : a < 18446744073709551616) : WDig [a] := fun j => by
  match j with
  | 0 => exact h
  | j + 1 => exact Nat.zero_lt_succ _
theorem can_one {a : Nat} (h : a < 18446744073709551616) (h0 : 0 < a) : WCan [a] := ⟨dig_one h, fun _ => h0⟩
theorem inM_one (w : World) (a : Nat) (h : a < 18446744073709551616) : InM (w.alloc (.cells #[.int .u64 (a : Int)] 78)) (.slice (some ⟨w.heap.size, 0, none⟩) 1 1) a :=
  ⟨_, _, _, _, [a], rfl, Blk.whole (blk_one w a) (n := 1) rfl, dig_one h, by simp [wval], by simp⟩
/-- What is answered, held against a row of one word. -/
theorem same_one (w : World) (B a : Nat) (r : Value) (h : a < 18446744073709551616) (h0 : 0 < a) (nr : NewW B w r a) :
    Calls Tryz.prog 31 #[r, .slice (some ⟨w.heap.size, 0, none⟩) 1 1] (w.alloc (.cells #[.int .u64 (a : Int)] 78)) fun e w' => e = .returned (.bool true) ∧ Below w.heap.size w w' := by
  have hb : Below w.heap.size w (w.alloc (.cells #[.int .u64 (a : Int)] 78)) := (Below.refl _ _).alloc (Nat.le_refl _) _
  obtain ⟨ga, b, cap, rfl, rr⟩ := new_words nr (can_one h h0) (by simp [wval])
  refine (keepSame_any _ ga _ b 0 cap _ 0 1 1 [a] rfl (by omega) (rr.next hb) (Blk.whole (blk_one w a) (n := 1) rfl)).mono ?_
  rintro e w' ⟨rfl, b2⟩
  exact ⟨rfl, bstep hb b2⟩

set_option maxRecDepth 100000 in
set_option maxHeartbeats 6400000 in
theorem mulWakes_any (SN : SpecMNew) (SP : SpecMProd) (w : World) (hT : TB w) : Calls Tryz.prog 24 #[] w fun e w' => e = .returned (.bool true) ∧ Below w.heap.size w w' := by
  have CN := hide (fun w => SN ⟨0, 0, 0, 0, 0, 0, 0, 0, 0, 0, 0⟩ w)
  unfold Tab.val at CN
  have HSP := hide SP
  have HT := hide hT
  clear SN SP hT
  go_enter Tryz.func24, Tryz.ntmps24
  go_wp2_with fail
  refine (unhide CN _).mono ?_
  rintro e w1 ⟨gm, gt, gk, ge, g, rfl, E, hn, b⟩
  have tb := (unhide HT).next b
  have bl := b
  have hg : w.heap.size ≤ g := by omega
  have d1 : Below w1.heap.size w1 (w1.alloc (.cells #[.int .u64 2] 78)) := (Below.refl _ _).alloc (Nat.le_refl _) _
  have d2 : Below (w1.alloc (.cells #[.int .u64 2] 78)).heap.size (w1.alloc (.cells #[.int .u64 2] 78)) ((w1.alloc (.cells #[.int .u64 2] 78)).alloc (.cells #[.int .u64 3] 78)) := (Below.refl _ _).alloc (Nat.le_refl _) _
  have d3 : Below ((w1.alloc (.cells #[.int .u64 2] 78)).alloc (.cells #[.int .u64 3] 78)).heap.size ((w1.alloc (.cells #[.int .u64 2] 78)).alloc (.cells #[.int .u64 3] 78)) (((w1.alloc (.cells #[.int .u64 2] 78)).alloc (.cells #[.int .u64 3] 78)).alloc (.cells #[.int .u64 7] 78)) := (Below.refl _ _).alloc (Nat.le_refl _) _
  have z1 : (w1.alloc (.cells #[.int .u64 2] 78)).heap.size = w1.heap.size + 1 := by simp
  have z2 : ((w1.alloc (.cells #[.int .u64 2] 78)).alloc (.cells #[.int .u64 3] 78)).heap.size = w1.heap.size + 1 + 1 := by simp
  have z3 : (((w1.alloc (.cells #[.int .u64 2] 78)).alloc (.cells #[.int .u64 3] 78)).alloc (.cells #[.int .u64 7] 78)).heap.size = w1.heap.size + 1 + 1 + 1 := by simp
  have i1 := ((inM_one w1 2 (by decide)).next d2).next d3
  have i2 := (inM_one (w1.alloc (.cells #[.int .u64 2] 78)) 3 (by decide)).next d3
  have i3 := inM_one ((w1.alloc (.cells #[.int .u64 2] 78)).alloc (.cells #[.int .u64 3] 78)) 7 (by decide)
  rw [z1] at i2
  rw [z2] at i3
  have E3 := ((E.next d1).next d2).next d3
  have tb3 := ((tb.next d1).next d2).next d3
  have b3 := bstep (bstep (bstep bl d1) d2) d3
  have lg := E3.met.lt
  clear d1 d2 d3 E tb b bl hn CN HT z1 z2
  have hP := parts_three (((w1.alloc (.cells #[.int .u64 2] 78)).alloc (.cells #[.int .u64 3] 78)).alloc (.cells #[.int .u64 7] 78)) _ _ _ _ _ _ 29 i1.inW i2.inW i3.inW
  have d4 : Below (((w1.alloc (.cells #[.int .u64 2] 78)).alloc (.cells #[.int .u64 3] 78)).alloc (.cells #[.int .u64 7] 78)).heap.size (((w1.alloc (.cells #[.int .u64 2] 78)).alloc (.cells #[.int .u64 3] 78)).alloc (.cells #[.int .u64 7] 78)) ((((w1.alloc (.cells #[.int .u64 2] 78)).alloc (.cells #[.int .u64 3] 78)).alloc (.cells #[.int .u64 7] 78)).alloc (.cells #[.slice (some ⟨w1.heap.size, 0, none⟩) 1 1, .slice (some ⟨w1.heap.size + 1, 0, none⟩) 1 1, .slice (some ⟨w1.heap.size + 1 + 1, 0, none⟩) 1 1] 29)) := (Below.refl _ _).alloc (Nat.le_refl _) _
  have j1 := i1.next d4
  have j2 := i2.next d4
  have j3 := i3.next d4
  have CP := hide (unhide HSP _ gm gt gk ge g 0 0 0 _ (some ⟨(((w1.alloc (.cells #[.int .u64 2] 78)).alloc (.cells #[.int .u64 3] 78)).alloc (.cells #[.int .u64 7] 78)).heap.size, 0, none⟩) (((w1.alloc (.cells #[.int .u64 2] 78)).alloc (.cells #[.int .u64 3] 78)).alloc (.cells #[.int .u64 7] 78)).heap.size 0 3 3 1 _ _ (E3.next d4) (tb3.next d4) (by decide) (by decide) (by decide) (by decide) rfl hP (fun j hj => by
    match j, hj with
    | 0, _ => decide
    | 1, _ => decide
    | 2, _ => decide) (by decide) (by decide) (by decide) (by decide) (fun j hj => by
    match j, hj with
    | 0, _ => exact j1
    | 1, _ => exact j2
    | 2, _ => exact j3))
  have b4 := hide (bstep b3 d4)
  have TB4 := hide (tb3.next d4)
  have EE4 := hide (E3.next d4)
  have lg4 := hide (Nat.lt_of_lt_of_le lg d4.size)
  rw [z3] at CP
  clear hP j1 j2 j3 i1 i2 i3 E3 tb3 b3 d4 z3 lg
  go_wp2_with fail
  refine (unhide CP).mono ?_
  generalize ((((w1.alloc (.cells #[.int .u64 2] 78)).alloc (.cells #[.int .u64 3] 78)).alloc (.cells #[.int .u64 7] 78)).alloc (.cells #[.slice (some ⟨w1.heap.size, 0, none⟩) 1 1, .slice (some ⟨w1.heap.size + 1, 0, none⟩) 1 1, .slice (some ⟨w1.heap.size + 1 + 1, 0, none⟩) 1 1] 29)) = W4 at *
  rintro e w5 ⟨r, s', m', rfl, nr, E5, h0, h1, o⟩
  have nr : NewW W4.heap.size w5 r 42 := nr
  have tb5 := (unhide EE4).tb o (unhide TB4)
  have b5 := hide ((unhide b4).trans (o.below (B := w.heap.size) (unhide b4).size (fun k hk => by rw [hk]; exact hg)))
  have CS := hide (same_one w5 _ 42 r (by decide) (by decide) nr)
  obtain ⟨ra, rl, rc, rfl⟩ := nr.shape
  clear CP TB4 EE4 b4 lg4 nr o
  go_wp2_with fail
  refine (unhide CS).mono ?_
  rintro e w6 ⟨rfl, b6⟩
  have E6 := E5.next b6
  have tb6 := tb5.next b6
  have b7 := hide (bstep (unhide b5) b6)
  have CP := hide (unhide HSP w6 gm gt gk ge g s' 0 m' _ none 0 0 0 0 1 [] [] E6 tb6 h0 (by omega) (by decide) (by decide) rfl ⟨fun h => absurd h (by decide), rfl, fun j hj => absurd hj (by simp), fun j hj => absurd hj (by simp)⟩ (fun j hj => absurd hj (by omega)) (by decide) (by decide) (by decide) (by decide) (fun j hj => absurd hj (by omega)))
  clear CS E5 tb5 b5 b6 E6 tb6 h0 h1 HSP
  go_wp2_with fail
  refine (unhide CP).mono ?_
  rintro e w7 ⟨r2, s2, m2, rfl, nr, _, _, _, o⟩
  have nr : NewW w6.heap.size w7 r2 1 := nr
  have b8 := hide ((unhide b7).trans (o.below (B := w.heap.size) (unhide b7).size (fun k hk => by rw [hk]; exact hg)))
  have CS := hide (same_one w7 _ 1 r2 (by decide) (by decide) nr)
  obtain ⟨ra2, rl2, rc2, rfl⟩ := nr.shape
  clear CP b7 nr o
  go_wp2_with fail
  refine (unhide CS).mono ?_
  rintro e w8 ⟨rfl, b9⟩
  have bl := bstep (unhide b8) b9
  clear CS b8 b9
  go_wp2
  go_ret
  exact ⟨rfl, bl⟩

end Go.Proofs.YtiekgpphggejcaaGreatDoor
