/- An engine of school: New; Mul and Sqr. -/
import Derived.Test.YtofgbmfaehnmnaaB25
import Derived.Test.YtofgbmfaehnmnaaB17
import Derived.Test.YtofgbmfaehnmnaaB26
import Derived.Test.YtofgbmfaehnmnaaB21
import Derived.Test.YtofgbmfaehnmnaaB9
import Derived.Test.YtofgbmfaehnmnaaB5
import Derived.Test.YtofgbmfaehnmnaaB22
import Derived.Test.YtofgbmfaehnmnaaB14
namespace Go.Proofs.Ytofgbmfaehnmnaa
open Go.RowKit

/-- At block ge lies an engine; its tune lies at block g; its meter has spent s. -/
structure Eng (w : World) (ge g : Nat) (s : Int) (l : Int := 0) (m : Int := 0) : Prop where
  ptr : w.cell? ⟨ge, 0, none⟩ = some (.pointer (some ⟨g, 0, none⟩))
  met : Met w g 0 s l m
  ne : ge ≠ g
  ints : ∀ j v, w.cell? ⟨g, j, none⟩ = some v → ∃ z, v = .int .i64 z
theorem Eng.next {w w' : World} {ge g : Nat} {s l m : Int} (h : Eng w ge g s l m) (b : Below w.heap.size w w') : Eng w' ge g s l m :=
  ⟨(b.cell (World.block_lt_of_cell? _ _ h.ptr)).trans h.ptr, h.met.next b, h.ne, fun j v hv => h.ints j v ((b.cell (p := ⟨g, j, none⟩) h.met.lt).symm.trans hv)⟩
theorem Eng.step {w w' : World} {ge g : Nat} {s s' lv dp lv' dp' : Int} (h : Eng w ge g s lv dp) (m : Met w' g 0 s' lv' dp') (t : Touch g 0 3 w w') : Eng w' ge g s' lv' dp' :=
  ⟨t.grown.cell h.ptr (by simpa using h.ne), m, h.ne, fun j v hv => by
    by_cases hj : 3 ≤ j
    · exact h.ints j v ((t.cell j (by omega)).symm.trans hv)
    · match j, hj with
      | 0, _ => exact ⟨_, Option.some.inj (hv.symm.trans m.c0)⟩
      | 1, _ => exact ⟨_, Option.some.inj (hv.symm.trans m.c1)⟩
      | 2, _ => exact ⟨_, Option.some.inj (hv.symm.trans m.c2)⟩
      | j + 3, hj => omega⟩
/-- No row of words lies in a tune. -/
theorem Eng.away {w : World} {ge g : Nat} {s l m : Int} (h : Eng w ge g s l m) {ga : Option Addr} {b o cap : Nat} {xs : List Nat} (r : Rep w ga b o cap xs) : 0 < xs.length → b ≠ g := fun h0 e => by
  subst e
  obtain ⟨z, hz⟩ := h.ints _ _ (r.cell 0 h0)
  injection hz with hk
  cases hk
/-- What an engine does leaves all rows of words, and all naturals. -/
theorem Eng.rep {w w' : World} {ge g : Nat} {s l m : Int} (h : Eng w ge g s l m) (G : w.grownBy w' (some g)) {ga : Option Addr} {b o cap : Nat} {xs : List Nat} (r : Rep w ga b o cap xs) : Rep w' ga b o cap xs := r.but G (h.away r)
theorem Eng.isN {w w' : World} {ge g : Nat} {s l m : Int} (h : Eng w ge g s l m) (G : w.grownBy w' (some g)) {v : Value} {n : Nat} (r : IsN w v n) : IsN w' v n := by
  obtain ⟨ga, b, o, cap, xs, rfl, hr, hc, hv⟩ := r
  exact ⟨ga, b, o, cap, xs, rfl, h.rep G hr, hc, hv⟩
theorem Tune.ints {w : World} {g : Nat} {T : Tab} (h : Tune w g T) : ∀ j v, w.cell? ⟨g, j, none⟩ = some v → ∃ z, v = .int .i64 z := fun j v hv => by
  rw [cell_of_row w g j _ _ (0, 0) h.row] at hv
  have hm := Array.mem_of_getElem? hv
  simp at hm
  rcases hm with h | h | h | h | h | h | h | h | h | h | h | h <;> exact ⟨_, h⟩

/-- A row of l words that says n, in no cell of block g. -/
def InG (g : Nat) (w : World) (v : Value) (n l : Nat) : Prop :=
  ∃ ga b o cap xs, v = .slice ga l cap ∧ xs.length = l ∧ Rep w ga b o cap xs ∧ WDig xs ∧ wval xs = n ∧ (0 < l → b ≠ g)
theorem InG.but {g : Nat} {w w' : World} {v : Value} {n l : Nat} (h : InG g w v n l) (hb : w.grownBy w' (some g)) : InG g w' v n l := by
  obtain ⟨ga, b, o, cap, xs, rfl, hl, hr, hd, hv, hn⟩ := h
  exact ⟨ga, b, o, cap, xs, rfl, hl, hr.but hb (by rw [hl]; exact hn), hd, hv, hn⟩
theorem InG.next {g : Nat} {w w' : World} {v : Value} {n l : Nat} (h : InG g w v n l) (hb : Below w.heap.size w w') : InG g w' v n l := by
  obtain ⟨ga, b, o, cap, xs, rfl, hl, hr, hd, hv, hn⟩ := h
  exact ⟨ga, b, o, cap, xs, rfl, hl, hr.next hb, hd, hv, hn⟩
/-- What limb or school answers lies in no cell of an older block. -/
theorem NewW.toG {B g : Nat} {w : World} {v : Value} {n L : Nat} (h : NewW B w v n) (hg : g < B) (hn : n < 18446744073709551616 ^ L) : ∃ l, l ≤ L ∧ InG g w v n l := by
  obtain ⟨ga, b, cap, xs, rfl, hr, hc, hv, hb⟩ := h.rep
  exact ⟨xs.length, wlen_le hc (by rw [hv]; exact hn), ga, b, 0, cap, xs, rfl, rfl, hr, hc.1, hv, fun h => by have := hb h; omega⟩

set_option maxHeartbeats 1600000 in
theorem schoolNew_any (T : Tab) (w : World) :
    Calls Try.prog 59 #[T.val] w fun e w' => ∃ ge g, e = .returned (.pointer (some ⟨ge, 0, none⟩)) ∧ Eng w' ge g 0 ∧ w.heap.size ≤ g ∧ w.heap.size ≤ ge ∧ Below w.heap.size w w' := by
  have CC := hide (fun w => new_any T w)
  unfold Tab.val at CC ⊢
  go_enter Try.func59, Try.ntmps59
  go_wp2_with fail
  refine (unhide CC _).mono ?_
  rintro e w1 ⟨g, rfl, tn, hg, b1⟩
  have hg' : w.heap.size ≤ g := Nat.le_trans (by simp) hg
  have b0 := hide (bstep ((Below.refl w.heap.size w).alloc (Nat.le_refl _) _) b1)
  have tl := tn.lt
  have HT := hide tn
  clear tn CC b1 hg
  go_wp2
  go_ret
  refine ⟨w1.heap.size, g, rfl, ⟨?_, ?_, by omega, ?_⟩, hg', (unhide b0).size, (unhide b0).alloc (unhide b0).size _⟩
  · exact cell_of_row _ w1.heap.size 0 _ _ (0, 0) (heap_alloc_new w1 _)
  · exact (unhide HT).met.next ((Below.refl _ _).alloc (Nat.le_refl _) _)
  · exact ((unhide HT).next ((Below.refl _ _).alloc (Nat.le_refl _) _)).ints

theorem touch_spend {w w' : World} {g : Nat} (h : Touch g 0 3 w w') : w.grownBy w' (some g) := h.grown
theorem mul_fits {la lb : Nat} (ha : la ≤ 1048576) (hb : lb ≤ 1048576) : la * lb ≤ 1099511627776 := Nat.mul_le_mul ha hb

end Go.Proofs.Ytofgbmfaehnmnaa

/- Sqr of an engine of school. -/
namespace Go.Proofs.Ytofgbmfaehnmnaa
open Go.RowKit

theorem blk_in {w : World} {g N m : Nat} {zs : List Nat} (h : Blk w g zs) (hl : zs.length = N) (hN : N ≤ 1073741824) (hd : WDig zs) (hm : wval zs = m) : InW w (.slice (some ⟨g, 0, none⟩) N N) m := by
  have hr := h.rep 0 N N (by omega) (Nat.le_refl _)
  rw [List.drop_zero, List.take_of_length_le (by omega)] at hr
  exact ⟨_, _, _, _, zs, by rw [hl], hr, hd, hm, by omega⟩

end Go.Proofs.Ytofgbmfaehnmnaa

/- The example of the document (school); 'from' of the laws. -/
namespace Go.Proofs.Ytofgbmfaehnmnaa
open Go.RowKit

/-- New, called behind a parameter that was laid into memory. -/
theorem schoolNew_box (T : Tab) (w : World) (ob : Obj) :
    Calls Try.prog 59 #[T.val] (w.alloc ob) fun e w' => ∃ ge g, e = .returned (.pointer (some ⟨ge, 0, none⟩)) ∧ Eng w' ge g 0 ∧ w.heap.size ≤ g ∧ w.heap.size ≤ ge ∧ Below w.heap.size w w' := by
  refine (schoolNew_any T _).mono ?_
  rintro e w' ⟨ge, g, h1, h2, h3, h4, b⟩
  have hs : w.heap.size ≤ (w.alloc ob).heap.size := by simp
  exact ⟨ge, g, h1, h2, Nat.le_trans hs h3, Nat.le_trans hs h4, bstep ((Below.refl _ _).alloc (Nat.le_refl _) _) b⟩

def Tab0 : Tab := ⟨0, 0, 0, 0, 0, 0, 0, 0, 0, 0, 0⟩
theorem in_oneG (w : World) (x g : Nat) (hx : x < 18446744073709551616) (hg : g < w.heap.size) : InG g (w.alloc (.cells #[.int .u64 (x : Int)] 72)) (.slice (some ⟨w.heap.size, 0, none⟩) 1 1) x 1 := by
  have hk : Blk (w.alloc (.cells #[.int .u64 (x : Int)] 72)) w.heap.size [x] := heap_alloc_new w _
  have hr := hk.rep 0 1 1 (by simp) (by omega)
  exact ⟨_, _, _, _, [x], rfl, rfl, hr, wDig_one hx, wval_one x, fun _ => by omega⟩
theorem can_wake : WCan [1, 18446744073709551614] := ⟨fun j => by match j with | 0 => decide | 1 => decide | j + 2 => simp, fun _ => by decide⟩

end Go.Proofs.Ytofgbmfaehnmnaa

/- What the statements on package kara ask of its calls: as propositions, for whatever code. -/
namespace Go.Proofs.Ytofgbmfaehnmnaa
open Go.RowKit

/-- The entries of a table, in their order. -/
def Tab.row (T : Tab) : List Int := [T.b, T.t, T.n, T.d, T.r, T.l, T.x, T.p, T.k, T.s, T.e]
/-- Behind the meter at block g lies the table, clamped. -/
def TabC (w : World) (g : Nat) (T : Tab) : Prop := ∀ j, j < 11 → w.cell? ⟨g, 3 + j, none⟩ = some (.int .i64 (T.clamp.row.getD j 0))
theorem Tune.tabC {w : World} {g : Nat} {T : Tab} (h : Tune w g T) : TabC w g T := fun j hj => by
  rw [cell_of_row w g (3 + j) _ _ (0, 0) h.row]
  match j, hj with
  | 0, _ => rfl
  | 1, _ => rfl
  | 2, _ => rfl
  | 3, _ => rfl
  | 4, _ => rfl
  | 5, _ => rfl
  | 6, _ => rfl
  | 7, _ => rfl
  | 8, _ => rfl
  | 9, _ => rfl
  | 10, _ => rfl
theorem TabC.lt {w : World} {g : Nat} {T : Tab} (h : TabC w g T) : g < w.heap.size := World.block_lt_of_cell? _ _ (h 0 (by decide))
theorem TabC.next {w w' : World} {g : Nat} {T : Tab} (h : TabC w g T) (b : Below w.heap.size w w') : TabC w' g T := fun j hj => (b.cell (p := ⟨g, 3 + j, none⟩) h.lt).trans (h j hj)
theorem TabC.touch {w w' : World} {g : Nat} {T : Tab} (h : TabC w g T) (t : Touch g 0 3 w w') : TabC w' g T := fun j hj => (t.cell (3 + j) (by omega)).trans (h j hj)
theorem TabC.out {D : Nat → Prop} {w w' : World} {g : Nat} {T : Tab} (h : TabC w g T) (o : Out D w w') (hd : ¬ D g) : TabC w' g T := fun j hj => o.cell (h j hj) hd

/-- At block gk lies an engine of kara, whose engine of school lies at ge, with a tune at g. -/
structure KEng (w : World) (gk ge g : Nat) (s l m : Int) (T : Tab) : Prop where
  ptr : w.cell? ⟨gk, 0, none⟩ = some (.pointer (some ⟨ge, 0, none⟩))
  eng : Eng w ge g s l m
  tab : TabC w g T
  nk : gk ≠ g
theorem KEng.lt {w : World} {gk ge g : Nat} {s l m : Int} {T : Tab} (h : KEng w gk ge g s l m T) : gk < w.heap.size := World.block_lt_of_cell? _ _ h.ptr
theorem KEng.next {w w' : World} {gk ge g : Nat} {s l m : Int} {T : Tab} (h : KEng w gk ge g s l m T) (b : Below w.heap.size w w') : KEng w' gk ge g s l m T :=
  ⟨(b.cell (p := ⟨gk, 0, none⟩) h.lt).trans h.ptr, h.eng.next b, h.tab.next b, h.nk⟩
theorem KEng.step {w w' : World} {gk ge g : Nat} {s l m s' l' m' : Int} {T : Tab} (h : KEng w gk ge g s l m T) (M : Met w' g 0 s' l' m') (t : Touch g 0 3 w w') : KEng w' gk ge g s' l' m' T :=
  ⟨t.grown.cell h.ptr (by simpa using h.nk), h.eng.step M t, h.tab.touch t, h.nk⟩
theorem Eng.out {D : Nat → Prop} {w w' : World} {ge g : Nat} {s l m : Int} (h : Eng w ge g s l m) (o : Out D w w') (h1 : ¬ D ge) (h2 : ¬ D g) : Eng w' ge g s l m :=
  ⟨o.cell h.ptr h1, o.met h.met h2, h.ne, fun j v hv => h.ints j v ((World.cell?_of_block (a := ⟨g, j, none⟩) (o.block g h.met.lt h2)).symm.trans hv)⟩
theorem KEng.out {D : Nat → Prop} {w w' : World} {gk ge g : Nat} {s l m : Int} {T : Tab} (h : KEng w gk ge g s l m T) (o : Out D w w') (h0 : ¬ D gk) (h1 : ¬ D ge) (h2 : ¬ D g) : KEng w' gk ge g s l m T :=
  ⟨o.cell h.ptr h0, h.eng.out o h1 h2, h.tab.out o h2, h.nk⟩

/-- A row of l words that says n, in no block of D. -/
def InD (D : Nat → Prop) (w : World) (v : Value) (n l : Nat) : Prop :=
  ∃ ga b o cap xs, v = .slice ga l cap ∧ xs.length = l ∧ Rep w ga b o cap xs ∧ WDig xs ∧ wval xs = n ∧ (0 < l → ¬ D b)
theorem InD.out {D E : Nat → Prop} {w w' : World} {v : Value} {n l : Nat} (h : InD D w v n l) (o : Out E w w') (he : ∀ k, E k → D k) : InD D w' v n l := by
  obtain ⟨ga, b, oo, cap, xs, rfl, hl, hr, hd, hv, hn⟩ := h
  exact ⟨ga, b, oo, cap, xs, rfl, hl, o.rep hr (by rw [hl]; exact fun h x => hn h (he _ x)), hd, hv, hn⟩
/-- Words that say n, in no block below B. -/
def NewI (B : Nat) (w : World) (v : Value) (n : Nat) : Prop := ∃ ga b o cap xs, v = .slice ga xs.length cap ∧ Rep w ga b o cap xs ∧ WDig xs ∧ wval xs = n ∧ xs.length ≤ 1073741824 ∧ (0 < xs.length → B ≤ b)
theorem NewI.out {D : Nat → Prop} {B : Nat} {w w' : World} {v : Value} {n : Nat} (h : NewI B w v n) (o : Out D w w') (hd : ∀ k, D k → k < B) : NewI B w' v n := by
  obtain ⟨ga, b, oo, cap, xs, rfl, hr, hx, hv, hl, hn⟩ := h
  exact ⟨ga, b, oo, cap, xs, rfl, o.rep hr (fun h x => by have := hn h; have := hd b x; omega), hx, hv, hl, hn⟩
theorem NewI.mono {B B' : Nat} {w : World} {v : Value} {n : Nat} (h : NewI B w v n) (hb : B' ≤ B) : NewI B' w v n := by
  obtain ⟨ga, b, oo, cap, xs, rfl, hr, hx, hv, hl, hn⟩ := h
  exact ⟨ga, b, oo, cap, xs, rfl, hr, hx, hv, hl, fun h => by have := hn h; omega⟩
theorem NewI.next {B : Nat} {w w' : World} {v : Value} {n : Nat} (h : NewI B w v n) (b : Below w.heap.size w w') : NewI B w' v n := by
  obtain ⟨ga, k, oo, cap, xs, rfl, hr, hx, hv, hl, hn⟩ := h
  exact ⟨ga, k, oo, cap, xs, rfl, hr.next b, hx, hv, hl, hn⟩
theorem NewI.inW {B : Nat} {w : World} {v : Value} {n : Nat} (h : NewI B w v n) : InW w v n := by
  obtain ⟨ga, b, oo, cap, xs, rfl, hr, hx, hv, hl, _⟩ := h
  exact ⟨ga, b, oo, cap, xs, rfl, hr, hx, hv, hl⟩
theorem NewW.toI {B : Nat} {w : World} {v : Value} {n p : Nat} (h : NewW B w v n) (hn : n < 18446744073709551616 ^ p) (hp : p ≤ 1073741824) : NewI B w v n := by
  obtain ⟨ga, b, cap, xs, rfl, hr, hc, hv, hb⟩ := h.rep
  exact ⟨ga, b, 0, cap, xs, rfl, hr, hc.1, hv, by have := wlen_le hc (L := p) (by rw [hv]; exact hn); omega, hb⟩
/-- With how many words inner is called: the longer one's piece, the other one's. -/
def klen (n m h : Nat) : Nat → Nat × Nat
  | 0 => (h, h)
  | 1 => (n - h, m - h)
  | _ => (h + 1, h + 1)

def SpecKNew : Prop := ∀ (T : Tab) (w : World), Calls Try.prog 50 #[T.val] w fun e w' => ∃ gk ge g, e = .returned (.pointer (some ⟨gk, 0, none⟩)) ∧ KEng w' gk ge g 0 0 0 T ∧ w.heap.size ≤ gk ∧ w.heap.size ≤ ge ∧ w.heap.size ≤ g ∧ Below w.heap.size w w'

theorem kNew_box (SN : SpecKNew) (T : Tab) (w : World) (ob : Obj) :
    Calls Try.prog 50 #[T.val] (w.alloc ob) fun e w' => ∃ gk ge g, e = .returned (.pointer (some ⟨gk, 0, none⟩)) ∧ KEng w' gk ge g 0 0 0 T ∧ w.heap.size ≤ gk ∧ w.heap.size ≤ ge ∧ w.heap.size ≤ g ∧ Below w.heap.size w w' := by
  refine (SN T _).mono ?_
  rintro e w' ⟨gk, ge, g, h1, h2, h3, h4, h5, b⟩
  have hs : w.heap.size ≤ (w.alloc ob).heap.size := by simp
  exact ⟨gk, ge, g, h1, h2, Nat.le_trans hs h3, Nat.le_trans hs h4, Nat.le_trans hs h5, bstep ((Below.refl _ _).alloc (Nat.le_refl _) _) b⟩

/-- What is asked of a call that is handed in: it multiplies, its own blocks D and the meter at g alone may turn, and what it counts goes from St i to St (i + 1). -/
structure Inn2 (gk ge g : Nat) (l : Int) (T : Tab) (n m h k : Nat) (fs cs : Array Value) (D : Nat → Prop) (St : Nat → World → Prop) : Prop where
  go : ∀ (args : Array Value) (W : World), (callFunc k args).run Try.prog W = .ok (.enter k args) W
  next : ∀ i W W', St i W → Below W.heap.size W W' → St i W'
  eng : ∀ i W, St i W → ∃ s' m', KEng W gk ge g s' (l + 1) m' T
  call : ∀ i W u v a c, i < 3 → St i W → InD (fun j => D j ∨ j = g) W u a (klen n m h i).1 → InD (fun j => D j ∨ j = g) W v c (klen n m h i).2 →
    Calls Try.prog k (fs ++ #[u, v] ++ cs) W fun e W' => ∃ r, e = .returned r ∧ NewI W.heap.size W' r (a * c) ∧ St (i + 1) W' ∧ Out (fun j => D j ∨ j = g) W W'

/-- The same for a call that squares. -/
structure Inn1 (gk ge g : Nat) (l : Int) (T : Tab) (n h k : Nat) (fs cs : Array Value) (D : Nat → Prop) (St : Nat → World → Prop) : Prop where
  go : ∀ (args : Array Value) (W : World), (callFunc k args).run Try.prog W = .ok (.enter k args) W
  next : ∀ i W W', St i W → Below W.heap.size W W' → St i W'
  eng : ∀ i W, St i W → ∃ s' m', KEng W gk ge g s' (l + 1) m' T
  call : ∀ i W u a, i < 3 → St i W → InD (fun j => D j ∨ j = g) W u a (klen n n h i).1 →
    Calls Try.prog k (fs ++ #[u] ++ cs) W fun e W' => ∃ r, e = .returned r ∧ NewI W.heap.size W' r (a * a) ∧ St (i + 1) W' ∧ Out (fun j => D j ∨ j = g) W W'
end Go.Proofs.Ytofgbmfaehnmnaa

/- What the statements on package toom ask of its calls: as propositions, for whatever code. Written by gen_toom.py. -/
namespace Go.Proofs.Ytofgbmfaehnmnaa
open Go.RowKit

/-- At block gt lies an engine of toom, whose engine of kara lies at gk. -/
structure TEng (w : World) (gt gk ge g : Nat) (s l m : Int) (T : Tab) : Prop where
  ptr : w.cell? ⟨gt, 0, none⟩ = some (.pointer (some ⟨gk, 0, none⟩))
  kara : KEng w gk ge g s l m T
  nt : gt ≠ g
theorem TEng.lt {w : World} {gt gk ge g : Nat} {s l m : Int} {T : Tab} (h : TEng w gt gk ge g s l m T) : gt < w.heap.size := World.block_lt_of_cell? _ _ h.ptr
theorem TEng.next {w w' : World} {gt gk ge g : Nat} {s l m : Int} {T : Tab} (h : TEng w gt gk ge g s l m T) (b : Below w.heap.size w w') : TEng w' gt gk ge g s l m T :=
  ⟨(b.cell (p := ⟨gt, 0, none⟩) h.lt).trans h.ptr, h.kara.next b, h.nt⟩
theorem TEng.step {w w' : World} {gt gk ge g : Nat} {s l m s' l' m' : Int} {T : Tab} (h : TEng w gt gk ge g s l m T) (M : Met w' g 0 s' l' m') (t : Touch g 0 3 w w') : TEng w' gt gk ge g s' l' m' T :=
  ⟨t.grown.cell h.ptr (by simpa using h.nt), h.kara.step M t, h.nt⟩
theorem TEng.out {D : Nat → Prop} {w w' : World} {gt gk ge g : Nat} {s l m : Int} {T : Tab} (h : TEng w gt gk ge g s l m T) (o : Out D w w') (h3 : ¬ D gt) (h0 : ¬ D gk) (h1 : ¬ D ge) (h2 : ¬ D g) : TEng w' gt gk ge g s l m T :=
  ⟨o.cell h.ptr h3, h.kara.out o h0 h1 h2, h.nt⟩
/-- What turns the tune alone. -/
theorem TEng.kept {w w' : World} {gt gk ge g : Nat} {s l m s' l' m' : Int} {T : Tab} (h : TEng w gt gk ge g s l m T) (o : Out (· = g) w w') (K : KEng w' gk ge g s' l' m' T) : TEng w' gt gk ge g s' l' m' T :=
  ⟨o.cell h.ptr h.nt, K, h.nt⟩

/-- With how many words inner is called: at 0, 1, -1, 2, infinity. -/
def tlen (n m h : Nat) : Nat → Nat × Nat
  | 0 => (h, h)
  | 4 => (n - 2 * h, m - 2 * h)
  | _ => (h + 1, h + 1)

def SpecTNew : Prop := ∀ (T : Tab) (w : World), Calls Try.prog 40 #[T.val] w fun e w' => ∃ gt gk ge g, e = .returned (.pointer (some ⟨gt, 0, none⟩)) ∧ TEng w' gt gk ge g 0 0 0 T ∧ w.heap.size ≤ gt ∧ w.heap.size ≤ gk ∧ w.heap.size ≤ ge ∧ w.heap.size ≤ g ∧ Below w.heap.size w w'
theorem tNew_box (SN : SpecTNew) (T : Tab) (w : World) (ob : Obj) :
    Calls Try.prog 40 #[T.val] (w.alloc ob) fun e w' => ∃ gt gk ge g, e = .returned (.pointer (some ⟨gt, 0, none⟩)) ∧ TEng w' gt gk ge g 0 0 0 T ∧ w.heap.size ≤ gt ∧ w.heap.size ≤ gk ∧ w.heap.size ≤ ge ∧ w.heap.size ≤ g ∧ Below w.heap.size w w' := by
  refine (SN T _).mono ?_
  rintro e w' ⟨gt, gk, ge, g, h1, h2, h6, h3, h4, h5, b⟩
  have hs : w.heap.size ≤ (w.alloc ob).heap.size := by simp
  exact ⟨gt, gk, ge, g, h1, h2, Nat.le_trans hs h6, Nat.le_trans hs h3, Nat.le_trans hs h4, Nat.le_trans hs h5, bstep ((Below.refl _ _).alloc (Nat.le_refl _) _) b⟩

/-- What is asked of a call that is handed in: it multiplies, its own blocks D and the meter at g alone may turn, and what it counts goes from St i to St (i + 1). -/
structure Inn5 (gt gk ge g : Nat) (l : Int) (T : Tab) (n m h k : Nat) (fs cs : Array Value) (D : Nat → Prop) (St : Nat → World → Prop) : Prop where
  go : ∀ (args : Array Value) (W : World), (callFunc k args).run Try.prog W = .ok (.enter k args) W
  next : ∀ i W W', St i W → Below W.heap.size W W' → St i W'
  eng : ∀ i W, St i W → ∃ s' m', TEng W gt gk ge g s' (l + 1) m' T
  call : ∀ i W u v a c, i < 5 → St i W → InD (fun j => D j ∨ j = g) W u a (tlen n m h i).1 → InD (fun j => D j ∨ j = g) W v c (tlen n m h i).2 →
    Calls Try.prog k (fs ++ #[u, v] ++ cs) W fun e W' => ∃ r, e = .returned r ∧ NewI W.heap.size W' r (a * c) ∧ St (i + 1) W' ∧ Out (fun j => D j ∨ j = g) W W'

/-- The same for a call that squares. -/
structure Inn4 (gt gk ge g : Nat) (l : Int) (T : Tab) (n h k : Nat) (fs cs : Array Value) (D : Nat → Prop) (St : Nat → World → Prop) : Prop where
  go : ∀ (args : Array Value) (W : World), (callFunc k args).run Try.prog W = .ok (.enter k args) W
  next : ∀ i W W', St i W → Below W.heap.size W W' → St i W'
  eng : ∀ i W, St i W → ∃ s' m', TEng W gt gk ge g s' (l + 1) m' T
  call : ∀ i W u a, i < 5 → St i W → InD (fun j => D j ∨ j = g) W u a (tlen n n h i).1 →
    Calls Try.prog k (fs ++ #[u] ++ cs) W fun e W' => ∃ r, e = .returned r ∧ NewI W.heap.size W' r (a * a) ∧ St (i + 1) W' ∧ Out (fun j => D j ∨ j = g) W W'
/-- How many words a piece has. -/
def pcs (k : Int) : Nat := (min (max k 1) 16384).toNat
/-- The size of a difference. -/
def nd (a b : Nat) : Nat := (a - b) + (b - a)
end Go.Proofs.Ytofgbmfaehnmnaa

/- An engine of mul in memory, and the rows that are handed to it; New. -/
namespace Go.Proofs.Ytofgbmfaehnmnaa
open Go.RowKit

/-- At block gm lies an engine of mul, whose engine of toom lies at gt. -/
structure MEng (w : World) (gm gt gk ge g : Nat) (s l m : Int) (T : Tab) : Prop where
  ptr : w.cell? ⟨gm, 0, none⟩ = some (.pointer (some ⟨gt, 0, none⟩))
  toom : TEng w gt gk ge g s l m T
  nm : gm ≠ g
theorem MEng.lt {w : World} {gm gt gk ge g : Nat} {s l m : Int} {T : Tab} (h : MEng w gm gt gk ge g s l m T) : gm < w.heap.size := World.block_lt_of_cell? _ _ h.ptr
theorem MEng.met {w : World} {gm gt gk ge g : Nat} {s l m : Int} {T : Tab} (h : MEng w gm gt gk ge g s l m T) : Met w g 0 s l m := h.toom.kara.eng.met
theorem MEng.eng {w : World} {gm gt gk ge g : Nat} {s l m : Int} {T : Tab} (h : MEng w gm gt gk ge g s l m T) : Eng w ge g s l m := h.toom.kara.eng
/-- The way to the meter. -/
theorem MEng.way {w : World} {gm gt gk ge g : Nat} {s l m : Int} {T : Tab} (h : MEng w gm gt gk ge g s l m T) : w.cell? ⟨gm, 0, none⟩ = some (.pointer (some ⟨gt, 0, none⟩)) ∧ w.cell? ⟨gt, 0, none⟩ = some (.pointer (some ⟨gk, 0, none⟩)) ∧ w.cell? ⟨gk, 0, none⟩ = some (.pointer (some ⟨ge, 0, none⟩)) ∧ w.cell? ⟨ge, 0, none⟩ = some (.pointer (some ⟨g, 0, none⟩)) :=
  ⟨h.ptr, h.toom.ptr, h.toom.kara.ptr, h.toom.kara.eng.ptr⟩
theorem MEng.next {w w' : World} {gm gt gk ge g : Nat} {s l m : Int} {T : Tab} (h : MEng w gm gt gk ge g s l m T) (b : Below w.heap.size w w') : MEng w' gm gt gk ge g s l m T :=
  ⟨(b.cell (p := ⟨gm, 0, none⟩) h.lt).trans h.ptr, h.toom.next b, h.nm⟩
theorem MEng.step {w w' : World} {gm gt gk ge g : Nat} {s l m s' l' m' : Int} {T : Tab} (h : MEng w gm gt gk ge g s l m T) (M : Met w' g 0 s' l' m') (t : Touch g 0 3 w w') : MEng w' gm gt gk ge g s' l' m' T :=
  ⟨t.grown.cell h.ptr (by simpa using h.nm), h.toom.step M t, h.nm⟩
theorem MEng.kept {w w' : World} {gm gt gk ge g : Nat} {s l m s' l' m' : Int} {T : Tab} (h : MEng w gm gt gk ge g s l m T) (o : Out (· = g) w w') (K : TEng w' gt gk ge g s' l' m' T) : MEng w' gm gt gk ge g s' l' m' T :=
  ⟨o.cell h.ptr h.nm, K, h.nm⟩
theorem MEng.out {D : Nat → Prop} {w w' : World} {gm gt gk ge g : Nat} {s l m : Int} {T : Tab} (h : MEng w gm gt gk ge g s l m T) (o : Out D w w') (h4 : ¬ D gm) (h3 : ¬ D gt) (h0 : ¬ D gk) (h1 : ¬ D ge) (h2 : ¬ D g) : MEng w' gm gt gk ge g s l m T :=
  ⟨o.cell h.ptr h4, h.toom.out o h3 h0 h1 h2, h.nm⟩
/-- What an engine does leaves all rows of words, all naturals, the tables, and what limb answered. -/
theorem MEng.rep {w w' : World} {gm gt gk ge g : Nat} {s l m : Int} {T : Tab} (h : MEng w gm gt gk ge g s l m T) (o : Out (· = g) w w') {ga : Option Addr} {b oo cap : Nat} {xs : List Nat} (r : Rep w ga b oo cap xs) : Rep w' ga b oo cap xs := h.eng.rep o.grown r
theorem MEng.isN {w w' : World} {gm gt gk ge g : Nat} {s l m : Int} {T : Tab} (h : MEng w gm gt gk ge g s l m T) (o : Out (· = g) w w') {v : Value} {n : Nat} (r : IsN w v n) : IsN w' v n := h.eng.isN o.grown r
theorem MEng.cell {w w' : World} {gm gt gk ge g : Nat} {s l m : Int} {T : Tab} (h : MEng w gm gt gk ge g s l m T) (o : Out (· = g) w w') {p : Addr} {v : Value} (hc : w.cell? p = some v) (hs : p.spot = none) (hv : ∀ z, v ≠ .int .i64 z) : w'.cell? p = some v := o.cell hc (fun e => by
  obtain ⟨b, f, sp⟩ := p
  simp only at e hs
  subst e hs
  obtain ⟨z, hz⟩ := h.eng.ints _ _ hc
  exact hv z hz)
/-- .. and another engine. -/
theorem MEng.other {w w' : World} {gm gt gk ge g : Nat} {s l m : Int} {T : Tab} {gm' gt' gk' ge' g' : Nat} {s' l' m' : Int} {T' : Tab} (h : MEng w gm gt gk ge g s l m T) (o : Out (· = g) w w') (k : MEng w gm' gt' gk' ge' g' s' l' m' T') (hg : g' ≠ g) : MEng w' gm' gt' gk' ge' g' s' l' m' T' := by
  have e : ∀ (p : Nat) (q : Option Addr), w.cell? ⟨p, 0, none⟩ = some (.pointer q) → p ≠ g := fun p q hc e => by
    subst e
    obtain ⟨z, hz⟩ := h.eng.ints _ _ hc
    cases hz
  exact k.out o (e _ _ k.ptr) (e _ _ k.toom.ptr) (e _ _ k.toom.kara.ptr) (e _ _ k.toom.kara.eng.ptr) hg

/-- A row that is handed in, of at most MaxWords words. -/
def InM (w : World) (v : Value) (n : Nat) : Prop := ∃ ga b o cap xs, v = .slice ga xs.length cap ∧ Rep w ga b o cap xs ∧ WDig xs ∧ wval xs = n ∧ xs.length ≤ 16384
theorem InM.inW {w : World} {v : Value} {n : Nat} (h : InM w v n) : InW w v n := by
  obtain ⟨ga, b, o, cap, xs, rfl, hr, hd, hv, hl⟩ := h
  exact ⟨ga, b, o, cap, xs, rfl, hr, hd, hv, by omega⟩
theorem InM.next {w w' : World} {v : Value} {n : Nat} (h : InM w v n) (hb : Below w.heap.size w w') : InM w' v n := by
  obtain ⟨ga, b, o, cap, xs, rfl, hr, hd, hv, hl⟩ := h
  exact ⟨ga, b, o, cap, xs, rfl, hr.next hb, hd, hv, hl⟩
theorem inM_rep {w : World} {ga : Option Addr} {b o cap l : Nat} {xs : List Nat} {A : Nat} (hr : Rep w ga b o cap xs) (hd : WDig xs) (hl : xs.length = l) (hA : A = wval xs) (h : l ≤ 16384) : InM w (.slice ga l cap) A := by
  subst hl hA
  exact ⟨_, _, _, _, _, rfl, hr, hd, rfl, h⟩
theorem NewW.toM {B : Nat} {w : World} {v : Value} {n p : Nat} (h : NewW B w v n) (hn : n < 18446744073709551616 ^ p) (hp : p ≤ 16384) : InM w v n := by
  obtain ⟨ga, b, cap, xs, rfl, hr, hc, hv, _⟩ := h.rep
  exact ⟨ga, b, 0, cap, xs, rfl, hr, hc.1, hv, by have := wlen_le hc (L := p) (by rw [hv]; exact hn); omega⟩

def SpecMNew : Prop := ∀ (T : Tab) (w : World), Calls Try.prog 23 #[T.val] w fun e w' => ∃ gm gt gk ge g, e = .returned (.pointer (some ⟨gm, 0, none⟩)) ∧ MEng w' gm gt gk ge g 0 0 0 T ∧ (w.heap.size ≤ gm ∧ w.heap.size ≤ gt ∧ w.heap.size ≤ gk ∧ w.heap.size ≤ ge ∧ w.heap.size ≤ g) ∧ Below w.heap.size w w'
theorem mNew_box (SN : SpecMNew) (T : Tab) (w : World) (ob : Obj) :
    Calls Try.prog 23 #[T.val] (w.alloc ob) fun e w' => ∃ gm gt gk ge g, e = .returned (.pointer (some ⟨gm, 0, none⟩)) ∧ MEng w' gm gt gk ge g 0 0 0 T ∧ (w.heap.size ≤ gm ∧ w.heap.size ≤ gt ∧ w.heap.size ≤ gk ∧ w.heap.size ≤ ge ∧ w.heap.size ≤ g) ∧ Below w.heap.size w w' := by
  refine (SN T _).mono ?_
  rintro e w' ⟨gm, gt, gk, ge, g, h1, h2, h3, b⟩
  have hs : w.heap.size ≤ (w.alloc ob).heap.size := by simp
  exact ⟨gm, gt, gk, ge, g, h1, h2, by omega, bstep ((Below.refl _ _).alloc (Nat.le_refl _) _) b⟩

end Go.Proofs.Ytofgbmfaehnmnaa

/- What the statements on package divs ask of its calls: as propositions, for whatever code. -/
namespace Go.Proofs.Ytofgbmfaehnmnaa
open Go.RowKit

/-- At block gd lies an engine of divs, whose engine of mul lies at gm. -/
structure DEng (w : World) (gd gm gt gk ge g : Nat) (s l m : Int) (T : Tab) : Prop where
  ptr : w.cell? ⟨gd, 0, none⟩ = some (.pointer (some ⟨gm, 0, none⟩))
  mul : MEng w gm gt gk ge g s l m T
  nm : gd ≠ g
theorem DEng.lt {w : World} {gd gm gt gk ge g : Nat} {s l m : Int} {T : Tab} (h : DEng w gd gm gt gk ge g s l m T) : gd < w.heap.size := World.block_lt_of_cell? _ _ h.ptr
theorem DEng.met {w : World} {gd gm gt gk ge g : Nat} {s l m : Int} {T : Tab} (h : DEng w gd gm gt gk ge g s l m T) : Met w g 0 s l m := h.mul.met
/-- The way to the meter. -/
theorem DEng.way {w : World} {gd gm gt gk ge g : Nat} {s l m : Int} {T : Tab} (h : DEng w gd gm gt gk ge g s l m T) : w.cell? ⟨gd, 0, none⟩ = some (.pointer (some ⟨gm, 0, none⟩)) ∧ w.cell? ⟨gm, 0, none⟩ = some (.pointer (some ⟨gt, 0, none⟩)) ∧ w.cell? ⟨gt, 0, none⟩ = some (.pointer (some ⟨gk, 0, none⟩)) ∧ w.cell? ⟨gk, 0, none⟩ = some (.pointer (some ⟨ge, 0, none⟩)) ∧ w.cell? ⟨ge, 0, none⟩ = some (.pointer (some ⟨g, 0, none⟩)) :=
  ⟨h.ptr, h.mul.way⟩
theorem DEng.next {w w' : World} {gd gm gt gk ge g : Nat} {s l m : Int} {T : Tab} (h : DEng w gd gm gt gk ge g s l m T) (b : Below w.heap.size w w') : DEng w' gd gm gt gk ge g s l m T :=
  ⟨(b.cell (p := ⟨gd, 0, none⟩) h.lt).trans h.ptr, h.mul.next b, h.nm⟩
theorem DEng.step {w w' : World} {gd gm gt gk ge g : Nat} {s l m s' l' m' : Int} {T : Tab} (h : DEng w gd gm gt gk ge g s l m T) (M : Met w' g 0 s' l' m') (t : Touch g 0 3 w w') : DEng w' gd gm gt gk ge g s' l' m' T :=
  ⟨t.grown.cell h.ptr (by simpa using h.nm), h.mul.step M t, h.nm⟩
theorem DEng.kept {w w' : World} {gd gm gt gk ge g : Nat} {s l m s' l' m' : Int} {T : Tab} (h : DEng w gd gm gt gk ge g s l m T) (o : Out (· = g) w w') (K : MEng w' gm gt gk ge g s' l' m' T) : DEng w' gd gm gt gk ge g s' l' m' T :=
  ⟨o.cell h.ptr h.nm, K, h.nm⟩
theorem DEng.out {D : Nat → Prop} {w w' : World} {gd gm gt gk ge g : Nat} {s l m : Int} {T : Tab} (h : DEng w gd gm gt gk ge g s l m T) (o : Out D w w') (h5 : ¬ D gd) (h4 : ¬ D gm) (h3 : ¬ D gt) (h0 : ¬ D gk) (h1 : ¬ D ge) (h2 : ¬ D g) : DEng w' gd gm gt gk ge g s l m T :=
  ⟨o.cell h.ptr h5, h.mul.out o h4 h3 h0 h1 h2, h.nm⟩
/-- What an engine does leaves all rows of words, all naturals, the tables. -/
theorem DEng.rep {w w' : World} {gd gm gt gk ge g : Nat} {s l m : Int} {T : Tab} (h : DEng w gd gm gt gk ge g s l m T) (o : Out (· = g) w w') {ga : Option Addr} {b oo cap : Nat} {xs : List Nat} (r : Rep w ga b oo cap xs) : Rep w' ga b oo cap xs := h.mul.rep o r
theorem DEng.isN {w w' : World} {gd gm gt gk ge g : Nat} {s l m : Int} {T : Tab} (h : DEng w gd gm gt gk ge g s l m T) (o : Out (· = g) w w') {v : Value} {n : Nat} (r : IsN w v n) : IsN w' v n := h.mul.isN o r
theorem DEng.inM {w w' : World} {gd gm gt gk ge g : Nat} {s l m : Int} {T : Tab} (h : DEng w gd gm gt gk ge g s l m T) (o : Out (· = g) w w') {v : Value} {n : Nat} (r : InM w v n) : InM w' v n := by
  obtain ⟨ga, b, oo, cap, xs, rfl, hr, hd, hv, hl⟩ := r
  exact ⟨ga, b, oo, cap, xs, rfl, h.rep o hr, hd, hv, hl⟩

/-- What long division spends. -/
def lgc (A C : Nat) : Nat := if wl A < wl C then 0 else (wl A - wl C + 1) * (wl C + 1)
def SpecDNew : Prop := ∀ (T : Tab) (w : World), Calls Try.prog 7 #[T.val] w fun e w' => ∃ gd gm gt gk ge g, e = .returned (.pointer (some ⟨gd, 0, none⟩)) ∧ DEng w' gd gm gt gk ge g 0 0 0 T ∧ (w.heap.size ≤ gd ∧ w.heap.size ≤ gm ∧ w.heap.size ≤ gt ∧ w.heap.size ≤ gk ∧ w.heap.size ≤ ge ∧ w.heap.size ≤ g) ∧ Below w.heap.size w w'
def SpecLong : Prop := ∀ (w : World) (gd gm gt gk ge g : Nat) (s l m : Int) (T : Tab) (u v : Value) (A C : Nat),
  DEng w gd gm gt gk ge g s l m T → 0 ≤ s → s ≤ 1152921504606846976 → 0 ≤ l → l ≤ 1000 → InM w u A → InM w v C → 0 < C →
  Calls Try.prog 9 #[.pointer (some ⟨gd, 0, none⟩), u, v] w fun e w' => ∃ q r gq gr m', e = .returned (.tuple #[q, r, .int .i64 0]) ∧ NewB gq (gq + 1) w' q (A / C) ∧ NewB gr (gr + 1) w' r (A % C) ∧ (gq ≠ gr ∧ w.heap.size ≤ gq ∧ w.heap.size ≤ gr) ∧ DEng w' gd gm gt gk ge g (s + (lgc A C : Int)) l m' T ∧ m ≤ m' ∧ Out (· = g) w w'
def SpecLongNo : Prop := ∀ (w : World) (gd gm gt gk ge g : Nat) (s l m : Int) (T : Tab) (u v : Value) (A : Nat),
  DEng w gd gm gt gk ge g s l m T → 0 ≤ s → s ≤ 1152921504606846976 → 0 ≤ l → l ≤ 1000 → InM w u A → InM w v 0 →
  Calls Try.prog 9 #[.pointer (some ⟨gd, 0, none⟩), u, v] w fun e w' => ∃ qa qc ra rc s' m', e = .returned (.tuple #[.slice qa 0 qc, .slice ra 0 rc, .int .i64 2]) ∧ DEng w' gd gm gt gk ge g s' l m' T ∧ 0 ≤ s' ∧ s' ≤ s + 1125899906842624 ∧ Out (· = g) w w'

end Go.Proofs.Ytofgbmfaehnmnaa

/- takeTimes and putBack of divs: a row times a word is taken from a piece of another; a row is added to it. -/
namespace Go.Proofs.Ytofgbmfaehnmnaa
open Go.RowKit

set_option maxRecDepth 100000 in
set_option maxHeartbeats 3200000 in
theorem takeTimes_any (w : World) (g o n cap bb ob cb lb y : Nat) (gb : Option Addr) (z0 bs : List Nat) (hz : o + n ≤ z0.length) (hbl : bs.length = lb) (hlb : lb ≤ n) (hn : o + n ≤ 1099511627776) (hy : y < 18446744073709551616)
    (hZ : Blk w g z0) (dz : WDig z0) (hB : Rep w gb bb ob cb bs) (db : WDig bs) (hne : 0 < bs.length → bb ≠ g) :
    Calls Try.prog 57 #[.slice (some ⟨g, o, none⟩) n cap, .slice gb lb cb, .int .u64 (y : Int)] w fun e w' => ∃ (c : Nat) (zs : List Nat), e = .returned (.int .u64 (c : Int)) ∧ TkAt z0 zs bs y o lb c ∧ Blk w' g zs ∧ w.grownBy w' (some g) := by
  have HNE := hide hne
  clear hne
  go_enter Try.func57, Try.ntmps57
  go_wp2
  go_loopw [6, 14] (fun c i wr => ∃ (k cy : Nat) (zs : List Nat), k ≤ lb ∧ c = .int .u64 (cy : Int) ∧ i = .int .i64 (k : Int) ∧ cy < 18446744073709551616 ∧ Blk wr g zs ∧ Hid (TkAt z0 zs bs y o k cy) ∧ Rep wr gb bb ob cb bs ∧ w.grownBy wr (some g))
    (fun _ i _ => lb - (intOf i).toNat)
  case atStart => exact ⟨0, 0, z0, Nat.zero_le _, rfl, rfl, by omega, hZ, tk_start dz bs y o, hB, grown_refl _ _⟩
  case round =>
    obtain ⟨k, cy, zs, hk, rfl, rfl, hcy, hBlk, hAt, hRb, hG⟩ := hrel
    have hzl : o + n ≤ zs.length := by rw [hAt.out.1.1]; exact hz
    by_cases h1 : k < lb
    · obtain rfl := hRb.head (by omega)
      obtain ⟨b, hb⟩ : ∃ b : Nat, b = bs.getD k 0 := ⟨_, rfl⟩
      have hb64 : b < 18446744073709551616 := by rw [hb]; exact db k
      have cb : wr.cell? ⟨bb, ob + k, none⟩ = some (.int .u64 (b : Int)) := by rw [hb]; exact hRb.cell k (by omega)
      obtain ⟨r, hr⟩ : ∃ r : Nat, r = zs.getD (o + k) 0 := ⟨_, rfl⟩
      have hr64 : r < 18446744073709551616 := by rw [hr]; exact hAt.out.2.1 _
      have cr : wr.cell? ⟨g, o + k, none⟩ = some (.int .u64 (r : Int)) := by rw [hr]; exact hBlk.cell (o + k) (by omega)
      have fr := hBlk.frozen (o + k)
      obtain ⟨h0, e0⟩ : ∃ h0, h0 = b * y / 18446744073709551616 := ⟨_, rfl⟩
      obtain ⟨l0, e1⟩ : ∃ l0, l0 = b * y % 18446744073709551616 := ⟨_, rfl⟩
      obtain ⟨l1, e2⟩ : ∃ l1, l1 = (l0 + cy + 0) % 18446744073709551616 := ⟨_, rfl⟩
      obtain ⟨c1, e3⟩ : ∃ c1, c1 = (l0 + cy + 0) / 18446744073709551616 := ⟨_, rfl⟩
      obtain ⟨h1', e4⟩ : ∃ h1', h1' = h0 + c1 := ⟨_, rfl⟩
      obtain ⟨d, e5⟩ : ∃ d, d = (r + 18446744073709551616 - l1 - 0) % 18446744073709551616 := ⟨_, rfl⟩
      obtain ⟨c2, e6⟩ : ∃ c2, c2 = (if r < l1 + 0 then 1 else 0) := ⟨_, rfl⟩
      obtain ⟨c3, e7⟩ : ∃ c3, c3 = h1' + c2 := ⟨_, rfl⟩
      obtain ⟨q1, q2, q3, q4⟩ := tk_parts hb64 hy hcy hr64 e0 e1 e2 e3 e4 e5 e6 e7
      have H2 := hide (tk_step hAt.out (by omega) hr hb q3 q2 q4)
      have CM := hide (fun w => word_mul b y w hb64 hy)
      have CA := hide (fun w => word_add l0 cy 0 0 w (Or.inl ⟨rfl, rfl⟩))
      have CB := hide (fun w => word_sub r l1 0 0 w (Or.inl ⟨rfl, rfl⟩))
      rw [← e0, ← e1] at CM
      rw [← e2, ← e3] at CA
      rw [← e5, ← e6] at CB
      have E4 : (h0 : Int) + (c1 : Int) = (h1' : Int) := by omega
      have E7 : (h1' : Int) + (c2 : Int) = (c3 : Int) := by omega
      clear hr hb e0 e1 e2 e3 e4 e5 e6 e7 q4
      go_wp2_with fail
      refine (unhide CM _).mono ?_
      rintro e w1 ⟨rfl, rfl⟩
      go_wp2_with fail
      refine (unhide CA _).mono ?_
      rintro e w2 ⟨rfl, rfl⟩
      go_wp2_with fail
      refine (unhide CB _).mono ?_
      rintro e w3 ⟨rfl, rfl⟩
      go_wp2
      exact ⟨⟨k + 1, c3, _, by omega, by first | rfl | exact congrArg (Value.int .u64) E7, by go_num, q2, hBlk.set (o + k) d, H2, hRb.but (grown_set _ _ _ _) (unhide HNE), grown_trans hG (grown_set _ _ _ _)⟩, by simp [intOf]; omega⟩
    · obtain rfl : k = lb := by omega
      go_wp2
      go_ret
      exact ⟨cy, zs, rfl, hAt.out, hBlk, hG⟩

set_option maxRecDepth 100000 in
set_option maxHeartbeats 3200000 in
theorem putBack_any (w : World) (g o n cap bb ob cb lb : Nat) (gb : Option Addr) (z0 bs : List Nat) (hz : o + n ≤ z0.length) (hbl : bs.length = lb) (hlb : lb ≤ n) (hn : o + n ≤ 1099511627776)
    (hZ : Blk w g z0) (dz : WDig z0) (hB : Rep w gb bb ob cb bs) (db : WDig bs) (hne : 0 < bs.length → bb ≠ g) :
    Calls Try.prog 58 #[.slice (some ⟨g, o, none⟩) n cap, .slice gb lb cb] w fun e w' => ∃ (c : Nat) (zs : List Nat), e = .returned (.tuple #[]) ∧ PbAt z0 zs bs o lb c ∧ Blk w' g zs ∧ w.grownBy w' (some g) := by
  have HNE := hide hne
  clear hne
  go_enter Try.func58, Try.ntmps58
  go_wp2
  go_loopw [4, 9] (fun c i wr => ∃ (k cy : Nat) (zs : List Nat), k ≤ lb ∧ c = .int .u64 (cy : Int) ∧ i = .int .i64 (k : Int) ∧ cy ≤ 1 ∧ Blk wr g zs ∧ Hid (PbAt z0 zs bs o k cy) ∧ Rep wr gb bb ob cb bs ∧ w.grownBy wr (some g))
    (fun _ i _ => lb - (intOf i).toNat)
  case atStart => exact ⟨0, 0, z0, Nat.zero_le _, rfl, rfl, by omega, hZ, pb_start dz bs o, hB, grown_refl _ _⟩
  case round =>
    obtain ⟨k, cy, zs, hk, rfl, rfl, hcy, hBlk, hAt, hRb, hG⟩ := hrel
    have hzl : o + n ≤ zs.length := by rw [hAt.out.1.1]; exact hz
    by_cases h1 : k < lb
    · obtain rfl := hRb.head (by omega)
      obtain ⟨b, hb⟩ : ∃ b : Nat, b = bs.getD k 0 := ⟨_, rfl⟩
      have hb64 : b < 18446744073709551616 := by rw [hb]; exact db k
      have cb : wr.cell? ⟨bb, ob + k, none⟩ = some (.int .u64 (b : Int)) := by rw [hb]; exact hRb.cell k (by omega)
      obtain ⟨r, hr⟩ : ∃ r : Nat, r = zs.getD (o + k) 0 := ⟨_, rfl⟩
      have hr64 : r < 18446744073709551616 := by rw [hr]; exact hAt.out.2.1 _
      have cr : wr.cell? ⟨g, o + k, none⟩ = some (.int .u64 (r : Int)) := by rw [hr]; exact hBlk.cell (o + k) (by omega)
      have fr := hBlk.frozen (o + k)
      obtain ⟨d, e5⟩ : ∃ d, d = (r + b + cy) % 18446744073709551616 := ⟨_, rfl⟩
      obtain ⟨c3, e6⟩ : ∃ c3, c3 = (r + b + cy) / 18446744073709551616 := ⟨_, rfl⟩
      have q1 : d < 18446744073709551616 := by omega
      have q2 : c3 ≤ 1 := by omega
      have H2 := hide (pb_step hAt.out (by omega) hr hb q1 q2 (by omega))
      have CA := hide (fun w => word_add r b cy cy w (by omega))
      rw [← e5, ← e6] at CA
      clear hr hb e5 e6
      go_wp2_with fail
      refine (unhide CA _).mono ?_
      rintro e w2 ⟨rfl, rfl⟩
      go_wp2
      exact ⟨⟨k + 1, c3, _, by omega, rfl, by go_num, q2, hBlk.set (o + k) d, H2, hRb.but (grown_set _ _ _ _) (unhide HNE), grown_trans hG (grown_set _ _ _ _)⟩, by simp [intOf]; omega⟩
    · obtain rfl : k = lb := by omega
      go_wp2
      go_end0
      exact ⟨cy, zs, rfl, hAt.out, hBlk, hG⟩

end Go.Proofs.Ytofgbmfaehnmnaa

/- guess, takeFrom and divisorOf of divs, and its trim. -/
namespace Go.Proofs.Ytofgbmfaehnmnaa
open Go.RowKit

set_option maxRecDepth 100000 in
set_option maxHeartbeats 3200000 in
theorem guess_any (w : World) (g o n cap bb ob cb m M v h : Nat) (gb : Option Addr) (zs ds : List Nat) (hz : o + n ≤ zs.length) (hdl : ds.length = M) (hM : M = m + 2) (hlb : M + 1 ≤ n) (hn : o + n ≤ 1099511627776)
    (hZ : Blk w g zs) (dz : WDig zs) (hB : Rep w gb bb ob cb ds) (dd : WDig ds) (h63 : 9223372036854775808 ≤ ds.getD (m + 1) 0) (hv : v = inv2 (ds.getD (m + 1) 0 * 18446744073709551616 + ds.getD m 0))
    (hh : h = gss (zs.getD (o + m + 2) 0) (zs.getD (o + m + 1) 0) (zs.getD (o + m) 0) (ds.getD (m + 1) 0) (ds.getD m 0)) :
    Calls Try.prog 56 #[.agg #[.slice gb M cb, .int .u64 (v : Int)], .slice (some ⟨g, o, none⟩) n cap] w fun e w' => e = .returned (.int .u64 (h : Int)) ∧ Below w.heap.size w w' := by
  obtain rfl := hB.head (by omega)
  have bA : Below w.heap.size w (w.alloc (.cells #[.slice (some ⟨bb, ob, none⟩) M cb, .int .u64 (v : Int)] 96)) := (Below.refl _ w).alloc (Nat.le_refl _) _
  obtain ⟨m1, hm1⟩ : ∃ m1, m1 = m + 1 := ⟨_, rfl⟩
  have z2 := (hZ.next bA).cell (o + M) (by omega)
  have z1 := (hZ.next bA).cell (o + m1) (by omega)
  have z0 := (hZ.next bA).cell (o + m) (by omega)
  have b1 := (hB.next bA).cell m1 (by omega)
  have b0 := (hB.next bA).cell m (by omega)
  rw [show o + M = o + m + 2 by omega] at z2
  rw [show o + m1 = o + m + 1 by omega] at z1
  rw [hm1] at b1
  have q2 := dz (o + m + 2)
  have q1 := dz (o + m + 1)
  have q0 := dz (o + m)
  have p1 := dd (m + 1)
  have p0 := dd m
  generalize zs.getD (o + m + 2) 0 = u2 at *
  generalize zs.getD (o + m + 1) 0 = u1 at *
  generalize zs.getD (o + m) 0 = u0 at *
  generalize ds.getD (m + 1) 0 = d1 at *
  generalize ds.getD m 0 = d0 at *
  rw [show o + m + 2 = o + M by omega] at z2
  rw [show o + m + 1 = o + m1 by omega] at z1
  rw [← hm1] at b1
  have i1 : (M : Int) - 1 = (m1 : Int) := by omega
  have i2 : (M : Int) - 2 = (m : Int) := by omega
  have j1 : M < n ∧ m1 < n ∧ m < n ∧ m1 < M ∧ m < M := by omega
  obtain ⟨j1, j2, j3, j4, j5⟩ := j1
  have jb : M ≤ 1099511627776 := by omega
  have BA := hide bA
  by_cases hc : u2 < d1 ∨ (u2 = d1 ∧ u1 < d0)
  · have CD := hide (fun w => word_div3 u2 u1 u0 d1 d0 v _ _ _ _ w h63 p1 p0 rfl hc q1 q0 hv rfl rfl rfl)
    have hh2 : h = (u2 * 340282366920938463463374607431768211456 + u1 * 18446744073709551616 + u0) / (d1 * 18446744073709551616 + d0) := by rw [hh]; unfold gss; rw [if_pos hc]
    rw [← hh2] at CD
    generalize (u2 * 340282366920938463463374607431768211456 + u1 * 18446744073709551616 + u0) % (d1 * 18446744073709551616 + d0) = R at *
    generalize R / 18446744073709551616 = R1 at *
    generalize R % 18446744073709551616 = R0 at *
    clear hh hh2 hv hM hm1 hZ dz hB dd hc hdl bA h63 q2 q1 q0 p1 p0 hz hlb hn
    go_enter Try.func56, Try.ntmps56
    go_wp2_with fail
    go_quiet ((go_at_call 64; exact Calls.quiet_of_same (unhide CD _)))
    go_wp2
    go_ret
    exact ⟨rfl, below_drewN (unhide BA) _⟩
  · have CD := hide (fun w => word_div3_no u2 u1 u0 d1 d0 v w (Or.inr ⟨h63, by omega⟩))
    have hh2 : h = 18446744073709551615 := by rw [hh]; unfold gss; rw [if_neg hc]
    subst hh2
    clear hh hv hM hm1 hZ dz hB dd hc hdl bA h63 q2 q1 q0 p1 p0 hz hlb hn
    go_enter Try.func56, Try.ntmps56
    go_wp2_with fail
    go_quiet ((go_at_call 64; exact Calls.quiet_of_same (unhide CD _)))
    go_wp2
    go_ret
    exact ⟨rfl, below_drewN (unhide BA) _⟩

end Go.Proofs.Ytofgbmfaehnmnaa

/- New of toom, over New of kara. -/
namespace Go.Proofs.Ytofgbmfaehnmnaa
open Go.RowKit

set_option maxHeartbeats 1600000 in
theorem spec_tnew0 (CC0 : SpecKNew) : SpecTNew := by
  intro T w
  have CC := hide (fun w => CC0 T w)
  unfold Tab.val at CC ⊢
  go_enter Try.func40, Try.ntmps40
  go_wp2_with fail
  refine (unhide CC _).mono ?_
  rintro e w1 ⟨gk, ge, g, rfl, E1, hgk, hge, hg, b1⟩
  have hg' : w.heap.size ≤ g := Nat.le_trans (by simp) hg
  have hge' : w.heap.size ≤ ge := Nat.le_trans (by simp) hge
  have hgk' : w.heap.size ≤ gk := Nat.le_trans (by simp) hgk
  have b0 := hide (bstep ((Below.refl w.heap.size w).alloc (Nat.le_refl _) _) b1)
  have tl := E1.eng.met.lt
  have HE := hide E1
  clear CC b1 hg E1 hge hgk
  go_wp2
  go_ret
  refine ⟨w1.heap.size, gk, ge, g, rfl, ⟨?_, (unhide HE).next ((Below.refl _ _).alloc (Nat.le_refl _) _), by omega⟩, (unhide b0).size, hgk', hge', hg', (unhide b0).alloc (unhide b0).size _⟩
  exact cell_of_row _ w1.heap.size 0 _ _ (0, 0) (heap_alloc_new w1 _)

end Go.Proofs.Ytofgbmfaehnmnaa

/- New of kara. -/
namespace Go.Proofs.Ytofgbmfaehnmnaa
open Go.RowKit

set_option maxHeartbeats 1600000 in
theorem schoolNew_t (T : Tab) (w : World) :
    Calls Try.prog 59 #[T.val] w fun e w' => ∃ ge g, e = .returned (.pointer (some ⟨ge, 0, none⟩)) ∧ Eng w' ge g 0 ∧ Tune w' g T ∧ w.heap.size ≤ g ∧ w.heap.size ≤ ge ∧ Below w.heap.size w w' := by
  have CC := hide (fun w => new_any T w)
  unfold Tab.val at CC ⊢
  go_enter Try.func59, Try.ntmps59
  go_wp2_with fail
  refine (unhide CC _).mono ?_
  rintro e w1 ⟨g, rfl, tn, hg, b1⟩
  have hg' : w.heap.size ≤ g := Nat.le_trans (by simp) hg
  have b0 := hide (bstep ((Below.refl w.heap.size w).alloc (Nat.le_refl _) _) b1)
  have tl := tn.lt
  have HT := hide tn
  clear tn CC b1 hg
  go_wp2
  go_ret
  refine ⟨w1.heap.size, g, rfl, ⟨?_, ?_, by omega, ?_⟩, (unhide HT).next ((Below.refl _ _).alloc (Nat.le_refl _) _), hg', (unhide b0).size, (unhide b0).alloc (unhide b0).size _⟩
  · exact cell_of_row _ w1.heap.size 0 _ _ (0, 0) (heap_alloc_new w1 _)
  · exact (unhide HT).met.next ((Below.refl _ _).alloc (Nat.le_refl _) _)
  · exact ((unhide HT).next ((Below.refl _ _).alloc (Nat.le_refl _) _)).ints

set_option maxHeartbeats 1600000 in
theorem spec_knew : SpecKNew := by
  intro T w
  have CC := hide (fun w => schoolNew_t T w)
  unfold Tab.val at CC ⊢
  go_enter Try.func50, Try.ntmps50
  go_wp2_with fail
  refine (unhide CC _).mono ?_
  rintro e w1 ⟨ge, g, rfl, E1, tn, hg, hge, b1⟩
  have hg' : w.heap.size ≤ g := Nat.le_trans (by simp) hg
  have hge' : w.heap.size ≤ ge := Nat.le_trans (by simp) hge
  have b0 := hide (bstep ((Below.refl w.heap.size w).alloc (Nat.le_refl _) _) b1)
  have tl := tn.lt
  have HT := hide tn
  have HE := hide E1
  clear tn CC b1 hg E1 hge
  go_wp2
  go_ret
  refine ⟨w1.heap.size, ge, g, rfl, ⟨?_, (unhide HE).next ((Below.refl _ _).alloc (Nat.le_refl _) _), ((unhide HT).next ((Below.refl _ _).alloc (Nat.le_refl _) _)).tabC, by omega⟩, (unhide b0).size, hge', hg', (unhide b0).alloc (unhide b0).size _⟩
  exact cell_of_row _ w1.heap.size 0 _ _ (0, 0) (heap_alloc_new w1 _)

end Go.Proofs.Ytofgbmfaehnmnaa

/- New of toom. -/
namespace Go.Proofs.Ytofgbmfaehnmnaa
open Go.RowKit

theorem spec_tnew : SpecTNew := spec_tnew0 spec_knew

end Go.Proofs.Ytofgbmfaehnmnaa

/- New of the landed package mul. -/
namespace Go.Proofs.Ytofgbmfaehnmnaa
open Go.RowKit

set_option maxHeartbeats 1600000 in
theorem spec_mnew : SpecMNew := by
  intro T w
  have CC := hide (fun w => spec_tnew T w)
  unfold Tab.val at CC ⊢
  go_enter Try.func23, Try.ntmps23
  go_wp2_with fail
  refine (unhide CC _).mono ?_
  rintro e w1 ⟨gt, gk, ge, g, rfl, E1, hgt, hgk, hge, hg, b1⟩
  have hg' : w.heap.size ≤ g := Nat.le_trans (by simp) hg
  have hge' : w.heap.size ≤ ge := Nat.le_trans (by simp) hge
  have hgk' : w.heap.size ≤ gk := Nat.le_trans (by simp) hgk
  have hgt' : w.heap.size ≤ gt := Nat.le_trans (by simp) hgt
  have b0 := hide (bstep ((Below.refl w.heap.size w).alloc (Nat.le_refl _) _) b1)
  have tl := E1.kara.eng.met.lt
  have HE := hide E1
  clear CC b1 hg E1 hge hgk hgt
  go_wp2
  go_ret
  refine ⟨w1.heap.size, gt, gk, ge, g, rfl, ⟨?_, (unhide HE).next ((Below.refl _ _).alloc (Nat.le_refl _) _), by omega⟩, ⟨(unhide b0).size, hgt', hgk', hge', hg'⟩, (unhide b0).alloc (unhide b0).size _⟩
  exact cell_of_row _ w1.heap.size 0 _ _ (0, 0) (heap_alloc_new w1 _)

end Go.Proofs.Ytofgbmfaehnmnaa
