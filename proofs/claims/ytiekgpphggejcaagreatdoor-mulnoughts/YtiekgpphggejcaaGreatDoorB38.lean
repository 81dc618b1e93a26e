/- Sums and products of whole numbers of the reference. Written by gen_rint.py. -/
import Derived.Test.YtiekgpphggejcaaGreatDoorB33
import Derived.Deep.RegionHeld3
import Derived.Test.YtiekgpphggejcaaGreatDoorB14
import Derived.Test.YtiekgpphggejcaaGreatDoorB31
import Derived.Test.YtiekgpphggejcaaGreatDoorB32
namespace Go.Proofs.YtiekgpphggejcaaGreatDoor
open Go.RowKit

theorem zi_mul (a b : Bool) (n m : Nat) : zi a n * zi b m = zi (a != b) (n * m) := by
  cases a <;> cases b <;> simp [zi, Int.neg_mul, Int.mul_neg]

end Go.Proofs.YtiekgpphggejcaaGreatDoor

/- Sums and differences of whole numbers of the reference. Written by gen_rint3.py. -/
namespace Go.Proofs.YtiekgpphggejcaaGreatDoor
open Go.RowKit

theorem cmpN_nn {m n : Nat} (h : n ≤ m) : 0 ≤ cmpN m n := by unfold cmpN; rw [if_neg (by omega)]; split <;> omega
theorem zi_same (a : Bool) (n m : Nat) : zi a n + zi a m = zi a (n + m) := by
  cases a <;> simp [zi] <;> omega
theorem zi_less {a b : Bool} {n m : Nat} (h : a ≠ b) (hn : m ≤ n) : zi a n + zi b m = zi a (n - m) := by
  cases a <;> cases b <;> simp [zi] at h ⊢ <;> omega
theorem zi_more {a b : Bool} {n m : Nat} (h : a ≠ b) (hn : n < m) : zi a n + zi b m = zi b (m - n) := by
  cases a <;> cases b <;> simp [zi] at h ⊢ <;> omega

end Go.Proofs.YtiekgpphggejcaaGreatDoor

/- Differences, small ones, and back: whole numbers of the reference. Written by gen_rint4.py. -/
namespace Go.Proofs.YtiekgpphggejcaaGreatDoor
open Go.RowKit

theorem IsI.drew {w : World} {v : Value} {z : Int} (h : IsI w v z) : IsI w.drew v z := by
  obtain ⟨nv, neg, n, e, hn, hz, h0⟩ := h
  exact ⟨nv, neg, n, e, hn.drew, hz, h0⟩

end Go.Proofs.YtiekgpphggejcaaGreatDoor

/- A whole number of the reference as api has it. -/
namespace Go.Proofs.YtiekgpphggejcaaGreatDoor
open Go.RowKit

/-- To: canonical words. -/
theorem to_wcan (w : World) (v : Value) (n p : Nat) (hp : p ≤ 100000) (hn : n < 18446744073709551616 ^ p) (h : IsN w v n) :
    Calls Tryz.prog 40 #[v] w fun e w' => ∃ ga b cap ws l, e = .returned (.slice ga l cap) ∧ ws.length = l ∧ l ≤ p ∧ Rep w' ga b 0 cap ws ∧ WCan ws ∧ wval ws = n ∧ Below w.heap.size w w' := by
  obtain ⟨ga, b, o, cap, xs, rfl, hR, hc, hv⟩ := h
  have hn2 := hn
  rw [wpow] at hn2
  have hl := len_le hc (L := 2 * p) (by rw [hv]; exact hn2)
  refine (to_rep w ga b o cap _ xs rfl (by omega) hR hc).mono ?_
  rintro e w' ⟨g1, b1, c1, ws, rfl, r1, k1, v1, hb, _⟩
  have hlw := wlen_le k1 (L := p) (by rw [v1, hv]; exact hn)
  exact ⟨g1, b1, c1, ws, _, rfl, rfl, hlw, r1, k1, by rw [v1, hv], hb⟩
theorem Rep.box {w : World} {R t : Nat} {ga : Option Addr} {b o cap : Nat} {xs : List Nat} (hr : Rep w ga b o cap xs) (hk : Box2 w R t) (x y : Value) : Rep ((w.setCell ⟨R, 0, none⟩ x).setCell ⟨R, 1, none⟩ y) ga b o cap xs := by
  obtain ⟨a, l, c, z, hk⟩ := hk
  refine hr.but (grown_trans (grown_set w R 0 x) (grown_set _ R 1 y)) ?_
  rintro h0 rfl
  have c0 := hr.cell 0 h0
  rw [cell_of_row w b (o + 0) _ _ (0, 0) hk] at c0
  match o, c0 with
  | 0, c0 => cases c0
  | 1, c0 => cases c0
  | o + 2, c0 => simp at c0

end Go.Proofs.YtiekgpphggejcaaGreatDoor

/- Whole numbers in boxes, and what the document's own answers are held against: for the statement on Points. -/
namespace Go.Proofs.YtiekgpphggejcaaGreatDoor
open Go.RowKit

/-- A box of two cells. -/
def Bx (w : World) (q t : Nat) (x y : Value) : Prop := w.heap[q]? = some (.cells #[x, y] t (0, 0))
theorem Bx.lt {w : World} {q t : Nat} {x y : Value} (h : Bx w q t x y) : q < w.heap.size := (Array.getElem?_eq_some_iff.1 h).1
theorem Bx.next {w w' : World} {q t : Nat} {x y : Value} (h : Bx w q t x y) (b : Below w.heap.size w w') : Bx w' q t x y := (b.block q h.lt).trans h
theorem Bx.c0 {w : World} {q t : Nat} {x y : Value} (h : Bx w q t x y) : w.cell? ⟨q, 0, none⟩ = some x := cell_of_row _ q 0 _ _ (0, 0) h
theorem Bx.c1 {w : World} {q t : Nat} {x y : Value} (h : Bx w q t x y) : w.cell? ⟨q, 1, none⟩ = some y := cell_of_row _ q 1 _ _ (0, 0) h
theorem bx_new (w : World) (t : Nat) (x y : Value) : Bx (w.alloc (.cells #[x, y] t)) w.heap.size t x y := heap_alloc_new w _

/-- What To answers, held against a natural of the program's. -/
def ToW (w : World) (v : Value) (n : Nat) : Prop := ∃ gb b cap' ws, v = .slice gb ws.length cap' ∧ Rep w gb b 0 cap' ws ∧ WCan ws ∧ wval ws = n ∧ ws.length ≤ 100000
theorem ToW.next {w w' : World} {v : Value} {n : Nat} (h : ToW w v n) (b : Below w.heap.size w w') : ToW w' v n := by
  obtain ⟨gb, c, cap', ws, rfl, hr, hc, hv, hl⟩ := h
  exact ⟨gb, c, cap', ws, rfl, hr.next b, hc, hv, hl⟩
theorem IsI.form {w : World} {v : Value} {z : Int} (h : IsI w v z) : ∃ ga l cap neg, v = .agg #[.slice ga l cap, .bool neg] := by
  obtain ⟨ga, l, cap, neg, n, rfl, _⟩ := h.parts
  exact ⟨_, _, _, _, rfl⟩
theorem NewW.form {B : Nat} {w : World} {v : Value} {n : Nat} (h : NewW B w v n) : ∃ ga l cap, v = .slice ga l cap := by
  obtain ⟨ga, b, cap, xs, rfl, _⟩ := h.rep
  exact ⟨ga, _, cap, rfl⟩
theorem ToW.form {w : World} {v : Value} {n : Nat} (h : ToW w v n) : ∃ ga l cap, v = .slice ga l cap := by
  obtain ⟨ga, b, cap, xs, rfl, _⟩ := h
  exact ⟨ga, _, cap, rfl⟩

theorem bx_drew (w : World) (t : Nat) (x y : Value) : Bx (w.alloc (.cells #[x, y] t)).drew w.heap.size t x y := heap_alloc_new w _
theorem below_drew (w : World) (o : Obj) : Below w.heap.size w (w.alloc o).drew := ((Below.refl _ _).alloc (Nat.le_refl _) _).drew
theorem Bx.f0 {w : World} {q t : Nat} {x y : Value} (h : Bx w q t x y) : w.frozen? ⟨q, 0, none⟩ = false := frozen_of_row _ q 0 _ _ h
theorem Bx.f1 {w : World} {q t : Nat} {x y : Value} (h : Bx w q t x y) : w.frozen? ⟨q, 1, none⟩ = false := frozen_of_row _ q 1 _ _ h
theorem Bx.set {w : World} {q t : Nat} {x y : Value} (h : Bx w q t x y) (u v : Value) : Bx ((w.setCell ⟨q, 0, none⟩ u).setCell ⟨q, 1, none⟩ v) q t u v := by
  have h1 := heap_setCell_same w q 0 _ _ u h
  have h2 := heap_setCell_same (w.setCell ⟨q, 0, none⟩ u) q 1 _ _ v h1
  exact h2
theorem Bx.other {w : World} {q t p : Nat} {x y : Value} (h : Bx w q t x y) (hp : q ≠ p) (u v : Value) : Bx ((w.setCell ⟨p, 0, none⟩ u).setCell ⟨p, 1, none⟩ v) q t x y := by
  show _ = _
  rw [heap_setCell_other _ ⟨p, 1, none⟩ q v hp, heap_setCell_other _ ⟨p, 0, none⟩ q u hp]
  exact h
theorem boxes5 (w : World) (o1 o2 o3 o4 o5 : Obj) : (((((w.alloc o1).alloc o2).alloc o3).alloc o4).alloc o5).heap[w.heap.size]? = some o1 ∧ (((((w.alloc o1).alloc o2).alloc o3).alloc o4).alloc o5).heap[w.heap.size + 1]? = some o2 ∧ (((((w.alloc o1).alloc o2).alloc o3).alloc o4).alloc o5).heap[w.heap.size + 1 + 1]? = some o3 ∧ (((((w.alloc o1).alloc o2).alloc o3).alloc o4).alloc o5).heap[w.heap.size + 1 + 1 + 1]? = some o4 ∧ (((((w.alloc o1).alloc o2).alloc o3).alloc o4).alloc o5).heap[w.heap.size + 1 + 1 + 1 + 1]? = some o5 := by
  obtain ⟨h1, h2, h3⟩ := boxes3 w o1 o2 o3
  have s3 : (((w.alloc o1).alloc o2).alloc o3).heap.size = w.heap.size + 1 + 1 + 1 := by simp
  have s4 : ((((w.alloc o1).alloc o2).alloc o3).alloc o4).heap.size = w.heap.size + 1 + 1 + 1 + 1 := by simp
  generalize ((w.alloc o1).alloc o2).alloc o3 = v at *
  have b1 : Below v.heap.size v (v.alloc o4) := (Below.refl _ _).alloc (Nat.le_refl _) _
  have b2 : Below (v.alloc o4).heap.size (v.alloc o4) ((v.alloc o4).alloc o5) := (Below.refl _ _).alloc (Nat.le_refl _) _
  refine ⟨(b2.block _ (by omega)).trans ((b1.block _ (by omega)).trans h1), (b2.block _ (by omega)).trans ((b1.block _ (by omega)).trans h2), (b2.block _ (by omega)).trans ((b1.block _ (by omega)).trans h3), ?_, ?_⟩
  · rw [← s3]
    exact (b2.block _ (by omega)).trans (heap_alloc_new v o4)
  · rw [← s4]
    exact heap_alloc_new (v.alloc o4) o5
theorem below5 (w : World) (o1 o2 o3 o4 o5 : Obj) : Below w.heap.size w (((((w.alloc o1).alloc o2).alloc o3).alloc o4).alloc o5) :=
  (((((Below.refl _ _).alloc (Nat.le_refl _) _).alloc (by simp) _).alloc (by simp; omega) _).alloc (by simp; omega) _).alloc (by simp; omega) _

end Go.Proofs.YtiekgpphggejcaaGreatDoor

/- Package toom: a difference of either sign, and Points. Written by gen_opts.py. -/
namespace Go.Proofs.YtiekgpphggejcaaGreatDoor
open Go.RowKit

theorem new_box2 {W : World} {P B n : Nat} {r : Value} (x y : Value) (h : NewW B W r n) (hP : P < B) : NewW B ((W.setCell ⟨P, 0, none⟩ x).setCell ⟨P, 1, none⟩ y) r n :=
  (Out.of_grown (grown_trans (grown_set W P 0 x) (grown_set _ P 1 y))).newW h (fun k e => by rw [e]; exact hP)
theorem below_box2 {w W : World} {P : Nat} (x y : Value) (h : Below w.heap.size w W) (hP : w.heap.size ≤ P) : Below w.heap.size w ((W.setCell ⟨P, 0, none⟩ x).setCell ⟨P, 1, none⟩ y) :=
  (h.setCell (p := ⟨P, 0, none⟩) hP x).setCell (p := ⟨P, 1, none⟩) hP y
theorem size_box2 (W : World) (P : Nat) (x y : Value) : ((W.setCell ⟨P, 0, none⟩ x).setCell ⟨P, 1, none⟩ y).heap.size = W.heap.size := by simp

set_option maxRecDepth 100000 in
set_option maxHeartbeats 1600000 in
theorem diff_any (w : World) (u v : Value) (m n : Nat) (hu : InW w u m) (hv : InW w v n) :
    Calls Tryz.prog 126 #[u, v] w fun e w' => ∃ r, e = .returned (.agg #[r, .bool (decide (m < n))]) ∧ NewW w.heap.size w' r (nd m n) ∧ Below w.heap.size w w' := by
  have HV := hide (fun W (b : Below w.heap.size w W) (h : m ≤ n) => minus_any W v u n m h (hv.next b) (hu.next b))
  have CS := hide (fun W (b : Below w.heap.size w W) => sub_w W u v m n (hu.next b) (hv.next b))
  have hX : Bx (w.alloc (.cells #[.slice none 0 0, .bool false] 130)) w.heap.size 130 (.slice none 0 0) (.bool false) := bx_new _ _ _ _
  have b0 : Below w.heap.size w (w.alloc (.cells #[.slice none 0 0, .bool false] 130)) := (Below.refl _ _).alloc (Nat.le_refl _) _
  have s0 : w.heap.size < (w.alloc (.cells #[.slice none 0 0, .bool false] 130)).heap.size := by simp
  clear hu hv
  go_enter Tryz.func126, Tryz.ntmps126
  go_wp2_with fail
  refine (unhide CS _ b0).mono ?_
  generalize (w.alloc (.cells #[.slice none 0 0, .bool false] 130)) = W1 at *
  rintro e w2 ⟨b2, ⟨hle, r2, rfl, h2⟩ | ⟨hlt, rfl⟩⟩
  · obtain ⟨ga, l, cap, rfl⟩ := h2.form
    have X2 := hX.next b2
    have c0 := X2.c0
    have c1 := X2.c1
    have f0 := X2.f0
    have f1 := X2.f1
    have N := hide (new_box2 (.slice ga l cap) (.bool false) h2 s0)
    have BB := hide (below_box2 (.slice ga l cap) (.bool false) (bstep b0 b2) (Nat.le_refl _))
    have E : Hid (m - n = nd m n) := by show _ = _; unfold nd; omega
    have E2 : Hid (decide (m < n) = false) := decide_eq_false (by omega)
    have S0 := hide (Nat.le_of_lt s0)
    clear h2 X2 hX HV CS b0 b2 s0 hle
    go_wp2
    refine bodyPost_ret (v := .agg #[.slice ga l cap, .bool false]) (by simp [results, Tryz.results126, go_sem, c0, c1]) rfl ?_
    refine ⟨_, by rw [unhide E2], ?_, unhide BB⟩
    rw [← unhide E]
    exact (unhide N).mono (unhide S0)
  · have b02 := bstep b0 b2
    have CM := hide (unhide HV _ b02 (Nat.le_of_lt hlt))
    have S2 := b2.size
    clear HV CS
    go_wp2_with fail
    refine (unhide CM).mono ?_
    rintro e w3 ⟨r3, rfl, h3, b3⟩
    obtain ⟨ga, l, cap, rfl⟩ := h3.form
    have X2 := (hX.next b2).next b3
    have c0 := X2.c0
    have c1 := X2.c1
    have f0 := X2.f0
    have f1 := X2.f1
    have N := hide (new_box2 (.slice ga l cap) (.bool true) h3 (Nat.lt_of_lt_of_le s0 S2))
    have BB := hide (below_box2 (.slice ga l cap) (.bool true) (bstep b02 b3) (Nat.le_refl _))
    have E : Hid (n - m = nd m n) := by show _ = _; unfold nd; omega
    have E2 : Hid (decide (m < n) = true) := decide_eq_true hlt
    have S0 := hide (b02.size)
    clear h3 X2 hX CM b0 b2 s0 hlt b3 b02 S2
    go_wp2
    refine bodyPost_ret (v := .agg #[.slice ga l cap, .bool true]) (by simp [results, Tryz.results126, go_sem, c0, c1]) rfl ?_
    refine ⟨_, by rw [unhide E2], ?_, unhide BB⟩
    rw [← unhide E]
    exact (unhide N).mono (unhide S0)

/-- Five boxes of whole numbers, one behind the other. -/
structure PB (w : World) (P : Nat) (x0 y0 x1 y1 x2 y2 x3 y3 x4 y4 : Value) : Prop where
  b0 : Bx w P 130 x0 y0
  b1 : Bx w (P + 1) 130 x1 y1
  b2 : Bx w (P + 1 + 1) 130 x2 y2
  b3 : Bx w (P + 1 + 1 + 1) 130 x3 y3
  b4 : Bx w (P + 1 + 1 + 1 + 1) 130 x4 y4
theorem PB.next {w w' : World} {P : Nat} {x0 y0 x1 y1 x2 y2 x3 y3 x4 y4 : Value} (h : PB w P x0 y0 x1 y1 x2 y2 x3 y3 x4 y4) (b : Below w.heap.size w w') : PB w' P x0 y0 x1 y1 x2 y2 x3 y3 x4 y4 := ⟨h.b0.next b, h.b1.next b, h.b2.next b, h.b3.next b, h.b4.next b⟩
theorem PB.set0 {w : World} {P : Nat} {x0 y0 x1 y1 x2 y2 x3 y3 x4 y4 : Value} (h : PB w P x0 y0 x1 y1 x2 y2 x3 y3 x4 y4) (u v : Value) : PB ((w.setCell ⟨P, 0, none⟩ u).setCell ⟨P, 1, none⟩ v) P u v x1 y1 x2 y2 x3 y3 x4 y4 := ⟨h.b0.set u v, h.b1.other (by omega) u v, h.b2.other (by omega) u v, h.b3.other (by omega) u v, h.b4.other (by omega) u v⟩
theorem PB.set1 {w : World} {P : Nat} {x0 y0 x1 y1 x2 y2 x3 y3 x4 y4 : Value} (h : PB w P x0 y0 x1 y1 x2 y2 x3 y3 x4 y4) (u v : Value) : PB ((w.setCell ⟨P + 1, 0, none⟩ u).setCell ⟨P + 1, 1, none⟩ v) P x0 y0 u v x2 y2 x3 y3 x4 y4 := ⟨h.b0.other (by omega) u v, h.b1.set u v, h.b2.other (by omega) u v, h.b3.other (by omega) u v, h.b4.other (by omega) u v⟩
theorem PB.set2 {w : World} {P : Nat} {x0 y0 x1 y1 x2 y2 x3 y3 x4 y4 : Value} (h : PB w P x0 y0 x1 y1 x2 y2 x3 y3 x4 y4) (u v : Value) : PB ((w.setCell ⟨P + 1 + 1, 0, none⟩ u).setCell ⟨P + 1 + 1, 1, none⟩ v) P x0 y0 x1 y1 u v x3 y3 x4 y4 := ⟨h.b0.other (by omega) u v, h.b1.other (by omega) u v, h.b2.set u v, h.b3.other (by omega) u v, h.b4.other (by omega) u v⟩
theorem PB.set3 {w : World} {P : Nat} {x0 y0 x1 y1 x2 y2 x3 y3 x4 y4 : Value} (h : PB w P x0 y0 x1 y1 x2 y2 x3 y3 x4 y4) (u v : Value) : PB ((w.setCell ⟨P + 1 + 1 + 1, 0, none⟩ u).setCell ⟨P + 1 + 1 + 1, 1, none⟩ v) P x0 y0 x1 y1 x2 y2 u v x4 y4 := ⟨h.b0.other (by omega) u v, h.b1.other (by omega) u v, h.b2.other (by omega) u v, h.b3.set u v, h.b4.other (by omega) u v⟩
theorem PB.set4 {w : World} {P : Nat} {x0 y0 x1 y1 x2 y2 x3 y3 x4 y4 : Value} (h : PB w P x0 y0 x1 y1 x2 y2 x3 y3 x4 y4) (u v : Value) : PB ((w.setCell ⟨P + 1 + 1 + 1 + 1, 0, none⟩ u).setCell ⟨P + 1 + 1 + 1 + 1, 1, none⟩ v) P x0 y0 x1 y1 x2 y2 x3 y3 u v := ⟨h.b0.other (by omega) u v, h.b1.other (by omega) u v, h.b2.other (by omega) u v, h.b3.other (by omega) u v, h.b4.set u v⟩

set_option maxRecDepth 100000 in
set_option maxHeartbeats 6400000 in
theorem points_any (w : World) (u : Value) (m K L : Nat) (k : Int) (a0 a1 a2 : Nat) (hu : InW w u m) (hL : L ≤ 1048576) (hm : m < 18446744073709551616 ^ L) (hK : K = pcs k) (h0 : a0 = m % 18446744073709551616 ^ K) (h1 : a1 = m / 18446744073709551616 ^ K % 18446744073709551616 ^ K) (h2 : a2 = m / 18446744073709551616 ^ K / 18446744073709551616 ^ K) :
  Calls Tryz.prog 103 #[u, .int .i64 k] w fun e w' => ∃ v0 v1 v2 v3 v4, e = .returned (.tuple #[.agg #[v0, .bool false], .agg #[v1, .bool false], .agg #[v2, .bool (decide (a0 + a2 < a1))], .agg #[v3, .bool false], .agg #[v4, .bool false]]) ∧ NewW w.heap.size w' v0 a0 ∧ NewW w.heap.size w' v1 (a0 + a1 + a2) ∧ NewW w.heap.size w' v2 (nd (a0 + a2) a1) ∧ NewW w.heap.size w' v3 (a0 + 2 * a1 + 4 * a2) ∧ NewW w.heap.size w' v4 a2 ∧ Below w.heap.size w w' := by
  have hz0 : min (max k 1) 16384 = (K : Int) := by rw [hK]; unfold pcs; omega
  have hz1 : (K : Int) = min (max (K : Int) 0) 16384 := by omega
  have g1 : m / 18446744073709551616 ^ K ≤ m := Nat.div_le_self _ _
  have g2 : a0 ≤ m := by rw [h0]; exact Nat.mod_le _ _
  have g3 : a1 ≤ m := by rw [h1]; exact Nat.le_trans (Nat.mod_le _ _) g1
  have g4 : a2 ≤ m := by rw [h2]; exact Nat.le_trans (Nat.div_le_self _ _) g1
  have hp : 18446744073709551616 * m < 18446744073709551616 ^ (L + 1) := by rw [Nat.pow_succ]; omega
  have L0 : Hid (a0 < 18446744073709551616 ^ (L + 1)) := Nat.lt_of_le_of_lt (by omega) hp
  have L1 : Hid (a1 < 18446744073709551616 ^ (L + 1)) := Nat.lt_of_le_of_lt (by omega) hp
  have L2 : Hid (a2 < 18446744073709551616 ^ (L + 1)) := Nat.lt_of_le_of_lt (by omega) hp
  have LQ : Hid (m / 18446744073709551616 ^ K < 18446744073709551616 ^ (L + 1)) := Nat.lt_of_le_of_lt (by omega) hp
  have LE : Hid (a0 + a2 < 18446744073709551616 ^ (L + 1)) := Nat.lt_of_le_of_lt (by omega) hp
  have LM : Hid (a0 + a1 * 2 < 18446744073709551616 ^ (L + 1)) := Nat.lt_of_le_of_lt (by omega) hp
  have hL1 : Hid (L + 1 ≤ 1073741824) := by show _ ≤ _; omega
  have CS := hide (fun W (b : Below w.heap.size w W) => split_w W u (K : Int) m K hz1 (hu.next b))
  have CT := hide (fun W v (i : InW W v (m / 18446744073709551616 ^ K)) => split_w W v (K : Int) _ K hz1 i)
  rw [← h0] at CS
  rw [← h1, ← h2] at CT
  obtain ⟨k0, k1, k2, k3, k4⟩ := boxes5 w (.cells #[.slice none 0 0, .bool false] 130) (.cells #[.slice none 0 0, .bool false] 130) (.cells #[.slice none 0 0, .bool false] 130) (.cells #[.slice none 0 0, .bool false] 130) (.cells #[.slice none 0 0, .bool false] 130)
  have b0 := below5 w (.cells #[.slice none 0 0, .bool false] 130) (.cells #[.slice none 0 0, .bool false] 130) (.cells #[.slice none 0 0, .bool false] 130) (.cells #[.slice none 0 0, .bool false] 130) (.cells #[.slice none 0 0, .bool false] 130)
  have X0 : PB (((((w.alloc (.cells #[.slice none 0 0, .bool false] 130)).alloc (.cells #[.slice none 0 0, .bool false] 130)).alloc (.cells #[.slice none 0 0, .bool false] 130)).alloc (.cells #[.slice none 0 0, .bool false] 130)).alloc (.cells #[.slice none 0 0, .bool false] 130)) w.heap.size (.slice none 0 0) (.bool false) (.slice none 0 0) (.bool false) (.slice none 0 0) (.bool false) (.slice none 0 0) (.bool false) (.slice none 0 0) (.bool false) := ⟨k0, k1, k2, k3, k4⟩
  have s0 : w.heap.size + 1 + 1 + 1 + 1 < (((((w.alloc (.cells #[.slice none 0 0, .bool false] 130)).alloc (.cells #[.slice none 0 0, .bool false] 130)).alloc (.cells #[.slice none 0 0, .bool false] 130)).alloc (.cells #[.slice none 0 0, .bool false] 130)).alloc (.cells #[.slice none 0 0, .bool false] 130)).heap.size := X0.b4.lt
  clear k0 k1 k2 k3 k4 hu hm hp h0 h1 h2 hK g1 g2 g3 g4 hL hz1
  generalize hQ : m / 18446744073709551616 ^ K = Q at *
  clear hQ
  go_enter Tryz.func103, Tryz.ntmps103
  go_wp2_with fail
  refine (unhide CS _ b0).mono ?_
  generalize (((((w.alloc (.cells #[.slice none 0 0, .bool false] 130)).alloc (.cells #[.slice none 0 0, .bool false] 130)).alloc (.cells #[.slice none 0 0, .bool false] 130)).alloc (.cells #[.slice none 0 0, .bool false] 130)).alloc (.cells #[.slice none 0 0, .bool false] 130)) = W0 at *
  rintro e w1 ⟨lo, hi, B1, M1, B2, M2, rfl, n1, n2, q1, q2, _, _, _, b1⟩
  have n0 := n1.toW.mono q1
  have nh := n2.toW.mono q2
  have BW := bstep b0 b1
  have X1 := X0.next b1
  clear n1 n2 q1 q2 CS X0 b0
  have CT := hide (unhide CT w1 hi (nh.toIn (unhide LQ) (unhide hL1)))
  go_wp2_with fail
  refine (unhide CT).mono ?_
  rintro e w2 ⟨mi, to, B3, M3, B4, M4, rfl, n3, n4, q3, q4, _, _, _, b2⟩
  have sz1 := b1.size
  have n1 := n3.toW.mono (Nat.le_trans sz1 q3)
  have n2 := n4.toW.mono (Nat.le_trans sz1 q4)
  have n0 := n0.next b2
  have BW := bstep BW b2
  have X2 := X1.next b2
  have sz2 := Nat.le_trans sz1 b2.size
  clear n3 n4 q3 q4 CT X1 nh b1 b2 sz1
  obtain ⟨A0, A1, A2, rfl⟩ := n0.form
  obtain ⟨A3, A4, A5, rfl⟩ := n1.form
  obtain ⟨A6, A7, A8, rfl⟩ := n2.form
  go_wp2_with fail
  refine (add_w _ _ _ _ _ (n0.toIn (unhide L0) (unhide hL1)) (n2.toIn (unhide L2) (unhide hL1))).mono ?_
  rintro e w3 ⟨r3, rfl, n3, b3⟩
  have n3 := n3.mono sz2
  have n0 := n0.next b3
  have n1 := n1.next b3
  have n2 := n2.next b3
  have BW := bstep BW b3
  have X3 := X2.next b3
  have sz3 := Nat.le_trans sz2 b3.size
  clear X2 b3 sz2
  have c0 := X3.b0.c0
  have c1 := X3.b0.c1
  have f0 := X3.b0.f0
  have f1 := X3.b0.f1
  have n0 := new_box2 (P := w.heap.size) (.slice A0 A1 A2) (.bool false) n0 (by omega)
  have n1 := new_box2 (P := w.heap.size) (.slice A0 A1 A2) (.bool false) n1 (by omega)
  have n2 := new_box2 (P := w.heap.size) (.slice A0 A1 A2) (.bool false) n2 (by omega)
  have n3 := new_box2 (P := w.heap.size) (.slice A0 A1 A2) (.bool false) n3 (by omega)
  have BW := below_box2 (P := w.heap.size) (.slice A0 A1 A2) (.bool false) BW (by omega)
  have X4 := X3.set0 (.slice A0 A1 A2) (.bool false)
  have sz : W0.heap.size ≤ ((w3.setCell ⟨w.heap.size, 0, none⟩ (.slice A0 A1 A2)).setCell ⟨w.heap.size, 1, none⟩ (.bool false)).heap.size := by rw [size_box2]; assumption
  clear X3
  have HB := hide BW
  have HX := hide X4
  clear BW X4
  go_wp2_with fail
  refine (add_w _ _ _ _ _ (n3.toIn (unhide LE) (unhide hL1)) (n1.toIn (unhide L1) (unhide hL1))).mono ?_
  clear c0 c1 f0 f1
  have BW := unhide HB
  have X4 := unhide HX
  clear HB HX
  generalize ((w3.setCell ⟨w.heap.size, 0, none⟩ (.slice A0 A1 A2)).setCell ⟨w.heap.size, 1, none⟩ (.bool false)) = w4 at *
  rintro e w5 ⟨r5, rfl, n5, b5⟩
  have n5 := n5.mono sz
  have n0 := n0.next b5
  have n1 := n1.next b5
  have n2 := n2.next b5
  have n3 := n3.next b5
  have BW := bstep BW b5
  have X5 := X4.next b5
  have sz5 := Nat.le_trans sz b5.size
  clear X4 b5 sz
  obtain ⟨A9, A10, A11, rfl⟩ := n5.form
  have c0 := X5.b1.c0
  have c1 := X5.b1.c1
  have f0 := X5.b1.f0
  have f1 := X5.b1.f1
  have n0 := new_box2 (P := w.heap.size + 1) (.slice A9 A10 A11) (.bool false) n0 (by omega)
  have n1 := new_box2 (P := w.heap.size + 1) (.slice A9 A10 A11) (.bool false) n1 (by omega)
  have n2 := new_box2 (P := w.heap.size + 1) (.slice A9 A10 A11) (.bool false) n2 (by omega)
  have n3 := new_box2 (P := w.heap.size + 1) (.slice A9 A10 A11) (.bool false) n3 (by omega)
  have n5 := new_box2 (P := w.heap.size + 1) (.slice A9 A10 A11) (.bool false) n5 (by omega)
  have BW := below_box2 (P := w.heap.size + 1) (.slice A9 A10 A11) (.bool false) BW (by omega)
  have X6 := X5.set1 (.slice A9 A10 A11) (.bool false)
  have sz : W0.heap.size ≤ ((w5.setCell ⟨w.heap.size + 1, 0, none⟩ (.slice A9 A10 A11)).setCell ⟨w.heap.size + 1, 1, none⟩ (.bool false)).heap.size := by rw [size_box2]; assumption
  clear X5
  have HB := hide BW
  have HX := hide X6
  clear BW X6
  go_wp2_with fail
  refine (diff_any _ _ _ _ _ (n3.toIn (unhide LE) (unhide hL1)) (n1.toIn (unhide L1) (unhide hL1))).mono ?_
  clear c0 c1 f0 f1
  have BW := unhide HB
  have X6 := unhide HX
  clear HB HX
  generalize ((w5.setCell ⟨w.heap.size + 1, 0, none⟩ (.slice A9 A10 A11)).setCell ⟨w.heap.size + 1, 1, none⟩ (.bool false)) = w6 at *
  rintro e w7 ⟨r7, rfl, n7, b7⟩
  have n7 := n7.mono sz
  have n0 := n0.next b7
  have n1 := n1.next b7
  have n2 := n2.next b7
  have n5 := n5.next b7
  have BW := bstep BW b7
  have X7 := X6.next b7
  have sz7 := Nat.le_trans sz b7.size
  clear X6 b7 sz n3
  obtain ⟨A12, A13, A14, rfl⟩ := n7.form
  have hdec : ∃ D, decide (a0 + a2 < a1) = D := ⟨_, rfl⟩
  obtain ⟨D, hD⟩ := hdec
  rw [hD]
  have HD := hide hD
  clear hD
  have c0 := X7.b2.c0
  have c1 := X7.b2.c1
  have f0 := X7.b2.f0
  have f1 := X7.b2.f1
  have n0 := new_box2 (P := w.heap.size + 1 + 1) (.slice A12 A13 A14) (.bool D) n0 (by omega)
  have n1 := new_box2 (P := w.heap.size + 1 + 1) (.slice A12 A13 A14) (.bool D) n1 (by omega)
  have n2 := new_box2 (P := w.heap.size + 1 + 1) (.slice A12 A13 A14) (.bool D) n2 (by omega)
  have n5 := new_box2 (P := w.heap.size + 1 + 1) (.slice A12 A13 A14) (.bool D) n5 (by omega)
  have n7 := new_box2 (P := w.heap.size + 1 + 1) (.slice A12 A13 A14) (.bool D) n7 (by omega)
  have BW := below_box2 (P := w.heap.size + 1 + 1) (.slice A12 A13 A14) (.bool D) BW (by omega)
  have X8 := X7.set2 (.slice A12 A13 A14) (.bool D)
  have sz : W0.heap.size ≤ ((w7.setCell ⟨w.heap.size + 1 + 1, 0, none⟩ (.slice A12 A13 A14)).setCell ⟨w.heap.size + 1 + 1, 1, none⟩ (.bool D)).heap.size := by rw [size_box2]; assumption
  clear X7
  have HB := hide BW
  have HX := hide X8
  clear BW X8
  go_wp2_with fail
  refine (addMul_w _ _ _ _ _ 2 (by decide) (n0.toIn (unhide L0) (unhide hL1)) (n1.toIn (unhide L1) (unhide hL1))).mono ?_
  clear c0 c1 f0 f1
  have BW := unhide HB
  have X8 := unhide HX
  clear HB HX
  generalize ((w7.setCell ⟨w.heap.size + 1 + 1, 0, none⟩ (.slice A12 A13 A14)).setCell ⟨w.heap.size + 1 + 1, 1, none⟩ (.bool D)) = w8 at *
  rintro e w9 ⟨r9, rfl, n9, b9⟩
  have n9 := n9.mono sz
  have n0 := n0.next b9
  have n2 := n2.next b9
  have n5 := n5.next b9
  have n7 := n7.next b9
  have BW := bstep BW b9
  have X9 := X8.next b9
  have sz9 := Nat.le_trans sz b9.size
  clear X8 b9 sz n1
  go_wp2_with fail
  refine (addMul_w _ _ _ _ _ 4 (by decide) (n9.toIn (unhide LM) (unhide hL1)) (n2.toIn (unhide L2) (unhide hL1))).mono ?_
  rintro e w10 ⟨r10, rfl, n10, b10⟩
  have n10 := n10.mono sz9
  have n0 := n0.next b10
  have n2 := n2.next b10
  have n5 := n5.next b10
  have n7 := n7.next b10
  have BW := bstep BW b10
  have X10 := X9.next b10
  have sz10 := Nat.le_trans sz9 b10.size
  clear X9 b10 n9
  obtain ⟨A15, A16, A17, rfl⟩ := n10.form
  have c0 := X10.b3.c0
  have c1 := X10.b3.c1
  have f0 := X10.b3.f0
  have f1 := X10.b3.f1
  have d0 := X10.b4.c0
  have d1 := X10.b4.c1
  have e0 := X10.b4.f0
  have e1 := X10.b4.f1
  have n0 := new_box2 (P := w.heap.size + 1 + 1 + 1) (.slice A15 A16 A17) (.bool false) n0 (by omega)
  have n2 := new_box2 (P := w.heap.size + 1 + 1 + 1) (.slice A15 A16 A17) (.bool false) n2 (by omega)
  have n5 := new_box2 (P := w.heap.size + 1 + 1 + 1) (.slice A15 A16 A17) (.bool false) n5 (by omega)
  have n7 := new_box2 (P := w.heap.size + 1 + 1 + 1) (.slice A15 A16 A17) (.bool false) n7 (by omega)
  have n10 := new_box2 (P := w.heap.size + 1 + 1 + 1) (.slice A15 A16 A17) (.bool false) n10 (by omega)
  have BW := below_box2 (P := w.heap.size + 1 + 1 + 1) (.slice A15 A16 A17) (.bool false) BW (by omega)
  have X10 := X10.set3 (.slice A15 A16 A17) (.bool false)
  have n0 := new_box2 (P := w.heap.size + 1 + 1 + 1 + 1) (.slice A6 A7 A8) (.bool false) n0 (by omega)
  have n2 := new_box2 (P := w.heap.size + 1 + 1 + 1 + 1) (.slice A6 A7 A8) (.bool false) n2 (by omega)
  have n5 := new_box2 (P := w.heap.size + 1 + 1 + 1 + 1) (.slice A6 A7 A8) (.bool false) n5 (by omega)
  have n7 := new_box2 (P := w.heap.size + 1 + 1 + 1 + 1) (.slice A6 A7 A8) (.bool false) n7 (by omega)
  have n10 := new_box2 (P := w.heap.size + 1 + 1 + 1 + 1) (.slice A6 A7 A8) (.bool false) n10 (by omega)
  have BW := below_box2 (P := w.heap.size + 1 + 1 + 1 + 1) (.slice A6 A7 A8) (.bool false) BW (by omega)
  have X10 := X10.set4 (.slice A6 A7 A8) (.bool false)
  have BW := hide BW
  have n0 := hide n0
  have n2 := hide n2
  have n5 := hide n5
  have n7 := hide n7
  have n10 := hide n10
  have X10 := hide X10
  go_wp2
  clear c0 c1 f0 f1 d0 d1 e0 e1
  generalize ((((w10.setCell ⟨w.heap.size + 1 + 1 + 1, 0, none⟩ (.slice A15 A16 A17)).setCell ⟨w.heap.size + 1 + 1 + 1, 1, none⟩ (.bool false)).setCell ⟨w.heap.size + 1 + 1 + 1 + 1, 0, none⟩ (.slice A6 A7 A8)).setCell ⟨w.heap.size + 1 + 1 + 1 + 1, 1, none⟩ (.bool false)) = w11 at *
  have X11 := unhide X10
  have c0 := X11.b0.c0
  have d0 := X11.b0.c1
  have f0 := X11.b0.f0
  have e0 := X11.b0.f1
  have c1 := X11.b1.c0
  have d1 := X11.b1.c1
  have f1 := X11.b1.f0
  have e1 := X11.b1.f1
  have c2 := X11.b2.c0
  have d2 := X11.b2.c1
  have f2 := X11.b2.f0
  have e2 := X11.b2.f1
  have c3 := X11.b3.c0
  have d3 := X11.b3.c1
  have f3 := X11.b3.f0
  have e3 := X11.b3.f1
  have c4 := X11.b4.c0
  have d4 := X11.b4.c1
  have f4 := X11.b4.f0
  have e4 := X11.b4.f1
  have Y := X11
  have Y := Y.set0 (.slice A0 A1 A2) (.bool false)
  have Y := Y.set1 (.slice A9 A10 A11) (.bool false)
  have Y := Y.set2 (.slice A12 A13 A14) (.bool D)
  have Y := Y.set3 (.slice A15 A16 A17) (.bool false)
  have Y := Y.set4 (.slice A6 A7 A8) (.bool false)
  have Y := hide (Y.next (Below.refl _ _).drew)
  have n0 := unhide n0
  have n0 := new_box2 (P := w.heap.size) (.slice A0 A1 A2) (.bool false) n0 (by omega)
  have n0 := new_box2 (P := w.heap.size + 1) (.slice A9 A10 A11) (.bool false) n0 (by omega)
  have n0 := new_box2 (P := w.heap.size + 1 + 1) (.slice A12 A13 A14) (.bool D) n0 (by omega)
  have n0 := new_box2 (P := w.heap.size + 1 + 1 + 1) (.slice A15 A16 A17) (.bool false) n0 (by omega)
  have n0 := new_box2 (P := w.heap.size + 1 + 1 + 1 + 1) (.slice A6 A7 A8) (.bool false) n0 (by omega)
  have n0 := hide ((n0.next (Below.refl _ _).drew).mono (show w.heap.size ≤ W0.heap.size by omega))
  have n2 := unhide n2
  have n2 := new_box2 (P := w.heap.size) (.slice A0 A1 A2) (.bool false) n2 (by omega)
  have n2 := new_box2 (P := w.heap.size + 1) (.slice A9 A10 A11) (.bool false) n2 (by omega)
  have n2 := new_box2 (P := w.heap.size + 1 + 1) (.slice A12 A13 A14) (.bool D) n2 (by omega)
  have n2 := new_box2 (P := w.heap.size + 1 + 1 + 1) (.slice A15 A16 A17) (.bool false) n2 (by omega)
  have n2 := new_box2 (P := w.heap.size + 1 + 1 + 1 + 1) (.slice A6 A7 A8) (.bool false) n2 (by omega)
  have n2 := hide ((n2.next (Below.refl _ _).drew).mono (show w.heap.size ≤ W0.heap.size by omega))
  have n5 := unhide n5
  have n5 := new_box2 (P := w.heap.size) (.slice A0 A1 A2) (.bool false) n5 (by omega)
  have n5 := new_box2 (P := w.heap.size + 1) (.slice A9 A10 A11) (.bool false) n5 (by omega)
  have n5 := new_box2 (P := w.heap.size + 1 + 1) (.slice A12 A13 A14) (.bool D) n5 (by omega)
  have n5 := new_box2 (P := w.heap.size + 1 + 1 + 1) (.slice A15 A16 A17) (.bool false) n5 (by omega)
  have n5 := new_box2 (P := w.heap.size + 1 + 1 + 1 + 1) (.slice A6 A7 A8) (.bool false) n5 (by omega)
  have n5 := hide ((n5.next (Below.refl _ _).drew).mono (show w.heap.size ≤ W0.heap.size by omega))
  have n7 := unhide n7
  have n7 := new_box2 (P := w.heap.size) (.slice A0 A1 A2) (.bool false) n7 (by omega)
  have n7 := new_box2 (P := w.heap.size + 1) (.slice A9 A10 A11) (.bool false) n7 (by omega)
  have n7 := new_box2 (P := w.heap.size + 1 + 1) (.slice A12 A13 A14) (.bool D) n7 (by omega)
  have n7 := new_box2 (P := w.heap.size + 1 + 1 + 1) (.slice A15 A16 A17) (.bool false) n7 (by omega)
  have n7 := new_box2 (P := w.heap.size + 1 + 1 + 1 + 1) (.slice A6 A7 A8) (.bool false) n7 (by omega)
  have n7 := hide ((n7.next (Below.refl _ _).drew).mono (show w.heap.size ≤ W0.heap.size by omega))
  have n10 := unhide n10
  have n10 := new_box2 (P := w.heap.size) (.slice A0 A1 A2) (.bool false) n10 (by omega)
  have n10 := new_box2 (P := w.heap.size + 1) (.slice A9 A10 A11) (.bool false) n10 (by omega)
  have n10 := new_box2 (P := w.heap.size + 1 + 1) (.slice A12 A13 A14) (.bool D) n10 (by omega)
  have n10 := new_box2 (P := w.heap.size + 1 + 1 + 1) (.slice A15 A16 A17) (.bool false) n10 (by omega)
  have n10 := new_box2 (P := w.heap.size + 1 + 1 + 1 + 1) (.slice A6 A7 A8) (.bool false) n10 (by omega)
  have n10 := hide ((n10.next (Below.refl _ _).drew).mono (show w.heap.size ≤ W0.heap.size by omega))
  have BW := unhide BW
  have BW := below_box2 (P := w.heap.size) (.slice A0 A1 A2) (.bool false) BW (by omega)
  have BW := below_box2 (P := w.heap.size + 1) (.slice A9 A10 A11) (.bool false) BW (by omega)
  have BW := below_box2 (P := w.heap.size + 1 + 1) (.slice A12 A13 A14) (.bool D) BW (by omega)
  have BW := below_box2 (P := w.heap.size + 1 + 1 + 1) (.slice A15 A16 A17) (.bool false) BW (by omega)
  have BW := below_box2 (P := w.heap.size + 1 + 1 + 1 + 1) (.slice A6 A7 A8) (.bool false) BW (by omega)
  have BW := hide BW.drew
  clear X11 X10
  clear L0 L1 L2 LE LM hL1 s0 hz0
  go_big_region
  clear c0 d0 f0 e0 c1 d1 f1 e1 c2 d2 f2 e2 c3 d3 f3 e3 c4 d4 f4 e4
  generalize (((((((((((w11.setCell ⟨w.heap.size, 0, none⟩ (.slice A0 A1 A2)).setCell ⟨w.heap.size, 1, none⟩ (.bool false)).setCell ⟨w.heap.size + 1, 0, none⟩ (.slice A9 A10 A11)).setCell ⟨w.heap.size + 1, 1, none⟩ (.bool false)).setCell ⟨w.heap.size + 1 + 1, 0, none⟩ (.slice A12 A13 A14)).setCell ⟨w.heap.size + 1 + 1, 1, none⟩ (.bool D)).setCell ⟨w.heap.size + 1 + 1 + 1, 0, none⟩ (.slice A15 A16 A17)).setCell ⟨w.heap.size + 1 + 1 + 1, 1, none⟩ (.bool false)).setCell ⟨w.heap.size + 1 + 1 + 1 + 1, 0, none⟩ (.slice A6 A7 A8)).setCell ⟨w.heap.size + 1 + 1 + 1 + 1, 1, none⟩ (.bool false))).drew = w12 at *
  have c0 := (unhide Y).b0.c0
  have d0 := (unhide Y).b0.c1
  have c1 := (unhide Y).b1.c0
  have d1 := (unhide Y).b1.c1
  have c2 := (unhide Y).b2.c0
  have d2 := (unhide Y).b2.c1
  have c3 := (unhide Y).b3.c0
  have d3 := (unhide Y).b3.c1
  have c4 := (unhide Y).b4.c0
  have d4 := (unhide Y).b4.c1
  go_wp2
  refine bodyPost_ret (v := .tuple #[.agg #[.slice A0 A1 A2, .bool false], .agg #[.slice A9 A10 A11, .bool false], .agg #[.slice A12 A13 A14, .bool D], .agg #[.slice A15 A16 A17, .bool false], .agg #[.slice A6 A7 A8, .bool false]]) (by simp [results, Tryz.results103, go_sem, c0, d0, c1, d1, c2, d2, c3, d3, c4, d4]) rfl ?_
  refine ⟨_, _, _, _, _, by rw [unhide HD], unhide n0, ?_, unhide n7, ?_, unhide n2, unhide BW⟩
  · rw [show a0 + a1 + a2 = a0 + a2 + a1 by omega]
    exact unhide n5
  · rw [show a0 + 2 * a1 + 4 * a2 = a0 + a1 * 2 + a2 * 4 by omega]
    exact unhide n10

theorem spec_points : SpecPoints := by
  intro w ga b o cap la K k xs a0 a1 a2 hl hR hd hla hK h0 h1 h2
  refine points_any w _ (wval xs) K la k a0 a1 a2 (inW_rep hR hd hl (by omega)) (by omega) (by have := wval_lt_pow hd; rwa [hl] at this) hK h0 h1 ?_
  rw [h2, Nat.div_div_eq_div_mul, ← Nat.pow_add, show K + K = 2 * K by omega]

end Go.Proofs.YtiekgpphggejcaaGreatDoor

/- Package toom: a factor's values. -/
namespace Go.Proofs.YtiekgpphggejcaaGreatDoor
open Go.RowKit

/-- A row of l words that says v, in a block of its own, which is not below B. -/
structure Vb (B : Nat) (w : World) (g : Nat) (zs : List Nat) (l v : Nat) : Prop where
  ge : B ≤ g
  blk : Blk w g zs
  len : zs.length = l
  dig : WDig zs
  val : wval zs = v
theorem Vb.next {B g l v : Nat} {w w' : World} {zs : List Nat} (h : Vb B w g zs l v) (b : Below w.heap.size w w') : Vb B w' g zs l v := ⟨h.ge, (b.block _ h.blk.lt).trans h.blk, h.len, h.dig, h.val⟩
theorem Vb.out {D : Nat → Prop} {B g l v : Nat} {w w' : World} {zs : List Nat} (h : Vb B w g zs l v) (o : Out D w w') (hd : ¬ D g) : Vb B w' g zs l v := ⟨h.ge, o.blk h.blk hd, h.len, h.dig, h.val⟩
theorem Vb.mono {B C g l v : Nat} {w : World} {zs : List Nat} (h : Vb B w g zs l v) (hb : C ≤ B) : Vb C w g zs l v := ⟨Nat.le_trans hb h.ge, h.blk, h.len, h.dig, h.val⟩

/-- A factor's five values, of so many words each, in new memory each. -/
structure Vals (B : Nat) (w : World) (v : Value) (a0 a1 a2 h H1 n2 : Nat) : Prop where
  out : ∃ g0 g1 g2 g3 g4 z0 z1 z2 z3 z4, v = .agg #[.slice (some ⟨g0, 0, none⟩) h h, .slice (some ⟨g1, 0, none⟩) H1 H1, .slice (some ⟨g2, 0, none⟩) H1 H1, .slice (some ⟨g3, 0, none⟩) H1 H1, .slice (some ⟨g4, 0, none⟩) n2 n2, .bool (decide (a0 + a2 < a1))] ∧
    Vb B w g0 z0 h a0 ∧ Vb B w g1 z1 H1 (a0 + a1 + a2) ∧ Vb B w g2 z2 H1 (nd (a0 + a2) a1) ∧ Vb B w g3 z3 H1 (a0 + 2 * a1 + 4 * a2) ∧ Vb B w g4 z4 n2 a2

set_option maxRecDepth 100000 in
set_option maxHeartbeats 6400000 in
theorem vals_any (w : World) (ga : Option Addr) (b o cap n h : Nat) (xs : List Nat) (a0 a1 a2 : Nat) (hl : xs.length = n) (hn : n ≤ 16384) (h0 : 0 < h) (hh : 2 * h < n) (h3 : n ≤ 3 * h) (hR : Rep w ga b o cap xs) (hd : WDig xs)
    (e0 : a0 = wval xs % 18446744073709551616 ^ h) (e1 : a1 = wval xs / 18446744073709551616 ^ h % 18446744073709551616 ^ h) (e2 : a2 = wval xs / 18446744073709551616 ^ h / 18446744073709551616 ^ h) :
    Calls Tryz.prog 80 #[.slice ga n cap, .int .i64 (h : Int)] w fun e w' => ∃ v, e = .returned v ∧ Vals w.heap.size w' v a0 a1 a2 h (h + 1) (n - 2 * h) ∧ Below w.heap.size w w' := by
  have hm : wval xs < 18446744073709551616 ^ n := by have := wval_lt_pow hd; rwa [hl] at this
  have hP : 0 < 18446744073709551616 ^ h := Nat.pow_pos (by omega)
  have p0 : a0 < 18446744073709551616 ^ h := by rw [e0]; exact Nat.mod_lt _ hP
  have p1 : a1 < 18446744073709551616 ^ h := by rw [e1]; exact Nat.mod_lt _ hP
  have p2 : a2 < 18446744073709551616 ^ (n - 2 * h) := by rw [e2]; exact third_lt hm (by omega)
  have p2' : a2 < 18446744073709551616 ^ h := Nat.lt_of_lt_of_le p2 (pow_mono (by omega))
  have q1 : Hid (a0 + a1 + a2 < 18446744073709551616 ^ (h + 1)) := by show _ < _; rw [Nat.pow_succ]; exact val1_lt p0 p1 p2'
  have qn : Hid (nd (a0 + a2) a1 < 18446744073709551616 ^ (h + 1)) := by show _ < _; rw [Nat.pow_succ]; exact valn_lt p0 p1 p2'
  have q2 : Hid (a0 + 2 * a1 + 4 * a2 < 18446744073709551616 ^ (h + 1)) := by show _ < _; rw [Nat.pow_succ]; exact val2_lt p0 p1 p2'
  have hpc : h = pcs (h : Int) := by unfold pcs; omega
  have CP := hide (fun W (bb : Below w.heap.size w W) => points_any W _ (wval xs) h n (h : Int) a0 a1 a2 (inW_rep (hR.next bb) hd hl (by omega)) (by omega) hm hpc e0 e1 e2)
  have b0 : Below w.heap.size w (w.alloc (.cells #[.slice none 0 0, .slice none 0 0, .slice none 0 0, .slice none 0 0, .slice none 0 0, .bool false] 105)) := (Below.refl _ _).alloc (Nat.le_refl _) _
  have H0 := hide p0
  have H2 := hide p2
  clear hm hP p0 p1 p2 p2' hR hd e0 e1 e2 hpc hl
  go_enter Tryz.func80, Tryz.ntmps80
  go_wp2_with fail
  refine (unhide CP _ b0).mono ?_
  rintro e w1 ⟨v0, v1, v2, v3, v4, rfl, n0, n1, n2, n3, n4, b1⟩
  obtain ⟨A0, A1, A2, rfl⟩ := n0.form
  obtain ⟨A3, A4, A5, rfl⟩ := n1.form
  obtain ⟨A6, A7, A8, rfl⟩ := n2.form
  obtain ⟨A9, A10, A11, rfl⟩ := n3.form
  obtain ⟨A12, A13, A14, rfl⟩ := n4.form
  clear CP
  -- mark
  obtain ⟨D, hD⟩ : ∃ D, decide (a0 + a2 < a1) = D := ⟨_, rfl⟩
  rw [hD]
  have HD := hide hD
  clear hD
  obtain ⟨H1, hH1⟩ : ∃ H1, h + 1 = H1 := ⟨_, rfl⟩
  obtain ⟨K2, hK2⟩ : ∃ K2, 2 * h = K2 := ⟨_, rfl⟩
  obtain ⟨N2, hN2⟩ : ∃ N2, n - K2 = N2 := ⟨_, rfl⟩
  have i1 : (h : Int) + 1 = (H1 : Int) := by omega
  have i2 : IntKind.i64.wrap (H1 : Int) = (H1 : Int) := by rw [IntKind.wrap_i64]; omega
  have i3 : 2 * (h : Int) = (K2 : Int) := by omega
  have i4 : IntKind.i64.wrap (K2 : Int) = (K2 : Int) := by rw [IntKind.wrap_i64]; omega
  have i5 : (n : Int) - (K2 : Int) = (N2 : Int) := by omega
  have i6 : IntKind.i64.wrap (N2 : Int) = (N2 : Int) := by rw [IntKind.wrap_i64]; omega
  rw [hK2, hN2] at H2
  rw [hH1] at q1 qn q2
  have hs0 : w.heap.size < (w.alloc (.cells #[.slice none 0 0, .slice none 0 0, .slice none 0 0, .slice none 0 0, .slice none 0 0, .bool false] 105)).heap.size := by simp
  have s1 : w.heap.size < w1.heap.size := Nat.lt_of_lt_of_le hs0 b1.size
  have kR : w1.heap[w.heap.size]? = some (.cells #[.slice none 0 0, .slice none 0 0, .slice none 0 0, .slice none 0 0, .slice none 0 0, .bool false] 105 (0, 0)) := (b1.block w.heap.size (by simp)).trans (heap_alloc_new w _)
  have BW := bstep b0 b1
  obtain ⟨k0, k1, k2, k3, k4⟩ := boxes5 w1 (.cells #[.slice A0 A1 A2, .bool false] 130) (.cells #[.slice A3 A4 A5, .bool false] 130) (.cells #[.slice A6 A7 A8, .bool D] 130) (.cells #[.slice A9 A10 A11, .bool false] 130) (.cells #[.slice A12 A13 A14, .bool false] 130)
  have b5 := below5 w1 (.cells #[.slice A0 A1 A2, .bool false] 130) (.cells #[.slice A3 A4 A5, .bool false] 130) (.cells #[.slice A6 A7 A8, .bool D] 130) (.cells #[.slice A9 A10 A11, .bool false] 130) (.cells #[.slice A12 A13 A14, .bool false] 130)
  have kR := (b5.block w.heap.size s1).trans kR
  have BW := hide (bstep BW b5)
  have n0 := n0.next b5
  have n1 := n1.next b5
  have n2 := n2.next b5
  have n3 := n3.next b5
  have n4 := n4.next b5
  have hs1 : w1.heap.size ≤ (((((w1.alloc (.cells #[.slice A0 A1 A2, .bool false] 130)).alloc (.cells #[.slice A3 A4 A5, .bool false] 130)).alloc (.cells #[.slice A6 A7 A8, .bool D] 130)).alloc (.cells #[.slice A9 A10 A11, .bool false] 130)).alloc (.cells #[.slice A12 A13 A14, .bool false] 130)).heap.size := b5.size
  clear b0 b1 hs0 b5
  go_wp2
  generalize (((((w1.alloc (.cells #[.slice A0 A1 A2, .bool false] 130)).alloc (.cells #[.slice A3 A4 A5, .bool false] 130)).alloc (.cells #[.slice A6 A7 A8, .bool D] 130)).alloc (.cells #[.slice A9 A10 A11, .bool false] 130)).alloc (.cells #[.slice A12 A13 A14, .bool false] 130)) = W0 at *
  generalize hP : w1.heap.size = P at *
  generalize hG : w.heap.size = G at *
  have GP : G < P := by omega
  have HG := hide hG
  have HC : Hid (∀ W, Below W0.heap.size W0 W → W.cell? ⟨P, 0, none⟩ = some (.slice A0 A1 A2) ∧ W.cell? ⟨P + 1, 0, none⟩ = some (.slice A3 A4 A5) ∧ W.cell? ⟨P + 1 + 1, 0, none⟩ = some (.slice A6 A7 A8) ∧ W.cell? ⟨P + 1 + 1 + 1, 0, none⟩ = some (.slice A9 A10 A11) ∧ W.cell? ⟨P + 1 + 1 + 1 + 1, 0, none⟩ = some (.slice A12 A13 A14) ∧ W.cell? ⟨P + 1 + 1, 1, none⟩ = some (.bool D)) := fun W q => by
    have j0 := (q.block (P) (Array.getElem?_eq_some_iff.1 k0).1).trans k0
    have j1 := (q.block (P + 1) (Array.getElem?_eq_some_iff.1 k1).1).trans k1
    have j2 := (q.block (P + 1 + 1) (Array.getElem?_eq_some_iff.1 k2).1).trans k2
    have j3 := (q.block (P + 1 + 1 + 1) (Array.getElem?_eq_some_iff.1 k3).1).trans k3
    have j4 := (q.block (P + 1 + 1 + 1 + 1) (Array.getElem?_eq_some_iff.1 k4).1).trans k4
    exact ⟨cell_of_row _ (P) 0 _ _ (0, 0) j0, cell_of_row _ (P + 1) 0 _ _ (0, 0) j1, cell_of_row _ (P + 1 + 1) 0 _ _ (0, 0) j2, cell_of_row _ (P + 1 + 1 + 1) 0 _ _ (0, 0) j3, cell_of_row _ (P + 1 + 1 + 1 + 1) 0 _ _ (0, 0) j4, cell_of_row _ (P + 1 + 1) 1 _ _ (0, 0) j2⟩
  have GR : Hid (∀ (W : World) (x0 x1 x2 x3 x4 x5 : Value), W.grownBy ((((((W.setCell ⟨G, 0, none⟩ x0).setCell ⟨G, 1, none⟩ x1).setCell ⟨G, 2, none⟩ x2).setCell ⟨G, 3, none⟩ x3).setCell ⟨G, 4, none⟩ x4).setCell ⟨G, 5, none⟩ x5) (some G)) := fun W x0 x1 x2 x3 x4 x5 => grown_trans (grown_trans (grown_trans (grown_trans (grown_trans (grown_set W G 0 x0) (grown_set _ G 1 x1)) (grown_set _ G 2 x2)) (grown_set _ G 3 x3)) (grown_set _ G 4 x4)) (grown_set _ G 5 x5)
  have HC2 : Hid (∀ W x0 x1 x2 x3 x4 x5, Below W0.heap.size W0 W → ((((((W.setCell ⟨G, 0, none⟩ x0).setCell ⟨G, 1, none⟩ x1).setCell ⟨G, 2, none⟩ x2).setCell ⟨G, 3, none⟩ x3).setCell ⟨G, 4, none⟩ x4).setCell ⟨G, 5, none⟩ x5).cell? ⟨P, 0, none⟩ = some (.slice A0 A1 A2) ∧ ((((((W.setCell ⟨G, 0, none⟩ x0).setCell ⟨G, 1, none⟩ x1).setCell ⟨G, 2, none⟩ x2).setCell ⟨G, 3, none⟩ x3).setCell ⟨G, 4, none⟩ x4).setCell ⟨G, 5, none⟩ x5).cell? ⟨P + 1, 0, none⟩ = some (.slice A3 A4 A5) ∧ ((((((W.setCell ⟨G, 0, none⟩ x0).setCell ⟨G, 1, none⟩ x1).setCell ⟨G, 2, none⟩ x2).setCell ⟨G, 3, none⟩ x3).setCell ⟨G, 4, none⟩ x4).setCell ⟨G, 5, none⟩ x5).cell? ⟨P + 1 + 1, 0, none⟩ = some (.slice A6 A7 A8) ∧ ((((((W.setCell ⟨G, 0, none⟩ x0).setCell ⟨G, 1, none⟩ x1).setCell ⟨G, 2, none⟩ x2).setCell ⟨G, 3, none⟩ x3).setCell ⟨G, 4, none⟩ x4).setCell ⟨G, 5, none⟩ x5).cell? ⟨P + 1 + 1 + 1, 0, none⟩ = some (.slice A9 A10 A11) ∧ ((((((W.setCell ⟨G, 0, none⟩ x0).setCell ⟨G, 1, none⟩ x1).setCell ⟨G, 2, none⟩ x2).setCell ⟨G, 3, none⟩ x3).setCell ⟨G, 4, none⟩ x4).setCell ⟨G, 5, none⟩ x5).cell? ⟨P + 1 + 1 + 1 + 1, 0, none⟩ = some (.slice A12 A13 A14) ∧ ((((((W.setCell ⟨G, 0, none⟩ x0).setCell ⟨G, 1, none⟩ x1).setCell ⟨G, 2, none⟩ x2).setCell ⟨G, 3, none⟩ x3).setCell ⟨G, 4, none⟩ x4).setCell ⟨G, 5, none⟩ x5).cell? ⟨P + 1 + 1, 1, none⟩ = some (.bool D)) := fun W x0 x1 x2 x3 x4 x5 q => by
    obtain ⟨j0, j1, j2, j3, j4, j5⟩ := unhide HC W q
    have g := unhide GR W x0 x1 x2 x3 x4 x5
    exact ⟨g.cell j0 (by simp; omega), g.cell j1 (by simp; omega), g.cell j2 (by simp; omega), g.cell j3 (by simp; omega), g.cell j4 (by simp; omega), g.cell j5 (by simp; omega)⟩
  have GW : G < W0.heap.size := (Array.getElem?_eq_some_iff.1 kR).1
  have HX : Hid (∀ W, Below W0.heap.size W0 W → W.heap[G]? = some (.cells #[.slice none 0 0, .slice none 0 0, .slice none 0 0, .slice none 0 0, .slice none 0 0, .bool false] 105 (0, 0))) := fun W q => (q.block G GW).trans kR
  have Q0 : Hid (∀ W, Below W0.heap.size W0 W → Calls Tryz.prog 104 #[.slice A0 A1 A2, .int .i64 (h : Int)] W fun e w' => ∃ g zs, e = .returned (.slice (some ⟨g, 0, none⟩) h h) ∧ Vb W0.heap.size w' g zs h (a0) ∧ Below W.heap.size W w') := fun W q => by
    refine (wide_new W _ _ _ h (unhide H0) (by omega) (n0.next q)).mono ?_
    rintro e w' ⟨zs, rfl, y1, y2, y3, y4, y5⟩
    exact ⟨_, zs, rfl, ⟨q.size, y1, y2, y3, y4⟩, y5⟩
  have Q1 : Hid (∀ W, Below W0.heap.size W0 W → Calls Tryz.prog 104 #[.slice A3 A4 A5, .int .i64 (H1 : Int)] W fun e w' => ∃ g zs, e = .returned (.slice (some ⟨g, 0, none⟩) H1 H1) ∧ Vb W0.heap.size w' g zs H1 (a0 + a1 + a2) ∧ Below W.heap.size W w') := fun W q => by
    refine (wide_new W _ _ _ H1 (unhide q1) (by omega) (n1.next q)).mono ?_
    rintro e w' ⟨zs, rfl, y1, y2, y3, y4, y5⟩
    exact ⟨_, zs, rfl, ⟨q.size, y1, y2, y3, y4⟩, y5⟩
  have Q2 : Hid (∀ W, Below W0.heap.size W0 W → Calls Tryz.prog 104 #[.slice A6 A7 A8, .int .i64 (H1 : Int)] W fun e w' => ∃ g zs, e = .returned (.slice (some ⟨g, 0, none⟩) H1 H1) ∧ Vb W0.heap.size w' g zs H1 (nd (a0 + a2) a1) ∧ Below W.heap.size W w') := fun W q => by
    refine (wide_new W _ _ _ H1 (unhide qn) (by omega) (n2.next q)).mono ?_
    rintro e w' ⟨zs, rfl, y1, y2, y3, y4, y5⟩
    exact ⟨_, zs, rfl, ⟨q.size, y1, y2, y3, y4⟩, y5⟩
  have Q3 : Hid (∀ W, Below W0.heap.size W0 W → Calls Tryz.prog 104 #[.slice A9 A10 A11, .int .i64 (H1 : Int)] W fun e w' => ∃ g zs, e = .returned (.slice (some ⟨g, 0, none⟩) H1 H1) ∧ Vb W0.heap.size w' g zs H1 (a0 + 2 * a1 + 4 * a2) ∧ Below W.heap.size W w') := fun W q => by
    refine (wide_new W _ _ _ H1 (unhide q2) (by omega) (n3.next q)).mono ?_
    rintro e w' ⟨zs, rfl, y1, y2, y3, y4, y5⟩
    exact ⟨_, zs, rfl, ⟨q.size, y1, y2, y3, y4⟩, y5⟩
  have Q4 : Hid (∀ W, Below W0.heap.size W0 W → Calls Tryz.prog 104 #[.slice A12 A13 A14, .int .i64 (N2 : Int)] W fun e w' => ∃ g zs, e = .returned (.slice (some ⟨g, 0, none⟩) N2 N2) ∧ Vb W0.heap.size w' g zs N2 (a2) ∧ Below W.heap.size W w') := fun W q => by
    refine (wide_new W _ _ _ N2 (unhide H2) (by omega) (n4.next q)).mono ?_
    rintro e w' ⟨zs, rfl, y1, y2, y3, y4, y5⟩
    exact ⟨_, zs, rfl, ⟨q.size, y1, y2, y3, y4⟩, y5⟩
  have HE : Hid (h + 1 = H1 ∧ n - 2 * h = N2) := ⟨hH1, by omega⟩
  have sW0 : Hid (G ≤ W0.heap.size) := Nat.le_of_lt GW
  obtain ⟨p0, p1, p2, p3, p4, p5⟩ := unhide HC _ (Below.refl _ _)
  have bl : Below W0.heap.size W0 W0.drew := (Below.refl _ _).drew
  have GL := hide GW
  clear n0 n1 n2 n3 n4 k0 k1 k2 k3 k4 kR GW hs1 hH1 hK2 hN2 hn h0 hh h3 s1 H0 H2 q1 qn q2 hP hG GP
  go_region_held3 (fun w' => w'.cell? ⟨P, 0, none⟩ = some (.slice A0 A1 A2) ∧ w'.cell? ⟨P + 1, 0, none⟩ = some (.slice A3 A4 A5) ∧ w'.cell? ⟨P + 1 + 1, 0, none⟩ = some (.slice A6 A7 A8) ∧ w'.cell? ⟨P + 1 + 1 + 1, 0, none⟩ = some (.slice A9 A10 A11) ∧ w'.cell? ⟨P + 1 + 1 + 1 + 1, 0, none⟩ = some (.slice A12 A13 A14) ∧ w'.cell? ⟨P + 1 + 1, 1, none⟩ = some (.bool D)) (first | (with_reducible exact unhide HC _ bl) | (with_reducible exact unhide HC2 _ _ _ _ _ _ _ bl) | go_keep) (first
    | (with_reducible refine (unhide Q0 _ bl).mono ?_; rintro e w3 ⟨g0, z0, rfl, t0, bb⟩; have bl := bl.trans (bb.mono bl.size); clear bb; obtain ⟨p0, p1, p2, p3, p4, p5⟩ := unhide HC _ bl)
    | (with_reducible refine (unhide Q1 _ bl).mono ?_; rintro e w4 ⟨g1, z1, rfl, t1, bb⟩; have bl := bl.trans (bb.mono bl.size); have t0 := t0.next bb; clear bb; obtain ⟨p0, p1, p2, p3, p4, p5⟩ := unhide HC _ bl)
    | (with_reducible refine (unhide Q2 _ bl).mono ?_; rintro e w5 ⟨g2, z2, rfl, t2, bb⟩; have bl := bl.trans (bb.mono bl.size); have t0 := t0.next bb; have t1 := t1.next bb; clear bb; obtain ⟨p0, p1, p2, p3, p4, p5⟩ := unhide HC _ bl)
    | (with_reducible refine (unhide Q3 _ bl).mono ?_; rintro e w6 ⟨g3, z3, rfl, t3, bb⟩; have bl := bl.trans (bb.mono bl.size); have t0 := t0.next bb; have t1 := t1.next bb; have t2 := t2.next bb; clear bb; obtain ⟨p0, p1, p2, p3, p4, p5⟩ := unhide HC _ bl)
    | (with_reducible refine (unhide Q4 _ bl).mono ?_; rintro e w7 ⟨g4, z4, rfl, t4, bb⟩; have bl := bl.trans (bb.mono bl.size); have t0 := t0.next bb; have t1 := t1.next bb; have t2 := t2.next bb; have t3 := t3.next bb; clear bb; obtain ⟨p0, p1, p2, p3, p4, p5⟩ := unhide HC _ bl; have kx := unhide HX _ bl; have c0 := cell_of_row _ G 0 _ _ (0, 0) kx; have f0 := frozen_of_row _ G 0 _ _ kx; have c1 := cell_of_row _ G 1 _ _ (0, 0) kx; have f1 := frozen_of_row _ G 1 _ _ kx; have c2 := cell_of_row _ G 2 _ _ (0, 0) kx; have f2 := frozen_of_row _ G 2 _ _ kx; have c3 := cell_of_row _ G 3 _ _ (0, 0) kx; have f3 := frozen_of_row _ G 3 _ _ kx; have c4 := cell_of_row _ G 4 _ _ (0, 0) kx; have f4 := frozen_of_row _ G 4 _ _ kx; have c5 := cell_of_row _ G 5 _ _ (0, 0) kx; have f5 := frozen_of_row _ G 5 _ _ kx; clear kx)
    | fail)
  have gr := unhide GR w7 (.slice (some ⟨g0, 0, none⟩) h h) (.slice (some ⟨g1, 0, none⟩) H1 H1) (.slice (some ⟨g2, 0, none⟩) H1 H1) (.slice (some ⟨g3, 0, none⟩) H1 H1) (.slice (some ⟨g4, 0, none⟩) N2 N2) (.bool D)
  have ng := unhide GL
  have t0 := hide (t0.out (Out.of_grown gr) (fun e => by have := t0.ge; omega))
  have t1 := hide (t1.out (Out.of_grown gr) (fun e => by have := t1.ge; omega))
  have t2 := hide (t2.out (Out.of_grown gr) (fun e => by have := t2.ge; omega))
  have t3 := hide (t3.out (Out.of_grown gr) (fun e => by have := t3.ge; omega))
  have t4 := hide (t4.out (Out.of_grown gr) (fun e => by have := t4.ge; omega))
  have FB := hide (below_grown ((unhide BW).trans (bl.mono (unhide sW0))) gr (Nat.le_refl _) (Nat.le_trans (unhide sW0) bl.size))
  clear gr ng bl p0 p1 p2 p3 p4 p5 Q0 Q1 Q2 Q3 Q4 HC HC2 HX GR
  go_wp2
  refine bodyPost_ret (v := .agg #[.slice (some ⟨g0, 0, none⟩) h h, .slice (some ⟨g1, 0, none⟩) H1 H1, .slice (some ⟨g2, 0, none⟩) H1 H1, .slice (some ⟨g3, 0, none⟩) H1 H1, .slice (some ⟨g4, 0, none⟩) N2 N2, .bool D]) (by simp [results, Tryz.results80, go_sem, c0, c1, c2, c3, c4, c5]) rfl ?_
  refine ⟨_, rfl, ?_, by rw [unhide HG]; exact unhide FB⟩
  obtain ⟨hq1, hq2⟩ := unhide HE
  rw [hq1, hq2, unhide HG]
  exact ⟨⟨g0, g1, g2, g3, g4, z0, z1, z2, z3, z4, by rw [unhide HD], (unhide t0).mono (unhide sW0), (unhide t1).mono (unhide sW0), (unhide t2).mono (unhide sW0), (unhide t3).mono (unhide sW0), (unhide t4).mono (unhide sW0)⟩⟩


end Go.Proofs.YtiekgpphggejcaaGreatDoor
