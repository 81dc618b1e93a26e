/- Least: a table by its entries in their order. -/
import Derived.Test.YtpaeihaiaegoeabRCost
import Derived.Test.YtpaeihaiaegoeabIRow
import Derived.Laws.CopyOwn
namespace Go.Proofs.Ytpaeihaiaegoeab
open Go.RowKit

/-- The j-th of so many numbers; those that are missing are 0. -/
def ent (len : Nat) (zs : Nat → Int) (j : Nat) : Int := if j < len then zs j else 0
/-- The table with these entries. -/
def leastT (len : Nat) (zs : Nat → Int) : Tab := ⟨ent len zs 0, ent len zs 1, ent len zs 2, ent len zs 3, ent len zs 4, ent len zs 5, ent len zs 6, ent len zs 7, ent len zs 8, ent len zs 9, ent len zs 10⟩

/-- Eleven noughts. -/
def noughts : List Value := [.int .i64 0, .int .i64 0, .int .i64 0, .int .i64 0, .int .i64 0, .int .i64 0, .int .i64 0, .int .i64 0, .int .i64 0, .int .i64 0, .int .i64 0]
/-- The first k numbers as values. -/
def firsts (k : Nat) (zs : Nat → Int) : List Value := (List.range k).map fun j => .int .i64 (zs j)
theorem firsts_len (k : Nat) (zs : Nat → Int) : (firsts k zs).length = k := by simp [firsts]
theorem firsts_at {k : Nat} {zs : Nat → Int} {j : Nat} (h : j < k) : (firsts k zs)[j]? = some (.int .i64 (zs j)) := by simp [firsts, h]
theorem firsts_one (k : Nat) (zs : Nat → Int) : ∀ v ∈ firsts k zs, v.oneCell' = true := fun v hv => by
  simp only [firsts, List.mem_map] at hv
  obtain ⟨j, _, rfl⟩ := hv
  rfl
theorem noughts_at {j : Nat} (h : j < 11) : noughts[j]? = some (.int .i64 0) := by
  have : j = 0 ∨ j = 1 ∨ j = 2 ∨ j = 3 ∨ j = 4 ∨ j = 5 ∨ j = 6 ∨ j = 7 ∨ j = 8 ∨ j = 9 ∨ j = 10 := by omega
  rcases this with rfl | rfl | rfl | rfl | rfl | rfl | rfl | rfl | rfl | rfl | rfl <;> rfl
theorem spliced_at (len : Nat) (zs : Nat → Int) {j : Nat} (h : j < 11) : (splice noughts 0 (firsts (min len 11) zs)).toArray[j]? = some (.int .i64 (ent len zs j)) := by
  unfold splice ent
  simp only [List.take_zero, List.nil_append, Nat.zero_add, firsts_len, List.getElem?_toArray]
  by_cases hj : j < len
  · rw [if_pos hj, List.getElem?_append_left (by rw [firsts_len]; omega)]
    exact firsts_at (by omega)
  · rw [if_neg hj, List.getElem?_append_right (by rw [firsts_len]; omega), firsts_len, List.getElem?_drop]
    rw [show min len 11 + (j - min len 11) = j from by omega]
    exact noughts_at h

theorem sizeInt : (Try.prog.info? 3).map (·.size) = some 1 := by kernel_rfl

theorem firsts_src {w W : World} {ga : Option Addr} {b o len : Nat} {zs : Nat → Int} (hr : IRow w ga b o len zs) (hb : Below w.heap.size w W) (h : 0 < (firsts (min len 11) zs).length) :
    ∃ ad, ga = some ad ∧ ∀ j v, (firsts (min len 11) zs)[j]? = some v → W.cell? (ad.add j) = some v := by
  rw [firsts_len] at h
  refine ⟨⟨b, o, none⟩, hr.head (by omega), fun j v hv => ?_⟩
  have hj : j < min len 11 := by
    have := (List.getElem?_eq_some_iff.1 hv).1
    rwa [firsts_len] at this
  rw [firsts_at hj] at hv
  cases hv
  have e : (⟨b, o, none⟩ : Addr).add j = ⟨b, o + j, none⟩ := by simp [Addr.add]
  rw [e]
  exact (hb.cell (p := ⟨b, o + j, none⟩) (hr.lt (by omega))).trans (hr.cell j (by omega))

/-- A table that is being filled: the first k entries are in. -/
structure Filling (w wr : World) (g : Nat) (zs : Nat → Int) (k : Nat) : Prop where
  cell : ∀ j, j < 11 → wr.cell? ⟨g, j, none⟩ = some (.int .i64 (if j < k then zs j else 0))
  froz : ∀ j, wr.frozen? ⟨g, j, none⟩ = false
  tab : wr.heap[w.heap.size]? = some (.cells #[.int .i64 0, .int .i64 0, .int .i64 0, .int .i64 0, .int .i64 0, .int .i64 0, .int .i64 0, .int .i64 0, .int .i64 0, .int .i64 0, .int .i64 0] 23 (0, 0))
  old : Below w.heap.size w wr
theorem Filling.step {w wr : World} {g : Nat} {zs : Nat → Int} {k : Nat} (h : Filling w wr g zs k) (hk : k < 11) (hg : w.heap.size < g) : Filling w (wr.setCell ⟨g, k, none⟩ (.int .i64 (zs k))) g zs (k + 1) :=
  ⟨fun j hj => by
    by_cases e : j = k
    · subst e
      rw [if_pos (by omega)]
      exact World.cell?_setCell_same _ _ _ (h.cell j hk)
    · rw [World.cell?_setCell_other _ _ _ _ (by intro e2; injection e2; omega), h.cell j hj]
      by_cases hjk : j < k
      · rw [if_pos hjk, if_pos (by omega)]
      · rw [if_neg hjk, if_neg (by omega)],
    fun j => by simp [h.froz j], (heap_setCell_other wr ⟨g, k, none⟩ w.heap.size _ (by simp; omega)).trans h.tab, h.old.setCell (Nat.le_of_lt hg) _⟩

set_option maxRecDepth 100000 in
set_option maxHeartbeats 1600000 in
theorem tLeast_any (w : World) (ga : Option Addr) (b o len cap : Nat) (zs : Nat → Int) (hr : IRow w ga b o len zs) :
    Calls Try.prog 15 #[.slice ga len cap] w fun e w' => e = .returned (leastT len zs).val ∧ Below w.heap.size w w' := by
  have HS := hide (fun j h => spliced_at len zs (j := j) h)
  have HR := hide hr
  clear hr
  obtain ⟨V, hV⟩ : ∃ V, (leastT len zs).val = V := ⟨_, rfl⟩
  rw [hV]
  have EL : Hid (Tab.val ⟨ent len zs 0, ent len zs 1, ent len zs 2, ent len zs 3, ent len zs 4, ent len zs 5, ent len zs 6, ent len zs 7, ent len zs 8, ent len zs 9, ent len zs 10⟩ = V) := by rw [← hV]; rfl
  clear hV
  obtain ⟨W, hW⟩ : ∃ W, (w.alloc (.cells #[.int .i64 0, .int .i64 0, .int .i64 0, .int .i64 0, .int .i64 0, .int .i64 0, .int .i64 0, .int .i64 0, .int .i64 0, .int .i64 0, .int .i64 0] 23)).alloc (.cells #[.int .i64 0, .int .i64 0, .int .i64 0, .int .i64 0, .int .i64 0, .int .i64 0, .int .i64 0, .int .i64 0, .int .i64 0, .int .i64 0, .int .i64 0] 51) = W := ⟨_, rfl⟩
  have BW : Hid (Below w.heap.size w W) := by rw [← hW]; exact ((Below.refl _ _).alloc (Nat.le_refl _) _).alloc (by simp) _
  have TZ : Hid (W.heap[w.heap.size]? = some (.cells #[.int .i64 0, .int .i64 0, .int .i64 0, .int .i64 0, .int .i64 0, .int .i64 0, .int .i64 0, .int .i64 0, .int .i64 0, .int .i64 0, .int .i64 0] 23 (0, 0))) := by
    rw [← hW]
    exact (Below.heap_alloc _ _ w.heap.size (by simp)).trans (heap_alloc_new w _)
  have TE : Hid (W.heap[w.heap.size + 1]? = some (.cells noughts.toArray 51 (0, 0))) := by
    rw [← hW]
    have := heap_alloc_new (w.alloc (.cells #[.int .i64 0, .int .i64 0, .int .i64 0, .int .i64 0, .int .i64 0, .int .i64 0, .int .i64 0, .int .i64 0, .int .i64 0, .int .i64 0, .int .i64 0] 23)) (.cells noughts.toArray 51)
    rwa [show (w.alloc (.cells #[.int .i64 0, .int .i64 0, .int .i64 0, .int .i64 0, .int .i64 0, .int .i64 0, .int .i64 0, .int .i64 0, .int .i64 0, .int .i64 0, .int .i64 0] 23)).heap.size = w.heap.size + 1 from by simp] at this
  go_enter Try.func15, Try.ntmps15
  go_wp2_with (refine wpList_copy_splice rfl _ _ 50 50 rfl 3 Try.underlying50 sizeInt _ _ 11 11 len cap rfl rfl (w.heap.size + 1) 0 noughts 51 (unhide TE) (firsts (min len 11) zs) (firsts_len _ _) (fun h => ⟨rfl, firsts_src (unhide HR) (unhide BW) h⟩) (by rw [firsts_len]; show 0 + min len 11 ≤ 11; omega) (firsts_one _ _) (w.heap.size + 1) W (Below.refl _ _) (Nat.le_refl _) ?_)
  intro w2 hblk hb2
  have cc : ∀ j, j < 11 → w2.cell? ⟨w.heap.size + 1, j, none⟩ = some (.int .i64 (ent len zs j)) := fun j hj => (cell_of_row _ _ j _ _ _ hblk.out).trans (unhide HS j hj)
  have d0 := cc 0 (by omega)
  have d1 := cc 1 (by omega)
  have d2 := cc 2 (by omega)
  have d3 := cc 3 (by omega)
  have d4 := cc 4 (by omega)
  have d5 := cc 5 (by omega)
  have d6 := cc 6 (by omega)
  have d7 := cc 7 (by omega)
  have d8 := cc 8 (by omega)
  have d9 := cc 9 (by omega)
  have d10 := cc 10 (by omega)
  have TZ2 := (hb2.block w.heap.size (by omega)).trans (unhide TZ)
  have BB := hide ((unhide BW).trans (hb2.mono (by omega)))
  obtain ⟨g, hg⟩ : ∃ g, w.heap.size = g := ⟨_, rfl⟩
  have HG := hide hg
  rw [hg] at d0 d1 d2 d3 d4 d5 d6 d7 d8 d9 d10 TZ2
  have z0 : w2.cell? ⟨g, 0, none⟩ = some (.int .i64 0) := cell_of_row _ _ 0 _ _ _ TZ2
  have z1 : w2.cell? ⟨g, 1, none⟩ = some (.int .i64 0) := cell_of_row _ _ 1 _ _ _ TZ2
  have z2 : w2.cell? ⟨g, 2, none⟩ = some (.int .i64 0) := cell_of_row _ _ 2 _ _ _ TZ2
  have z3 : w2.cell? ⟨g, 3, none⟩ = some (.int .i64 0) := cell_of_row _ _ 3 _ _ _ TZ2
  have z4 : w2.cell? ⟨g, 4, none⟩ = some (.int .i64 0) := cell_of_row _ _ 4 _ _ _ TZ2
  have z5 : w2.cell? ⟨g, 5, none⟩ = some (.int .i64 0) := cell_of_row _ _ 5 _ _ _ TZ2
  have z6 : w2.cell? ⟨g, 6, none⟩ = some (.int .i64 0) := cell_of_row _ _ 6 _ _ _ TZ2
  have z7 : w2.cell? ⟨g, 7, none⟩ = some (.int .i64 0) := cell_of_row _ _ 7 _ _ _ TZ2
  have z8 : w2.cell? ⟨g, 8, none⟩ = some (.int .i64 0) := cell_of_row _ _ 8 _ _ _ TZ2
  have z9 : w2.cell? ⟨g, 9, none⟩ = some (.int .i64 0) := cell_of_row _ _ 9 _ _ _ TZ2
  have z10 : w2.cell? ⟨g, 10, none⟩ = some (.int .i64 0) := cell_of_row _ _ 10 _ _ _ TZ2
  have zf : ∀ j, w2.frozen? ⟨g, j, none⟩ = false := fun j => frozen_of_row _ g j _ _ TZ2
  generalize ent len zs 0 = y0 at *
  generalize ent len zs 1 = y1 at *
  generalize ent len zs 2 = y2 at *
  generalize ent len zs 3 = y3 at *
  generalize ent len zs 4 = y4 at *
  generalize ent len zs 5 = y5 at *
  generalize ent len zs 6 = y6 at *
  generalize ent len zs 7 = y7 at *
  generalize ent len zs 8 = y8 at *
  generalize ent len zs 9 = y9 at *
  generalize ent len zs 10 = y10 at *
  clear cc hblk hb2 HS TE BW TZ HR hW TZ2
  go_wp2
  refine bodyPost_ret (v := .agg #[.int .i64 y0, .int .i64 y1, .int .i64 y2, .int .i64 y3, .int .i64 y4, .int .i64 y5, .int .i64 y6, .int .i64 y7, .int .i64 y8, .int .i64 y9, .int .i64 y10]) (by simp [results, Try.results15, go_sem, hg, z0, z1, z2, z3, z4, z5, z6, z7, z8, z9, z10]) rfl ⟨by rw [← unhide EL]; rfl, ?_⟩
  iterate 11 refine Below.setCell ?_ (Nat.le_of_eq (unhide HG)) _
  exact unhide BB

end Go.Proofs.Ytpaeihaiaegoeab
