/- Rows of words in blocks of their own, as limb's walks read them. -/
import Derived.Test.YtpifgkhgnilpdaaRowRep2
import Derived.Test.YtpifgkhgnilpdaaGrow
import Derived.Test.YtpifgkhgnilpdaaWPlain
namespace Go.Proofs.Ytpifgkhgnilpdaa
open Go.RowKit

/-- Block g holds the words zs, and nothing else. -/
def Blk (w : World) (g : Nat) (zs : List Nat) : Prop := w.heap[g]? = some (.cells (cellsOf zs).toArray 22 (0, 0))

theorem Blk.lt {w : World} {g : Nat} {zs : List Nat} (h : Blk w g zs) : g < w.heap.size := (Array.getElem?_eq_some_iff.1 h).1
theorem Blk.cell {w : World} {g : Nat} {zs : List Nat} (h : Blk w g zs) (j : Nat) (hj : j < zs.length) : w.cell? ⟨g, j, none⟩ = some (.int .u64 ((zs.getD j 0 : Nat) : Int)) := by
  rw [cell_of_row w g j _ _ (0, 0) h]
  simp [cellsOf, hj]
theorem Blk.frozen {w : World} {g : Nat} {zs : List Nat} (h : Blk w g zs) (j : Nat) : w.frozen? ⟨g, j, none⟩ = false := frozen_of_row w g j _ _ h
theorem Blk.set {w : World} {g : Nat} {zs : List Nat} (h : Blk w g zs) (k d : Nat) : Blk (w.setCell ⟨g, k, none⟩ (.int .u64 ((d : Nat) : Int))) g (zs.set k d) := by
  have := heap_setCell_same w g k _ _ (.int .u64 ((d : Nat) : Int)) h
  show _ = _
  rw [this]
  simp [cellsOf, List.map_set]
theorem Blk.below {w w' : World} {B g : Nat} {zs : List Nat} (h : Blk w g zs) (hb : Below B w w') (hg : g < B) : Blk w' g zs := (hb.block g hg).trans h
theorem Blk.next {w w' : World} {g : Nat} {zs : List Nat} (h : Blk w g zs) (hb : Below w.heap.size w w') : Blk w' g zs := h.below hb h.lt
theorem Blk.but {w w' : World} {g k : Nat} {zs : List Nat} (h : Blk w g zs) (hb : w.grownBy w' (some k)) (hk : g ≠ k) : Blk w' g zs := (hb.block g h.lt (fun e => hk (Option.some.inj e))).trans h
theorem Blk.drewN {w : World} {g : Nat} {zs : List Nat} (h : Blk w g zs) (n : Nat) : Blk (w.drewN n) g zs := h
theorem Blk.rep {w : World} {g : Nat} {zs : List Nat} (h : Blk w g zs) (o n cap : Nat) (hn : o + n ≤ zs.length) (hc : n ≤ cap) : Rep w (some ⟨g, o, none⟩) g o cap ((zs.drop o).take n) := by
  have hl : ((zs.drop o).take n).length = n := by simp; omega
  refine ⟨fun _ => rfl, by omega, fun j hj => ?_⟩
  rw [hl] at hj
  rw [h.cell (o + j) (by omega)]
  have e : ((zs.drop o).take n).getD j 0 = zs.getD (o + j) 0 := by
    simp [List.getD_eq_getElem?_getD, hj]
  rw [e]

theorem Rep.but {w w' : World} {ga : Option Addr} {b o cap k : Nat} {xs : List Nat} (h : Rep w ga b o cap xs) (hb : w.grownBy w' (some k)) (hk : 0 < xs.length → b ≠ k) : Rep w' ga b o cap xs :=
  ⟨h.head, h.room, fun j hj => hb.cell (h.cell j hj) (fun e => hk (by omega) (Option.some.inj e))⟩
theorem IsN.but {w w' : World} {v : Value} {n k : Nat} (h : IsN w v n) (hb : w.grownBy w' (some k)) (hk : ∀ ga b o cap xs, v = .slice ga xs.length cap → Rep w ga b o cap xs → 0 < xs.length → b ≠ k) : IsN w' v n := by
  obtain ⟨ga, b, o, cap, xs, rfl, hr, hc, hv⟩ := h
  exact ⟨ga, b, o, cap, xs, rfl, hr.but hb (hk ga b o cap xs rfl hr), hc, hv⟩

/-- A row that comes in: any words, noughts on top too; n is what they say. -/
def InW (w : World) (v : Value) (n : Nat) : Prop := ∃ ga b o cap xs, v = .slice ga xs.length cap ∧ Rep w ga b o cap xs ∧ WDig xs ∧ wval xs = n ∧ xs.length ≤ 1073741824
/-- A natural as limb answers it: nil, or its words, none of them a nought on top, at the head of a block of its own, which is not below B. -/
def NewW (B : Nat) (w : World) (v : Value) (n : Nat) : Prop :=
  ∃ xs, WCan xs ∧ wval xs = n ∧ ((v = .slice none 0 0 ∧ xs = []) ∨ ∃ g ys, B ≤ g ∧ v = .slice (some ⟨g, 0, none⟩) xs.length (xs ++ ys).length ∧ Blk w g (xs ++ ys) ∧ xs.length + ys.length ≤ 1099511627776)

theorem InW.next {w w' : World} {v : Value} {n : Nat} (h : InW w v n) (hb : Below w.heap.size w w') : InW w' v n := by
  obtain ⟨ga, b, o, cap, xs, rfl, hr, hd, hv, hl⟩ := h
  exact ⟨ga, b, o, cap, xs, rfl, hr.next hb, hd, hv, hl⟩
theorem NewW.next {B : Nat} {w w' : World} {v : Value} {n : Nat} (h : NewW B w v n) (hb : Below w.heap.size w w') : NewW B w' v n := by
  obtain ⟨xs, hc, hv, h | ⟨g, ys, hg, rfl, hk, hl⟩⟩ := h
  · exact ⟨xs, hc, hv, Or.inl h⟩
  · exact ⟨xs, hc, hv, Or.inr ⟨g, ys, hg, rfl, hk.next hb, hl⟩⟩
theorem NewW.mono {B B' : Nat} {w : World} {v : Value} {n : Nat} (h : NewW B w v n) (hb : B' ≤ B) : NewW B' w v n := by
  obtain ⟨xs, hc, hv, h | ⟨g, ys, hg, rfl, hk, hl⟩⟩ := h
  · exact ⟨xs, hc, hv, Or.inl h⟩
  · exact ⟨xs, hc, hv, Or.inr ⟨g, ys, Nat.le_trans hb hg, rfl, hk, hl⟩⟩
/-- What limb answers may be handed in. -/
theorem NewW.rep {B : Nat} {w : World} {v : Value} {n : Nat} (h : NewW B w v n) : ∃ ga b cap xs, v = .slice ga xs.length cap ∧ Rep w ga b 0 cap xs ∧ WCan xs ∧ wval xs = n ∧ (0 < xs.length → B ≤ b) := by
  obtain ⟨xs, hc, hv, ⟨rfl, rfl⟩ | ⟨g, ys, hg, rfl, hk, hl⟩⟩ := h
  · exact ⟨none, 0, 0, [], rfl, Rep.nil _ _ _ _ _, hc, hv, fun h => absurd h (by simp)⟩
  · have := hk.rep 0 xs.length (xs ++ ys).length (by simp) (by simp)
    rw [List.drop_zero, List.take_left] at this
    exact ⟨_, g, _, xs, rfl, this, hc, hv, fun _ => hg⟩
theorem NewW.toIn {B : Nat} {w : World} {v : Value} {n p : Nat} (h : NewW B w v n) (hn : n < 18446744073709551616 ^ p) (hp : p ≤ 1073741824) : InW w v n := by
  obtain ⟨ga, b, cap, xs, rfl, hr, hc, hv, _⟩ := h.rep
  exact ⟨ga, b, 0, cap, xs, rfl, hr, hc.1, hv, by have := wlen_le hc (L := p) (by rw [hv]; exact hn); omega⟩
theorem newW_nil (B : Nat) (w : World) : NewW B w (.slice none 0 0) 0 := ⟨[], wCan_nil, rfl, Or.inl ⟨rfl, rfl⟩⟩
/-- A row in a block of its own, trimmed. -/
theorem newW_blk {B : Nat} {w : World} {g : Nat} {zs : List Nat} (hg : B ≤ g) (h : Blk w g zs) (hd : WDig zs) (hl : zs.length ≤ 1099511627776) : NewW B w (.slice (some ⟨g, 0, none⟩) (nlen zs zs.length) zs.length) (wval zs) := by
  refine ⟨nrm zs, nrm_wcan hd, nrm_wval zs, Or.inr ⟨g, zs.drop (nlen zs zs.length), hg, ?_, ?_, ?_⟩⟩
  · rw [nrm_length]; congr 1; unfold nrm; rw [List.take_append_drop]
  · unfold nrm; rw [List.take_append_drop]; exact h
  · rw [nrm_length]; have := nlen_le zs zs.length; simp; omega

end Go.Proofs.Ytpifgkhgnilpdaa
