/- Cut, Lend and Intact: rows cut, lent, and held against what they were. -/
import Derived.Test.YtofgbmfaehnmnaaGreatDoorB7
import Derived.Test.YtofgbmfaehnmnaaGreatDoorB5
import Derived.Laws.CopyOwn
import Derived.Deep.QuietTactic
import Derived.BigQuiet
import Derived.WalkSmall
namespace Go.Proofs.YtofgbmfaehnmnaaGreatDoor
open Go.RowKit

theorem Tryz.sizeU : (Tryz.prog.info? 47).map (·.size) = some 1 := by kernel_rfl

set_option maxHeartbeats 800000 in
theorem cut_any (w : World) (ga : Option Addr) (n cap m k : Nat) (hc : n ≤ cap) (_hm : m ≤ 1073741824) (hk : k = min n m) :
    Calls Tryz.prog 4 #[.slice ga n cap, .int .i64 (m : Int)] w fun e w' => e = .returned (.slice ga k cap) ∧ w' = w := by
  have hcase : (m < n ∧ k = m) ∨ (¬ m < n ∧ k = n) := by omega
  clear hk
  rcases hcase with ⟨h, rfl⟩ | ⟨h, rfl⟩
  · go_enter Tryz.func4, Tryz.ntmps4
    go_wp2
    go_ret
    exact ⟨ret_slice rfl, rfl⟩
  · go_enter Tryz.func4, Tryz.ntmps4
    go_wp2
    go_ret
    exact ⟨ret_slice rfl, rfl⟩

/-- A row of noughts; a row of words: as cells, kept from the walk. -/
def zlist (n : Nat) : List Value := cellsOf (List.replicate n 0)
def crow (xs : List Nat) : List Value := cellsOf xs
theorem zlist_len (n : Nat) : (zlist n).length = n := by simp [zlist, cellsOf]
theorem crow_len (xs : List Nat) : (crow xs).length = xs.length := by simp [crow, cellsOf]
theorem splice_lend (xs : List Nat) (n : Nat) (h : xs.length = n) : splice (zlist (n + 4)) 0 (crow xs) = cellsOf (xs ++ List.replicate 4 0) := by
  simp [splice, zlist, crow, cellsOf, h]
theorem made_zlist (n : Nat) : madeCells (Value.int .u64 0).cells n = (zlist n).toArray := by
  have h := cells_zero n
  have e : (Value.int .u64 0).cells = #[Value.int .u64 0] := rfl
  rw [e, zlist, ← h]

theorem crow_at {w : World} {ga : Option Addr} {b o cap : Nat} {xs : List Nat} (hR : Rep w ga b o cap xs) (ob : Obj) : 0 < (crow xs).length → ∃ ad, ga = some ad ∧ ∀ j v, (crow xs)[j]? = some v → (w.alloc ob).cell? (ad.add j) = some v := by
  intro hp
  rw [crow_len] at hp
  refine ⟨⟨b, o, none⟩, hR.head hp, fun j v hj => ?_⟩
  have hjn : j < xs.length := by
    have := (List.getElem?_eq_some_iff.1 hj).1
    rwa [crow_len] at this
  have ea : (⟨b, o, none⟩ : Addr).add j = ⟨b, o + j, none⟩ := by
    by_cases h0 : j = 0
    · subst h0; simp [Addr.add]
    · simp [Addr.add, h0]
  rw [ea, World.cell?_alloc_past _ _ _ (hR.lt hp), hR.cell j hjn]
  simp [crow, cellsOf, List.getElem?_eq_getElem hjn] at hj
  rw [← hj, getD_lt hjn]

theorem owns_of_block {w : World} {base g n t : Nat} {xs : List Nat} (hg : w.heap[g]? = some (.cells (cellsOf xs).toArray t (0, 0))) (hl : xs.length = n) (hb : base ≤ g) (hn : n ≤ maxLen) : w.ownsRow base t 1 (.slice (some ⟨g, 0, none⟩) n n) n (cellsOf xs) :=
  ⟨by simp [hl], Or.inr ⟨g, n, (cellsOf xs).toArray, rfl, hb, hg, Nat.le_refl _, hn, by simp [hl], by rw [List.take_of_length_le (by simp [hl])]⟩⟩

theorem getD_rep (m j F : Nat) (h : j < m) : (List.replicate m F).getD j 0 = F := by
  simp [List.getD_eq_getElem?_getD, h]

end Go.Proofs.YtofgbmfaehnmnaaGreatDoor

/- More of rows in memory: rows that were cut, lent, or outlive a step. -/
namespace Go.Proofs.YtofgbmfaehnmnaaGreatDoor
open Go.RowKit

theorem cut_rep {w : World} {ga : Option Addr} {b o cap : Nat} {xs : List Nat} (h : Rep w ga b o cap xs) (m k : Nat) (hk : k = min xs.length m) : (xs.take k).length = k ∧ Rep w ga b o cap (xs.take k) := by
  have hl : k ≤ xs.length := by omega
  exact ⟨by simp; omega, h.take k hl⟩

theorem take_words {xs : List Nat} (h : ∀ j, xs.getD j 0 < 18446744073709551616) (k : Nat) : ∀ j, (xs.take k).getD j 0 < 18446744073709551616 := by
  intro j
  simp only [List.getD_eq_getElem?_getD, List.getElem?_take]
  split
  · have := h j; simpa [List.getD_eq_getElem?_getD] using this
  · simp

theorem lent_rep {w : World} {base t g n : Nat} {xs : List Nat} {F : Nat} (h : w.ownsRow base t 1 (.slice (some ⟨g, 0, none⟩) (n + 4) (n + 4)) (n + 4) (cellsOf (xs ++ List.replicate 4 F))) (hl : xs.length = n) : Rep w (some ⟨g, 0, none⟩) g 0 (n + 4) xs ∧ Rep w (some ⟨g, 0, none⟩) g 0 (n + 4) (xs ++ List.replicate 4 F) := by
  have h1 := (rep_of_owns h).2
  refine ⟨?_, h1⟩
  have h2 := h1.take n (by simp; omega)
  rw [List.take_append_of_le_length (by omega), List.take_of_length_le (by omega)] at h2
  exact h2

theorem Rep.next {w w' : World} {ga : Option Addr} {b o cap : Nat} {xs : List Nat} (h : Rep w ga b o cap xs) (hb : Below w.heap.size w w') : Rep w' ga b o cap xs := h.below hb (Nat.le_refl _)

theorem Rep.drew {w : World} {ga : Option Addr} {b o cap : Nat} {xs : List Nat} (h : Rep w ga b o cap xs) : Rep w.drew ga b o cap xs := ⟨h.head, h.room, h.cell⟩
theorem IsN.drew {w : World} {n : Nat} {v : Value} (h : IsN w v n) : IsN w.drew v n := by
  obtain ⟨ga, b, o, cap, xs, hv, hr, hc, hn⟩ := h
  exact ⟨ga, b, o, cap, xs, hv, hr.drew, hc, hn⟩

end Go.Proofs.YtofgbmfaehnmnaaGreatDoor
