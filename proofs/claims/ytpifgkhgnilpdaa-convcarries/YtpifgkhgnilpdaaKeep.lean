/- Cut, Lend and Intact: rows cut, lent, and held against what they were. -/
import Derived.Test.YtpifgkhgnilpdaaTwice
import Derived.Test.YtpifgkhgnilpdaaMul
import Derived.Laws.CopyOwn
import Derived.Deep.QuietTactic
import Derived.BigQuiet
import Derived.WalkSmall
namespace Go.Proofs.Ytpifgkhgnilpdaa
open Go.RowKit

theorem Try.sizeU : (Try.prog.info? 22).map (·.size) = some 1 := by kernel_rfl

set_option maxHeartbeats 800000 in
theorem cut_any (w : World) (ga : Option Addr) (n cap m k : Nat) (hc : n ≤ cap) (_hm : m ≤ 1073741824) (hk : k = min n m) :
    Calls Try.prog 13 #[.slice ga n cap, .int .i64 (m : Int)] w fun e w' => e = .returned (.slice ga k cap) ∧ w' = w := by
  have hcase : (m < n ∧ k = m) ∨ (¬ m < n ∧ k = n) := by omega
  clear hk
  rcases hcase with ⟨h, rfl⟩ | ⟨h, rfl⟩
  · go_enter Try.func13, Try.ntmps13
    go_wp2
    go_ret
    exact ⟨ret_slice rfl, rfl⟩
  · go_enter Try.func13, Try.ntmps13
    go_wp2
    go_ret
    exact ⟨ret_slice rfl, rfl⟩

/-- A row of noughts; a row of words: as cells, kept from the walk. -/
def zlist (n : Nat) : List Value := cellsOf (List.replicate n 0)
def crow (xs : List Nat) : List Value := cellsOf xs
theorem zlist_len (n : Nat) : (zlist n).length = n := by simp [zlist, cellsOf]
theorem crow_len (xs : List Nat) : (crow xs).length = xs.length := by simp [crow, cellsOf]
theorem splice_lend (xs : List Nat) (n : Nat) (h : xs.length = n) : splice (zlist (n + 4)) 0 (crow xs) = cellsOf (xs ++ List.replicate 4 0) := by
  simp [splice, zlist, crow, cellsOf, h]
theorem made_zlist (n : Nat) : madeCells (Value.int .u64 0).cells n = (zlist n).toArray := by
  have h := cells_zero n
  have e : (Value.int .u64 0).cells = #[Value.int .u64 0] := rfl
  rw [e, zlist, ← h]

theorem crow_at {w : World} {ga : Option Addr} {b o cap : Nat} {xs : List Nat} (hR : Rep w ga b o cap xs) (ob : Obj) : 0 < (crow xs).length → ∃ ad, ga = some ad ∧ ∀ j v, (crow xs)[j]? = some v → (w.alloc ob).cell? (ad.add j) = some v := by
  intro hp
  rw [crow_len] at hp
  refine ⟨⟨b, o, none⟩, hR.head hp, fun j v hj => ?_⟩
  have hjn : j < xs.length := by
    have := (List.getElem?_eq_some_iff.1 hj).1
    rwa [crow_len] at this
  have ea : (⟨b, o, none⟩ : Addr).add j = ⟨b, o + j, none⟩ := by
    by_cases h0 : j = 0
    · subst h0; simp [Addr.add]
    · simp [Addr.add, h0]
  rw [ea, World.cell?_alloc_past _ _ _ (hR.lt hp), hR.cell j hjn]
  simp [crow, cellsOf, List.getElem?_eq_getElem hjn] at hj
  rw [← hj, getD_lt hjn]

theorem owns_of_block {w : World} {base g n t : Nat} {xs : List Nat} (hg : w.heap[g]? = some (.cells (cellsOf xs).toArray t (0, 0))) (hl : xs.length = n) (hb : base ≤ g) (hn : n ≤ maxLen) : w.ownsRow base t 1 (.slice (some ⟨g, 0, none⟩) n n) n (cellsOf xs) :=
  ⟨by simp [hl], Or.inr ⟨g, n, (cellsOf xs).toArray, rfl, hb, hg, Nat.le_refl _, hn, by simp [hl], by rw [List.take_of_length_le (by simp [hl])]⟩⟩

theorem getD_rep (m j F : Nat) (h : j < m) : (List.replicate m F).getD j 0 = F := by
  simp [List.getD_eq_getElem?_getD, h]

end Go.Proofs.Ytpifgkhgnilpdaa
