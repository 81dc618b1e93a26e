/- Rows of words in memory, as the walks read them. -/
import Derived.Test.YtpifgkhgnilpdaaChecked
import Derived.Test.YtpifgkhgnilpdaaPlain
import Derived.WalkKit
import Derived.Deep.RegionLaw
namespace Go.Proofs.Ytpifgkhgnilpdaa
open Go.RowKit

theorem hide {p : Prop} (h : p) : Hid p := h
theorem unhide {p : Prop} (h : Hid p) : p := h

/-- The slice that begins at 'ga' (where it is not empty: at offset o of block b) holds the words xs; cap: its capacity. -/
structure Rep (w : World) (ga : Option Addr) (b o cap : Nat) (xs : List Nat) : Prop where
  head : 0 < xs.length → ga = some ⟨b, o, none⟩
  room : xs.length ≤ cap
  cell : ∀ j, j < xs.length → w.cell? ⟨b, o + j, none⟩ = some (.int .u64 ((xs.getD j 0 : Nat) : Int))

theorem Rep.lt {w : World} {ga : Option Addr} {b o cap : Nat} {xs : List Nat} (h : Rep w ga b o cap xs) (hl : 0 < xs.length) : b < w.heap.size :=
  World.block_lt_of_cell? _ _ (h.cell 0 hl)

theorem Rep.below {w w' : World} {B : Nat} {ga : Option Addr} {b o cap : Nat} {xs : List Nat} (h : Rep w ga b o cap xs) (hb : Below B w w') (hB : w.heap.size ≤ B) : Rep w' ga b o cap xs :=
  ⟨h.head, h.room, fun j hj => (hb.cell (p := ⟨b, o + j, none⟩) (by have := h.lt (by omega); show b < B; omega)).trans (h.cell j hj)⟩

theorem Rep.nil (w : World) (ga : Option Addr) (b o cap : Nat) : Rep w ga b o cap [] := ⟨fun h => absurd h (by simp), Nat.zero_le _, fun j hj => absurd hj (by simp)⟩

theorem Rep.take {w : World} {ga : Option Addr} {b o cap : Nat} {xs : List Nat} (h : Rep w ga b o cap xs) (k : Nat) (hk : k ≤ xs.length) : Rep w ga b o cap (xs.take k) := by
  have hl : (xs.take k).length = k := by simp; omega
  refine ⟨fun h0 => h.head (by omega), by have := h.room; omega, fun j hj => ?_⟩
  have e : (xs.take k).getD j 0 = xs.getD j 0 := by
    rw [List.getD_eq_getElem?_getD, List.getD_eq_getElem?_getD, List.getElem?_take, if_pos (by omega)]
  rw [e]; exact h.cell j (by omega)

theorem ret_slice {ga : Option Addr} {a b cap : Nat} (h : a = b) : Ending.returned (.slice ga a cap) = .returned (.slice ga b cap) := by rw [h]
theorem ret_int {k : IntKind} {a b : Int} (h : a = b) : Ending.returned (.int k a) = .returned (.int k b) := by rw [h]

/-- Words as cells. -/
abbrev cellsOf (xs : List Nat) : List Value := xs.map (fun x => Value.int .u64 ((x : Nat) : Int))

theorem cells_one (xs : List Nat) : ∀ u ∈ cellsOf xs, u.oneCell' = true := by
  intro u hu
  simp only [cellsOf, List.mem_map] at hu
  obtain ⟨x, _, rfl⟩ := hu
  rfl

/-- Cells that were just laid in a new block lie there. -/
theorem cells_new (w : World) (vs : List Value) (t : TypeId) : ∀ j u, vs[j]? = some u → (w.alloc (.cells vs.toArray t)).cell? ((⟨w.heap.size, 0, none⟩ : Addr).add j) = some u := by
  intro j u h
  have e : (⟨w.heap.size, 0, none⟩ : Addr).add j = ⟨w.heap.size, j, none⟩ := by
    by_cases h0 : j = 0
    · subst h0; simp [Addr.add]
    · simp [Addr.add, h0]
  rw [e]
  simp [h]

theorem rep_of_owns {w : World} {base t g n cap : Nat} {xs : List Nat} (h : w.ownsRow base t 1 (.slice (some ⟨g, 0, none⟩) n cap) n (cellsOf xs)) : xs.length = n ∧ Rep w (some ⟨g, 0, none⟩) g 0 cap xs := by
  have hl : xs.length = n := by simpa using h.1
  refine ⟨hl, fun _ => rfl, ?_, fun j hj => ?_⟩
  · rcases h.2 with ⟨h, _⟩ | ⟨g', cap', cur, hv, _, _, hr, _⟩
    · cases h
    · cases hv; omega
  · rw [Nat.zero_add, h.cellAt j (by omega)]
    simp [List.getElem?_eq_getElem hj]

/-- append within the capacity of a row of the call's own, as one step of a region that draws. -/
theorem step_append_fits {P : Program} {ops : Array Oper} {o : Oper} {a : Act} {w : World} {K : Act → World → Prop} {Q : Exit → Act → World → Prop} {E : Prop}
    (hg : o.guard = none) (s x : Operand) (t : TypeId) (hop : o.op = Op.call { callee := Callee.builtin Builtin.append, args := #[s, x], argTypes := #[t, t] })
    (base : Nat) (e : TypeId) (i : TypeInfo) (size : Nat) (h1 : P.underlying t = some (.slice e)) (h2 : P.info? e = some i) (h4 : i.size = size)
    (g k cap : Nat) (xs : List Value) (hs : a.eval s = .slice (some ⟨g, 0, none⟩) k cap) (hown : w.ownsRow base e size (.slice (some ⟨g, 0, none⟩) k cap) k xs) (ad : Addr) (m c : Nat) (news : List Value) (hx : a.eval x = .slice (some ad) m c) (hn : news.length = m * size)
    (hc : ∀ j u, news[j]? = some u → w.cell? (ad.add j) = some u) (h1c : ∀ u ∈ news, u.oneCell' = true) (b1 : k + m ≤ cap)
    (hK : ∀ w', w'.ownsRow base e size (.slice (some ⟨g, 0, none⟩) (k + m) cap) (k + m) (xs ++ news) → w.grownBy w' (some g) → K (a.put o.dst (.slice (some ⟨g, 0, none⟩) (k + m) cap)) w') :
    if Region.wanted o (yielded ops a.tmps) = true then Oper.wp P o a w K Q else E := by
  have hw : Region.wanted o (yielded ops a.tmps) = true := by simp [Region.wanted, hg]
  rw [if_pos hw]
  obtain ⟨w', hrun, r1, r2⟩ := run_append_fits (P := P) w base t o.type e i size h1 h2 h4 g k cap xs hown ad m c news hn hc h1c b1
  unfold Oper.wp
  simp [execOp, hop, resolve, invoke, builtin, hs, hx, hrun, Result.andThen]
  exact hK w' r1 r2

/-- A natural of the reference: canonical digits in memory. -/
def IsN (w : World) (v : Value) (n : Nat) : Prop := ∃ ga b o cap xs, v = .slice ga xs.length cap ∧ Rep w ga b o cap xs ∧ Can xs ∧ val xs = n

theorem IsN.below {w w' : World} {B n : Nat} {v : Value} (h : IsN w v n) (hb : Below B w w') (hB : w.heap.size ≤ B) : IsN w' v n := by
  obtain ⟨ga, b, o, cap, xs, hv, hr, hc, hn⟩ := h
  exact ⟨ga, b, o, cap, xs, hv, hr.below hb hB, hc, hn⟩

theorem IsN.next {w w' : World} {n : Nat} {v : Value} (h : IsN w v n) (hb : Below w.heap.size w w') : IsN w' v n := h.below hb (Nat.le_refl _)
theorem bstep {w w1 w2 : World} (h : Below w.heap.size w w1) (k : Below w1.heap.size w1 w2) : Below w.heap.size w w2 := h.trans (k.mono h.size)

end Go.Proofs.Ytpifgkhgnilpdaa
