/- Rows of words in memory, as the walks read them. -/
import Derived.Test.YtmkcklgmdkkmdaaDoorChecked
import Derived.Test.YtmkcklgmdkkmdaaDoorM1
import Derived.WalkKit
import Derived.Deep.RegionLaw
namespace Go.Proofs.YtmkcklgmdkkmdaaDoor
open Go.RowKit

theorem hide {p : Prop} (h : p) : Hid p := h
theorem unhide {p : Prop} (h : Hid p) : p := h

/-- The slice that begins at 'ga' (where it is not empty: at offset o of block b) holds the words xs; cap: its capacity. -/
structure Rep (w : World) (ga : Option Addr) (b o cap : Nat) (xs : List Nat) : Prop where
  head : 0 < xs.length → ga = some ⟨b, o, none⟩
  room : xs.length ≤ cap
  cell : ∀ j, j < xs.length → w.cell? ⟨b, o + j, none⟩ = some (.int .u64 ((xs.getD j 0 : Nat) : Int))

theorem Rep.lt {w : World} {ga : Option Addr} {b o cap : Nat} {xs : List Nat} (h : Rep w ga b o cap xs) (hl : 0 < xs.length) : b < w.heap.size :=
  World.block_lt_of_cell? _ _ (h.cell 0 hl)

theorem Rep.below {w w' : World} {B : Nat} {ga : Option Addr} {b o cap : Nat} {xs : List Nat} (h : Rep w ga b o cap xs) (hb : Below B w w') (hB : w.heap.size ≤ B) : Rep w' ga b o cap xs :=
  ⟨h.head, h.room, fun j hj => (hb.cell (p := ⟨b, o + j, none⟩) (by have := h.lt (by omega); show b < B; omega)).trans (h.cell j hj)⟩

theorem Rep.nil (w : World) (ga : Option Addr) (b o cap : Nat) : Rep w ga b o cap [] := ⟨fun h => absurd h (by simp), Nat.zero_le _, fun j hj => absurd hj (by simp)⟩

theorem Rep.take {w : World} {ga : Option Addr} {b o cap : Nat} {xs : List Nat} (h : Rep w ga b o cap xs) (k : Nat) (hk : k ≤ xs.length) : Rep w ga b o cap (xs.take k) := by
  have hl : (xs.take k).length = k := by simp; omega
  refine ⟨fun h0 => h.head (by omega), by have := h.room; omega, fun j hj => ?_⟩
  have e : (xs.take k).getD j 0 = xs.getD j 0 := by
    rw [List.getD_eq_getElem?_getD, List.getD_eq_getElem?_getD, List.getElem?_take, if_pos (by omega)]
  rw [e]; exact h.cell j (by omega)

theorem ret_slice {ga : Option Addr} {a b cap : Nat} (h : a = b) : Ending.returned (.slice ga a cap) = .returned (.slice ga b cap) := by rw [h]
theorem ret_int {k : IntKind} {a b : Int} (h : a = b) : Ending.returned (.int k a) = .returned (.int k b) := by rw [h]

/-- Words as cells. -/
abbrev cellsOf (xs : List Nat) : List Value := xs.map (fun x => Value.int .u64 ((x : Nat) : Int))

theorem cells_one (xs : List Nat) : ∀ u ∈ cellsOf xs, u.oneCell' = true := by
  intro u hu
  simp only [cellsOf, List.mem_map] at hu
  obtain ⟨x, _, rfl⟩ := hu
  rfl

/-- Cells that were just laid in a new block lie there. -/
theorem cells_new (w : World) (vs : List Value) (t : TypeId) : ∀ j u, vs[j]? = some u → (w.alloc (.cells vs.toArray t)).cell? ((⟨w.heap.size, 0, none⟩ : Addr).add j) = some u := by
  intro j u h
  have e : (⟨w.heap.size, 0, none⟩ : Addr).add j = ⟨w.heap.size, j, none⟩ := by
    by_cases h0 : j = 0
    · subst h0; simp [Addr.add]
    · simp [Addr.add, h0]
  rw [e]
  simp [h]

theorem rep_of_owns {w : World} {base t g n cap : Nat} {xs : List Nat} (h : w.ownsRow base t 1 (.slice (some ⟨g, 0, none⟩) n cap) n (cellsOf xs)) : xs.length = n ∧ Rep w (some ⟨g, 0, none⟩) g 0 cap xs := by
  have hl : xs.length = n := by simpa using h.1
  refine ⟨hl, fun _ => rfl, ?_, fun j hj => ?_⟩
  · rcases h.2 with ⟨h, _⟩ | ⟨g', cap', cur, hv, _, _, hr, _⟩
    · cases h
    · cases hv; omega
  · rw [Nat.zero_add, h.cellAt j (by omega)]
    simp [List.getElem?_eq_getElem hj]

/-- append within the capacity of a row of the call's own, as one step of a region that draws. -/
theorem step_append_fits {P : Program} {ops : Array Oper} {o : Oper} {a : Act} {w : World} {K : Act → World → Prop} {Q : Exit → Act → World → Prop} {E : Prop}
    (hg : o.guard = none) (s x : Operand) (t : TypeId) (hop : o.op = Op.call { callee := Callee.builtin Builtin.append, args := #[s, x], argTypes := #[t, t] })
    (base : Nat) (e : TypeId) (i : TypeInfo) (size : Nat) (h1 : P.underlying t = some (.slice e)) (h2 : P.info? e = some i) (h4 : i.size = size)
    (g k cap : Nat) (xs : List Value) (hs : a.eval s = .slice (some ⟨g, 0, none⟩) k cap) (hown : w.ownsRow base e size (.slice (some ⟨g, 0, none⟩) k cap) k xs) (ad : Addr) (m c : Nat) (news : List Value) (hx : a.eval x = .slice (some ad) m c) (hn : news.length = m * size)
    (hc : ∀ j u, news[j]? = some u → w.cell? (ad.add j) = some u) (h1c : ∀ u ∈ news, u.oneCell' = true) (b1 : k + m ≤ cap)
    (hK : ∀ w', w'.ownsRow base e size (.slice (some ⟨g, 0, none⟩) (k + m) cap) (k + m) (xs ++ news) → w.grownBy w' (some g) → K (a.put o.dst (.slice (some ⟨g, 0, none⟩) (k + m) cap)) w') :
    if Region.wanted o (yielded ops a.tmps) = true then Oper.wp P o a w K Q else E := by
  have hw : Region.wanted o (yielded ops a.tmps) = true := by simp [Region.wanted, hg]
  rw [if_pos hw]
  obtain ⟨w', hrun, r1, r2⟩ := run_append_fits (P := P) w base t o.type e i size h1 h2 h4 g k cap xs hown ad m c news hn hc h1c b1
  unfold Oper.wp
  simp [execOp, hop, resolve, invoke, builtin, hs, hx, hrun, Result.andThen]
  exact hK w' r1 r2

/-- A natural of the reference: canonical digits in memory. -/
def IsN (w : World) (v : Value) (n : Nat) : Prop := ∃ ga b o cap xs, v = .slice ga xs.length cap ∧ Rep w ga b o cap xs ∧ Can xs ∧ val xs = n

theorem IsN.below {w w' : World} {B n : Nat} {v : Value} (h : IsN w v n) (hb : Below B w w') (hB : w.heap.size ≤ B) : IsN w' v n := by
  obtain ⟨ga, b, o, cap, xs, hv, hr, hc, hn⟩ := h
  exact ⟨ga, b, o, cap, xs, hv, hr.below hb hB, hc, hn⟩

theorem IsN.next {w w' : World} {n : Nat} {v : Value} (h : IsN w v n) (hb : Below w.heap.size w w') : IsN w' v n := h.below hb (Nat.le_refl _)
theorem bstep {w w1 w2 : World} (h : Below w.heap.size w w1) (k : Below w1.heap.size w1 w2) : Below w.heap.size w w2 := h.trans (k.mono h.size)

end Go.Proofs.YtmkcklgmdkkmdaaDoor

/- norm: noughts on top are cut off. -/
namespace Go.Proofs.YtmkcklgmdkkmdaaDoor
open Go.RowKit

theorem nlen_stop (xs : List Nat) (k : Nat) (h : 0 < xs.getD k 0) : nlen xs (k + 1) = k + 1 := by unfold nlen; rw [if_neg (by omega)]
theorem nlen_go (xs : List Nat) (k : Nat) (h : xs.getD k 0 = 0) : nlen xs (k + 1) = nlen xs k := by rw [nlen, if_pos h]

end Go.Proofs.YtmkcklgmdkkmdaaDoor

/- From: words become digits of 32 bits. -/
namespace Go.Proofs.YtmkcklgmdkkmdaaDoor
open Go.RowKit

/-- The digits of words. -/
def wdig : List Nat → List Nat
  | [] => []
  | w :: ws => w % 4294967296 :: w / 4294967296 :: wdig ws
/-- The number of words, the lowest first. -/
def wval : List Nat → Nat
  | [] => 0
  | w :: ws => w + 18446744073709551616 * wval ws
theorem wdig_val : ∀ ws : List Nat, val (wdig ws) = wval ws
  | [] => rfl
  | w :: ws => by simp only [wdig, val, wval, wdig_val ws]; omega
theorem wdig_length : ∀ ws : List Nat, (wdig ws).length = 2 * ws.length
  | [] => rfl
  | w :: ws => by simp only [wdig, List.length_cons, wdig_length ws]; omega
theorem wdig_dig : ∀ ws : List Nat, (∀ x ∈ ws, x < 18446744073709551616) → Dig (wdig ws)
  | [] => fun _ => dig_nil
  | w :: ws => fun h => by
    have ih := wdig_dig ws (fun x hx => h x (List.mem_cons_of_mem _ hx))
    have hw := h w List.mem_cons_self
    intro j
    match j with
    | 0 => simp only [wdig, List.getD_cons_zero]; omega
    | 1 => simp only [wdig, List.getD_cons_succ, List.getD_cons_zero]; omega
    | j + 2 => simp only [wdig, List.getD_cons_succ]; exact ih j
theorem wdig_snoc : ∀ (ws : List Nat) (w : Nat), wdig (ws ++ [w]) = wdig ws ++ [w % 4294967296, w / 4294967296]
  | [], _ => rfl
  | v :: ws, w => by simp only [List.cons_append, wdig, wdig_snoc ws w]

theorem Tryd.infoU : (Tryd.prog.info? 22).map (fun i => (i.zero, i.size, i.bytes)) = some (some (.int .u64 0), 1, 8) := by kernel_rfl

theorem tmod_dig (x : Nat) : (x : Int).tmod 4294967296 = ((x % 4294967296 : Nat) : Int) := by
  rw [Int.tmod_eq_emod_of_nonneg (by omega)]; omega
theorem quo_dig (x : Nat) (h : x < 18446744073709551616) : IntKind.u64.wrap ((x : Int) / 4294967296) = ((x / 4294967296 : Nat) : Int) := by
  rw [IntKind.wrap_u64]; omega

theorem from_step {w1 : World} {B t g cap k x : Nat} {ws : List Nat} (hk : k < ws.length) (hx : x = ws.getD k 0) (h : w1.ownsRow B t 1 (.slice (some ⟨g, 0, none⟩) (2 * k + 2) cap) (2 * k + 2) (cellsOf (wdig (ws.take k)) ++ cellsOf [x % 4294967296, x / 4294967296])) :
    w1.ownsRow B t 1 (.slice (some ⟨g, 0, none⟩) (2 * (k + 1)) cap) (2 * (k + 1)) (cellsOf (wdig (ws.take (k + 1)))) := by
  rw [take_snoc ws k hk, wdig_snoc, ← hx]
  simpa [Nat.mul_succ] using h

end Go.Proofs.YtmkcklgmdkkmdaaDoor
