/- Package conv: Carry. -/
import Derived.Test.YtpifgkhgnilpdaaLConvCarries
import Derived.Test.YtpifgkhgnilpdaaJoin2
namespace Go.Proofs.Ytpifgkhgnilpdaa
open Go.RowKit

/-- Block g holds the values vs, and nothing else. -/
def VBl (w : World) (g : Nat) (vs : List Value) (t : Nat) : Prop := w.heap[g]? = some (.cells vs.toArray t (0, 0))
theorem VBl.lt {w : World} {g t : Nat} {vs : List Value} (h : VBl w g vs t) : g < w.heap.size := (Array.getElem?_eq_some_iff.1 h).1
theorem VBl.cell {w : World} {g t : Nat} {vs : List Value} (h : VBl w g vs t) (j : Nat) (hj : j < vs.length) : w.cell? ⟨g, j, none⟩ = some (vs.getD j undef) := by
  rw [cell_of_row w g j _ _ (0, 0) h]
  simp [hj]
theorem VBl.frozen {w : World} {g t : Nat} {vs : List Value} (h : VBl w g vs t) (j : Nat) : w.frozen? ⟨g, j, none⟩ = false := frozen_of_row w g j _ _ h
theorem VBl.set {w : World} {g t : Nat} {vs : List Value} (h : VBl w g vs t) (k : Nat) (d : Value) : VBl (w.setCell ⟨g, k, none⟩ d) g (vs.set k d) t := by
  have := heap_setCell_same w g k _ _ d h
  show _ = _
  rw [this]
  simp
theorem VBl.next {w w' : World} {g t : Nat} {vs : List Value} (h : VBl w g vs t) (hb : Below w.heap.size w w') : VBl w' g vs t := (hb.block g h.lt).trans h

theorem Try.infoNat : (Try.prog.info? 38).map (fun i => (i.zero, i.size, i.bytes)) = some (some (.slice none 0 0), 1, 24) := by kernel_rfl
theorem info_nat : ∃ i : TypeInfo, Try.prog.info? 38 = some i ∧ i.zero = some (.slice none 0 0) ∧ i.size = 1 ∧ i.bytes = 24 := by
  have h := Try.infoNat
  cases hi : Try.prog.info? 38 with
  | none => rw [hi] at h; cases h
  | some i =>
    rw [hi] at h
    simp at h
    exact ⟨i, rfl, h.1, h.2.1, h.2.2⟩
/-- Rows that are nil. -/
def nils (n : Nat) : List Value := List.replicate n (.slice none 0 0)
theorem made_nils (n : Nat) : madeCells (Value.slice none 0 0).cells n = (nils n).toArray := by
  have e : (Value.slice none 0 0).cells = #[Value.slice none 0 0] := rfl
  rw [e]
  apply Array.ext'
  rw [toList_madeCells_one]
  simp [nils]
theorem make_nats (n : Nat) (hb : n ≤ 1048576) : ∀ w, (Instr.makeSlice 50 (.int .i64 (n : Int)) (.int .i64 (n : Int))).run Try.prog w = .ok (.slice (some ⟨w.heap.size, 0, none⟩) n n) (w.alloc (.cells (nils n).toArray 38)) := fun w => by
  obtain ⟨i0, hi, hz0, hz1, hz2⟩ := info_nat
  have h := run_make (P := Try.prog) w 50 38 i0 (.slice none 0 0) Try.underlying50 hi hz0 .i64 .i64 (n : Int) (n : Int) (by omega) (by omega) (by rw [hz2]; omega) (by omega)
  rw [h]
  have e1 : ((n : Int)).toNat = n := by omega
  rw [e1, hz1, Nat.mul_one, made_nils]

/-- A row of three words at each place. -/
def tri (g k : Nat) : Value := .slice (some ⟨g, k * 3, none⟩) 3 3
def tris (g : Nat) : Nat → List Value
  | 0 => []
  | k + 1 => tris g k ++ [tri g k]
theorem tris_len (g : Nat) : ∀ k, (tris g k).length = k
  | 0 => rfl
  | k + 1 => by simp [tris, tris_len g k]
theorem tris_at (g : Nat) : ∀ {q k : Nat}, k < q → (tris g q).getD k undef = tri g k
  | 0, _, h => absurd h (by omega)
  | q + 1, k, h => by
    have hl := tris_len g q
    unfold tris
    rw [List.getD_eq_getElem?_getD]
    by_cases hk : k < q
    · rw [List.getElem?_append_left (by omega), ← List.getD_eq_getElem?_getD]
      exact tris_at g hk
    · obtain rfl : k = q := by omega
      rw [List.getElem?_append_right (by omega), hl, Nat.sub_self]
      rfl
/-- The first k are set. -/
theorem tris_set (g q k : Nat) (h : k < q) : (tris g k ++ nils (q - k)).set k (tri g k) = tris g (k + 1) ++ nils (q - (k + 1)) := by
  have hl := tris_len g k
  rw [List.set_append_right _ _ (by omega), hl, Nat.sub_self]
  obtain ⟨m, hm⟩ : ∃ m, q - k = m + 1 := ⟨q - k - 1, by omega⟩
  have hm2 : q - (k + 1) = m := by omega
  rw [hm, hm2]
  show tris g k ++ (List.replicate (m + 1) _).set 0 (tri g k) = (tris g k ++ [tri g k]) ++ List.replicate m _
  rw [List.replicate_succ, List.set_cons_zero, List.append_assoc]
  rfl
theorem tri_in {w : World} {g q k : Nat} {T : Nat → Nat} (h : TriAt w g q T) (hk : k < q) : InW w (tri g k) (T k) := by
  obtain ⟨t0, t1, t2, a0, a1, a2, e, c0, c1, c2⟩ := h k hk
  refine ⟨_, g, k * 3, 3, [t0, t1, t2], rfl, ⟨fun _ => rfl, by simp, fun j hj => ?_⟩, ?_, by rw [v3_val]; exact e, by simp⟩
  · have hj : j < 3 := hj
    match j, hj with
    | 0, _ => exact c0
    | 1, _ => exact c1
    | 2, _ => exact c2
  · intro j
    match j with
    | 0 => exact a0
    | 1 => exact a1
    | 2 => exact a2
    | j + 3 => exact Nat.zero_lt_succ _
/-- The numbers, in a row. -/
def rowOf (T : Nat → Nat) (q : Nat) : List Nat := (List.range q).map T
theorem rowOf_len (T : Nat → Nat) (q : Nat) : (rowOf T q).length = q := by simp [rowOf]
theorem rowOf_at (T : Nat → Nat) {q k : Nat} (h : k < q) : (rowOf T q).getD k 0 = T k := by simp [rowOf, h]
theorem jsum_rowOf (T : Nat → Nat) {q : Nat} : ∀ k, k ≤ q → jsum 1 (rowOf T q) k = sN k fun i => T i * 18446744073709551616 ^ i
  | 0, _ => rfl
  | k + 1, h => by
    show jsum 1 (rowOf T q) k + _ = sN k _ + T k * 18446744073709551616 ^ k
    rw [jsum_rowOf T k (by omega), rowOf_at T (by omega), Nat.one_mul, Nat.mul_comm]
theorem tri_parts {w : World} {g gp q : Nat} {T : Nat → Nat} (h : TriAt w g q T) (hv : VBl w gp (tris g q) 38) : Parts w (some ⟨gp, 0, none⟩) gp 0 (tris g q) (rowOf T q) := by
  have hl := tris_len g q
  refine ⟨fun _ => rfl, by rw [rowOf_len, hl], fun j hj => ?_, fun j hj => ?_⟩
  · rw [Nat.zero_add]; exact hv.cell j hj
  · rw [hl] at hj
    rw [tris_at g hj, rowOf_at T hj]
    exact tri_in h hj

set_option maxRecDepth 100000 in
set_option maxHeartbeats 3200000 in
theorem carry_any (w : World) (ga : Option Addr) (g C q : Nat) (T : Nat → Nat) (hq : q ≤ 1048576) (hg : 0 < q → ga = some ⟨g, 0, none⟩) (hq2 : q ≤ 65536) (hC : q ≤ C) (hT : TriAt w g q T) :
    Calls Try.prog 17 #[.slice ga q C] w fun e w' => ∃ r, e = .returned r ∧ NewW w.heap.size w' r (sN q fun k => T k * 18446744073709551616 ^ k) ∧ Below w.heap.size w w' := by
  have hmk := make_nats q hq
  have HT : Hid (∀ W, Below w.heap.size w W → TriAt W g q T) := fun W b => hT.next b
  have hv0 : VBl (w.alloc (.cells (nils q).toArray 38)) w.heap.size (tris g 0 ++ nils (q - 0)) 38 := heap_alloc_new w _
  have bl : Below w.heap.size w (w.alloc (.cells (nils q).toArray 38)) := (Below.refl _ _).alloc (Nat.le_refl _) _
  obtain ⟨W1, hW1⟩ : ∃ W1, w.alloc (.cells (nils q).toArray 38) = W1 := ⟨_, rfl⟩
  rw [hW1] at hv0 bl
  obtain ⟨G, hG⟩ : ∃ G, w.heap.size = G := ⟨_, rfl⟩
  rw [hG] at hv0
  have HG := hide hG
  have HV := hide hv0
  have BL := hide bl
  clear hT hv0 bl
  go_enter Try.func17, Try.ntmps17
  go_wp2
  clear hW1 hG hmk
  go_loopw [10] (fun iv wr => ∃ k : Nat, k ≤ q ∧ iv = .int .i64 (k : Int) ∧ VBl wr G (tris g k ++ nils (q - k)) 38 ∧ Below w.heap.size w wr) (fun iv _ => q - (intOf iv).toNat)
  case atStart => exact ⟨0, Nat.zero_le _, rfl, unhide HV, unhide BL⟩
  case round =>
    clear HV BL
    obtain ⟨k, hk, rfl, hV, hb⟩ := hrel
    by_cases h1 : k < q
    · obtain rfl := hg (by omega)
      have hl : (tris g k ++ nils (q - k)).length = q := by rw [List.length_append, tris_len]; simp [nils]; omega
      have cv := hV.cell k (by omega)
      have fv := hV.frozen k
      have V2 := hide (hV.set k (tri g k))
      rw [tris_set g q k h1] at V2
      have B2 := hide (hb.setCell (p := ⟨G, k, none⟩) (Nat.le_of_eq (unhide HG)) (tri g k))
      have hmm : Hid (q - (k + 1) < q - k) := by show _ < _; omega
      unfold tri at V2 B2
      clear hV hb hl
      go_wp2
      go_roundw
      case rel => exact ⟨k + 1, by omega, by go_num, unhide V2, unhide B2⟩
      case measure => simp [intOf]; have := unhide hmm; omega
    · obtain rfl : k = q := by omega
      have hV' : VBl wr G (tris g k) 38 := by
        have := hV
        rw [Nat.sub_self] at this
        simpa [nils] using this
      have hP := tri_parts (unhide HT _ hb) hV'
      have CJ := hide (join_k wr (some ⟨G, 0, none⟩) G 0 k k 1 1 (tris g k) (rowOf T k) (tris_len g k) hq2 (by decide) hP)
      rw [jsum_rowOf T k (Nat.le_refl _)] at CJ
      have BL := hide hb
      have SZ := hide hb.size
      clear hV hV' hP hb
      obtain ⟨S, hS⟩ : ∃ S, S = sN k fun i => T i * 18446744073709551616 ^ i := ⟨_, rfl⟩
      rw [← hS] at CJ
      have HS := hide hS
      clear hS
      go_wp2_with fail
      refine (unhide CJ).mono ?_
      rintro e w2 ⟨r, rfl, nr, b⟩
      have bl := bstep (unhide BL) b
      have nr := nr.mono (unhide SZ)
      clear CJ b
      go_wp2
      go_ret
      exact ⟨r, rfl, by rw [← unhide HS]; exact nr, bl⟩

theorem spec_carry : SpecCarry := by
  intro w v q T hq hv
  rcases hv with ⟨rfl, rfl⟩ | ⟨g, C, rfl, hC, hT⟩
  · exact carry_any w none 0 0 0 T (by omega) (fun h => absurd h (by omega)) (by omega) (by omega) (fun k hk => absurd hk (by omega))
  · exact carry_any w _ g C q T (by omega) (fun _ => rfl) (by omega) hC hT

end Go.Proofs.Ytpifgkhgnilpdaa
