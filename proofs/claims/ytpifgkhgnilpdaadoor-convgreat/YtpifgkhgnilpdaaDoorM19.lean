/- Join and Sum of limb. -/
import Derived.Test.YtpifgkhgnilpdaaDoorM18
import Derived.Deep.RegionWith
import Derived.Test.YtpifgkhgnilpdaaDoorM17
import Derived.Test.YtpifgkhgnilpdaaDoorM3
import Derived.Test.YtpifgkhgnilpdaaDoorM6
namespace Go.Proofs.YtpifgkhgnilpdaaDoor
open Go.RowKit

/-- trim of a row that came in, in every world whose cells are the same. -/
theorem trim_all {w : World} {v : Value} {n : Nat} (h : InW w v n) : ∃ ga b o cap us, Rep w ga b o cap us ∧ WCan us ∧ wval us = n ∧ us.length ≤ 1073741824 ∧ ∀ W : World, (∀ a : Addr, a.block < w.heap.size → W.cell? a = w.cell? a) → Calls Tryd.prog 63 #[v] W fun e w' => e = .returned (.slice ga us.length cap) ∧ w' = W := by
  obtain ⟨ga, b, o, cap, xs, rfl, hr, hd, hv, hl⟩ := h
  have hle := nlen_le xs xs.length
  exact ⟨ga, b, o, cap, nrm xs, hr.take _ hle, nrm_wcan hd, by rw [nrm_wval]; exact hv, by rw [nrm_length]; omega, fun W hW => trim_any W ga b o cap _ _ xs rfl (by omega) ⟨hr.head, hr.room, fun j hj => by rw [hW _ (hr.lt (by omega))]; exact hr.cell j hj⟩ (nrm_length xs)⟩

set_option maxRecDepth 100000 in
set_option maxHeartbeats 3200000 in
theorem join_k (w : World) (gp : Option Addr) (bp op cp np k : Nat) (z : Int) (vs : List Value) (ns : List Nat) (hvl : vs.length = np) (hnp : np ≤ 65536) (hz : (k : Int) = min (max z 0) 16384) (hP : Parts w gp bp op vs ns) :
    Calls Tryd.prog 44 #[.int .i64 z, .slice gp np cp] w fun e w' => ∃ r, e = .returned r ∧ NewW w.heap.size w' r (jsum k ns np) ∧ Below w.heap.size w w' := by
  have hk : k ≤ 16384 := by omega
  have CW := hide (fun w => within_lim z 16384 k w hz)
  have CF := hide (farthest_any w gp bp op cp np k vs ns hvl hnp hk hP)
  clear hz
  go_enter Tryd.func44, Tryd.ntmps44
  go_wp2_with fail
  refine (unhide CW _).mono ?_
  rintro e w1 ⟨rfl, rfl⟩
  go_wp2_with fail
  refine (unhide CF).mono ?_
  rintro e w2 ⟨E, rfl, hE, hF, rfl⟩
  clear CW CF
  have hroom := jsum_room hF (fun j hj => in_words (hP.each j (by omega))) hnp
  obtain ⟨N, hN⟩ : ∃ N, N = E + 1 := ⟨_, rfl⟩
  rw [← hN] at hroom
  have HR := hide hroom
  have HF := hide hF
  have hmk := make_nat N N ((E : Int) + 1) (by omega) rfl (by omega)
  have hk0 : Blk (w2.alloc (.cells (zlist N).toArray 37)) w2.heap.size (List.replicate N 0) := heap_alloc_new w2 _
  have hb0 : Below w2.heap.size w2 (w2.alloc (.cells (zlist N).toArray 37)) := (Below.refl _ _).alloc (Nat.le_refl _) _
  have HK0 := hide hk0
  have HB0 := hide hb0
  have HN := hide hN
  have hNb : N ≤ 4294967297 := by omega
  clear hroom hF hk0 hb0 hN
  go_wp2
  clear hmk
  go_loopw [17] (fun i wr => ∃ (q : Nat) (zs : List Nat), q ≤ np ∧ i = .int .i64 (q : Int) ∧ zs.length = N ∧ WDig zs ∧ Blk wr w2.heap.size zs ∧ Hid (wval zs = jsum k ns q) ∧ Below w2.heap.size w2 wr)
    (fun i _ => np - (intOf i).toNat)
  case atStart => exact ⟨0, List.replicate N 0, Nat.zero_le _, rfl, by simp, (wzeros N).1, unhide HK0, (wzeros N).2, unhide HB0⟩
  case round =>
    obtain ⟨q, zs, hq, rfl, hzl, dz, hBlk, hV, hnx⟩ := hrel
    clear HK0 HB0
    have hsz := hnx.size
    by_cases h1 : q < np
    · obtain rfl := hP.head (by omega)
      have cv := (hnx.cell (by exact hP.lt (by omega))).trans (hP.cell q (by omega))
      have hin := (hP.each q (by omega)).next hnx
      obtain ⟨v, hv⟩ : ∃ v, v = vs.getD q undef := ⟨_, rfl⟩
      obtain ⟨n, hn⟩ : ∃ n, n = ns.getD q 0 := ⟨_, rfl⟩
      rw [← hv] at cv hin
      rw [← hn] at hin
      have hj : jsum k ns (q + 1) = jsum k ns q + 18446744073709551616 ^ (k * q) * n := by rw [hn]; rfl
      by_cases h0 : n = 0
      · have CZ := hide (zero_in hin true (by simp [h0]))
        have H2 : Hid (wval zs = jsum k ns (q + 1)) := by show _ = _; rw [hj, h0, Nat.mul_zero, Nat.add_zero]; exact hV.out
        clear hv hn hin h0 hj
        go_wp2_with fail
        refine (unhide CZ).mono ?_
        rintro e w' ⟨rfl, rfl⟩
        clear CZ
        go_wp2
        exact ⟨⟨q + 1, zs, by omega, by go_num, hzl, dz, hBlk, H2, hnx⟩, by simp [intOf]; omega⟩
      · have CZ := hide (zero_in hin false (by simp [h0]))
        have hin2 := hP.each q (by omega)
        rw [← hv, ← hn] at hin2
        obtain ⟨gb, bb, ob, cb, us, rB, cB, vB, lB, CT⟩ := trim_all hin2
        obtain ⟨p, hp⟩ : ∃ p, p = k * q := ⟨_, rfl⟩
        have hpi : (k : Int) * (q : Int) = (p : Int) := by rw [hp]; exact (Int.natCast_mul k q).symm
        have hfar := unhide HF q h1 (by rw [← hn]; exact h0) us cB (by rw [vB, hn])
        rw [← hp] at hfar hj
        obtain ⟨lb, hlb⟩ : ∃ lb, lb = us.length := ⟨_, rfl⟩
        rw [← hlb] at CT lB hfar
        have hpN : p + lb + 1 ≤ N := by rw [unhide HN]; omega
        obtain ⟨M, hM⟩ : ∃ M, N = p + M := ⟨N - p, by omega⟩
        have hrm : wval zs + 18446744073709551616 ^ p * wval us < 18446744073709551616 ^ (p + M) := by
          rw [← hM, vB, hV.out, ← hj]; exact unhide HR (q + 1) (by omega)
        have hne : 0 < us.length → bb ≠ w2.heap.size := fun h => by have := rB.lt h; omega
        have CT := hide (fun W (hW : Below w2.heap.size w2 W) => CT W (fun a ha => hW.cell ha))
        have CA := hide (fun W (hB : Blk W w2.heap.size zs) (hW : Below w2.heap.size w2 W) => addTo_any W w2.heap.size p M M bb ob cb lb gb zs us (by rw [hzl, hM]) hlb.symm (by omega) (by omega) hB dz (rB.next hW) cB.1 hne hrm)
        have H2 : Hid (wval zs + 18446744073709551616 ^ p * wval us = jsum k ns (q + 1)) := by show _ = _; rw [vB, hV.out, hj]
        generalize wval zs + 18446744073709551616 ^ p * wval us = S at *
        have HM := hide hM
        have hpM : p ≤ N := by omega
        have hMs : N - p = M := by omega
        have hNp : ¬ N = p := by omega
        have hwp : IntKind.i64.wrap (p : Int) = (p : Int) := by rw [IntKind.wrap_i64]; omega
        have hpi2 : 0 ≤ (p : Int) ∧ (p : Int) ≤ (N : Int) := by omega
        have HLZ := hide hzl
        clear hv hn hin hin2 h0 hj hp hfar hlb hrm hne rB cB vB hM hzl
        go_wp2_with fail
        refine (unhide CZ).mono ?_
        rintro e w' ⟨rfl, rfl⟩
        clear CZ
        go_wp2
        go_region_with (first
          | (go_at_call 63; refine (unhide CT _ ?_).mono ?_; exact hnx.drew; rintro e w' ⟨rfl, rfl⟩)
          | (go_at_call 62; refine (unhide CA _ ?_ ?_).mono ?_; exact hBlk; exact hnx.drew; rintro e w4 ⟨rfl, zs', hl4, hd4, k4, hv4, g4⟩))
        all_goals
          go_wp2
          exact ⟨⟨q + 1, zs', by omega, by go_num, by rw [hl4, unhide HM], hd4, k4, by rw [hv4]; exact H2, below_grown hnx.drew g4 (Nat.le_refl _) hsz⟩, by simp [intOf]; omega⟩
    · obtain rfl : q = np := by omega
      have HV := hV
      go_wp2_with fail
      refine (trim_blk (B := w2.heap.size) hzl (by omega) (Nat.le_refl _) hBlk dz).mono ?_
      rintro e w5 ⟨r, rfl, hr, rfl⟩
      rw [hV.out] at hr
      go_wp2
      go_ret
      exact ⟨r, rfl, hr, hnx⟩

end Go.Proofs.YtpifgkhgnilpdaaDoor

/- Package conv: Carry. -/
namespace Go.Proofs.YtpifgkhgnilpdaaDoor
open Go.RowKit

theorem Tryd.infoNat : (Tryd.prog.info? 42).map (fun i => (i.zero, i.size, i.bytes)) = some (some (.slice none 0 0), 1, 24) := by kernel_rfl
theorem info_nat : ∃ i : TypeInfo, Tryd.prog.info? 42 = some i ∧ i.zero = some (.slice none 0 0) ∧ i.size = 1 ∧ i.bytes = 24 := by
  have h := Tryd.infoNat
  cases hi : Tryd.prog.info? 42 with
  | none => rw [hi] at h; cases h
  | some i =>
    rw [hi] at h
    simp at h
    exact ⟨i, rfl, h.1, h.2.1, h.2.2⟩
/-- Rows that are nil. -/
def nils (n : Nat) : List Value := List.replicate n (.slice none 0 0)
theorem made_nils (n : Nat) : madeCells (Value.slice none 0 0).cells n = (nils n).toArray := by
  have e : (Value.slice none 0 0).cells = #[Value.slice none 0 0] := rfl
  rw [e]
  apply Array.ext'
  rw [toList_madeCells_one]
  simp [nils]
theorem make_nats (n : Nat) (hb : n ≤ 1048576) : ∀ w, (Instr.makeSlice 77 (.int .i64 (n : Int)) (.int .i64 (n : Int))).run Tryd.prog w = .ok (.slice (some ⟨w.heap.size, 0, none⟩) n n) (w.alloc (.cells (nils n).toArray 42)) := fun w => by
  obtain ⟨i0, hi, hz0, hz1, hz2⟩ := info_nat
  have h := run_make (P := Tryd.prog) w 77 42 i0 (.slice none 0 0) Tryd.underlying77 hi hz0 .i64 .i64 (n : Int) (n : Int) (by omega) (by omega) (by rw [hz2]; omega) (by omega)
  rw [h]
  have e1 : ((n : Int)).toNat = n := by omega
  rw [e1, hz1, Nat.mul_one, made_nils]

/-- A row of three words at each place. -/
def tri (g k : Nat) : Value := .slice (some ⟨g, k * 3, none⟩) 3 3
def tris (g : Nat) : Nat → List Value
  | 0 => []
  | k + 1 => tris g k ++ [tri g k]
theorem tris_len (g : Nat) : ∀ k, (tris g k).length = k
  | 0 => rfl
  | k + 1 => by simp [tris, tris_len g k]
theorem tris_at (g : Nat) : ∀ {q k : Nat}, k < q → (tris g q).getD k undef = tri g k
  | 0, _, h => absurd h (by omega)
  | q + 1, k, h => by
    have hl := tris_len g q
    unfold tris
    rw [List.getD_eq_getElem?_getD]
    by_cases hk : k < q
    · rw [List.getElem?_append_left (by omega), ← List.getD_eq_getElem?_getD]
      exact tris_at g hk
    · obtain rfl : k = q := by omega
      rw [List.getElem?_append_right (by omega), hl, Nat.sub_self]
      rfl
/-- The first k are set. -/
theorem tris_set (g q k : Nat) (h : k < q) : (tris g k ++ nils (q - k)).set k (tri g k) = tris g (k + 1) ++ nils (q - (k + 1)) := by
  have hl := tris_len g k
  rw [List.set_append_right _ _ (by omega), hl, Nat.sub_self]
  obtain ⟨m, hm⟩ : ∃ m, q - k = m + 1 := ⟨q - k - 1, by omega⟩
  have hm2 : q - (k + 1) = m := by omega
  rw [hm, hm2]
  show tris g k ++ (List.replicate (m + 1) _).set 0 (tri g k) = (tris g k ++ [tri g k]) ++ List.replicate m _
  rw [List.replicate_succ, List.set_cons_zero, List.append_assoc]
  rfl
theorem tri_in {w : World} {g q k : Nat} {T : Nat → Nat} (h : TriAt w g q T) (hk : k < q) : InW w (tri g k) (T k) := by
  obtain ⟨t0, t1, t2, a0, a1, a2, e, c0, c1, c2⟩ := h k hk
  refine ⟨_, g, k * 3, 3, [t0, t1, t2], rfl, ⟨fun _ => rfl, by simp, fun j hj => ?_⟩, ?_, by rw [v3_val]; exact e, by simp⟩
  · have hj : j < 3 := hj
    match j, hj with
    | 0, _ => exact c0
    | 1, _ => exact c1
    | 2, _ => exact c2
  · intro j
    match j with
    | 0 => exact a0
    | 1 => exact a1
    | 2 => exact a2
    | j + 3 => exact Nat.zero_lt_succ _
/-- The numbers, in a row. -/
def rowOf (T : Nat → Nat) (q : Nat) : List Nat := (List.range q).map T
theorem rowOf_len (T : Nat → Nat) (q : Nat) : (rowOf T q).length = q := by simp [rowOf]
theorem rowOf_at (T : Nat → Nat) {q k : Nat} (h : k < q) : (rowOf T q).getD k 0 = T k := by simp [rowOf, h]
theorem jsum_rowOf (T : Nat → Nat) {q : Nat} : ∀ k, k ≤ q → jsum 1 (rowOf T q) k = sN k fun i => T i * 18446744073709551616 ^ i
  | 0, _ => rfl
  | k + 1, h => by
    show jsum 1 (rowOf T q) k + _ = sN k _ + T k * 18446744073709551616 ^ k
    rw [jsum_rowOf T k (by omega), rowOf_at T (by omega), Nat.one_mul, Nat.mul_comm]
theorem tri_parts {w : World} {g gp q : Nat} {T : Nat → Nat} (h : TriAt w g q T) (hv : VBl w gp (tris g q) 42) : Parts w (some ⟨gp, 0, none⟩) gp 0 (tris g q) (rowOf T q) := by
  have hl := tris_len g q
  refine ⟨fun _ => rfl, by rw [rowOf_len, hl], fun j hj => ?_, fun j hj => ?_⟩
  · rw [Nat.zero_add]; exact hv.cell j hj
  · rw [hl] at hj
    rw [tris_at g hj, rowOf_at T hj]
    exact tri_in h hj

set_option maxRecDepth 100000 in
set_option maxHeartbeats 3200000 in
theorem carry_any (w : World) (ga : Option Addr) (g C q : Nat) (T : Nat → Nat) (hq : q ≤ 1048576) (hg : 0 < q → ga = some ⟨g, 0, none⟩) (hq2 : q ≤ 65536) (hC : q ≤ C) (hT : TriAt w g q T) :
    Calls Tryd.prog 31 #[.slice ga q C] w fun e w' => ∃ r, e = .returned r ∧ NewW w.heap.size w' r (sN q fun k => T k * 18446744073709551616 ^ k) ∧ Below w.heap.size w w' := by
  have hmk := make_nats q hq
  have HT : Hid (∀ W, Below w.heap.size w W → TriAt W g q T) := fun W b => hT.next b
  have hv0 : VBl (w.alloc (.cells (nils q).toArray 42)) w.heap.size (tris g 0 ++ nils (q - 0)) 42 := heap_alloc_new w _
  have bl : Below w.heap.size w (w.alloc (.cells (nils q).toArray 42)) := (Below.refl _ _).alloc (Nat.le_refl _) _
  obtain ⟨W1, hW1⟩ : ∃ W1, w.alloc (.cells (nils q).toArray 42) = W1 := ⟨_, rfl⟩
  rw [hW1] at hv0 bl
  obtain ⟨G, hG⟩ : ∃ G, w.heap.size = G := ⟨_, rfl⟩
  rw [hG] at hv0
  have HG := hide hG
  have HV := hide hv0
  have BL := hide bl
  clear hT hv0 bl
  go_enter Tryd.func31, Tryd.ntmps31
  go_wp2
  clear hW1 hG hmk
  go_loopw [10] (fun iv wr => ∃ k : Nat, k ≤ q ∧ iv = .int .i64 (k : Int) ∧ VBl wr G (tris g k ++ nils (q - k)) 42 ∧ Below w.heap.size w wr) (fun iv _ => q - (intOf iv).toNat)
  case atStart => exact ⟨0, Nat.zero_le _, rfl, unhide HV, unhide BL⟩
  case round =>
    clear HV BL
    obtain ⟨k, hk, rfl, hV, hb⟩ := hrel
    by_cases h1 : k < q
    · obtain rfl := hg (by omega)
      have hl : (tris g k ++ nils (q - k)).length = q := by rw [List.length_append, tris_len]; simp [nils]; omega
      have cv := hV.cell k (by omega)
      have fv := hV.frozen k
      have V2 := hide (hV.set k (tri g k))
      rw [tris_set g q k h1] at V2
      have B2 := hide (hb.setCell (p := ⟨G, k, none⟩) (Nat.le_of_eq (unhide HG)) (tri g k))
      have hmm : Hid (q - (k + 1) < q - k) := by show _ < _; omega
      unfold tri at V2 B2
      clear hV hb hl
      go_wp2
      go_roundw
      case rel => exact ⟨k + 1, by omega, by go_num, unhide V2, unhide B2⟩
      case measure => simp [intOf]; have := unhide hmm; omega
    · obtain rfl : k = q := by omega
      have hV' : VBl wr G (tris g k) 42 := by
        have := hV
        rw [Nat.sub_self] at this
        simpa [nils] using this
      have hP := tri_parts (unhide HT _ hb) hV'
      have CJ := hide (join_k wr (some ⟨G, 0, none⟩) G 0 k k 1 1 (tris g k) (rowOf T k) (tris_len g k) hq2 (by decide) hP)
      rw [jsum_rowOf T k (Nat.le_refl _)] at CJ
      have BL := hide hb
      have SZ := hide hb.size
      clear hV hV' hP hb
      obtain ⟨S, hS⟩ : ∃ S, S = sN k fun i => T i * 18446744073709551616 ^ i := ⟨_, rfl⟩
      rw [← hS] at CJ
      have HS := hide hS
      clear hS
      go_wp2_with fail
      refine (unhide CJ).mono ?_
      rintro e w2 ⟨r, rfl, nr, b⟩
      have bl := bstep (unhide BL) b
      have nr := nr.mono (unhide SZ)
      clear CJ b
      go_wp2
      go_ret
      exact ⟨r, rfl, by rw [← unhide HS]; exact nr, bl⟩

theorem spec_carry : SpecCarry := by
  intro w v q T hq hv
  rcases hv with ⟨rfl, rfl⟩ | ⟨g, C, rfl, hC, hT⟩
  · exact carry_any w none 0 0 0 T (by omega) (fun h => absurd h (by omega)) (by omega) (by omega) (fun k hk => absurd hk (by omega))
  · exact carry_any w _ g C q T (by omega) (fun _ => rfl) (by omega) hC hT

end Go.Proofs.YtpifgkhgnilpdaaDoor

/- Package conv: the example of the document. -/
namespace Go.Proofs.YtpifgkhgnilpdaaDoor
open Go.RowKit

def exT : Nat → Nat
  | 0 => 18446744073709551621
  | _ => 7
theorem ex_sum : (sN 2 fun k => exT k * 18446744073709551616 ^ k) = wval [5, 8] := by decide +kernel
theorem ex_can : WCan [5, 8] := by
  refine ⟨fun j => ?_, fun _ => by decide⟩
  match j with
  | 0 => decide
  | 1 => decide
  | j + 2 => exact Nat.zero_lt_succ _
theorem ex_tri (w : World) : TriAt (w.alloc (.cells #[.int .u64 5, .int .u64 1, .int .u64 0, .int .u64 7, .int .u64 0, .int .u64 0] 40)) w.heap.size 2 exT := by
  have hk := heap_alloc_new w (.cells #[.int .u64 5, .int .u64 1, .int .u64 0, .int .u64 7, .int .u64 0, .int .u64 0] 40)
  intro k h
  match k, h with
  | 0, _ => exact ⟨5, 1, 0, by decide, by decide, by decide, by decide, cell_of_row _ _ 0 _ _ (0, 0) hk, cell_of_row _ _ 1 _ _ (0, 0) hk, cell_of_row _ _ 2 _ _ (0, 0) hk⟩
  | 1, _ => exact ⟨7, 0, 0, by decide, by decide, by decide, by decide, cell_of_row _ _ 3 _ _ (0, 0) hk, cell_of_row _ _ 4 _ _ (0, 0) hk, cell_of_row _ _ 5 _ _ (0, 0) hk⟩
theorem same_ex {w : World} {B : Nat} {v : Value} (h : NewW B w v (wval [5, 8])) :
    Calls Tryd.prog 30 #[v, .slice (some ⟨w.heap.size, 0, none⟩) 2 2] (w.alloc (.cells #[.int .u64 5, .int .u64 8] 37)) fun e w' => e = .returned (.bool true) ∧ Below w.heap.size w w' := by
  obtain ⟨ga, b, cap, xs, rfl, hr, hx, hv, _⟩ := h.rep
  obtain rfl := wCan_unique hx ex_can hv
  have hal : Below w.heap.size w (w.alloc (.cells #[.int .u64 5, .int .u64 8] 37)) := (Below.refl _ _).alloc (Nat.le_refl _) _
  have hB : Blk (w.alloc (.cells #[.int .u64 5, .int .u64 8] 37)) w.heap.size [5, 8] := heap_alloc_new w _
  refine (keepSame_any _ ga (some ⟨w.heap.size, 0, none⟩) b 0 cap w.heap.size 0 2 2 [5, 8] rfl (by decide) (hr.next hal) (hB.whole rfl)).mono ?_
  rintro e w' ⟨rfl, b'⟩
  exact ⟨rfl, bstep hal b'⟩

set_option maxRecDepth 100000 in
set_option maxHeartbeats 3200000 in
theorem spec_wakes : SpecWakes := by
  intro w
  have CC := hide (spec_carry _ _ 2 exT (by decide) (.inr ⟨w.heap.size, 2, rfl, Nat.le_refl _, ex_tri w⟩))
  rw [ex_sum] at CC
  have bl : Hid (Below w.heap.size w (w.alloc (.cells #[.int .u64 5, .int .u64 1, .int .u64 0, .int .u64 7, .int .u64 0, .int .u64 0] 40))) := (Below.refl _ _).alloc (Nat.le_refl _) _
  go_enter Tryd.func10, Tryd.ntmps10
  go_wp2_with fail
  refine (unhide CC).mono ?_
  rintro e w1 ⟨v, rfl, nv, b⟩
  have bl := hide (bstep (unhide bl) b)
  have CS := hide (same_ex nv)
  clear CC nv b
  go_wp2_with fail
  refine (unhide CS).mono ?_
  rintro e w2 ⟨rfl, b⟩
  have bl := bstep (unhide bl) b
  go_wp2
  go_ret
  exact ⟨rfl, bl⟩

end Go.Proofs.YtpifgkhgnilpdaaDoor
