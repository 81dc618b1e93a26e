/- Blocks of values. -/
import Derived.Test.YtofgbmfaehnmnaaB10
import Derived.Test.YtofgbmfaehnmnaaB2
import Derived.Deep.RegionHeld3
import Derived.Test.YtofgbmfaehnmnaaB30
import Derived.Test.YtofgbmfaehnmnaaB26
import Derived.Test.YtofgbmfaehnmnaaB25
import Derived.Test.YtofgbmfaehnmnaaB11
namespace Go.Proofs.Ytofgbmfaehnmnaa
open Go.RowKit

/-- Block g holds the values vs, and nothing else. -/
def VBl (w : World) (g : Nat) (vs : List Value) (t : Nat) : Prop := w.heap[g]? = some (.cells vs.toArray t (0, 0))
theorem VBl.lt {w : World} {g t : Nat} {vs : List Value} (h : VBl w g vs t) : g < w.heap.size := (Array.getElem?_eq_some_iff.1 h).1
theorem VBl.cell {w : World} {g t : Nat} {vs : List Value} (h : VBl w g vs t) (j : Nat) (hj : j < vs.length) : w.cell? ⟨g, j, none⟩ = some (vs.getD j undef) := by
  rw [cell_of_row w g j _ _ (0, 0) h]
  simp [hj]
theorem VBl.frozen {w : World} {g t : Nat} {vs : List Value} (h : VBl w g vs t) (j : Nat) : w.frozen? ⟨g, j, none⟩ = false := frozen_of_row w g j _ _ h
theorem VBl.set {w : World} {g t : Nat} {vs : List Value} (h : VBl w g vs t) (k : Nat) (d : Value) : VBl (w.setCell ⟨g, k, none⟩ d) g (vs.set k d) t := by
  have := heap_setCell_same w g k _ _ d h
  show _ = _
  rw [this]
  simp
theorem VBl.next {w w' : World} {g t : Nat} {vs : List Value} (h : VBl w g vs t) (hb : Below w.heap.size w w') : VBl w' g vs t := (hb.block g h.lt).trans h

theorem VBl.but {w w' : World} {g t k : Nat} {vs : List Value} (h : VBl w g vs t) (hb : w.grownBy w' (some k)) (hk : g ≠ k) : VBl w' g vs t := (hb.block g h.lt (fun e => hk (Option.some.inj e))).trans h

end Go.Proofs.Ytofgbmfaehnmnaa

/- make of rows of rows: each is nil. -/
namespace Go.Proofs.Ytofgbmfaehnmnaa
open Go.RowKit

theorem Try.infoNat : (Try.prog.info? 29).map (fun i => (i.zero, i.size, i.bytes)) = some (some (.slice none 0 0), 1, 24) := by kernel_rfl
theorem info_nat : ∃ i : TypeInfo, Try.prog.info? 29 = some i ∧ i.zero = some (.slice none 0 0) ∧ i.size = 1 ∧ i.bytes = 24 := by
  have h := Try.infoNat
  cases hi : Try.prog.info? 29 with
  | none => rw [hi] at h; cases h
  | some i =>
    rw [hi] at h
    simp at h
    exact ⟨i, rfl, h.1, h.2.1, h.2.2⟩
/-- Rows that are nil. -/
def nils (n : Nat) : List Value := List.replicate n (.slice none 0 0)
theorem made_nils (n : Nat) : madeCells (Value.slice none 0 0).cells n = (nils n).toArray := by
  have e : (Value.slice none 0 0).cells = #[Value.slice none 0 0] := rfl
  rw [e]
  apply Array.ext'
  rw [toList_madeCells_one]
  simp [nils]
theorem make_nats (n : Nat) (hb : n ≤ 1048576) : ∀ w, (Instr.makeSlice 65 (.int .i64 (n : Int)) (.int .i64 (n : Int))).run Try.prog w = .ok (.slice (some ⟨w.heap.size, 0, none⟩) n n) (w.alloc (.cells (nils n).toArray 29)) := fun w => by
  obtain ⟨i0, hi, hz0, hz1, hz2⟩ := info_nat
  have h := run_make (P := Try.prog) w 65 29 i0 (.slice none 0 0) Try.underlying65 hi hz0 .i64 .i64 (n : Int) (n : Int) (by omega) (by omega) (by rw [hz2]; omega) (by omega)
  rw [h]
  have e1 : ((n : Int)).toNat = n := by omega
  rw [e1, hz1, Nat.mul_one, made_nils]

end Go.Proofs.Ytofgbmfaehnmnaa

/- LongMod of divs: remainders by several moduli. -/
namespace Go.Proofs.Ytofgbmfaehnmnaa
open Go.RowKit

theorem DEng.cell {w w' : World} {gd gm gt gk ge g : Nat} {s l m : Int} {T : Tab} (h : DEng w gd gm gt gk ge g s l m T) (o : Out (· = g) w w') {p : Addr} {v : Value} (hc : w.cell? p = some v) (hs : p.spot = none) (hv : ∀ z, v ≠ .int .i64 z) : w'.cell? p = some v := h.mul.cell o hc hs hv
theorem DEng.inL {w w' : World} {gd gm gt gk ge g K : Nat} {s l m : Int} {T : Tab} (h : DEng w gd gm gt gk ge g s l m T) (o : Out (· = g) w w') {v : Value} {n : Nat} (r : InL K w v n) : InL K w' v n := by
  obtain ⟨ga, b, oo, cap, xs, rfl, hr, hd, hv, hl⟩ := r
  exact ⟨ga, b, oo, cap, xs, rfl, h.rep o hr, hd, hv, hl⟩
theorem InL.noInt {K : Nat} {w : World} {v : Value} {n : Nat} (h : InL K w v n) (z : Int) : v ≠ .int .i64 z := by
  obtain ⟨ga, b, o, cap, xs, rfl, _⟩ := h
  intro e; cases e
/-- What an engine does leaves rows of rows. -/
theorem DEng.rowsN {w w' : World} {gd gm gt gk ge g K : Nat} {s l m : Int} {T : Tab} (h : DEng w gd gm gt gk ge g s l m T) (o : Out (· = g) w w') {gp : Option Addr} {bp op : Nat} {vs : List Value} {ns : List Nat} (r : RowsN K w gp bp op vs ns) : RowsN K w' gp bp op vs ns :=
  ⟨r.head, r.len, fun j hj => h.cell o (r.cell j hj) rfl (fun z => (r.each j hj).noInt z), fun j hj => h.inL o (r.each j hj)⟩
theorem InL.toM' {K : Nat} {w : World} {v : Value} {n : Nat} (h : InL K w v n) (hK : K ≤ 16384) : InM w v n := by
  obtain ⟨ga, b, o, cap, xs, rfl, hr, hd, hv, hl⟩ := h
  exact ⟨ga, b, o, cap, xs, rfl, hr, hd, hv, by omega⟩
theorem newB_w {B g : Nat} {w : World} {v : Value} {n : Nat} (h : NewB g (g + 1) w v n) (hg : B ≤ g) : NewW B w v n := h.toW.mono hg

theorem newW_apart {B P k t : Nat} {w : World} {v d : Value} {n : Nat} {vs : List Value} (h : NewW B w v n) (hV : VBl w P vs t) (ht : t ≠ 72) : NewW B (w.setCell ⟨P, k, none⟩ d) v n := by
  obtain ⟨xs, hc, hv, h | ⟨g, ys, hg, rfl, hk, hl⟩⟩ := h
  · exact ⟨xs, hc, hv, Or.inl h⟩
  · refine ⟨xs, hc, hv, Or.inr ⟨g, ys, hg, rfl, hk.but (grown_set _ _ _ _) (fun e => ?_), hl⟩⟩
    subst e
    have e2 := (show w.heap[g]? = _ from hk).symm.trans (show w.heap[g]? = _ from hV)
    simp at e2
    exact ht e2.2.symm
theorem lgc_le {A C : Nat} (h1 : wl A ≤ 16384) (h2 : wl C ≤ 16384) : lgc A C ≤ 268468225 := by
  unfold lgc
  split
  · omega
  · exact Nat.le_trans (Nat.mul_le_mul (show wl A - wl C + 1 ≤ 16385 by omega) (show wl C + 1 ≤ 16385 by omega)) (by omega)
theorem InM.wl' {w : World} {v : Value} {n : Nat} (h : InM w v n) : wl n ≤ 16384 := by
  obtain ⟨ga, b, o, cap, xs, rfl, hr, hd, hv, hl⟩ := h
  rw [← hv]; exact Nat.le_trans (wl_le_len hd) hl
theorem InM.noInt {w : World} {v : Value} {n : Nat} (h : InM w v n) : ∃ ga l c, v = .slice ga l c := by
  obtain ⟨ga, b, o, cap, xs, rfl, _⟩ := h
  exact ⟨_, _, _, rfl⟩

/-- What LongMod leaves. -/
def LmAns (w : World) (gd gm gt gk ge g : Nat) (l : Int) (T : Tab) (A np : Nat) (ns : List Nat) (e : Ending) (w' : World) : Prop :=
  ∃ gx rs s' m', e = .returned (.tuple #[.slice (some ⟨gx, 0, none⟩) np np, .int .i64 0]) ∧ VBl w' gx rs 29 ∧ rs.length = np ∧ (∀ j, j < np → NewW w.heap.size w' (rs.getD j undef) (A % ns.getD j 0)) ∧ w.heap.size ≤ gx ∧ DEng w' gd gm gt gk ge g s' l m' T ∧ 0 ≤ s' ∧ Out (· = g) w w'
theorem lmAns_mk {w w' : World} {gd gm gt gk ge g : Nat} {l s' m' : Int} {T : Tab} {A np P0 : Nat} {ns : List Nat} {rs : List Value} (hP : w.heap.size = P0) (h1 : VBl w' P0 rs 29) (h2 : rs.length = np) (h3 : ∀ j, j < np → NewW P0 w' (rs.getD j undef) (A % ns.getD j 0)) (h4 : DEng w' gd gm gt gk ge g s' l m' T) (h5 : 0 ≤ s') (h6 : Out (· = g) w w') :
    LmAns w gd gm gt gk ge g l T A np ns (.returned (.tuple #[.slice (some ⟨P0, 0, none⟩) np np, .int .i64 0])) w' := by
  subst hP
  exact ⟨_, rs, s', m', rfl, h1, h2, h3, Nat.le_refl _, h4, h5, h6⟩

def SpecLongMod : Prop := ∀ (w : World) (gd gm gt gk ge g : Nat) (s l m : Int) (T : Tab) (u : Value) (A : Nat) (gp : Option Addr) (bp op cp np K : Nat) (vs : List Value) (ns : List Nat),
  DEng w gd gm gt gk ge g s l m T → 0 ≤ s → s ≤ 576460752303423488 → 0 ≤ l → l ≤ 1000 → InM w u A → vs.length = np → np ≤ 1000 → K ≤ 16384 → RowsN K w gp bp op vs ns → (∀ j, j < np → 0 < ns.getD j 0) →
  Calls Try.prog 19 #[.pointer (some ⟨gd, 0, none⟩), u, .slice gp np cp] w (LmAns w gd gm gt gk ge g l T A np ns)
def SpecLongModNo : Prop := ∀ (w : World) (gd gm gt gk ge g : Nat) (s l m : Int) (T : Tab) (u : Value) (A : Nat) (gp : Option Addr) (bp op cp np K : Nat) (vs : List Value) (ns : List Nat),
  DEng w gd gm gt gk ge g s l m T → InM w u A → vs.length = np → np ≤ 1000 → K ≤ 16384 → RowsN K w gp bp op vs ns → (∃ j, j < np ∧ ns.getD j 0 = 0) →
  Calls Try.prog 19 #[.pointer (some ⟨gd, 0, none⟩), u, .slice gp np cp] w fun e w' => e = .returned (.tuple #[.slice none 0 0, .int .i64 2]) ∧ w' = w

set_option maxRecDepth 100000 in
set_option maxHeartbeats 3200000 in
theorem spec_longMod_no : SpecLongModNo := by
  intro w gd gm gt gk ge g s l m T u A gp bp op cp np K vs ns hE hu hvl hnp hK hP hz
  obtain ⟨j0, hj0, hz0⟩ := hz
  have CZ : Hid (∀ j, j < np → Calls Try.prog 39 #[vs.getD j undef] w fun e w' => e = .returned (.bool (decide (ns.getD j 0 = 0))) ∧ w' = w) := fun j hj => zero_in ((hP.each j (by omega)).toIn (by omega)) _ rfl
  have HC : Hid (∀ j, j < np → gp = some ⟨bp, op, none⟩ ∧ w.cell? ⟨bp, op + j, none⟩ = some (vs.getD j undef)) := fun j hj => ⟨hP.head (by omega), hP.cell j (by omega)⟩
  have HZ := hide hz0
  obtain ⟨ua, uo, uc, ucap, uxs, rfl, _⟩ := hu
  generalize uxs.length = ul at *
  clear hE hP hz0
  go_enter Try.func19, Try.ntmps19
  go_wp2
  go_loopw [15] (fun i wr => ∃ k : Nat, k ≤ np ∧ i = .int .i64 (k : Int) ∧ Hid (∀ j, j < k → ns.getD j 0 ≠ 0) ∧ wr = w) (fun i _ => np - (intOf i).toNat)
  case atStart => exact ⟨0, Nat.zero_le _, rfl, fun j hj => absurd hj (by omega), rfl⟩
  case round =>
    obtain ⟨k, hk, rfl, hN, rfl⟩ := hrel
    by_cases h1 : k < np
    · obtain ⟨rfl, ck⟩ := unhide HC k h1
      have CZk := unhide CZ k h1
      obtain ⟨v, hv⟩ : ∃ v, v = vs.getD k undef := ⟨_, rfl⟩
      rw [← hv] at ck CZk
      have hki : (k : Int) < (np : Int) := by omega
      by_cases hz : ns.getD k 0 = 0
      · rw [decide_eq_true hz] at CZk
        have CZk := hide CZk
        clear hv hz
        go_wp2_with fail
        refine (unhide CZk).mono ?_
        rintro e w1 ⟨rfl, rfl⟩
        go_wp2
        go_ret2
        exact ⟨rfl, rfl⟩
      · rw [decide_eq_false hz] at CZk
        have CZk := hide CZk
        have HN2 : Hid (∀ j, j < k + 1 → ns.getD j 0 ≠ 0) := fun j hj => by
          by_cases e : j = k
          · subst e; exact hz
          · exact hN.out j (by omega)
        clear hv hz
        go_wp2_with fail
        refine (unhide CZk).mono ?_
        rintro e w1 ⟨rfl, hw⟩
        obtain rfl := hw.symm
        clear hw
        go_wp2
        exact ⟨⟨k + 1, by omega, by go_num, HN2, trivial⟩, by simp [intOf]; omega⟩
    · exact absurd (unhide HZ) (hN.out j0 (by omega))

set_option maxRecDepth 100000 in
set_option maxHeartbeats 3200000 in
theorem spec_longMod : SpecLongMod := by
  intro w gd gm gt gk ge g s l m T u A gp bp op cp np K vs ns hE hs0 hs1 hl0 hl1 hu hvl hnp hK hP hz
  have CZ : Hid (∀ j, j < np → Calls Try.prog 39 #[vs.getD j undef] w fun e w' => e = .returned (.bool false) ∧ w' = w) := fun j hj => zero_in ((hP.each j (by omega)).toIn (by omega)) _ (decide_eq_false (by have := hz j hj; omega)).symm
  have HC : Hid (∀ j, j < np → gp = some ⟨bp, op, none⟩ ∧ w.cell? ⟨bp, op + j, none⟩ = some (vs.getD j undef)) := fun j hj => ⟨hP.head (by omega), hP.cell j (by omega)⟩
  have hmk := make_nats np (by omega)
  have HE := hide hE
  have HU := hide hu
  have HP := hide hP
  have HZ := hide hz
  obtain ⟨ua, uo, uc, ucap, uxs, rfl, _⟩ := hu
  generalize uxs.length = ul at *
  have hgl := hE.met.lt
  have HLT : Hid (gd < w.heap.size ∧ gm < w.heap.size ∧ gt < w.heap.size ∧ gk < w.heap.size ∧ ge < w.heap.size) := by
    obtain ⟨e0, e1, e2, e3, e4⟩ := hE.way
    exact ⟨World.block_lt_of_cell? _ _ e0, World.block_lt_of_cell? _ _ e1, World.block_lt_of_cell? _ _ e2, World.block_lt_of_cell? _ _ e3, World.block_lt_of_cell? _ _ e4⟩
  clear hE hP hz
  go_enter Try.func19, Try.ntmps19
  go_wp2
  go_loopw [15] (fun i wr => ∃ k : Nat, k ≤ np ∧ i = .int .i64 (k : Int) ∧ wr = w) (fun i _ => np - (intOf i).toNat)
  case atStart => exact ⟨0, Nat.zero_le _, rfl, rfl⟩
  case round =>
    obtain ⟨k, hk, rfl, hw⟩ := hrel
    obtain rfl := hw.symm
    clear hw
    by_cases h1 : k < np
    · obtain ⟨rfl, ck⟩ := unhide HC k h1
      have CZk := unhide CZ k h1
      obtain ⟨v, hv⟩ : ∃ v, v = vs.getD k undef := ⟨_, rfl⟩
      rw [← hv] at ck CZk
      have hki : (k : Int) < (np : Int) := by omega
      have CZk := hide CZk
      clear hv
      go_wp2_with fail
      refine (unhide CZk).mono ?_
      rintro e w1 ⟨rfl, hw⟩
      obtain rfl := hw.symm
      clear hw
      go_wp2
      exact ⟨⟨k + 1, by omega, by go_num, trivial⟩, by simp [intOf]; omega⟩
    · have hki : ¬ (k : Int) < (np : Int) := by omega
      have HAlt := hide (unhide HU).wl'
      have b2 : Below w.heap.size w (w.alloc (.cells (nils np).toArray 29)) := (Below.refl _ _).alloc (Nat.le_refl _) _
      have V2 : VBl (w.alloc (.cells (nils np).toArray 29)) w.heap.size (nils np) 29 := heap_alloc_new w _
      have E2 := (unhide HE).next b2
      have O2 : Out (· = g) w (w.alloc (.cells (nils np).toArray 29)) := Out.of_below b2
      obtain ⟨P0, hP0⟩ : ∃ P0, w.heap.size = P0 := ⟨_, rfl⟩
      rw [hP0] at V2
      obtain ⟨W2, hW2⟩ : ∃ W2, w.alloc (.cells (nils np).toArray 29) = W2 := ⟨_, rfl⟩
      rw [hW2] at V2 E2 O2
      have ln : (nils np).length = np := by simp [nils]
      clear CZ hki b2
      go_wp2
      go_loopw [27] (fun i wr => ∃ (k : Nat) (rs : List Value) (sp mp : Int), k ≤ np ∧ i = .int .i64 (k : Int) ∧ VBl wr P0 rs 29 ∧ Hid (rs.length = np) ∧ Hid (∀ j, j < k → NewW P0 wr (rs.getD j undef) (A % ns.getD j 0)) ∧ DEng wr gd gm gt gk ge g sp l mp T ∧ 0 ≤ sp ∧ sp ≤ s + 268468225 * (k : Int) ∧ Out (· = g) w wr) (fun i _ => np - (intOf i).toNat)
      case atStart => exact ⟨0, nils np, s, m, Nat.zero_le _, rfl, V2, ln, fun j hj => absurd hj (by omega), E2, hs0, by omega, O2⟩
      case round =>
        obtain ⟨k, rs, sp, mp, hk, rfl, V, hrl, hN, E, hp0, hp1, O⟩ := hrel
        by_cases h1 : k < np
        · obtain ⟨rfl, ck⟩ := unhide HC k h1
          have RN := (unhide HE).rowsN O (unhide HP)
          have hvk := RN.each k (by omega)
          have ckk := RN.cell k (by omega)
          obtain ⟨v, hv⟩ : ∃ v, v = vs.getD k undef := ⟨_, rfl⟩
          rw [← hv] at ckk hvk
          have mk := hvk.toM' hK
          have CLg := hide (spec_long wr gd gm gt gk ge g sp l mp T _ v A _ E hp0 (by omega) hl0 hl1 ((unhide HE).inM O (unhide HU)) mk ((unhide HZ) k h1))
          have hlb := hide (lgc_le (unhide HAlt) mk.wl')
          obtain ⟨va, vl, vc, rfl⟩ := mk.noInt
          have hPg : ¬ P0 = g := by omega
          have cP := V.cell k (by have := hrl.out; omega)
          have fP := V.frozen k
          have HV := hide V
          have HO := hide O
          have hki : (k : Int) < (np : Int) := by omega
          clear hv ck RN hvk mk V O E
          go_wp2_with fail
          with_reducible refine (unhide CLg).mono ?_
          rintro e w1 ⟨q, r, gq, gr, m', rfl, nq, nr, hh, E1, hm', o1⟩
          obtain ⟨qa, ql, qc, rfl⟩ := nq.toW.shape
          have NR := hide (newB_w (B := P0) nr (by have := (unhide HO).size; omega))
          obtain ⟨ra, rl, rc, rfl⟩ := nr.toW.shape
          have V1 : VBl w1 P0 rs 29 := (o1.block P0 (unhide HV).lt hPg).trans (unhide HV)
          have cP := V1.cell k (by have := hrl.out; omega)
          have fP := V1.frozen k
          have HN1 : Hid (∀ j, j < k → NewW P0 w1 (rs.getD j undef) (A % ns.getD j 0)) := fun j hj => o1.newW (hN.out j hj) (fun x hx => by omega)
          have HE1 := hide E1
          have HO1 := hide ((unhide HO).trans o1)
          have HV1 := hide V1
          have hlb' := unhide hlb
          have sb : sp + (lgc A (ns.getD k 0) : Int) ≤ s + 268468225 * ((k + 1 : Nat) : Int) := by omega
          have sb0 : 0 ≤ sp + (lgc A (ns.getD k 0) : Int) := by omega
          have SB := hide sb
          have SB0 := hide sb0
          clear CLg nq nr V1 E1 o1 hh sb sb0 hlb hlb' hm'
          go_wp2
          refine ⟨⟨k + 1, rs.set k (.slice ra rl rc), _, m', by omega, by go_num, (unhide HV1).set k _, ?_, ?_, ?_, unhide SB0, unhide SB, ?_⟩, by simp [intOf]; omega⟩
          · show _ = _
            rw [List.length_set]; exact hrl.out
          · intro j hj
            have hkl : k < rs.length := by have := hrl.out; omega
            by_cases e : j = k
            · subst e
              have e1 : (rs.set j (.slice ra rl rc)).getD j undef = .slice ra rl rc := by simp [List.getD_eq_getElem?_getD, hkl]
              rw [e1]
              exact newW_apart (unhide NR) (unhide HV1) (by decide)
            · have e1 : (rs.set k (.slice ra rl rc)).getD j undef = rs.getD j undef := by simp [List.getD_eq_getElem?_getD, show ¬ k = j by omega]
              rw [e1]
              exact newW_apart (unhide HN1 j (by omega)) (unhide HV1) (by decide)
          · have lts := unhide HLT
            exact (unhide HE1).out (Out.of_grown (grown_set _ _ _ _)) (by omega) (by omega) (by omega) (by omega) (by omega) (by omega)
          · exact (unhide HO1).fresh (Out.of_grown (grown_set _ _ _ _)) (fun i hi => Or.inr (by omega))
        · obtain rfl : k = np := by omega
          have hki : ¬ (k : Int) < (k : Int) := by omega
          go_wp2
          go_ret2
          exact lmAns_mk hP0 V hrl.out hN.out E hp0 O

end Go.Proofs.Ytofgbmfaehnmnaa

/- Mod of the reference. -/
namespace Go.Proofs.Ytofgbmfaehnmnaa
open Go.RowKit

set_option maxHeartbeats 800000 in
theorem rMod_any (w : World) (u v : Value) (a d L : Nat) (hL : L ≤ 1073741824) (ha : a < 4294967296 ^ L) (hd : d < 4294967296 ^ L) (hpos : 0 < d) (hu : IsN w u a) (hv : IsN w v d) :
    Calls Try.prog 21 #[u, v] w fun e w' => ∃ r, e = .returned r ∧ IsN w' r (a % d) ∧ Below w.heap.size w w' := by
  have C := hide (divmod_any w u v a d L hL ha hd hpos hu hv)
  clear ha hd hpos hu hv hL
  generalize a % d = M at *
  go_enter Try.func21, Try.ntmps21
  go_wp2_with fail
  refine (unhide C).mono ?_
  rintro e w1 ⟨q, r, rfl, _, nr, b⟩
  go_wp2
  go_ret
  exact ⟨r, rfl, nr, b⟩

end Go.Proofs.Ytofgbmfaehnmnaa
