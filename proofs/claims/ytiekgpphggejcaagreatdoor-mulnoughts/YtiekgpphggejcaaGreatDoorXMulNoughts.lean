/- append(x, make([]uint64, k)...) : zero words on top of a row of the call's own. -/
import Derived.Test.YtiekgpphggejcaaGreatDoorB10
import Derived.Lib.AppendZerosOnto
import Derived.Test.YtiekgpphggejcaaGreatDoorB45
import Derived.Test.YtiekgpphggejcaaGreatDoorB14
import Derived.Test.YtiekgpphggejcaaGreatDoorB31
import Derived.Test.YtiekgpphggejcaaGreatDoorB32
namespace Go.Proofs.YtiekgpphggejcaaGreatDoor
open Go.RowKit
set_option linter.unusedSimpArgs false

theorem zero_cells (k : Nat) : (Builtin.zeroCells (Value.int .u64 0).cells k).toList = cellsOf (List.replicate k 0) := by
  have h : (Value.int .u64 0).cells = #[.int .u64 0] := rfl
  rw [h]
  apply List.ext_getElem
  · simp [Builtin.zeroCells, cellsOf]
  · intro i h1 h2
    simp [Builtin.zeroCells, cellsOf]
    rw [Nat.mod_one]
    rfl
theorem run_zeros (w : World) (base : Nat) (v : Value) (n k : Nat) (xs : List Nat) (hown : w.ownsRow base 78 1 v n (cellsOf xs)) (hk : n + k ≤ 1000) (hb : base ≤ w.heap.size) :
    ∃ v' w', (Builtin.append_ #[24, 3] 24 #[v, .int .i64 (k : Int)]).run Tryz.prog w = .ok v' w' ∧ w'.ownsRow base 78 1 v' (n + k) (cellsOf (xs ++ List.replicate k 0)) ∧ w.grownBy w' v.ownBlock := by
  obtain ⟨i, hi, hz, hsz, hby⟩ := info_parts Tryz.infoU
  have ht := Tryz.underlying24
  have htn := Tryz.underlying3
  have hw : IntKind.i64.wrap (k : Int) = k := by rw [IntKind.wrap_i64]; omega
  have hneg : ¬ ((k : Int) < 0) := by omega
  have hap : cellsOf (xs ++ List.replicate k 0) = cellsOf xs ++ cellsOf (List.replicate k 0) := by simp [cellsOf]
  have hxl : (cellsOf xs).length = n := by simpa using hown.1
  have hlen : (cellsOf xs ++ cellsOf (List.replicate k 0)).length = n + k := by
    rw [List.length_append, hxl]; simp [cellsOf]
  rw [hap]
  have grown : ∀ (old : Nat) (row : Option Nat) (C : Array Value), C.toList = cellsOf xs ++ cellsOf (List.replicate k 0) ++ (Builtin.zeroCells (Value.int .u64 0).cells (grownCap w (n + k) old 78 - (n + k))).toList →
      (w.drew.alloc (.cells C 78)).ownsRow base 78 1 (.slice (some ⟨w.heap.size, 0, none⟩) (n + k) (grownCap w (n + k) old 78)) (n + k) (cellsOf xs ++ cellsOf (List.replicate k 0)) ∧ w.grownBy (w.drew.alloc (.cells C 78)) row := by
    intro old row C hC
    have hge := grownCap_ge w (n + k) old 78
    have hcm : grownCap w (n + k) old 78 ≤ maxLen := grownCap_le_maxLen w (n + k) old 78 (by unfold maxLen; omega)
    refine ⟨⟨by rw [hlen, Nat.mul_one], .inr ⟨w.heap.size, _, _, rfl, hb, heap_alloc_new w.drew _, hge, hcm, ?_, ?_⟩⟩, ⟨rfl, rfl, rfl, by simp, fun j hj hn => (World.grownBy_alloc w.drew _ row).block j hj hn⟩⟩
    · rw [← Array.length_toList, hC, List.length_append, hlen]
      simp [Builtin.zeroCells, Value.cells]
      omega
    · rw [hC, Nat.mul_one, ← hlen]
      exact List.take_left
  have hw0 : IntKind.i64.wrap 0 = 0 := by decide
  rcases hown.2 with ⟨rfl, rfl⟩ | ⟨g, cap, cur, rfl, hbg, hg, hnc, hcm, hcs, htake⟩
  · have hx : cellsOf xs = [] := List.eq_nil_of_length_eq_zero hxl
    by_cases hk0 : k = 0
    · subst hk0
      refine ⟨.slice none 0 0, w, ?_, ?_, ⟨rfl, rfl, rfl, Nat.le_refl _, fun _ _ _ => rfl⟩⟩
      · simp [Builtin.append_, run_underlying ht, run_underlying htn, sizeOf, typeInfo, hi, hby, hw0, asInt, asIntOf, go_sem]
      · rw [hx]
        exact World.ownsRow_nil w base 78 1
    · have hr := Lib.run_append_nil_zeros (P := Tryz.prog) w 24 3 24 78 i (.int .u64 0) .i64 .i64 ht htn hi hz k (by omega) (by omega) (by omega) (by rw [hby]; omega)
      have hgr := grown 0 (Value.ownBlock (.slice none 0 0)) (Builtin.zeroCells (Value.int .u64 0).cells k ++ Builtin.zeroCells (Value.int .u64 0).cells (grownCap w k 0 78 - k)) (by rw [hx, Array.toList_append, zero_cells, Nat.zero_add]; simp)
      rw [Nat.zero_add] at hgr ⊢
      exact ⟨_, _, hr, hgr.1, hgr.2⟩
  · by_cases hroom : n + k ≤ cap
    · rw [Nat.mul_one] at hcs htake
      have hzl : (cellsOf (List.replicate k 0)).length = k := by simp [cellsOf]
      have hst := run_storeCells_at Tryz.prog g n 78 (cellsOf (List.replicate k 0)) 0 cur w hg (by rw [hzl]; omega) (cells_one _)
      simp only [Nat.add_zero] at hst
      have hzc : (Builtin.zeroCells (Value.int .u64 0).cells k).toList = cellsOf (List.replicate k 0) := zero_cells k
      refine ⟨.slice (some ⟨g, 0, none⟩) (n + k) cap, w.setRow g (cur.toList.take n ++ cellsOf (List.replicate k 0) ++ cur.toList.drop (n + (cellsOf (List.replicate k 0)).length)).toArray, ?_, ⟨by rw [hlen, Nat.mul_one], .inr ⟨g, cap, _, rfl, hbg, setRow_heap w g cur _ 78 _ hg, hroom, hcm, ?_, ?_⟩⟩, ⟨rfl, rfl, rfl, by simp, fun j _ hj => setRow_other w g j _ (fun e => hj (by simp [Value.ownBlock, e]))⟩⟩
      · by_cases hk0 : k = 0
        · subst hk0
          simp only [List.replicate_zero] at hst
          simp [Builtin.append_, run_underlying ht, run_underlying htn, sizeOf, typeInfo, hi, hsz, hby, hw0, asInt, asIntOf, go_sem, Addr.add_lit, hnc]
          rw [setRow_self w g cur 78 (0, 0) hg]
        · have hk1 : ¬ (k = 0) := hk0
          have hb8 : ¬ (281474976710656 < (k : Int) * 8) := by omega
          simp [Builtin.append_, run_underlying ht, run_underlying htn, sizeOf, typeInfo, zeroValue, hi, hz, hsz, hby, asInt, asIntOf, hw, hneg, hk1, hb8, hroom, Addr.add_lit, hzc]
          simp [cellsOf] at hst
          rw [hst]
          simp
      · simp only [List.size_toArray, List.length_append, List.length_take, List.length_drop, Array.length_toList, hzl]
        omega
      · rw [htake, Nat.mul_one, ← hlen]
        exact List.take_left
    · have holds : ∀ j u, (cellsOf xs)[j]? = some u → w.cell? ((⟨g, 0, none⟩ : Addr).add j) = some u := hown.cells (g := g) rfl
      have hold : (Builtin.firstCells i.size n (.slice (some ⟨g, 0, none⟩) n cap)).run Tryz.prog w.drew = .ok (cellsOf xs).toArray w.drew := run_firstCells_some (P := Tryz.prog) w.drew i.size n ⟨g, 0, none⟩ n cap (cellsOf xs) (by rw [hsz, hxl, Nat.mul_one]) holds
      have hr := Lib.run_append_grow_zeros (P := Tryz.prog) w 24 3 24 78 i (.int .u64 0) .i64 .i64 ht htn hi hz (some ⟨g, 0, none⟩) n cap (cellsOf xs) hold k (by omega) (by omega) (by omega) (by omega) (by rw [hby]; omega) (growslice_fits (by omega) (by rw [hby]; omega))
      have hgr := grown cap (Value.ownBlock (.slice (some ⟨g, 0, none⟩) n cap)) ((cellsOf xs).toArray ++ Builtin.zeroCells (Value.int .u64 0).cells k ++ Builtin.zeroCells (Value.int .u64 0).cells (grownCap w (n + k) cap 78 - (n + k))) (by rw [Array.toList_append, Array.toList_append, zero_cells])
      exact ⟨_, _, hr, hgr.1, hgr.2⟩

end Go.Proofs.YtiekgpphggejcaaGreatDoor

/- Two tables, compared. -/
namespace Go.Proofs.YtiekgpphggejcaaGreatDoor
open Go.RowKit
set_option linter.unusedSimpArgs false

theorem tab_eq {T U : Tab} (h0 : T.b = U.b) (h1 : T.t = U.t) (h2 : T.n = U.n) (h3 : T.d = U.d) (h4 : T.r = U.r) (h5 : T.l = U.l) (h6 : T.x = U.x) (h7 : T.p = U.p) (h8 : T.k = U.k) (h9 : T.s = U.s) (h10 : T.e = U.e) : T = U := by
  cases T; cases U
  simp only at h0 h1 h2 h3 h4 h5 h6 h7 h8 h9 h10
  subst h0 h1 h2 h3 h4 h5 h6 h7 h8 h9 h10
  rfl
set_option maxRecDepth 100000 in
set_option maxHeartbeats 3200000 in
theorem tabs_cmp (T U : Tab) (B : Bool) (hB : B = true ↔ T = U) (w : World) : (Op.equalIn Op.maxDepth 23 T.val U.val).run Tryz.prog w = .ok B w := by
  have ut := Tryz.underlying23
  have ui := Tryz.underlying3
  have hs : Tryz.prog.stoodInHeld 23 = false := by kernel_rfl
  by_cases h : T = U
  · obtain rfl := hB.2 h
    subst h
    unfold Tab.val
    rw [show Op.maxDepth = 9998 + 1 + 1 from rfl]
    unfold Op.equalIn
    simp [go_sem, ut, hs]
  · obtain rfl : B = false := by cases B with | true => exact absurd (hB.1 rfl) h | false => rfl
    unfold Tab.val
    rw [show Op.maxDepth = 9998 + 1 + 1 from rfl]
    unfold Op.equalIn
    simp [go_sem, ut, hs]
    intro h0 h1 h2 h3 h4 h5 h6 h7 h8 h9 h10
    exact h (tab_eq h0 h1 h2 h3 h4 h5 h6 h7 h8 h9 h10)
theorem Out.newW_g {g B n : Nat} {a b : World} {v : Value} (o : Out (· = g) a b) (r : NewW B a v n) (h : g < B) : NewW B b v n := o.newW r (fun k e => by rw [e]; exact h)
theorem Out.below_g {g : Nat} {w a b : World} (o : Out (· = g) a b) (h : Below w.heap.size w a) (hg : w.heap.size ≤ g) : Below w.heap.size w b := h.trans (o.below (B := w.heap.size) h.size (fun k hk => by rw [hk]; exact hg))
theorem ways2 {w : World} {gm gt gk ge g : Nat} {s l m : Int} {T : Tab} {gm' gt' gk' ge' g' : Nat} {s' l' m' : Int} {T' : Tab} (E : MEng w gm gt gk ge g s l m T) (F : MEng w gm' gt' gk' ge' g' s' l' m' T') :
    w.cell? ⟨gm, 0, none⟩ = some (.pointer (some ⟨gt, 0, none⟩)) ∧ w.cell? ⟨gt, 0, none⟩ = some (.pointer (some ⟨gk, 0, none⟩)) ∧ w.cell? ⟨gk, 0, none⟩ = some (.pointer (some ⟨ge, 0, none⟩)) ∧ w.cell? ⟨ge, 0, none⟩ = some (.pointer (some ⟨g, 0, none⟩)) ∧
    w.cell? ⟨gm', 0, none⟩ = some (.pointer (some ⟨gt', 0, none⟩)) ∧ w.cell? ⟨gt', 0, none⟩ = some (.pointer (some ⟨gk', 0, none⟩)) ∧ w.cell? ⟨gk', 0, none⟩ = some (.pointer (some ⟨ge', 0, none⟩)) ∧ w.cell? ⟨ge', 0, none⟩ = some (.pointer (some ⟨g', 0, none⟩)) :=
  ⟨E.way.1, E.way.2.1, E.way.2.2.1, E.way.2.2.2, F.way.1, F.way.2.1, F.way.2.2.1, F.way.2.2.2⟩

end Go.Proofs.YtiekgpphggejcaaGreatDoor

/- Rows in new memory, with zero words on top; two engines of one table: for the law on noughts. -/
namespace Go.Proofs.YtiekgpphggejcaaGreatDoor
open Go.RowKit

theorem append_none (w : World) (ga : Option Addr) (c : Nat) : (Builtin.append_ #[24, 24] 24 #[.slice none 0 0, .slice ga 0 c]).run Tryz.prog w = .ok (.slice none 0 0) w := by
  obtain ⟨i, hi, hz, hsz, hby⟩ := info_parts Tryz.infoU
  have ht := Tryz.underlying24
  cases ga with
  | none => simp [Builtin.append_, run_underlying ht, sizeOf, typeInfo, hi, Builtin.lenOf, Builtin.firstCells, go_sem]
  | some a => simp [Builtin.append_, run_underlying ht, sizeOf, typeInfo, hi, Builtin.lenOf, Builtin.firstCells, loadCells, loadCellsFrom, go_sem]

set_option maxRecDepth 100000 in
set_option maxHeartbeats 1600000 in
theorem keepCopy_any (w : World) (ga : Option Addr) (b o cap n : Nat) (xs : List Nat) (hl : xs.length = n) (hn : n ≤ 1000) (hR : Rep w ga b o cap xs) :
    Calls Tryz.prog 34 #[.slice ga n cap] w fun e w' => ∃ v, e = .returned v ∧ w'.ownsRow w.heap.size 78 1 v n (cellsOf xs) ∧ Below w.heap.size w w' := by
  obtain ⟨i0, hi, hz0, hz1, hz2⟩ := info_parts Tryz.infoU
  by_cases h0 : n = 0
  · subst h0
    have hx : xs = [] := List.length_eq_zero_iff.1 hl
    subst hx
    have hr := append_none w ga cap
    go_enter Tryz.func34, Tryz.ntmps34
    go_wp2_with (at_builtin; refine Lib.wpList_append_run _ rfl _ _ _ _ rfl _ _ rfl rfl _ _ hr ?_)
    go_ret
    exact ⟨_, rfl, World.ownsRow_nil _ _ _ _, Below.refl _ _⟩
  · obtain rfl := hR.head (by omega)
    have hcell : ∀ j u, (cellsOf xs)[j]? = some u → w.cell? ((⟨b, o, none⟩ : Addr).add j) = some u := fun j u hu => by
      have hj : j < xs.length := by
        have := (List.getElem?_eq_some_iff.1 hu).1
        simpa [cellsOf] using this
      have hc := hR.cell j hj
      rw [Addr.add_lit]
      rw [hc]
      simp [cellsOf, List.getElem?_eq_getElem hj] at hu
      rw [← hu]
      simp [List.getD_eq_getElem?_getD, List.getElem?_eq_getElem hj]
    go_enter Tryz.func34, Tryz.ntmps34
    go_wp2_with (at_builtin; refine wpList_append_own _ rfl _ _ 24 rfl w.heap.size 78 i0 (.int .u64 0) 1 8 Tryz.underlying24 hi hz0 hz1 hz2 rfl (by omega) (.slice none 0 0) 0 [] rfl (World.ownsRow_nil _ _ _ _) ⟨b, o, none⟩ n cap (cellsOf xs) rfl (by simp [cellsOf, hl]) hcell (cells_one xs) (by unfold maxLen; omega) (by omega) (Nat.le_refl _) ?_; intro v1 w1 hown1 hgrow1 hnil1)
    go_ret
    exact ⟨v1, rfl, by simpa using hown1, (Below.refl w.heap.size w).grown hgrow1 (Nat.le_refl _) (fun k e => by simp [Value.ownBlock] at e)⟩

theorem nowns_rep {w : World} {base n : Nat} {v : Value} {xs : List Nat} (h : w.ownsRow base 78 1 v n (cellsOf xs)) : ∃ ga b cap, v = .slice ga n cap ∧ xs.length = n ∧ Rep w ga b 0 cap xs := by
  rcases h.2 with ⟨rfl, rfl⟩ | ⟨g, cap, cur, rfl, hb, hg, hc, hm, hs, ht⟩
  · have hx : xs = [] := by
      have := h.1
      simp [cellsOf] at this
      exact this
    subst hx
    exact ⟨none, 0, 0, rfl, rfl, Rep.nil _ _ _ _ _⟩
  · obtain ⟨h1, h2⟩ := rep_of_owns (show w.ownsRow base 78 1 (.slice (some ⟨g, 0, none⟩) n cap) n (cellsOf xs) from ⟨h.1, Or.inr ⟨g, cap, cur, rfl, hb, hg, hc, hm, hs, ht⟩⟩)
    exact ⟨_, g, cap, rfl, h1, h2⟩
theorem nval_noughts (us : List Nat) (k : Nat) : wval (us ++ List.replicate k 0) = wval us := by rw [wval_append, (wzeros k).2, Nat.mul_zero, Nat.add_zero]
theorem ndig_noughts {us : List Nat} (h : WDig us) (k : Nat) : WDig (us ++ List.replicate k 0) := wDig_append h (wzeros k).1
theorem newW_nought {B : Nat} {w : World} {v : Value} (h : NewW B w v 0) : ∃ ga cap, v = .slice ga 0 cap := by
  obtain ⟨ga, b, cap, xs, rfl, hr, hc, hv, _⟩ := h.rep
  have := wl_can hc
  rw [hv, wl_zero] at this
  exact ⟨ga, cap, by rw [← this]⟩

theorem inM_zeros (W : World) (k : Nat) (hk : k ≤ 16384) : InM (W.alloc (.cells (zlist k).toArray 78)) (.slice (some ⟨W.heap.size, 0, none⟩) k k) 0 :=
  ⟨_, W.heap.size, 0, k, List.replicate k 0, by rw [List.length_replicate], Blk.whole (blk_noughts W k) (by simp), (wzeros k).1, (wzeros k).2, by simpa using hk⟩
theorem inM_nil (W : World) : InM W (.slice none 0 0) 0 := ⟨none, 0, 0, 0, [], rfl, Rep.nil _ _ _ _ _, wDig_nil, rfl, by simp⟩

/-- Two engines of one table, live in a law's walk, and four rows. -/
structure NSt (w W : World) (B gm gt gk ge g gm' gt' gk' ge' g' : Nat) (s m s' m' : Int) (T : Tab) (va vb vx vy : Value) (A D : Nat) : Prop where
  E : MEng W gm gt gk ge g s 0 m T
  F : MEng W gm' gt' gk' ge' g' s' 0 m' T
  ia : InM W va A
  ib : InM W vb D
  ix : InM W vx A
  iy : InM W vy D
  hT : TB w
  bl : Below w.heap.size w W
  hB : B ≤ W.heap.size
  lg : g < B ∧ g' < B ∧ g ≠ g' ∧ w.heap.size ≤ g ∧ w.heap.size ≤ g'
  rs : 0 ≤ s ∧ s ≤ 576460752303423488 ∧ 0 ≤ s' ∧ s' ≤ 576460752303423488
theorem NSt.next {w W W' : World} {B gm gt gk ge g gm' gt' gk' ge' g' : Nat} {s m s' m' : Int} {T : Tab} {va vb vx vy : Value} {A D : Nat} (h : NSt w W B gm gt gk ge g gm' gt' gk' ge' g' s m s' m' T va vb vx vy A D) (b : Below W.heap.size W W') : NSt w W' B gm gt gk ge g gm' gt' gk' ge' g' s m s' m' T va vb vx vy A D :=
  ⟨h.E.next b, h.F.next b, h.ia.next b, h.ib.next b, h.ix.next b, h.iy.next b, h.hT, bstep h.bl b, Nat.le_trans h.hB b.size, h.lg, h.rs⟩
theorem NSt.tb {w W : World} {B gm gt gk ge g gm' gt' gk' ge' g' : Nat} {s m s' m' : Int} {T : Tab} {va vb vx vy : Value} {A D : Nat} (h : NSt w W B gm gt gk ge g gm' gt' gk' ge' g' s m s' m' T va vb vx vy A D) : TB W := h.hT.next h.bl
theorem NSt.stepE {w W W' : World} {B gm gt gk ge g gm' gt' gk' ge' g' : Nat} {s m s' m' s2 m2 : Int} {T : Tab} {va vb vx vy : Value} {A D : Nat} (h : NSt w W B gm gt gk ge g gm' gt' gk' ge' g' s m s' m' T va vb vx vy A D) (o : Out (· = g) W W') (E : MEng W' gm gt gk ge g s2 0 m2 T) (r : 0 ≤ s2 ∧ s2 ≤ 576460752303423488) : NSt w W' B gm gt gk ge g gm' gt' gk' ge' g' s2 m2 s' m' T va vb vx vy A D :=
  ⟨E, h.E.other o h.F h.lg.2.2.1.symm, h.E.inM o h.ia, h.E.inM o h.ib, h.E.inM o h.ix, h.E.inM o h.iy, h.hT, o.below_g h.bl h.lg.2.2.2.1, Nat.le_trans h.hB o.size, h.lg, r.1, r.2, h.rs.2.2⟩
theorem NSt.stepF {w W W' : World} {B gm gt gk ge g gm' gt' gk' ge' g' : Nat} {s m s' m' s2 m2 : Int} {T : Tab} {va vb vx vy : Value} {A D : Nat} (h : NSt w W B gm gt gk ge g gm' gt' gk' ge' g' s m s' m' T va vb vx vy A D) (o : Out (· = g') W W') (F : MEng W' gm' gt' gk' ge' g' s2 0 m2 T) (r : 0 ≤ s2 ∧ s2 ≤ 576460752303423488) : NSt w W' B gm gt gk ge g gm' gt' gk' ge' g' s m s2 m2 T va vb vx vy A D :=
  ⟨h.F.other o h.E h.lg.2.2.1, F, h.F.inM o h.ia, h.F.inM o h.ib, h.F.inM o h.ix, h.F.inM o h.iy, h.hT, o.below_g h.bl h.lg.2.2.2.2, Nat.le_trans h.hB o.size, h.lg, h.rs.1, h.rs.2.1, r.1, r.2⟩

section
variable {w W : World} {B gm gt gk ge g gm' gt' gk' ge' g' : Nat} {s m s' m' : Int} {T : Tab} {va vb vx vy : Value} {A D : Nat}
theorem NSt.emul (SM : SpecMMul) (h : NSt w W B gm gt gk ge g gm' gt' gk' ge' g' s m s' m' T va vb vx vy A D) {u v : Value} {P Q : Nat} (hs : s ≤ 100000000000) (hu : InM W u P) (hv : InM W v Q) :
    Calls Tryz.prog 12 #[.pointer (some ⟨gm, 0, none⟩), u, v] W fun e W' => ∃ ra rl rc m2, e = .returned (.slice ra rl rc) ∧ NewW B W' (.slice ra rl rc) (P * Q) ∧ NSt w W' B gm gt gk ge g gm' gt' gk' ge' g' (s + costT T (wl P : Int) (wl Q : Int)) m2 s' m' T va vb vx vy A D ∧ (∀ x n, NewW B W x n → NewW B W' x n) := by
  refine (SM W gm gt gk ge g s 0 m T u v P Q h.E h.tb h.rs.1 (by omega) (by omega) (by omega) hu hv).mono ?_
  rintro e W' ⟨r, m2, rfl, nr, E2, _, _, o⟩
  obtain ⟨ra, rl, rc, rfl⟩ := nr.shape
  have c := costT_le T (wl P) (wl Q) hu.wl_le hv.wl_le
  have q : wl P * wl Q ≤ 16384 * 16384 := Nat.mul_le_mul hu.wl_le hv.wl_le
  have := h.rs
  exact ⟨ra, rl, rc, m2, rfl, nr.mono h.hB, h.stepE o E2 (by omega), fun x n hx => o.newW_g hx h.lg.1⟩
theorem NSt.fmul (SM : SpecMMul) (h : NSt w W B gm gt gk ge g gm' gt' gk' ge' g' s m s' m' T va vb vx vy A D) {u v : Value} {P Q : Nat} (hs : s' ≤ 100000000000) (hu : InM W u P) (hv : InM W v Q) :
    Calls Tryz.prog 12 #[.pointer (some ⟨gm', 0, none⟩), u, v] W fun e W' => ∃ ra rl rc m2, e = .returned (.slice ra rl rc) ∧ NewW B W' (.slice ra rl rc) (P * Q) ∧ NSt w W' B gm gt gk ge g gm' gt' gk' ge' g' s m (s' + costT T (wl P : Int) (wl Q : Int)) m2 T va vb vx vy A D ∧ (∀ x n, NewW B W x n → NewW B W' x n) := by
  refine (SM W gm' gt' gk' ge' g' s' 0 m' T u v P Q h.F h.tb h.rs.2.2.1 (by omega) (by omega) (by omega) hu hv).mono ?_
  rintro e W' ⟨r, m2, rfl, nr, E2, _, _, o⟩
  obtain ⟨ra, rl, rc, rfl⟩ := nr.shape
  have c := costT_le T (wl P) (wl Q) hu.wl_le hv.wl_le
  have q : wl P * wl Q ≤ 16384 * 16384 := Nat.mul_le_mul hu.wl_le hv.wl_le
  have := h.rs
  exact ⟨ra, rl, rc, m2, rfl, nr.mono h.hB, h.stepF o E2 (by omega), fun x n hx => o.newW_g hx h.lg.2.1⟩
theorem NSt.esqr (SQ : SpecMSqr) (h : NSt w W B gm gt gk ge g gm' gt' gk' ge' g' s m s' m' T va vb vx vy A D) {u : Value} {P : Nat} (hs : s ≤ 100000000000) (hu : InM W u P) :
    Calls Tryz.prog 25 #[.pointer (some ⟨gm, 0, none⟩), u] W fun e W' => ∃ ra rl rc m2, e = .returned (.slice ra rl rc) ∧ NewW B W' (.slice ra rl rc) (P * P) ∧ NSt w W' B gm gt gk ge g gm' gt' gk' ge' g' (s + sqT T (wl P : Int)) m2 s' m' T va vb vx vy A D ∧ (∀ x n, NewW B W x n → NewW B W' x n) := by
  refine (SQ W gm gt gk ge g s 0 m T u P h.E h.tb h.rs.1 (by omega) (by omega) (by omega) hu).mono ?_
  rintro e W' ⟨r, m2, rfl, nr, E2, _, _, o⟩
  obtain ⟨ra, rl, rc, rfl⟩ := nr.shape
  have c := sqT_le T (wl P) hu.wl_le
  have q : wl P * wl P ≤ 16384 * 16384 := Nat.mul_le_mul hu.wl_le hu.wl_le
  have := h.rs
  exact ⟨ra, rl, rc, m2, rfl, nr.mono h.hB, h.stepE o E2 (by omega), fun x n hx => o.newW_g hx h.lg.1⟩
theorem NSt.fsqr (SQ : SpecMSqr) (h : NSt w W B gm gt gk ge g gm' gt' gk' ge' g' s m s' m' T va vb vx vy A D) {u : Value} {P : Nat} (hs : s' ≤ 100000000000) (hu : InM W u P) :
    Calls Tryz.prog 25 #[.pointer (some ⟨gm', 0, none⟩), u] W fun e W' => ∃ ra rl rc m2, e = .returned (.slice ra rl rc) ∧ NewW B W' (.slice ra rl rc) (P * P) ∧ NSt w W' B gm gt gk ge g gm' gt' gk' ge' g' s m (s' + sqT T (wl P : Int)) m2 T va vb vx vy A D ∧ (∀ x n, NewW B W x n → NewW B W' x n) := by
  refine (SQ W gm' gt' gk' ge' g' s' 0 m' T u P h.F h.tb h.rs.2.2.1 (by omega) (by omega) (by omega) hu).mono ?_
  rintro e W' ⟨r, m2, rfl, nr, E2, _, _, o⟩
  obtain ⟨ra, rl, rc, rfl⟩ := nr.shape
  have c := sqT_le T (wl P) hu.wl_le
  have q : wl P * wl P ≤ 16384 * 16384 := Nat.mul_le_mul hu.wl_le hu.wl_le
  have := h.rs
  exact ⟨ra, rl, rc, m2, rfl, nr.mono h.hB, h.stepF o E2 (by omega), fun x n hx => o.newW_g hx h.lg.2.1⟩
end

end Go.Proofs.YtiekgpphggejcaaGreatDoor

/- Two answers that say the same number have the same words. -/
namespace Go.Proofs.YtiekgpphggejcaaGreatDoor
open Go.RowKit

theorem same_two (w : World) (u v : Value) (m n B C p : Nat) (hp : p ≤ 1073741824) (hm : m < 18446744073709551616 ^ p) (e : m = n) (hu : NewW B w u m) (hv : NewW C w v n) :
    Calls Tryz.prog 31 #[u, v] w fun e w' => e = .returned (.bool true) ∧ Below w.heap.size w w' := by
  obtain ⟨ga, b, cap, xs, rfl, hr, hc, hw, _⟩ := hu.rep
  obtain ⟨gb, bb, cb, rfl, rb⟩ := new_words hv hc (hw.trans e)
  have := wlen_le hc (L := p) (by rw [hw]; exact hm)
  exact keepSame_any w ga gb b 0 cap bb 0 cb _ xs rfl (by omega) hr rb

end Go.Proofs.YtiekgpphggejcaaGreatDoor
