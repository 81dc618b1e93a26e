/- A slice of words that came in, as the walks read it. -/
import Derived.Test.YtmkcklgmdkkmdaaDoorM5
import Derived.OpenShut
import Derived.Test.YtmkcklgmdkkmdaaDoorM3
import Derived.Test.YtmkcklgmdkkmdaaDoorM4
import Derived.Test.YtmkcklgmdkkmdaaDoorM1
namespace Go.Proofs.YtmkcklgmdkkmdaaDoor
open Go.RowKit

theorem row_rep {w : World} {a : Option Addr} {len cap : Nat} {zs : List Int} (h : (a = none ∧ len = 0 ∧ cap = 0 ∧ zs = []) ∨ ∃ x, a = some x ∧ len ≤ cap ∧ cap ≤ maxLen ∧ zs.length = cap ∧ (∀ i, i < zs.length → w.cell? (x.add i) = some (.int .u64 (zs.getD i 0))) ∧ ∀ n ∈ zs, (Lit.int .u64 n).wf = true) :
    ∃ b o xs, xs.length = len ∧ Rep w a b o cap xs ∧ ∀ j, xs.getD j 0 < 18446744073709551616 := by
  rcases h with ⟨rfl, rfl, rfl, rfl⟩ | ⟨x, rfl, h1, h2, h3, h4, h5⟩
  · exact ⟨0, 0, [], rfl, Rep.nil _ _ _ _ _, fun j => by simp⟩
  · by_cases h0 : len = 0
    · exact ⟨0, 0, [], by simp [h0], Rep.nil _ _ _ _ _, fun j => by simp⟩
    · obtain ⟨b, off, rfl, hc⟩ := ints_at h4 (by omega)
      have hl : ((zs.take len).map Int.toNat).length = len := by simp; omega
      have hg : ∀ j, j < len → ((zs.take len).map Int.toNat).getD j 0 = (zs.getD j 0).toNat := fun j hj => by
        have hj2 : j < zs.length := by omega
        simp [List.getD_eq_getElem?_getD, hj, hj2]
      have hw : ∀ j, j < len → 0 ≤ zs.getD j 0 ∧ zs.getD j 0 ≤ 18446744073709551615 := fun j hj => by
        have hj2 : j < zs.length := by omega
        have e : zs.getD j 0 = zs[j] := by simp [List.getD_eq_getElem?_getD, hj2]
        rw [e]; exact bounds_u64 (h5 _ (List.getElem_mem hj2))
      refine ⟨b, off, (zs.take len).map Int.toNat, hl, ⟨fun _ => rfl, by omega, fun j hj => ?_⟩, fun j => ?_⟩
      · rw [hl] at hj
        rw [hc j (by omega), hg j hj, Int.toNat_of_nonneg (hw j hj).1]
      · by_cases hj : j < len
        · rw [hg j hj]; have := hw j hj; omega
        · rw [getD_ge (by omega)]; omega

end Go.Proofs.YtmkcklgmdkkmdaaDoor

/- Rows of words in blocks of their own, as limb's walks read them. -/
namespace Go.Proofs.YtmkcklgmdkkmdaaDoor
open Go.RowKit

/-- Block g holds the words zs, and nothing else. -/
def Blk (w : World) (g : Nat) (zs : List Nat) : Prop := w.heap[g]? = some (.cells (cellsOf zs).toArray 22 (0, 0))

theorem Blk.lt {w : World} {g : Nat} {zs : List Nat} (h : Blk w g zs) : g < w.heap.size := (Array.getElem?_eq_some_iff.1 h).1
theorem Blk.cell {w : World} {g : Nat} {zs : List Nat} (h : Blk w g zs) (j : Nat) (hj : j < zs.length) : w.cell? ⟨g, j, none⟩ = some (.int .u64 ((zs.getD j 0 : Nat) : Int)) := by
  rw [cell_of_row w g j _ _ (0, 0) h]
  simp [cellsOf, hj]
theorem Blk.frozen {w : World} {g : Nat} {zs : List Nat} (h : Blk w g zs) (j : Nat) : w.frozen? ⟨g, j, none⟩ = false := frozen_of_row w g j _ _ h
theorem Blk.set {w : World} {g : Nat} {zs : List Nat} (h : Blk w g zs) (k d : Nat) : Blk (w.setCell ⟨g, k, none⟩ (.int .u64 ((d : Nat) : Int))) g (zs.set k d) := by
  have := heap_setCell_same w g k _ _ (.int .u64 ((d : Nat) : Int)) h
  show _ = _
  rw [this]
  simp [cellsOf, List.map_set]
theorem Blk.below {w w' : World} {B g : Nat} {zs : List Nat} (h : Blk w g zs) (hb : Below B w w') (hg : g < B) : Blk w' g zs := (hb.block g hg).trans h
theorem Blk.next {w w' : World} {g : Nat} {zs : List Nat} (h : Blk w g zs) (hb : Below w.heap.size w w') : Blk w' g zs := h.below hb h.lt
theorem Blk.but {w w' : World} {g k : Nat} {zs : List Nat} (h : Blk w g zs) (hb : w.grownBy w' (some k)) (hk : g ≠ k) : Blk w' g zs := (hb.block g h.lt (fun e => hk (Option.some.inj e))).trans h
theorem Blk.drewN {w : World} {g : Nat} {zs : List Nat} (h : Blk w g zs) (n : Nat) : Blk (w.drewN n) g zs := h
theorem Blk.rep {w : World} {g : Nat} {zs : List Nat} (h : Blk w g zs) (o n cap : Nat) (hn : o + n ≤ zs.length) (hc : n ≤ cap) : Rep w (some ⟨g, o, none⟩) g o cap ((zs.drop o).take n) := by
  have hl : ((zs.drop o).take n).length = n := by simp; omega
  refine ⟨fun _ => rfl, by omega, fun j hj => ?_⟩
  rw [hl] at hj
  rw [h.cell (o + j) (by omega)]
  have e : ((zs.drop o).take n).getD j 0 = zs.getD (o + j) 0 := by
    simp [List.getD_eq_getElem?_getD, hj]
  rw [e]

theorem Rep.but {w w' : World} {ga : Option Addr} {b o cap k : Nat} {xs : List Nat} (h : Rep w ga b o cap xs) (hb : w.grownBy w' (some k)) (hk : 0 < xs.length → b ≠ k) : Rep w' ga b o cap xs :=
  ⟨h.head, h.room, fun j hj => hb.cell (h.cell j hj) (fun e => hk (by omega) (Option.some.inj e))⟩
theorem IsN.but {w w' : World} {v : Value} {n k : Nat} (h : IsN w v n) (hb : w.grownBy w' (some k)) (hk : ∀ ga b o cap xs, v = .slice ga xs.length cap → Rep w ga b o cap xs → 0 < xs.length → b ≠ k) : IsN w' v n := by
  obtain ⟨ga, b, o, cap, xs, rfl, hr, hc, hv⟩ := h
  exact ⟨ga, b, o, cap, xs, rfl, hr.but hb (hk ga b o cap xs rfl hr), hc, hv⟩

/-- A row that comes in: any words, noughts on top too; n is what they say. -/
def InW (w : World) (v : Value) (n : Nat) : Prop := ∃ ga b o cap xs, v = .slice ga xs.length cap ∧ Rep w ga b o cap xs ∧ WDig xs ∧ wval xs = n ∧ xs.length ≤ 1073741824
/-- A natural as limb answers it: nil, or its words, none of them a nought on top, at the head of a block of its own, which is not below B. -/
def NewW (B : Nat) (w : World) (v : Value) (n : Nat) : Prop :=
  ∃ xs, WCan xs ∧ wval xs = n ∧ ((v = .slice none 0 0 ∧ xs = []) ∨ ∃ g ys, B ≤ g ∧ v = .slice (some ⟨g, 0, none⟩) xs.length (xs ++ ys).length ∧ Blk w g (xs ++ ys) ∧ xs.length + ys.length ≤ 1099511627776)

theorem InW.next {w w' : World} {v : Value} {n : Nat} (h : InW w v n) (hb : Below w.heap.size w w') : InW w' v n := by
  obtain ⟨ga, b, o, cap, xs, rfl, hr, hd, hv, hl⟩ := h
  exact ⟨ga, b, o, cap, xs, rfl, hr.next hb, hd, hv, hl⟩
theorem NewW.next {B : Nat} {w w' : World} {v : Value} {n : Nat} (h : NewW B w v n) (hb : Below w.heap.size w w') : NewW B w' v n := by
  obtain ⟨xs, hc, hv, h | ⟨g, ys, hg, rfl, hk, hl⟩⟩ := h
  · exact ⟨xs, hc, hv, Or.inl h⟩
  · exact ⟨xs, hc, hv, Or.inr ⟨g, ys, hg, rfl, hk.next hb, hl⟩⟩
theorem NewW.mono {B B' : Nat} {w : World} {v : Value} {n : Nat} (h : NewW B w v n) (hb : B' ≤ B) : NewW B' w v n := by
  obtain ⟨xs, hc, hv, h | ⟨g, ys, hg, rfl, hk, hl⟩⟩ := h
  · exact ⟨xs, hc, hv, Or.inl h⟩
  · exact ⟨xs, hc, hv, Or.inr ⟨g, ys, Nat.le_trans hb hg, rfl, hk, hl⟩⟩
/-- What limb answers may be handed in. -/
theorem NewW.rep {B : Nat} {w : World} {v : Value} {n : Nat} (h : NewW B w v n) : ∃ ga b cap xs, v = .slice ga xs.length cap ∧ Rep w ga b 0 cap xs ∧ WCan xs ∧ wval xs = n ∧ (0 < xs.length → B ≤ b) := by
  obtain ⟨xs, hc, hv, ⟨rfl, rfl⟩ | ⟨g, ys, hg, rfl, hk, hl⟩⟩ := h
  · exact ⟨none, 0, 0, [], rfl, Rep.nil _ _ _ _ _, hc, hv, fun h => absurd h (by simp)⟩
  · have := hk.rep 0 xs.length (xs ++ ys).length (by simp) (by simp)
    rw [List.drop_zero, List.take_left] at this
    exact ⟨_, g, _, xs, rfl, this, hc, hv, fun _ => hg⟩
theorem NewW.toIn {B : Nat} {w : World} {v : Value} {n p : Nat} (h : NewW B w v n) (hn : n < 18446744073709551616 ^ p) (hp : p ≤ 1073741824) : InW w v n := by
  obtain ⟨ga, b, cap, xs, rfl, hr, hc, hv, _⟩ := h.rep
  exact ⟨ga, b, 0, cap, xs, rfl, hr, hc.1, hv, by have := wlen_le hc (L := p) (by rw [hv]; exact hn); omega⟩
theorem newW_nil (B : Nat) (w : World) : NewW B w (.slice none 0 0) 0 := ⟨[], wCan_nil, rfl, Or.inl ⟨rfl, rfl⟩⟩
/-- A row in a block of its own, trimmed. -/
theorem newW_blk {B : Nat} {w : World} {g : Nat} {zs : List Nat} (hg : B ≤ g) (h : Blk w g zs) (hd : WDig zs) (hl : zs.length ≤ 1099511627776) : NewW B w (.slice (some ⟨g, 0, none⟩) (nlen zs zs.length) zs.length) (wval zs) := by
  refine ⟨nrm zs, nrm_wcan hd, nrm_wval zs, Or.inr ⟨g, zs.drop (nlen zs zs.length), hg, ?_, ?_, ?_⟩⟩
  · rw [nrm_length]; congr 1; unfold nrm; rw [List.take_append_drop]
  · unfold nrm; rw [List.take_append_drop]; exact h
  · rw [nrm_length]; have := nlen_le zs zs.length; simp; omega

end Go.Proofs.YtmkcklgmdkkmdaaDoor

/- A row of noughts, made; transforms by their definition, in residues. -/
namespace Go.Proofs.YtmkcklgmdkkmdaaDoor
open Go.RowKit

theorem blk_zeros (w : World) (n : Nat) : Blk (w.alloc (.cells (zlist n).toArray 22)) w.heap.size (List.replicate n 0) := heap_alloc_new w _
theorem make_su (n cp : Nat) (z : Int) (hz : z = (cp : Int)) (h : cp = n) (hb : cp ≤ 2199023255552) : ∀ w, (Instr.makeSlice 36 (.int .i64 z) (.int .i64 z)).run Tryd.prog w = .ok (.slice (some ⟨w.heap.size, 0, none⟩) n n) (w.alloc (.cells (zlist n).toArray 22)) := fun w => by
  obtain ⟨i0, hi, hz0, hz1, hz2⟩ := info_parts Tryd.infoU
  subst hz h
  have h := run_make (P := Tryd.prog) w 36 22 i0 (.int .u64 0) Tryd.underlying36 hi hz0 .i64 .i64 (cp : Int) (cp : Int) (by omega) (by omega) (by rw [hz2]; omega) (by omega)
  rw [h]
  have e1 : ((cp : Int)).toNat = cp := by omega
  rw [e1, hz1, Nat.mul_one, made_zlist]

theorem ad_cg (p a b : Nat) : Cg p (ad p a b : Int) ((a : Int) + (b : Int)) := by
  unfold ad
  exact (Cg.mod p _).trans (Cg.of_eq (Int.natCast_add a b))
theorem ml_cg (p a b : Nat) : Cg p (ml p a b : Int) ((a : Int) * (b : Int)) := by
  unfold ml
  exact (Cg.mod p _).trans (Cg.of_eq (Int.natCast_mul a b))
theorem pwz_cg (p a n : Nat) : Cg p (pw p a n : Int) ((a : Int) ^ n) := by
  unfold pw
  exact (Cg.mod p _).trans (Cg.of_eq (Int.natCast_pow a n))

/-- The sum of the first m of what goes into the k-th. -/
def part (p w : Nat) (xs : List Nat) (k : Nat) : Nat → Nat
  | 0 => 0
  | m + 1 => ad p (part p w xs k m) (ml p (xs.getD m 0) (pw p w (m * k)))
/-- A row as a function of the place. -/
def rowI (xs : List Nat) (j : Nat) : Int := ((xs.getD j 0 : Nat) : Int)
theorem part_cg (p w : Nat) (xs : List Nat) (k m : Nat) : Cg p (part p w xs k m : Int) (dft (w : Int) m (rowI xs) k) := by
  induction m with
  | zero => exact Cg.refl _ _
  | succ m ih => exact (ad_cg p _ _).trans (ih.add ((ml_cg p _ _).trans ((Cg.refl p _).mul (pwz_cg p w _))))
theorem part_lt {p : Nat} (hp : 0 < p) (w : Nat) (xs : List Nat) (k m : Nat) : part p w xs k m < p := by
  cases m with
  | zero => exact hp
  | succ m => exact Nat.mod_lt _ hp
/-- The transform, in residues. -/
def fwd (p w : Nat) (xs : List Nat) : List Nat := (List.range xs.length).map fun k => part p w xs k xs.length
theorem fwd_length (p w : Nat) (xs : List Nat) : (fwd p w xs).length = xs.length := by simp [fwd]
theorem fwd_at (p w : Nat) (xs : List Nat) {k : Nat} (h : k < xs.length) : (fwd p w xs).getD k 0 = part p w xs k xs.length := by simp [fwd, h]
theorem list_of {xs ys : List Nat} (hl : xs.length = ys.length) (h : ∀ k, k < ys.length → xs.getD k 0 = ys.getD k 0) : xs = ys := by
  apply List.ext_getElem hl
  intro k h1 h2
  have := h k h2
  simpa [h1, h2] using this

/-- zs is the transform as far as the k-th place, of which m are summed. -/
def FRow (p w : Nat) (xs zs : List Nat) (k m : Nat) : Prop := zs.length = xs.length ∧ ∀ i, i < xs.length → zs.getD i 0 = if i < k then part p w xs i xs.length else if i = k then part p w xs k m else 0
theorem frow_start (p w : Nat) (xs : List Nat) : FRow p w xs (List.replicate xs.length 0) 0 0 := by
  refine ⟨by simp, fun i hi => ?_⟩
  rw [if_neg (by omega)]
  have : (List.replicate xs.length 0).getD i 0 = 0 := by simp [hi]
  rw [this]
  split <;> rfl
theorem frow_at {p w : Nat} {xs zs : List Nat} {k m : Nat} (h : FRow p w xs zs k m) (hk : k < xs.length) : zs.getD k 0 = part p w xs k m := by
  have := h.2 k hk
  rw [if_neg (by omega), if_pos rfl] at this
  exact this
theorem frow_step {p w : Nat} {xs zs : List Nat} {k m : Nat} (h : FRow p w xs zs k m) (hk : k < xs.length) : FRow p w xs (zs.set k (part p w xs k (m + 1))) k (m + 1) := by
  refine ⟨by simpa using h.1, fun i hi => ?_⟩
  have h0 := h.2 i hi
  have hl : k < zs.length := by rw [h.1]; exact hk
  by_cases hik : i = k
  · subst hik
    rw [if_neg (by omega), if_pos rfl]
    simp [hl]
  · rw [if_neg hik] at h0 ⊢
    have : (zs.set k (part p w xs k (m + 1))).getD i 0 = zs.getD i 0 := by
      simp [List.getElem?_set_ne (Ne.symm hik)]
    rw [this]
    exact h0
theorem frow_next {p w : Nat} {xs zs : List Nat} {k : Nat} (h : FRow p w xs zs k xs.length) : FRow p w xs zs (k + 1) 0 := by
  refine ⟨h.1, fun i hi => ?_⟩
  rw [h.2 i hi]
  by_cases h1 : i < k
  · rw [if_pos h1, if_pos (by omega)]
  · rw [if_neg h1]
    by_cases h2 : i = k
    · subst h2
      rw [if_pos rfl, if_pos (by omega)]
    · rw [if_neg h2, if_neg (by omega)]
      split <;> rfl
theorem frow_end {p w : Nat} {xs zs : List Nat} (h : FRow p w xs zs xs.length 0) : zs = fwd p w xs := by
  refine list_of (by rw [h.1, fwd_length]) fun k hk => ?_
  rw [fwd_length] at hk
  rw [h.2 k hk, if_pos hk, fwd_at p w xs hk]

theorem pw_step (p w k j : Nat) : ml p (pw p w (j * k)) (pw p w k) = pw p w ((j + 1) * k) := by
  unfold ml pw
  rw [modmul, ← Nat.pow_add, Nat.add_mul, Nat.one_mul]
theorem pw_one_more (p w k : Nat) : ml p (pw p w k) w = pw p w (k + 1) := pw_more p w k

end Go.Proofs.YtmkcklgmdkkmdaaDoor

/- Same and Spoil of keep. -/
namespace Go.Proofs.YtmkcklgmdkkmdaaDoor
open Go.RowKit

set_option maxRecDepth 100000 in
set_option maxHeartbeats 1600000 in
theorem keepSame_any (w : World) (ga gb : Option Addr) (ba oa ca bb ob cb n : Nat) (xs : List Nat) (hx : xs.length = n) (hn : n ≤ 1073741824) (hA : Rep w ga ba oa ca xs) (hB : Rep w gb bb ob cb xs) :
    Calls Tryd.prog 19 #[.slice ga n ca, .slice gb n cb] w fun e w' => e = .returned (.bool true) ∧ Below w.heap.size w w' := by
  have q1 : ((n : Int) != (n : Int)) = false := by simp
  go_enter Tryd.func19, Tryd.ntmps19
  go_wp2
  go_loopw [5] (fun i wr => ∃ k : Nat, k ≤ n ∧ i = .int .i64 (k : Int) ∧ Below w.heap.size w wr) (fun i _ => n - (intOf i).toNat)
  case atStart => exact ⟨0, Nat.zero_le _, rfl, Below.refl _ _⟩
  case round =>
    obtain ⟨k, hk, rfl, hnx⟩ := hrel
    by_cases h1 : k < n
    · obtain rfl := hA.head (by omega)
      obtain rfl := hB.head (by omega)
      obtain ⟨x, hxe⟩ : ∃ x : Nat, x = xs.getD k 0 := ⟨_, rfl⟩
      have c1 : wr.cell? ⟨ba, oa + k, none⟩ = some (.int .u64 (x : Int)) := by rw [hxe]; exact (hnx.cell (by exact hA.lt (by omega))).trans (hA.cell k (by omega))
      have c2 : wr.cell? ⟨bb, ob + k, none⟩ = some (.int .u64 (x : Int)) := by rw [hxe]; exact (hnx.cell (by exact hB.lt (by omega))).trans (hB.cell k (by omega))
      have s2 : ((x : Int) != (x : Int)) = false := by simp
      clear hxe
      go_wp2
      go_quiet (fail)
      go_wp2
      exact ⟨⟨k + 1, by omega, by go_num, below_drewN hnx _⟩, by simp [intOf]; omega⟩
    · go_wp2
      go_ret
      exact ⟨rfl, hnx⟩

set_option maxRecDepth 100000 in
set_option maxHeartbeats 1600000 in
theorem spoil_blk (w : World) (g n cap : Nat) (z0 : List Nat) (hz : z0.length = cap) (_hn : n ≤ cap) (hc : cap ≤ 1099511627776) (hB : Blk w g z0) :
    Calls Tryd.prog 22 #[.slice (some ⟨g, 0, none⟩) n cap] w fun e w' => e = .returned (.tuple #[]) ∧ w.grownBy w' (some g) := by
  go_enter Tryd.func22, Tryd.ntmps22
  go_wp2
  go_loopw [3] (fun i wr => ∃ (k : Nat) (zs : List Nat), k ≤ cap ∧ i = .int .i64 (k : Int) ∧ zs.length = cap ∧ Blk wr g zs ∧ w.grownBy wr (some g)) (fun i _ => cap - (intOf i).toNat)
  case atStart => exact ⟨0, z0, Nat.zero_le _, rfl, hz, hB, grown_refl _ _⟩
  case round =>
    obtain ⟨k, zs, hk, rfl, hzl, hBlk, hG⟩ := hrel
    by_cases h1 : k < cap
    · have cr := hBlk.cell k (by omega)
      have fr := hBlk.frozen k
      go_wp2
      exact ⟨⟨k + 1, zs.set k 8608480567731124087, by omega, by go_num, by simpa using hzl, hBlk.set k 8608480567731124087, grown_trans hG (grown_set _ _ _ _)⟩, by simp [intOf]; omega⟩
    · go_wp2
      go_end0
      exact ⟨rfl, hG⟩

set_option maxHeartbeats 800000 in
theorem spoil_nil (w : World) : Calls Tryd.prog 22 #[.slice none 0 0] w fun e w' => e = .returned (.tuple #[]) ∧ w' = w := by
  go_enter Tryd.func22, Tryd.ntmps22
  go_wp2
  refine wp_loop_rounds 1 ?_
  rw [rounds_succ]
  go_wp2
  go_end0
  exact ⟨rfl, rfl⟩

/-- Spoil of what limb answered: all blocks that were there before it stay, and those that came behind it. -/
theorem spoil_new (w : World) (v : Value) (n B : Nat) (h : NewW B w v n) :
    Calls Tryd.prog 22 #[v] w fun e w' => e = .returned (.tuple #[]) ∧ ∃ g, B ≤ g ∧ w.grownBy w' (some g) ∧ ∀ ga m cap, v = .slice (some ga) m cap → g = ga.block ∧ g < w.heap.size := by
  obtain ⟨xs, hc, hv, ⟨rfl, rfl⟩ | ⟨g, ys, hg, rfl, hk, hl⟩⟩ := h
  · refine (spoil_nil w).mono ?_
    rintro e w' ⟨rfl, rfl⟩
    exact ⟨rfl, B, Nat.le_refl _, grown_refl _ _, fun ga m cap h => by cases h⟩
  · refine (spoil_blk w g _ _ _ rfl (by simp) (by simpa using hl) hk).mono ?_
    rintro e w' ⟨rfl, hG⟩
    exact ⟨rfl, g, hg, hG, fun ga m cap h => by cases h; exact ⟨rfl, hk.lt⟩⟩

end Go.Proofs.YtmkcklgmdkkmdaaDoor
