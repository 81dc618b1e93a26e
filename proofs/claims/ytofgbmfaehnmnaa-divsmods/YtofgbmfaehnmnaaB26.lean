/- Join and Sum of limb. -/
import Derived.Test.YtofgbmfaehnmnaaB25
import Derived.Deep.RegionWith
import Derived.Test.YtofgbmfaehnmnaaB14
import Derived.Test.YtofgbmfaehnmnaaB2
import Derived.Test.YtofgbmfaehnmnaaB5
import Derived.OpenShut
namespace Go.Proofs.Ytofgbmfaehnmnaa
open Go.RowKit

/-- trim of a row that came in, in every world whose cells are the same. -/
theorem trim_all {w : World} {v : Value} {n : Nat} (h : InW w v n) : ∃ ga b o cap us, Rep w ga b o cap us ∧ WCan us ∧ wval us = n ∧ us.length ≤ 1073741824 ∧ ∀ W : World, (∀ a : Addr, a.block < w.heap.size → W.cell? a = w.cell? a) → Calls Try.prog 42 #[v] W fun e w' => e = .returned (.slice ga us.length cap) ∧ w' = W := by
  obtain ⟨ga, b, o, cap, xs, rfl, hr, hd, hv, hl⟩ := h
  have hle := nlen_le xs xs.length
  exact ⟨ga, b, o, cap, nrm xs, hr.take _ hle, nrm_wcan hd, by rw [nrm_wval]; exact hv, by rw [nrm_length]; omega, fun W hW => trim_any W ga b o cap _ _ xs rfl (by omega) ⟨hr.head, hr.room, fun j hj => by rw [hW _ (hr.lt (by omega))]; exact hr.cell j hj⟩ (nrm_length xs)⟩

end Go.Proofs.Ytofgbmfaehnmnaa

/- The examples of the document on rows of words. -/
namespace Go.Proofs.Ytofgbmfaehnmnaa
open Go.RowKit

/-- A word alone, just laid. -/
theorem in_one (w : World) (x : Nat) (hx : x < 18446744073709551616) : InW (w.alloc (.cells #[.int .u64 (x : Int)] 72)) (.slice (some ⟨w.heap.size, 0, none⟩) 1 1) x := by
  have hk : Blk (w.alloc (.cells #[.int .u64 (x : Int)] 72)) w.heap.size [x] := heap_alloc_new w _
  have hr := hk.rep 0 1 1 (by simp) (by omega)
  exact ⟨_, _, _, _, [x], rfl, hr, wDig_one hx, wval_one x, by simp⟩
theorem in_none (w : World) : InW w (.slice none 0 0) 0 := ⟨none, 0, 0, 0, [], rfl, Rep.nil _ _ _ _ _, wDig_nil, rfl, by simp⟩

/-- Two parts, just laid. -/
theorem parts_two (w : World) (u v : Value) (m n t : Nat) (hu : InW w u m) (hv : InW w v n) : Parts (w.alloc (.cells #[u, v] t)) (some ⟨w.heap.size, 0, none⟩) w.heap.size 0 [u, v] [m, n] := by
  have hb : Below w.heap.size w (w.alloc (.cells #[u, v] t)) := (Below.refl _ _).alloc (Nat.le_refl _) _
  refine ⟨fun _ => rfl, rfl, fun j hj => ?_, fun j hj => ?_⟩
  · have hj2 : j < 2 := hj
    rw [Nat.zero_add, cell_of_row _ w.heap.size j #[u, v] t (0, 0) (heap_alloc_new w _)]
    match j, hj2 with
    | 0, _ => rfl
    | 1, _ => rfl
  · have hj2 : j < 2 := hj
    match j, hj2 with
    | 0, _ => exact hu.next hb
    | 1, _ => exact hv.next hb

theorem can_57 : WCan [5, 7] := ⟨fun j => by match j with | 0 => decide | 1 => decide | j + 2 => simp, fun _ => by decide⟩
theorem can_3 : WCan [3] := ⟨wDig_one (by omega), fun _ => by decide⟩
theorem new_words {B : Nat} {w : World} {v : Value} {n : Nat} {ws : List Nat} (h : NewW B w v n) (hc : WCan ws) (hw : wval ws = n) : ∃ ga b cap, v = .slice ga ws.length cap ∧ Rep w ga b 0 cap ws := by
  obtain ⟨ga, b, cap, xs, rfl, hr, hx, hv, _⟩ := h.rep
  obtain rfl := wCan_unique hx hc (by rw [hv, hw])
  exact ⟨ga, b, cap, rfl, hr⟩

theorem lit_rep (w : World) (ws : List Nat) (t : Nat) (ht : t = 72) : Rep (w.alloc (.cells (cellsOf ws).toArray t)) (some ⟨w.heap.size, 0, none⟩) w.heap.size 0 ws.length ws := by
  subst ht
  have hk : Blk (w.alloc (.cells (cellsOf ws).toArray 72)) w.heap.size ws := heap_alloc_new w _
  have hr := hk.rep 0 ws.length ws.length (by simp) (Nat.le_refl _)
  rw [List.drop_zero, List.take_length] at hr
  exact hr

theorem wake_same (w : World) (ga : Option Addr) (b cap : Nat) (ws : List Nat) (n : Nat) (hn : ws.length = n) (h1 : n ≤ 1073741824) (hr : Rep w ga b 0 cap ws) :
    Calls Try.prog 31 #[.slice ga n cap, .slice (some ⟨w.heap.size, 0, none⟩) n n] (w.alloc (.cells (cellsOf ws).toArray 72)) fun e w' => e = .returned (.bool true) ∧ Below w.heap.size w w' := by
  subst hn
  have hb : Below w.heap.size w (w.alloc (.cells (cellsOf ws).toArray 72)) := (Below.refl _ _).alloc (Nat.le_refl _) _
  refine (keepSame_any _ _ _ _ _ _ _ _ _ _ ws rfl h1 (hr.next hb) (lit_rep w ws _ rfl)).mono ?_
  rintro e w' ⟨rfl, h⟩
  exact ⟨rfl, bstep hb h⟩

theorem wake_one (w : World) : Calls Try.prog 28 #[.int .u64 3] w fun e w' => ∃ ga b cap, e = .returned (.slice ga 1 cap) ∧ Rep w' ga b 0 cap [3] ∧ Below w.heap.size w w' := by
  refine (one_w w 3 (by omega)).mono ?_
  rintro e w' ⟨r, rfl, hr, hb⟩
  obtain ⟨ga, b, cap, rfl, hrep⟩ := new_words hr can_3 (by decide)
  exact ⟨ga, b, cap, rfl, hrep, hb⟩

end Go.Proofs.Ytofgbmfaehnmnaa

/- What the laws of limb share: rows that are spoilt, 'from'. -/
namespace Go.Proofs.Ytofgbmfaehnmnaa
open Go.RowKit

theorem pow_two_le (k q : Nat) (h : k ≤ 64 * q) : 2 ^ k ≤ 18446744073709551616 ^ q := by
  rw [show (18446744073709551616 : Nat) = 2 ^ 64 from rfl, ← Nat.pow_mul]
  exact Nat.pow_le_pow_right (by omega) h
theorem shl_bound {A k p q : Nat} (hA : A < 18446744073709551616 ^ p) (h : k ≤ 64 * q) : A * 2 ^ k < 18446744073709551616 ^ (p + q) := by
  have h2 := Nat.mul_lt_mul_of_lt_of_le hA (pow_two_le k q h) (wpow_pos q)
  rwa [← Nat.pow_add] at h2

/-- A natural as limb answers it, in a block from B on, below M. -/
def NewB (B M : Nat) (w : World) (v : Value) (n : Nat) : Prop :=
  ∃ xs, WCan xs ∧ wval xs = n ∧ ((v = .slice none 0 0 ∧ xs = []) ∨ ∃ g ys, B ≤ g ∧ g < M ∧ v = .slice (some ⟨g, 0, none⟩) xs.length (xs ++ ys).length ∧ Blk w g (xs ++ ys) ∧ xs.length + ys.length ≤ 1099511627776)
theorem NewW.born {B : Nat} {w : World} {v : Value} {n : Nat} (h : NewW B w v n) : NewB B w.heap.size w v n := by
  obtain ⟨xs, hc, hv, h | ⟨g, ys, hg, rfl, hk, hl⟩⟩ := h
  · exact ⟨xs, hc, hv, Or.inl h⟩
  · exact ⟨xs, hc, hv, Or.inr ⟨g, ys, hg, hk.lt, rfl, hk, hl⟩⟩
theorem NewB.toW {B M : Nat} {w : World} {v : Value} {n : Nat} (h : NewB B M w v n) : NewW B w v n := by
  obtain ⟨xs, hc, hv, h | ⟨g, ys, hg, _, rfl, hk, hl⟩⟩ := h
  · exact ⟨xs, hc, hv, Or.inl h⟩
  · exact ⟨xs, hc, hv, Or.inr ⟨g, ys, hg, rfl, hk, hl⟩⟩
theorem NewB.next {B M : Nat} {w w' : World} {v : Value} {n : Nat} (h : NewB B M w v n) (hb : Below w.heap.size w w') : NewB B M w' v n := by
  obtain ⟨xs, hc, hv, h | ⟨g, ys, hg, hm, rfl, hk, hl⟩⟩ := h
  · exact ⟨xs, hc, hv, Or.inl h⟩
  · exact ⟨xs, hc, hv, Or.inr ⟨g, ys, hg, hm, rfl, hk.next hb, hl⟩⟩
theorem newB_nil (B M : Nat) (w : World) : NewB B M w (.slice none 0 0) 0 := ⟨[], wCan_nil, rfl, Or.inl ⟨rfl, rfl⟩⟩

/-- At most a block from B on, below M, is turned. -/
def Spoilt (B M : Nat) (w w' : World) : Prop := w' = w ∨ ∃ g, B ≤ g ∧ g < M ∧ w.grownBy w' (some g)
theorem Rep.spoilt {B M : Nat} {w w' : World} {ga : Option Addr} {b o cap : Nat} {xs : List Nat} (h : Rep w ga b o cap xs) (hs : Spoilt B M w w') (hb : 0 < xs.length → b < B ∨ M ≤ b) : Rep w' ga b o cap xs := by
  rcases hs with rfl | ⟨g, h1, h2, hg⟩
  · exact h
  · exact h.but hg (fun h0 => by have := hb h0; omega)
theorem NewB.spoilt {B M B' M' : Nat} {w w' : World} {v : Value} {n : Nat} (h : NewB B' M' w v n) (hs : Spoilt B M w w') (hd : M ≤ B' ∨ M' ≤ B) : NewB B' M' w' v n := by
  rcases hs with rfl | ⟨g, h1, h2, hg⟩
  · exact h
  · obtain ⟨xs, hc, hv, h | ⟨k, ys, hk1, hk2, rfl, hk, hl⟩⟩ := h
    · exact ⟨xs, hc, hv, Or.inl h⟩
    · exact ⟨xs, hc, hv, Or.inr ⟨k, ys, hk1, hk2, rfl, hk.but hg (by omega), hl⟩⟩
theorem below_spoilt {B M C : Nat} {w0 w w' : World} (h : Below C w0 w) (hs : Spoilt B M w w') (hC : C ≤ B) (hw : C ≤ w.heap.size) : Below C w0 w' := by
  rcases hs with rfl | ⟨g, h1, h2, hg⟩
  · exact h
  · exact below_grown h hg (by omega) hw
theorem spoilt_size {B M : Nat} {w w' : World} (hs : Spoilt B M w w') : w.heap.size ≤ w'.heap.size := by
  rcases hs with rfl | ⟨g, h1, h2, hg⟩
  · exact Nat.le_refl _
  · exact hg.size

theorem spoil_any (w : World) (v : Value) (n B M : Nat) (h : NewB B M w v n) : Calls Try.prog 16 #[v] w fun e w' => e = .returned (.tuple #[]) ∧ Spoilt B M w w' := by
  obtain ⟨xs, hc, hv, ⟨rfl, rfl⟩ | ⟨g, ys, hg, hm, rfl, hk, hl⟩⟩ := h
  · refine (spoil_nil w).mono ?_
    rintro e w' ⟨rfl, rfl⟩
    exact ⟨rfl, Or.inl rfl⟩
  · refine (spoil_blk w g _ _ _ rfl (by simp) (by simpa using hl) hk).mono ?_
    rintro e w' ⟨rfl, hG⟩
    exact ⟨rfl, Or.inr ⟨g, hg, hm, hG⟩⟩

theorem lent_in {w : World} {g n : Nat} {us : List Nat} (h : Rep w (some ⟨g, 0, none⟩) g 0 (n + 4) us) (hl : us.length = n) (hn : n ≤ 1073741824) (hd : WDig us) (A : Nat) (hA : A = wval us) : InW w (.slice (some ⟨g, 0, none⟩) n (n + 4)) A :=
  ⟨_, _, _, _, us, by rw [hl], h, hd, hA.symm, by omega⟩

end Go.Proofs.Ytofgbmfaehnmnaa

/- Rows of rows: Cuts and Nats of keep; Sum of the reference; Sum of limb. -/
namespace Go.Proofs.Ytofgbmfaehnmnaa
open Go.RowKit

/-- A row of at most K words that says n. -/
def InL (K : Nat) (w : World) (v : Value) (n : Nat) : Prop := ∃ ga b o cap xs, v = .slice ga xs.length cap ∧ Rep w ga b o cap xs ∧ WDig xs ∧ wval xs = n ∧ xs.length ≤ K
theorem InL.toIn {K : Nat} {w : World} {v : Value} {n : Nat} (h : InL K w v n) (hK : K ≤ 1073741824) : InW w v n := by
  obtain ⟨ga, b, o, cap, xs, rfl, hr, hd, hv, hl⟩ := h
  exact ⟨ga, b, o, cap, xs, rfl, hr, hd, hv, by omega⟩
theorem InL.next {K : Nat} {w w' : World} {v : Value} {n : Nat} (h : InL K w v n) (hb : Below w.heap.size w w') : InL K w' v n := by
  obtain ⟨ga, b, o, cap, xs, rfl, hr, hd, hv, hl⟩ := h
  exact ⟨ga, b, o, cap, xs, rfl, hr.next hb, hd, hv, hl⟩
theorem InL.lt {K : Nat} {w : World} {v : Value} {n : Nat} (h : InL K w v n) : n < 18446744073709551616 ^ K := by
  obtain ⟨ga, b, o, cap, xs, rfl, hr, hd, hv, hl⟩ := h
  rw [← hv]; exact pow_up (wval_lt_pow hd) hl

/-- Rows in memory, as they come in: vs their headers, each leads to words. -/
structure RowsIn (w : World) (gp : Option Addr) (bp op : Nat) (vs : List Value) : Prop where
  head : 0 < vs.length → gp = some ⟨bp, op, none⟩
  cell : ∀ j, j < vs.length → w.cell? ⟨bp, op + j, none⟩ = some (vs.getD j undef)
  each : ∀ j, j < vs.length → ∃ ga b o cap xs, vs.getD j undef = .slice ga xs.length cap ∧ Rep w ga b o cap xs ∧ WDig xs
/-- Rows in memory, each of at most K words, which says a number. -/
structure RowsN (K : Nat) (w : World) (gp : Option Addr) (bp op : Nat) (vs : List Value) (ns : List Nat) : Prop where
  head : 0 < vs.length → gp = some ⟨bp, op, none⟩
  len : ns.length = vs.length
  cell : ∀ j, j < vs.length → w.cell? ⟨bp, op + j, none⟩ = some (vs.getD j undef)
  each : ∀ j, j < vs.length → InL K w (vs.getD j undef) (ns.getD j 0)
theorem RowsN.lt {K : Nat} {w : World} {gp : Option Addr} {bp op : Nat} {vs : List Value} {ns : List Nat} (h : RowsN K w gp bp op vs ns) (h0 : 0 < vs.length) : bp < w.heap.size := World.block_lt_of_cell? _ _ (h.cell 0 h0)
theorem RowsN.next {K : Nat} {w w' : World} {gp : Option Addr} {bp op : Nat} {vs : List Value} {ns : List Nat} (h : RowsN K w gp bp op vs ns) (hb : Below w.heap.size w w') : RowsN K w' gp bp op vs ns :=
  ⟨h.head, h.len, fun j hj => (hb.cell (by exact h.lt (by omega))).trans (h.cell j hj), fun j hj => (h.each j hj).next hb⟩
theorem RowsN.parts {K : Nat} {w : World} {gp : Option Addr} {bp op : Nat} {vs : List Value} {ns : List Nat} (h : RowsN K w gp bp op vs ns) (hK : K ≤ 1073741824) : Parts w gp bp op vs ns :=
  ⟨h.head, h.len, h.cell, fun j hj => (h.each j hj).toIn hK⟩

theorem Try.infoS : (Try.prog.info? 24).map (fun i => (i.zero, i.size, i.bytes)) = some (some (.slice none 0 0), 1, 24) := by kernel_rfl
theorem Try.infoNt : (Try.prog.info? 29).map (fun i => (i.zero, i.size, i.bytes)) = some (some (.slice none 0 0), 1, 24) := by kernel_rfl
theorem info_of {o : Option TypeInfo} {z : Option Value} {n b : Nat} (h : o.map (fun i => (i.zero, i.size, i.bytes)) = some (z, n, b)) : ∃ i, o = some i ∧ i.zero = z ∧ i.size = n ∧ i.bytes = b := by
  cases o with
  | none => simp at h
  | some i => simp at h; exact ⟨i, rfl, h.1, h.2.1, h.2.2⟩

/-- A row of headers of the call's own. -/
theorem owns_vals {w : World} {base t n : Nat} {v : Value} {us : List Value} (h : w.ownsRow base t 1 v n us) : ∃ ga b cap, v = .slice ga n cap ∧ us.length = n ∧ (0 < n → ga = some ⟨b, 0, none⟩ ∧ base ≤ b) ∧ ∀ j, j < n → w.cell? ⟨b, 0 + j, none⟩ = some (us.getD j undef) := by
  have hl : us.length = n := by simpa using h.1
  rcases h.2 with ⟨rfl, rfl⟩ | ⟨g, cap, cur, rfl, hb, hg, hc, hm, hs, ht⟩
  · exact ⟨none, 0, 0, rfl, hl, fun h => absurd h (by omega), fun j hj => absurd hj (by omega)⟩
  · have ho : w.ownsRow base t 1 (.slice (some ⟨g, 0, none⟩) n cap) n us := ⟨h.1, Or.inr ⟨g, cap, cur, rfl, hb, hg, hc, hm, hs, ht⟩⟩
    refine ⟨_, g, cap, rfl, hl, fun _ => ⟨rfl, hb⟩, fun j hj => ?_⟩
    rw [Nat.zero_add, ho.cellAt j (by omega)]
    simp [List.getD_eq_getElem?_getD, show j < us.length from by omega]
theorem getD_snoc_v (us : List Value) (u : Value) (j : Nat) : (us ++ [u]).getD j undef = if j < us.length then us.getD j undef else if j = us.length then u else undef := by
  simp only [List.getD_eq_getElem?_getD, List.getElem?_append]
  split
  · rfl
  · rename_i h
    by_cases e : j = us.length
    · subst e; simp
    · rw [if_neg e]
      have : j - us.length ≠ 0 := by omega
      obtain ⟨k, hk⟩ : ∃ k, j - us.length = k + 1 := ⟨j - us.length - 1, by omega⟩
      rw [hk]; simp
theorem getD_snoc_n (ns : List Nat) (n j : Nat) : (ns ++ [n]).getD j 0 = if j < ns.length then ns.getD j 0 else if j = ns.length then n else 0 := by
  rw [getD_append]
  split
  · rfl
  · by_cases e : j = ns.length
    · subst e; simp
    · rw [if_neg e]
      obtain ⟨k, hk⟩ : ∃ k, j - ns.length = k + 1 := ⟨j - ns.length - 1, by omega⟩
      rw [hk]; simp

/-- Headers, each of which says a number, in whatever world has the same cells. -/
def Says (K : Nat) (w : World) (us : List Value) (ns : List Nat) : Prop := ns.length = us.length ∧ ∀ j, j < us.length → InL K w (us.getD j undef) (ns.getD j 0)
theorem says_snoc {K : Nat} {w : World} {us : List Value} {ns : List Nat} {u : Value} {n : Nat} (h : Says K w us ns) (hu : InL K w u n) : Says K w (us ++ [u]) (ns ++ [n]) := by
  refine ⟨by simp [h.1], fun j hj => ?_⟩
  have hj2 : j < us.length + 1 := by simpa using hj
  rw [getD_snoc_v, getD_snoc_n, h.1]
  by_cases e : j < us.length
  · rw [if_pos e, if_pos e]; exact h.2 j e
  · rw [if_neg e, if_neg e, if_pos (by omega), if_pos (by omega)]; exact hu
theorem Says.next {K : Nat} {w w' : World} {us : List Value} {ns : List Nat} (h : Says K w us ns) (hb : Below w.heap.size w w') : Says K w' us ns := ⟨h.1, fun j hj => (h.2 j hj).next hb⟩

theorem owns_cap {w : World} {base t n m cap : Nat} {ga : Option Addr} {us : List Value} (h : w.ownsRow base t 1 (.slice ga m cap) n us) : n ≤ cap := by
  rcases h.2 with ⟨_, h0⟩ | ⟨g, c, cur, hv, _, _, hc, _⟩
  · omega
  · cases hv; exact hc
/-- What Cuts and Nats leave. -/
def CutsDone (K M : Nat) (w : World) (ns : List Nat) (e : Ending) (w' : World) : Prop := ∃ gp bp cp vs, e = .returned (.slice gp vs.length cp) ∧ (vs.length ≤ M ∧ vs.length ≤ cp) ∧ RowsN K w' gp bp 0 vs ns ∧ Below w.heap.size w w'

set_option maxRecDepth 100000 in
set_option maxHeartbeats 3200000 in
theorem cuts_any (w : World) (gp : Option Addr) (bp op cp np k m : Nat) (vs : List Value) (hvl : vs.length = np) (hk : k ≤ 1000) (hm : m ≤ 1000) (hP : RowsIn w gp bp op vs) :
    Calls Try.prog 18 #[.slice gp np cp, .int .i64 (k : Int), .int .i64 (m : Int)] w fun e w' => ∃ ns, CutsDone m k w ns e w' := by
  obtain ⟨i0, hi, hz0, hz1, hz2⟩ := info_of Try.infoS
  go_enter Try.func18, Try.ntmps18
  go_wp2
  go_loopw [7, 8] (fun out i wr => ∃ (q : Nat) (gw : Option Addr) (cw : Nat) (us : List Value) (ns : List Nat), q ≤ k ∧ q ≤ np ∧ i = .int .i64 (q : Int) ∧ out = .slice gw q cw ∧
      wr.ownsRow w.heap.size 24 1 (.slice gw q cw) q us ∧ Says m w us ns ∧ Below w.heap.size w wr)
    (fun _ i _ => np - (intOf i).toNat)
  case atStart => exact ⟨0, none, 0, [], [], Nat.zero_le _, Nat.zero_le _, rfl, rfl, World.ownsRow_nil _ _ _ _, ⟨rfl, fun j hj => absurd hj (by simp)⟩, Below.refl _ _⟩
  case round =>
    obtain ⟨q, gw, cw, us, ns, hqk, hqn, rfl, rfl, hown, hSay, hnx⟩ := hrel
    have hsz := hnx.size
    by_cases h1 : q < np
    · by_cases h2 : q < k
      · obtain rfl := hP.head (by omega)
        have cv := (hnx.cell (by exact World.block_lt_of_cell? _ _ (hP.cell q (by omega)))).trans (hP.cell q (by omega))
        obtain ⟨ga, b, o, cap, xs, hve, hR, hd⟩ := hP.each q (by omega)
        rw [hve] at cv
        obtain ⟨l, hl⟩ : ∃ l, l = min xs.length m := ⟨_, rfl⟩
        have CC := hide (fun w => cut_any w ga xs.length cap m l hR.room (by omega) hl)
        obtain ⟨hcl, hCr⟩ := cut_rep hR m l hl
        have hIn : InL m w (.slice ga l cap) (wval (xs.take l)) := ⟨ga, b, o, cap, xs.take l, by rw [hcl], hCr, wDig_take hd l, rfl, by omega⟩
        have hS2 := hide (says_snoc hSay hIn)
        have h1i : (q : Int) < (np : Int) := by omega
        have h2i : (q : Int) < (k : Int) := by omega
        generalize wval (xs.take l) = n at *
        generalize xs.length = lx at *
        clear hve hR hd hl hcl hCr hIn hSay
        go_wp2_with fail
        refine (unhide CC _).mono ?_
        rintro e w1 ⟨rfl, rfl⟩
        clear CC
        go_wp2_with (at_builtin; refine wpList_append_own _ rfl (.tmp 20) (.tmp 27) 63 rfl w.heap.size 24 i0 (.slice none 0 0) 1 24 Try.underlying63 hi hz0 hz1 hz2 rfl (by omega) (.slice gw q cw) q _ rfl (hown.alloc _) ⟨w1.heap.size, 0, none⟩ 1 1 [.slice ga l cap] rfl rfl (by exact cells_new w1 [.slice ga l cap] 24) (by intro u hu; simp at hu; subst hu; rfl) (by unfold maxLen; omega) (by omega) (by simp; omega) ?_; intro v1 w2 hown1 hgrow1 hnil1)
        have hb2 := below_append (hnx.alloc hsz _) (hown.alloc _) hgrow1 (by simp; omega)
        obtain ⟨g1, b1, c1, rfl, _, _, _⟩ := owns_vals hown1
        clear hgrow1 hnil1
        go_wp2
        go_roundw
        case rel => exact ⟨q + 1, g1, c1, us ++ [.slice ga l cap], ns ++ [n], by omega, by omega, by go_num, rfl, hown1, unhide hS2, hb2⟩
        case measure => simp [intOf]; omega
      · have h1i : (q : Int) < (np : Int) := by omega
        have h2i : ¬ (q : Int) < (k : Int) := by omega
        have hcp := owns_cap hown
        obtain ⟨g1, b1, c1, he, hl1, hh1, hc1⟩ := owns_vals hown
        cases he
        go_wp2
        go_ret
        exact ⟨ns, gw, b1, cw, us, by rw [hl1]; rfl, by omega, ⟨fun h => (hh1 (by omega)).1, hSay.1, fun j hj => hc1 j (by omega), fun j hj => (hSay.next hnx).2 j hj⟩, hnx⟩
    · have h1i : ¬ (q : Int) < (np : Int) := by omega
      have hcp := owns_cap hown
      obtain ⟨g1, b1, c1, he, hl1, hh1, hc1⟩ := owns_vals hown
      cases he
      go_wp2
      go_ret
      exact ⟨ns, gw, b1, cw, us, by rw [hl1]; rfl, by omega, ⟨fun h => (hh1 (by omega)).1, hSay.1, fun j hj => hc1 j (by omega), fun j hj => (hSay.next hnx).2 j hj⟩, hnx⟩

set_option maxRecDepth 100000 in
set_option maxHeartbeats 3200000 in
theorem nats_any (K : Nat) (w : World) (gp : Option Addr) (bp op cp np : Nat) (vs : List Value) (ns : List Nat) (hvl : vs.length = np) (hnp : np ≤ 1000) (hP : RowsN K w gp bp op vs ns) :
    Calls Try.prog 20 #[.slice gp np cp] w (CutsDone K np w ns) := by
  obtain ⟨i0, hi, hz0, hz1, hz2⟩ := info_of Try.infoNt
  go_enter Try.func20, Try.ntmps20
  go_wp2
  go_loopw [3, 4] (fun out i wr => ∃ (q : Nat) (gw : Option Addr) (cw : Nat), q ≤ np ∧ i = .int .i64 (q : Int) ∧ out = .slice gw q cw ∧
      wr.ownsRow w.heap.size 29 1 (.slice gw q cw) q (vs.take q) ∧ Below w.heap.size w wr)
    (fun _ i _ => np - (intOf i).toNat)
  case atStart => exact ⟨0, none, 0, Nat.zero_le _, rfl, rfl, World.ownsRow_nil _ _ _ _, Below.refl _ _⟩
  case round =>
    obtain ⟨q, gw, cw, hqn, rfl, rfl, hown, hnx⟩ := hrel
    have hsz := hnx.size
    by_cases h1 : q < np
    · obtain rfl := hP.head (by omega)
      have cv := (hnx.cell (by exact hP.lt (by omega))).trans (hP.cell q (by omega))
      obtain ⟨ga, b, o, cap, xs, hve, _, _, _, _⟩ := hP.each q (by omega)
      have hts : vs.take (q + 1) = vs.take q ++ [.slice ga xs.length cap] := by
        rw [List.take_succ_eq_append_getElem (by omega), ← hve]
        simp [List.getD_eq_getElem?_getD, show q < vs.length from by omega]
      rw [hve] at cv
      have HTS := hide hts
      generalize xs.length = lx at *
      clear hve hts
      go_wp2_with (at_builtin; refine wpList_append_own _ rfl (.tmp 11) (.tmp 16) 65 rfl w.heap.size 29 i0 (.slice none 0 0) 1 24 Try.underlying65 hi hz0 hz1 hz2 rfl (by omega) (.slice gw q cw) q _ rfl (hown.alloc _) ⟨wr.heap.size, 0, none⟩ 1 1 [.slice ga lx cap] rfl rfl (by exact cells_new wr [.slice ga lx cap] 29) (by intro u hu; simp at hu; subst hu; rfl) (by unfold maxLen; omega) (by omega) (by simp; omega) ?_; intro v1 w2 hown1 hgrow1 hnil1)
      have hb2 := below_append (hnx.alloc hsz _) (hown.alloc _) hgrow1 (by simp; omega)
      obtain ⟨g1, b1, c1, rfl, _, _, _⟩ := owns_vals hown1
      clear hgrow1 hnil1
      go_wp2
      go_roundw
      case rel => exact ⟨q + 1, g1, c1, by omega, by go_num, rfl, by rw [unhide HTS]; exact hown1, hb2⟩
      case measure => simp [intOf]; omega
    · obtain rfl : q = np := by omega
      rw [List.take_of_length_le (by omega)] at hown
      have hcp := owns_cap hown
      obtain ⟨g1, b1, c1, he, hl1, hh1, hc1⟩ := owns_vals hown
      cases he
      go_wp2
      go_ret
      exact ⟨gw, b1, cw, vs, by rw [hl1]; rfl, by omega, ⟨fun h => (hh1 (by omega)).1, hP.len, fun j hj => hc1 j (by omega), fun j hj => (hP.each j hj).next hnx⟩, hnx⟩

theorem jsum_zero_succ (ns : List Nat) (i : Nat) : jsum 0 ns (i + 1) = jsum 0 ns i + ns.getD i 0 := by
  rw [jsum, Nat.zero_mul, Nat.pow_zero, Nat.one_mul]
theorem jsum_zero_lt {K : Nat} {ns : List Nat} (np : Nat) (h : ∀ j, j < np → ns.getD j 0 < 18446744073709551616 ^ K) : ∀ q, q ≤ np → jsum 0 ns q ≤ q * 18446744073709551616 ^ K
  | 0 => fun _ => by simp [jsum]
  | q + 1 => fun hq => by
    have := jsum_zero_lt np h q (by omega)
    have := h q (by omega)
    rw [jsum_zero_succ, Nat.add_mul, Nat.one_mul]
    omega

end Go.Proofs.Ytofgbmfaehnmnaa

/- Parts that were just laid, joined and summed. -/
namespace Go.Proofs.Ytofgbmfaehnmnaa
open Go.RowKit

theorem parts_three (w : World) (u v x : Value) (m n p t : Nat) (hu : InW w u m) (hv : InW w v n) (hx : InW w x p) : Parts (w.alloc (.cells #[u, v, x] t)) (some ⟨w.heap.size, 0, none⟩) w.heap.size 0 [u, v, x] [m, n, p] := by
  have hb : Below w.heap.size w (w.alloc (.cells #[u, v, x] t)) := (Below.refl _ _).alloc (Nat.le_refl _) _
  refine ⟨fun _ => rfl, rfl, fun j hj => ?_, fun j hj => ?_⟩
  · have hj2 : j < 3 := hj
    rw [Nat.zero_add, cell_of_row _ w.heap.size j #[u, v, x] t (0, 0) (heap_alloc_new w _)]
    match j, hj2 with
    | 0, _ => rfl
    | 1, _ => rfl
    | 2, _ => rfl
  · have hj2 : j < 3 := hj
    match j, hj2 with
    | 0, _ => exact hu.next hb
    | 1, _ => exact hv.next hb
    | 2, _ => exact hx.next hb

end Go.Proofs.Ytofgbmfaehnmnaa

/- A slice of rows of words that came in, as the walks read it. -/
namespace Go.Proofs.Ytofgbmfaehnmnaa
open Go.RowKit

theorem row_each {w : World} {A : Option Addr} {L C : Nat} {Z : List Int} (h1 : L ≤ C) (h2 : C ≤ maxLen) (h3 : Z.length = C) (h4 : ∀ n ∈ Z, (Lit.int .u64 n).wf = true) (h5 : A = none → C = 0)
    (h6 : ∀ a', A = some a' → ∀ c, c < C → w.cell? (a'.add c) = some (.int .u64 (Z.getD c 0))) : ∃ ga b o cap xs, Value.slice A L C = .slice ga xs.length cap ∧ Rep w ga b o cap xs ∧ WDig xs := by
  cases A with
  | none =>
    have hC := h5 rfl
    obtain rfl : L = 0 := by omega
    exact ⟨none, 0, 0, C, [], rfl, Rep.nil _ _ _ _ _, wDig_nil⟩
  | some a' =>
    obtain ⟨b, o, xs, hx, hr, hw⟩ := row_rep (w := w) (a := some a') (len := L) (cap := C) (zs := Z) (Or.inr ⟨a', rfl, h1, h2, h3, fun i hi => h6 a' rfl i (by omega), h4⟩)
    exact ⟨some a', b, o, C, xs, by rw [hx], hr, hw⟩

theorem rows_open {w : World} {x : Addr} {len cap : Nat} {A : Nat → Option Addr} {L C : Nat → Nat} {Z : Nat → List Int} {base : Nat} (hl : len ≤ cap)
    (h : ∀ r, r < cap → w.cell? (x.add r) = some (.slice (A r) (L r) (C r)) ∧ L r ≤ C r ∧ C r ≤ maxLen ∧ (Z r).length = C r ∧ (∀ n ∈ Z r, (Lit.int .u64 n).wf = true) ∧ (A r = none → C r = 0) ∧
      ∀ a', A r = some a' → base ≤ a'.block ∧ ∀ c, c < C r → w.cell? (a'.add c) = some (.int .u64 ((Z r).getD c 0))) :
    ∃ bp op vs, vs.length = len ∧ RowsIn w (some x) bp op vs := by
  by_cases h0 : len = 0
  · subst h0
    exact ⟨0, 0, [], rfl, ⟨fun h => absurd h (by simp), fun j hj => absurd hj (by simp), fun j hj => absurd hj (by simp)⟩⟩
  · obtain ⟨b, off, spot⟩ := x
    have hspot : spot = none := by simpa [Addr.add] using World.cell?_spot (h 0 (by omega)).1
    subst hspot
    have hv : ∀ j, j < len → ((List.range len).map fun r => Value.slice (A r) (L r) (C r)).getD j undef = .slice (A j) (L j) (C j) := fun j hj => by
      simp [List.getD_eq_getElem?_getD, hj]
    have hlen : ((List.range len).map fun r => Value.slice (A r) (L r) (C r)).length = len := by simp
    refine ⟨b, off, (List.range len).map fun r => .slice (A r) (L r) (C r), hlen, ⟨fun _ => rfl, fun j hj => ?_, fun j hj => ?_⟩⟩
    · rw [hlen] at hj
      rw [hv j hj, ← Go.WideShapes.add_plain]
      exact (h j (by omega)).1
    · rw [hlen] at hj
      obtain ⟨_, q1, q2, q3, q4, q5, q6⟩ := h j (by omega)
      rw [hv j hj]
      exact row_each q1 q2 q3 q4 q5 (fun a' ha => (q6 a' ha).2)
theorem rows_none (w : World) : ∃ bp op vs, vs.length = 0 ∧ RowsIn w none bp op vs :=
  ⟨0, 0, [], rfl, ⟨fun h => absurd h (by simp), fun j hj => absurd hj (by simp), fun j hj => absurd hj (by simp)⟩⟩

end Go.Proofs.Ytofgbmfaehnmnaa
