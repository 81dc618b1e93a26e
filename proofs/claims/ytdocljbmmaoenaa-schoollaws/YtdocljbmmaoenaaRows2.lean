/- Rows of rows: Cuts and Nats of keep; Sum of the reference; Sum of limb. -/
import Derived.Test.YtdocljbmmaoenaaLawKit
namespace Go.Proofs.Ytdocljbmmaoenaa
open Go.RowKit

/-- A row of at most K words that says n. -/
def InL (K : Nat) (w : World) (v : Value) (n : Nat) : Prop := ∃ ga b o cap xs, v = .slice ga xs.length cap ∧ Rep w ga b o cap xs ∧ WDig xs ∧ wval xs = n ∧ xs.length ≤ K
theorem InL.toIn {K : Nat} {w : World} {v : Value} {n : Nat} (h : InL K w v n) (hK : K ≤ 1073741824) : InW w v n := by
  obtain ⟨ga, b, o, cap, xs, rfl, hr, hd, hv, hl⟩ := h
  exact ⟨ga, b, o, cap, xs, rfl, hr, hd, hv, by omega⟩
theorem InL.next {K : Nat} {w w' : World} {v : Value} {n : Nat} (h : InL K w v n) (hb : Below w.heap.size w w') : InL K w' v n := by
  obtain ⟨ga, b, o, cap, xs, rfl, hr, hd, hv, hl⟩ := h
  exact ⟨ga, b, o, cap, xs, rfl, hr.next hb, hd, hv, hl⟩
theorem InL.lt {K : Nat} {w : World} {v : Value} {n : Nat} (h : InL K w v n) : n < 18446744073709551616 ^ K := by
  obtain ⟨ga, b, o, cap, xs, rfl, hr, hd, hv, hl⟩ := h
  rw [← hv]; exact pow_up (wval_lt_pow hd) hl

/-- Rows in memory, as they come in: vs their headers, each leads to words. -/
structure RowsIn (w : World) (gp : Option Addr) (bp op : Nat) (vs : List Value) : Prop where
  head : 0 < vs.length → gp = some ⟨bp, op, none⟩
  cell : ∀ j, j < vs.length → w.cell? ⟨bp, op + j, none⟩ = some (vs.getD j undef)
  each : ∀ j, j < vs.length → ∃ ga b o cap xs, vs.getD j undef = .slice ga xs.length cap ∧ Rep w ga b o cap xs ∧ WDig xs
/-- Rows in memory, each of at most K words, which says a number. -/
structure RowsN (K : Nat) (w : World) (gp : Option Addr) (bp op : Nat) (vs : List Value) (ns : List Nat) : Prop where
  head : 0 < vs.length → gp = some ⟨bp, op, none⟩
  len : ns.length = vs.length
  cell : ∀ j, j < vs.length → w.cell? ⟨bp, op + j, none⟩ = some (vs.getD j undef)
  each : ∀ j, j < vs.length → InL K w (vs.getD j undef) (ns.getD j 0)
theorem RowsN.lt {K : Nat} {w : World} {gp : Option Addr} {bp op : Nat} {vs : List Value} {ns : List Nat} (h : RowsN K w gp bp op vs ns) (h0 : 0 < vs.length) : bp < w.heap.size := World.block_lt_of_cell? _ _ (h.cell 0 h0)
theorem RowsN.next {K : Nat} {w w' : World} {gp : Option Addr} {bp op : Nat} {vs : List Value} {ns : List Nat} (h : RowsN K w gp bp op vs ns) (hb : Below w.heap.size w w') : RowsN K w' gp bp op vs ns :=
  ⟨h.head, h.len, fun j hj => (hb.cell (by exact h.lt (by omega))).trans (h.cell j hj), fun j hj => (h.each j hj).next hb⟩
theorem RowsN.parts {K : Nat} {w : World} {gp : Option Addr} {bp op : Nat} {vs : List Value} {ns : List Nat} (h : RowsN K w gp bp op vs ns) (hK : K ≤ 1073741824) : Parts w gp bp op vs ns :=
  ⟨h.head, h.len, h.cell, fun j hj => (h.each j hj).toIn hK⟩

theorem Try.infoS : (Try.prog.info? 24).map (fun i => (i.zero, i.size, i.bytes)) = some (some (.slice none 0 0), 1, 24) := by kernel_rfl
theorem Try.infoNat : (Try.prog.info? 29).map (fun i => (i.zero, i.size, i.bytes)) = some (some (.slice none 0 0), 1, 24) := by kernel_rfl
theorem info_of {o : Option TypeInfo} {z : Option Value} {n b : Nat} (h : o.map (fun i => (i.zero, i.size, i.bytes)) = some (z, n, b)) : ∃ i, o = some i ∧ i.zero = z ∧ i.size = n ∧ i.bytes = b := by
  cases o with
  | none => simp at h
  | some i => simp at h; exact ⟨i, rfl, h.1, h.2.1, h.2.2⟩

/-- A row of headers of the call's own. -/
theorem owns_vals {w : World} {base t n : Nat} {v : Value} {us : List Value} (h : w.ownsRow base t 1 v n us) : ∃ ga b cap, v = .slice ga n cap ∧ us.length = n ∧ (0 < n → ga = some ⟨b, 0, none⟩ ∧ base ≤ b) ∧ ∀ j, j < n → w.cell? ⟨b, 0 + j, none⟩ = some (us.getD j undef) := by
  have hl : us.length = n := by simpa using h.1
  rcases h.2 with ⟨rfl, rfl⟩ | ⟨g, cap, cur, rfl, hb, hg, hc, hm, hs, ht⟩
  · exact ⟨none, 0, 0, rfl, hl, fun h => absurd h (by omega), fun j hj => absurd hj (by omega)⟩
  · have ho : w.ownsRow base t 1 (.slice (some ⟨g, 0, none⟩) n cap) n us := ⟨h.1, Or.inr ⟨g, cap, cur, rfl, hb, hg, hc, hm, hs, ht⟩⟩
    refine ⟨_, g, cap, rfl, hl, fun _ => ⟨rfl, hb⟩, fun j hj => ?_⟩
    rw [Nat.zero_add, ho.cellAt j (by omega)]
    simp [List.getD_eq_getElem?_getD, show j < us.length from by omega]
theorem getD_snoc_v (us : List Value) (u : Value) (j : Nat) : (us ++ [u]).getD j undef = if j < us.length then us.getD j undef else if j = us.length then u else undef := by
  simp only [List.getD_eq_getElem?_getD, List.getElem?_append]
  split
  · rfl
  · rename_i h
    by_cases e : j = us.length
    · subst e; simp
    · rw [if_neg e]
      have : j - us.length ≠ 0 := by omega
      obtain ⟨k, hk⟩ : ∃ k, j - us.length = k + 1 := ⟨j - us.length - 1, by omega⟩
      rw [hk]; simp
theorem getD_snoc_n (ns : List Nat) (n j : Nat) : (ns ++ [n]).getD j 0 = if j < ns.length then ns.getD j 0 else if j = ns.length then n else 0 := by
  rw [getD_append]
  split
  · rfl
  · by_cases e : j = ns.length
    · subst e; simp
    · rw [if_neg e]
      obtain ⟨k, hk⟩ : ∃ k, j - ns.length = k + 1 := ⟨j - ns.length - 1, by omega⟩
      rw [hk]; simp

/-- Headers, each of which says a number, in whatever world has the same cells. -/
def Says (K : Nat) (w : World) (us : List Value) (ns : List Nat) : Prop := ns.length = us.length ∧ ∀ j, j < us.length → InL K w (us.getD j undef) (ns.getD j 0)
theorem says_snoc {K : Nat} {w : World} {us : List Value} {ns : List Nat} {u : Value} {n : Nat} (h : Says K w us ns) (hu : InL K w u n) : Says K w (us ++ [u]) (ns ++ [n]) := by
  refine ⟨by simp [h.1], fun j hj => ?_⟩
  have hj2 : j < us.length + 1 := by simpa using hj
  rw [getD_snoc_v, getD_snoc_n, h.1]
  by_cases e : j < us.length
  · rw [if_pos e, if_pos e]; exact h.2 j e
  · rw [if_neg e, if_neg e, if_pos (by omega), if_pos (by omega)]; exact hu
theorem Says.next {K : Nat} {w w' : World} {us : List Value} {ns : List Nat} (h : Says K w us ns) (hb : Below w.heap.size w w') : Says K w' us ns := ⟨h.1, fun j hj => (h.2 j hj).next hb⟩

/-- What Cuts and Nats leave. -/
def CutsDone (K M : Nat) (w : World) (ns : List Nat) (e : Ending) (w' : World) : Prop := ∃ gp bp cp vs, e = .returned (.slice gp vs.length cp) ∧ vs.length ≤ M ∧ RowsN K w' gp bp 0 vs ns ∧ Below w.heap.size w w'

theorem jsum_zero_succ (ns : List Nat) (i : Nat) : jsum 0 ns (i + 1) = jsum 0 ns i + ns.getD i 0 := by
  rw [jsum, Nat.zero_mul, Nat.pow_zero, Nat.one_mul]
theorem jsum_zero_lt {K : Nat} {ns : List Nat} (np : Nat) (h : ∀ j, j < np → ns.getD j 0 < 18446744073709551616 ^ K) : ∀ q, q ≤ np → jsum 0 ns q ≤ q * 18446744073709551616 ^ K
  | 0 => fun _ => by simp [jsum]
  | q + 1 => fun hq => by
    have := jsum_zero_lt np h q (by omega)
    have := h q (by omega)
    rw [jsum_zero_succ, Nat.add_mul, Nat.one_mul]
    omega

set_option maxHeartbeats 800000 in
theorem sum_w (w : World) (gp : Option Addr) (bp op cp np : Nat) (vs : List Value) (ns : List Nat) (hvl : vs.length = np) (hnp : np ≤ 65536) (hP : Parts w gp bp op vs ns) :
    Calls Try.prog 31 #[.slice gp np cp] w fun e w' => ∃ r, e = .returned r ∧ NewW w.heap.size w' r (jsum 0 ns np) ∧ Below w.heap.size w w' := by
  have C := hide (join_k w gp bp op cp np 0 0 vs ns hvl hnp (by decide) hP)
  clear hP hvl
  go_enter Try.func31, Try.ntmps31
  go_wp2_with fail
  refine (unhide C).mono ?_
  rintro e w1 ⟨r, rfl, hr, hb⟩
  go_wp2
  go_ret
  exact ⟨r, rfl, hr, hb⟩

end Go.Proofs.Ytdocljbmmaoenaa
