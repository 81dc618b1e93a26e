/- Join and Sum of limb. -/
import Derived.Test.YtiekgpphggejcaaGreatDoorB31
import Derived.Deep.RegionWith
import Derived.Test.YtiekgpphggejcaaGreatDoorB14
import Derived.Test.YtiekgpphggejcaaGreatDoorB3
import Derived.Test.YtiekgpphggejcaaGreatDoorB5
import Derived.Test.YtiekgpphggejcaaGreatDoorB26
import Derived.Test.YtiekgpphggejcaaGreatDoorB7
namespace Go.Proofs.YtiekgpphggejcaaGreatDoor
open Go.RowKit

/-- trim of a row that came in, in every world whose cells are the same. -/
theorem trim_all {w : World} {v : Value} {n : Nat} (h : InW w v n) : ∃ ga b o cap us, Rep w ga b o cap us ∧ WCan us ∧ wval us = n ∧ us.length ≤ 1073741824 ∧ ∀ W : World, (∀ a : Addr, a.block < w.heap.size → W.cell? a = w.cell? a) → Calls Tryz.prog 88 #[v] W fun e w' => e = .returned (.slice ga us.length cap) ∧ w' = W := by
  obtain ⟨ga, b, o, cap, xs, rfl, hr, hd, hv, hl⟩ := h
  have hle := nlen_le xs xs.length
  exact ⟨ga, b, o, cap, nrm xs, hr.take _ hle, nrm_wcan hd, by rw [nrm_wval]; exact hv, by rw [nrm_length]; omega, fun W hW => trim_any W ga b o cap _ _ xs rfl (by omega) ⟨hr.head, hr.room, fun j hj => by rw [hW _ (hr.lt (by omega))]; exact hr.cell j hj⟩ (nrm_length xs)⟩

set_option maxRecDepth 100000 in
set_option maxHeartbeats 3200000 in
theorem join_k (w : World) (gp : Option Addr) (bp op cp np k : Nat) (z : Int) (vs : List Value) (ns : List Nat) (hvl : vs.length = np) (hnp : np ≤ 65536) (hz : (k : Int) = min (max z 0) 16384) (hP : Parts w gp bp op vs ns) :
    Calls Tryz.prog 69 #[.int .i64 z, .slice gp np cp] w fun e w' => ∃ r, e = .returned r ∧ NewW w.heap.size w' r (jsum k ns np) ∧ Below w.heap.size w w' := by
  have hk : k ≤ 16384 := by omega
  have CW := hide (fun w => within_lim z 16384 k w hz)
  have CF := hide (farthest_any w gp bp op cp np k vs ns hvl hnp hk hP)
  clear hz
  go_enter Tryz.func69, Tryz.ntmps69
  go_wp2_with fail
  refine (unhide CW _).mono ?_
  rintro e w1 ⟨rfl, rfl⟩
  go_wp2_with fail
  refine (unhide CF).mono ?_
  rintro e w2 ⟨E, rfl, hE, hF, rfl⟩
  clear CW CF
  have hroom := jsum_room hF (fun j hj => in_words (hP.each j (by omega))) hnp
  obtain ⟨N, hN⟩ : ∃ N, N = E + 1 := ⟨_, rfl⟩
  rw [← hN] at hroom
  have HR := hide hroom
  have HF := hide hF
  have hmk := make_nat N N ((E : Int) + 1) (by omega) rfl (by omega)
  have hk0 : Blk (w2.alloc (.cells (zlist N).toArray 78)) w2.heap.size (List.replicate N 0) := heap_alloc_new w2 _
  have hb0 : Below w2.heap.size w2 (w2.alloc (.cells (zlist N).toArray 78)) := (Below.refl _ _).alloc (Nat.le_refl _) _
  have HK0 := hide hk0
  have HB0 := hide hb0
  have HN := hide hN
  have hNb : N ≤ 4294967297 := by omega
  clear hroom hF hk0 hb0 hN
  go_wp2
  clear hmk
  go_loopw [17] (fun i wr => ∃ (q : Nat) (zs : List Nat), q ≤ np ∧ i = .int .i64 (q : Int) ∧ zs.length = N ∧ WDig zs ∧ Blk wr w2.heap.size zs ∧ Hid (wval zs = jsum k ns q) ∧ Below w2.heap.size w2 wr)
    (fun i _ => np - (intOf i).toNat)
  case atStart => exact ⟨0, List.replicate N 0, Nat.zero_le _, rfl, by simp, (wzeros N).1, unhide HK0, (wzeros N).2, unhide HB0⟩
  case round =>
    obtain ⟨q, zs, hq, rfl, hzl, dz, hBlk, hV, hnx⟩ := hrel
    clear HK0 HB0
    have hsz := hnx.size
    by_cases h1 : q < np
    · obtain rfl := hP.head (by omega)
      have cv := (hnx.cell (by exact hP.lt (by omega))).trans (hP.cell q (by omega))
      have hin := (hP.each q (by omega)).next hnx
      obtain ⟨v, hv⟩ : ∃ v, v = vs.getD q undef := ⟨_, rfl⟩
      obtain ⟨n, hn⟩ : ∃ n, n = ns.getD q 0 := ⟨_, rfl⟩
      rw [← hv] at cv hin
      rw [← hn] at hin
      have hj : jsum k ns (q + 1) = jsum k ns q + 18446744073709551616 ^ (k * q) * n := by rw [hn]; rfl
      by_cases h0 : n = 0
      · have CZ := hide (zero_in hin true (by simp [h0]))
        have H2 : Hid (wval zs = jsum k ns (q + 1)) := by show _ = _; rw [hj, h0, Nat.mul_zero, Nat.add_zero]; exact hV.out
        clear hv hn hin h0 hj
        go_wp2_with fail
        refine (unhide CZ).mono ?_
        rintro e w' ⟨rfl, rfl⟩
        clear CZ
        go_wp2
        exact ⟨⟨q + 1, zs, by omega, by go_num, hzl, dz, hBlk, H2, hnx⟩, by simp [intOf]; omega⟩
      · have CZ := hide (zero_in hin false (by simp [h0]))
        have hin2 := hP.each q (by omega)
        rw [← hv, ← hn] at hin2
        obtain ⟨gb, bb, ob, cb, us, rB, cB, vB, lB, CT⟩ := trim_all hin2
        obtain ⟨p, hp⟩ : ∃ p, p = k * q := ⟨_, rfl⟩
        have hpi : (k : Int) * (q : Int) = (p : Int) := by rw [hp]; exact (Int.natCast_mul k q).symm
        have hfar := unhide HF q h1 (by rw [← hn]; exact h0) us cB (by rw [vB, hn])
        rw [← hp] at hfar hj
        obtain ⟨lb, hlb⟩ : ∃ lb, lb = us.length := ⟨_, rfl⟩
        rw [← hlb] at CT lB hfar
        have hpN : p + lb + 1 ≤ N := by rw [unhide HN]; omega
        obtain ⟨M, hM⟩ : ∃ M, N = p + M := ⟨N - p, by omega⟩
        have hrm : wval zs + 18446744073709551616 ^ p * wval us < 18446744073709551616 ^ (p + M) := by
          rw [← hM, vB, hV.out, ← hj]; exact unhide HR (q + 1) (by omega)
        have hne : 0 < us.length → bb ≠ w2.heap.size := fun h => by have := rB.lt h; omega
        have CT := hide (fun W (hW : Below w2.heap.size w2 W) => CT W (fun a ha => hW.cell ha))
        have CA := hide (fun W (hB : Blk W w2.heap.size zs) (hW : Below w2.heap.size w2 W) => addTo_any W w2.heap.size p M M bb ob cb lb gb zs us (by rw [hzl, hM]) hlb.symm (by omega) (by omega) hB dz (rB.next hW) cB.1 hne hrm)
        have H2 : Hid (wval zs + 18446744073709551616 ^ p * wval us = jsum k ns (q + 1)) := by show _ = _; rw [vB, hV.out, hj]
        generalize wval zs + 18446744073709551616 ^ p * wval us = S at *
        have HM := hide hM
        have hpM : p ≤ N := by omega
        have hMs : N - p = M := by omega
        have hNp : ¬ N = p := by omega
        have hwp : IntKind.i64.wrap (p : Int) = (p : Int) := by rw [IntKind.wrap_i64]; omega
        have hpi2 : 0 ≤ (p : Int) ∧ (p : Int) ≤ (N : Int) := by omega
        have HLZ := hide hzl
        clear hv hn hin hin2 h0 hj hp hfar hlb hrm hne rB cB vB hM hzl
        go_wp2_with fail
        refine (unhide CZ).mono ?_
        rintro e w' ⟨rfl, rfl⟩
        clear CZ
        go_wp2
        go_region_with (first
          | (go_at_call 88; refine (unhide CT _ ?_).mono ?_; exact hnx.drew; rintro e w' ⟨rfl, rfl⟩)
          | (go_at_call 96; refine (unhide CA _ ?_ ?_).mono ?_; exact hBlk; exact hnx.drew; rintro e w4 ⟨rfl, zs', hl4, hd4, k4, hv4, g4⟩))
        all_goals
          go_wp2
          exact ⟨⟨q + 1, zs', by omega, by go_num, by rw [hl4, unhide HM], hd4, k4, by rw [hv4]; exact H2, below_grown hnx.drew g4 (Nat.le_refl _) hsz⟩, by simp [intOf]; omega⟩
    · obtain rfl : q = np := by omega
      have HV := hV
      go_wp2_with fail
      refine (trim_blk (B := w2.heap.size) hzl (by omega) (Nat.le_refl _) hBlk dz).mono ?_
      rintro e w5 ⟨r, rfl, hr, rfl⟩
      rw [hV.out] at hr
      go_wp2
      go_ret
      exact ⟨r, rfl, hr, hnx⟩

end Go.Proofs.YtiekgpphggejcaaGreatDoor

/- The examples of the document on rows of words. -/
namespace Go.Proofs.YtiekgpphggejcaaGreatDoor
open Go.RowKit

/-- A word alone, just laid. -/
theorem in_one (w : World) (x : Nat) (hx : x < 18446744073709551616) : InW (w.alloc (.cells #[.int .u64 (x : Int)] 78)) (.slice (some ⟨w.heap.size, 0, none⟩) 1 1) x := by
  have hk : Blk (w.alloc (.cells #[.int .u64 (x : Int)] 78)) w.heap.size [x] := heap_alloc_new w _
  have hr := hk.rep 0 1 1 (by simp) (by omega)
  exact ⟨_, _, _, _, [x], rfl, hr, wDig_one hx, wval_one x, by simp⟩
theorem in_none (w : World) : InW w (.slice none 0 0) 0 := ⟨none, 0, 0, 0, [], rfl, Rep.nil _ _ _ _ _, wDig_nil, rfl, by simp⟩

/-- Two parts, just laid. -/
theorem parts_two (w : World) (u v : Value) (m n t : Nat) (hu : InW w u m) (hv : InW w v n) : Parts (w.alloc (.cells #[u, v] t)) (some ⟨w.heap.size, 0, none⟩) w.heap.size 0 [u, v] [m, n] := by
  have hb : Below w.heap.size w (w.alloc (.cells #[u, v] t)) := (Below.refl _ _).alloc (Nat.le_refl _) _
  refine ⟨fun _ => rfl, rfl, fun j hj => ?_, fun j hj => ?_⟩
  · have hj2 : j < 2 := hj
    rw [Nat.zero_add, cell_of_row _ w.heap.size j #[u, v] t (0, 0) (heap_alloc_new w _)]
    match j, hj2 with
    | 0, _ => rfl
    | 1, _ => rfl
  · have hj2 : j < 2 := hj
    match j, hj2 with
    | 0, _ => exact hu.next hb
    | 1, _ => exact hv.next hb

theorem can_57 : WCan [5, 7] := ⟨fun j => by match j with | 0 => decide | 1 => decide | j + 2 => simp, fun _ => by decide⟩
theorem can_3 : WCan [3] := ⟨wDig_one (by omega), fun _ => by decide⟩
theorem new_words {B : Nat} {w : World} {v : Value} {n : Nat} {ws : List Nat} (h : NewW B w v n) (hc : WCan ws) (hw : wval ws = n) : ∃ ga b cap, v = .slice ga ws.length cap ∧ Rep w ga b 0 cap ws := by
  obtain ⟨ga, b, cap, xs, rfl, hr, hx, hv, _⟩ := h.rep
  obtain rfl := wCan_unique hx hc (by rw [hv, hw])
  exact ⟨ga, b, cap, rfl, hr⟩

theorem lit_rep (w : World) (ws : List Nat) (t : Nat) (ht : t = 78) : Rep (w.alloc (.cells (cellsOf ws).toArray t)) (some ⟨w.heap.size, 0, none⟩) w.heap.size 0 ws.length ws := by
  subst ht
  have hk : Blk (w.alloc (.cells (cellsOf ws).toArray 78)) w.heap.size ws := heap_alloc_new w _
  have hr := hk.rep 0 ws.length ws.length (by simp) (Nat.le_refl _)
  rw [List.drop_zero, List.take_length] at hr
  exact hr

theorem wake_join (w1 : World) : Calls Tryz.prog 69 #[.int .i64 1, .slice (some ⟨w1.heap.size + 1 + 1, 0, none⟩) 2 2]
    (((w1.alloc (.cells #[.int .u64 5] 78)).alloc (.cells #[.int .u64 7] 78)).alloc (.cells #[.slice (some ⟨w1.heap.size, 0, none⟩) 1 1, .slice (some ⟨w1.heap.size + 1, 0, none⟩) 1 1] 29))
    fun e w' => ∃ ga b cap, e = .returned (.slice ga 2 cap) ∧ Rep w' ga b 0 cap [5, 7] ∧ Below w1.heap.size w1 w' := by
  have i5 := in_one w1 5 (by omega)
  have i7 := in_one (w1.alloc (.cells #[.int .u64 5] 78)) 7 (by omega)
  have s1 : (w1.alloc (.cells #[.int .u64 5] 78)).heap.size = w1.heap.size + 1 := by simp
  have s2 : ((w1.alloc (.cells #[.int .u64 5] 78)).alloc (.cells #[.int .u64 7] 78)).heap.size = w1.heap.size + 1 + 1 := by simp
  have bA : Below w1.heap.size w1 (w1.alloc (.cells #[.int .u64 5] 78)) := (Below.refl _ _).alloc (Nat.le_refl _) _
  have bB : Below (w1.alloc (.cells #[.int .u64 5] 78)).heap.size (w1.alloc (.cells #[.int .u64 5] 78)) ((w1.alloc (.cells #[.int .u64 5] 78)).alloc (.cells #[.int .u64 7] 78)) := (Below.refl _ _).alloc (Nat.le_refl _) _
  have hP := parts_two ((w1.alloc (.cells #[.int .u64 5] 78)).alloc (.cells #[.int .u64 7] 78)) _ _ 5 7 29 (i5.next bB) i7
  have bC : Below ((w1.alloc (.cells #[.int .u64 5] 78)).alloc (.cells #[.int .u64 7] 78)).heap.size ((w1.alloc (.cells #[.int .u64 5] 78)).alloc (.cells #[.int .u64 7] 78)) _ := (Below.refl _ _).alloc (Nat.le_refl _) (.cells #[.slice (some ⟨w1.heap.size, 0, none⟩) 1 1, .slice (some ⟨w1.heap.size + 1, 0, none⟩) 1 1] 29)
  rw [s1, s2] at hP
  refine (join_k _ _ _ _ 2 2 1 1 _ _ rfl (by omega) (by decide) hP).mono ?_
  rintro e w' ⟨r, rfl, hr, hb⟩
  obtain ⟨ga, b, cap, rfl, hrep⟩ := new_words hr can_57 (by decide)
  exact ⟨ga, b, cap, rfl, hrep, bstep (bstep (bstep bA bB) bC) hb⟩

theorem wake_same (w : World) (ga : Option Addr) (b cap : Nat) (ws : List Nat) (n : Nat) (hn : ws.length = n) (h1 : n ≤ 1073741824) (hr : Rep w ga b 0 cap ws) :
    Calls Tryz.prog 31 #[.slice ga n cap, .slice (some ⟨w.heap.size, 0, none⟩) n n] (w.alloc (.cells (cellsOf ws).toArray 78)) fun e w' => e = .returned (.bool true) ∧ Below w.heap.size w w' := by
  subst hn
  have hb : Below w.heap.size w (w.alloc (.cells (cellsOf ws).toArray 78)) := (Below.refl _ _).alloc (Nat.le_refl _) _
  refine (keepSame_any _ _ _ _ _ _ _ _ _ _ ws rfl h1 (hr.next hb) (lit_rep w ws _ rfl)).mono ?_
  rintro e w' ⟨rfl, h⟩
  exact ⟨rfl, bstep hb h⟩

theorem wake_one (w : World) : Calls Tryz.prog 59 #[.int .u64 3] w fun e w' => ∃ ga b cap, e = .returned (.slice ga 1 cap) ∧ Rep w' ga b 0 cap [3] ∧ Below w.heap.size w w' := by
  refine (one_w w 3 (by omega)).mono ?_
  rintro e w' ⟨r, rfl, hr, hb⟩
  obtain ⟨ga, b, cap, rfl, hrep⟩ := new_words hr can_3 (by decide)
  exact ⟨ga, b, cap, rfl, hrep, hb⟩

end Go.Proofs.YtiekgpphggejcaaGreatDoor

/- What the laws of limb share: rows that are spoilt, 'from'. -/
namespace Go.Proofs.YtiekgpphggejcaaGreatDoor
open Go.RowKit

theorem pow_two_le (k q : Nat) (h : k ≤ 64 * q) : 2 ^ k ≤ 18446744073709551616 ^ q := by
  rw [show (18446744073709551616 : Nat) = 2 ^ 64 from rfl, ← Nat.pow_mul]
  exact Nat.pow_le_pow_right (by omega) h
theorem shl_bound {A k p q : Nat} (hA : A < 18446744073709551616 ^ p) (h : k ≤ 64 * q) : A * 2 ^ k < 18446744073709551616 ^ (p + q) := by
  have h2 := Nat.mul_lt_mul_of_lt_of_le hA (pow_two_le k q h) (wpow_pos q)
  rwa [← Nat.pow_add] at h2

/-- A natural as limb answers it, in a block from B on, below M. -/
def NewB (B M : Nat) (w : World) (v : Value) (n : Nat) : Prop :=
  ∃ xs, WCan xs ∧ wval xs = n ∧ ((v = .slice none 0 0 ∧ xs = []) ∨ ∃ g ys, B ≤ g ∧ g < M ∧ v = .slice (some ⟨g, 0, none⟩) xs.length (xs ++ ys).length ∧ Blk w g (xs ++ ys) ∧ xs.length + ys.length ≤ 1099511627776)
theorem NewW.born {B : Nat} {w : World} {v : Value} {n : Nat} (h : NewW B w v n) : NewB B w.heap.size w v n := by
  obtain ⟨xs, hc, hv, h | ⟨g, ys, hg, rfl, hk, hl⟩⟩ := h
  · exact ⟨xs, hc, hv, Or.inl h⟩
  · exact ⟨xs, hc, hv, Or.inr ⟨g, ys, hg, hk.lt, rfl, hk, hl⟩⟩
theorem NewB.toW {B M : Nat} {w : World} {v : Value} {n : Nat} (h : NewB B M w v n) : NewW B w v n := by
  obtain ⟨xs, hc, hv, h | ⟨g, ys, hg, _, rfl, hk, hl⟩⟩ := h
  · exact ⟨xs, hc, hv, Or.inl h⟩
  · exact ⟨xs, hc, hv, Or.inr ⟨g, ys, hg, rfl, hk, hl⟩⟩
theorem NewB.next {B M : Nat} {w w' : World} {v : Value} {n : Nat} (h : NewB B M w v n) (hb : Below w.heap.size w w') : NewB B M w' v n := by
  obtain ⟨xs, hc, hv, h | ⟨g, ys, hg, hm, rfl, hk, hl⟩⟩ := h
  · exact ⟨xs, hc, hv, Or.inl h⟩
  · exact ⟨xs, hc, hv, Or.inr ⟨g, ys, hg, hm, rfl, hk.next hb, hl⟩⟩
theorem newB_nil (B M : Nat) (w : World) : NewB B M w (.slice none 0 0) 0 := ⟨[], wCan_nil, rfl, Or.inl ⟨rfl, rfl⟩⟩

/-- At most a block from B on, below M, is turned. -/
def Spoilt (B M : Nat) (w w' : World) : Prop := w' = w ∨ ∃ g, B ≤ g ∧ g < M ∧ w.grownBy w' (some g)
theorem Rep.spoilt {B M : Nat} {w w' : World} {ga : Option Addr} {b o cap : Nat} {xs : List Nat} (h : Rep w ga b o cap xs) (hs : Spoilt B M w w') (hb : 0 < xs.length → b < B ∨ M ≤ b) : Rep w' ga b o cap xs := by
  rcases hs with rfl | ⟨g, h1, h2, hg⟩
  · exact h
  · exact h.but hg (fun h0 => by have := hb h0; omega)
theorem NewB.spoilt {B M B' M' : Nat} {w w' : World} {v : Value} {n : Nat} (h : NewB B' M' w v n) (hs : Spoilt B M w w') (hd : M ≤ B' ∨ M' ≤ B) : NewB B' M' w' v n := by
  rcases hs with rfl | ⟨g, h1, h2, hg⟩
  · exact h
  · obtain ⟨xs, hc, hv, h | ⟨k, ys, hk1, hk2, rfl, hk, hl⟩⟩ := h
    · exact ⟨xs, hc, hv, Or.inl h⟩
    · exact ⟨xs, hc, hv, Or.inr ⟨k, ys, hk1, hk2, rfl, hk.but hg (by omega), hl⟩⟩
theorem below_spoilt {B M C : Nat} {w0 w w' : World} (h : Below C w0 w) (hs : Spoilt B M w w') (hC : C ≤ B) (hw : C ≤ w.heap.size) : Below C w0 w' := by
  rcases hs with rfl | ⟨g, h1, h2, hg⟩
  · exact h
  · exact below_grown h hg (by omega) hw
theorem spoilt_size {B M : Nat} {w w' : World} (hs : Spoilt B M w w') : w.heap.size ≤ w'.heap.size := by
  rcases hs with rfl | ⟨g, h1, h2, hg⟩
  · exact Nat.le_refl _
  · exact hg.size

theorem spoil_any (w : World) (v : Value) (n B M : Nat) (h : NewB B M w v n) : Calls Tryz.prog 22 #[v] w fun e w' => e = .returned (.tuple #[]) ∧ Spoilt B M w w' := by
  obtain ⟨xs, hc, hv, ⟨rfl, rfl⟩ | ⟨g, ys, hg, hm, rfl, hk, hl⟩⟩ := h
  · refine (spoil_nil w).mono ?_
    rintro e w' ⟨rfl, rfl⟩
    exact ⟨rfl, Or.inl rfl⟩
  · refine (spoil_blk w g _ _ _ rfl (by simp) (by simpa using hl) hk).mono ?_
    rintro e w' ⟨rfl, hG⟩
    exact ⟨rfl, Or.inr ⟨g, hg, hm, hG⟩⟩

theorem lent_in {w : World} {g n : Nat} {us : List Nat} (h : Rep w (some ⟨g, 0, none⟩) g 0 (n + 4) us) (hl : us.length = n) (hn : n ≤ 1073741824) (hd : WDig us) (A : Nat) (hA : A = wval us) : InW w (.slice (some ⟨g, 0, none⟩) n (n + 4)) A :=
  ⟨_, _, _, _, us, by rw [hl], h, hd, hA.symm, by omega⟩

end Go.Proofs.YtiekgpphggejcaaGreatDoor

/- Rows of rows: Cuts and Nats of keep; Sum of the reference; Sum of limb. -/
namespace Go.Proofs.YtiekgpphggejcaaGreatDoor
open Go.RowKit

/-- A row of at most K words that says n. -/
def InL (K : Nat) (w : World) (v : Value) (n : Nat) : Prop := ∃ ga b o cap xs, v = .slice ga xs.length cap ∧ Rep w ga b o cap xs ∧ WDig xs ∧ wval xs = n ∧ xs.length ≤ K
theorem InL.toIn {K : Nat} {w : World} {v : Value} {n : Nat} (h : InL K w v n) (hK : K ≤ 1073741824) : InW w v n := by
  obtain ⟨ga, b, o, cap, xs, rfl, hr, hd, hv, hl⟩ := h
  exact ⟨ga, b, o, cap, xs, rfl, hr, hd, hv, by omega⟩
theorem InL.next {K : Nat} {w w' : World} {v : Value} {n : Nat} (h : InL K w v n) (hb : Below w.heap.size w w') : InL K w' v n := by
  obtain ⟨ga, b, o, cap, xs, rfl, hr, hd, hv, hl⟩ := h
  exact ⟨ga, b, o, cap, xs, rfl, hr.next hb, hd, hv, hl⟩
theorem InL.lt {K : Nat} {w : World} {v : Value} {n : Nat} (h : InL K w v n) : n < 18446744073709551616 ^ K := by
  obtain ⟨ga, b, o, cap, xs, rfl, hr, hd, hv, hl⟩ := h
  rw [← hv]; exact pow_up (wval_lt_pow hd) hl

/-- Rows in memory, as they come in: vs their headers, each leads to words. -/
structure RowsIn (w : World) (gp : Option Addr) (bp op : Nat) (vs : List Value) : Prop where
  head : 0 < vs.length → gp = some ⟨bp, op, none⟩
  cell : ∀ j, j < vs.length → w.cell? ⟨bp, op + j, none⟩ = some (vs.getD j undef)
  each : ∀ j, j < vs.length → ∃ ga b o cap xs, vs.getD j undef = .slice ga xs.length cap ∧ Rep w ga b o cap xs ∧ WDig xs
/-- Rows in memory, each of at most K words, which says a number. -/
structure RowsN (K : Nat) (w : World) (gp : Option Addr) (bp op : Nat) (vs : List Value) (ns : List Nat) : Prop where
  head : 0 < vs.length → gp = some ⟨bp, op, none⟩
  len : ns.length = vs.length
  cell : ∀ j, j < vs.length → w.cell? ⟨bp, op + j, none⟩ = some (vs.getD j undef)
  each : ∀ j, j < vs.length → InL K w (vs.getD j undef) (ns.getD j 0)
theorem RowsN.lt {K : Nat} {w : World} {gp : Option Addr} {bp op : Nat} {vs : List Value} {ns : List Nat} (h : RowsN K w gp bp op vs ns) (h0 : 0 < vs.length) : bp < w.heap.size := World.block_lt_of_cell? _ _ (h.cell 0 h0)
theorem RowsN.next {K : Nat} {w w' : World} {gp : Option Addr} {bp op : Nat} {vs : List Value} {ns : List Nat} (h : RowsN K w gp bp op vs ns) (hb : Below w.heap.size w w') : RowsN K w' gp bp op vs ns :=
  ⟨h.head, h.len, fun j hj => (hb.cell (by exact h.lt (by omega))).trans (h.cell j hj), fun j hj => (h.each j hj).next hb⟩
theorem RowsN.parts {K : Nat} {w : World} {gp : Option Addr} {bp op : Nat} {vs : List Value} {ns : List Nat} (h : RowsN K w gp bp op vs ns) (hK : K ≤ 1073741824) : Parts w gp bp op vs ns :=
  ⟨h.head, h.len, h.cell, fun j hj => (h.each j hj).toIn hK⟩

theorem Tryz.infoS : (Tryz.prog.info? 24).map (fun i => (i.zero, i.size, i.bytes)) = some (some (.slice none 0 0), 1, 24) := by kernel_rfl
theorem Tryz.infoNt : (Tryz.prog.info? 29).map (fun i => (i.zero, i.size, i.bytes)) = some (some (.slice none 0 0), 1, 24) := by kernel_rfl
theorem info_of {o : Option TypeInfo} {z : Option Value} {n b : Nat} (h : o.map (fun i => (i.zero, i.size, i.bytes)) = some (z, n, b)) : ∃ i, o = some i ∧ i.zero = z ∧ i.size = n ∧ i.bytes = b := by
  cases o with
  | none => simp at h
  | some i => simp at h; exact ⟨i, rfl, h.1, h.2.1, h.2.2⟩

/-- A row of headers of the call's own. -/
theorem owns_vals {w : World} {base t n : Nat} {v : Value} {us : List Value} (h : w.ownsRow base t 1 v n us) : ∃ ga b cap, v = .slice ga n cap ∧ us.length = n ∧ (0 < n → ga = some ⟨b, 0, none⟩ ∧ base ≤ b) ∧ ∀ j, j < n → w.cell? ⟨b, 0 + j, none⟩ = some (us.getD j undef) := by
  have hl : us.length = n := by simpa using h.1
  rcases h.2 with ⟨rfl, rfl⟩ | ⟨g, cap, cur, rfl, hb, hg, hc, hm, hs, ht⟩
  · exact ⟨none, 0, 0, rfl, hl, fun h => absurd h (by omega), fun j hj => absurd hj (by omega)⟩
  · have ho : w.ownsRow base t 1 (.slice (some ⟨g, 0, none⟩) n cap) n us := ⟨h.1, Or.inr ⟨g, cap, cur, rfl, hb, hg, hc, hm, hs, ht⟩⟩
    refine ⟨_, g, cap, rfl, hl, fun _ => ⟨rfl, hb⟩, fun j hj => ?_⟩
    rw [Nat.zero_add, ho.cellAt j (by omega)]
    simp [List.getD_eq_getElem?_getD, show j < us.length from by omega]
theorem getD_snoc_v (us : List Value) (u : Value) (j : Nat) : (us ++ [u]).getD j undef = if j < us.length then us.getD j undef else if j = us.length then u else undef := by
  simp only [List.getD_eq_getElem?_getD, List.getElem?_append]
  split
  · rfl
  · rename_i h
    by_cases e : j = us.length
    · subst e; simp
    · rw [if_neg e]
      have : j - us.length ≠ 0 := by omega
      obtain ⟨k, hk⟩ : ∃ k, j - us.length = k + 1 := ⟨j - us.length - 1, by omega⟩
      rw [hk]; simp
theorem getD_snoc_n (ns : List Nat) (n j : Nat) : (ns ++ [n]).getD j 0 = if j < ns.length then ns.getD j 0 else if j = ns.length then n else 0 := by
  rw [getD_append]
  split
  · rfl
  · by_cases e : j = ns.length
    · subst e; simp
    · rw [if_neg e]
      obtain ⟨k, hk⟩ : ∃ k, j - ns.length = k + 1 := ⟨j - ns.length - 1, by omega⟩
      rw [hk]; simp

/-- Headers, each of which says a number, in whatever world has the same cells. -/
def Says (K : Nat) (w : World) (us : List Value) (ns : List Nat) : Prop := ns.length = us.length ∧ ∀ j, j < us.length → InL K w (us.getD j undef) (ns.getD j 0)
theorem says_snoc {K : Nat} {w : World} {us : List Value} {ns : List Nat} {u : Value} {n : Nat} (h : Says K w us ns) (hu : InL K w u n) : Says K w (us ++ [u]) (ns ++ [n]) := by
  refine ⟨by simp [h.1], fun j hj => ?_⟩
  have hj2 : j < us.length + 1 := by simpa using hj
  rw [getD_snoc_v, getD_snoc_n, h.1]
  by_cases e : j < us.length
  · rw [if_pos e, if_pos e]; exact h.2 j e
  · rw [if_neg e, if_neg e, if_pos (by omega), if_pos (by omega)]; exact hu
theorem Says.next {K : Nat} {w w' : World} {us : List Value} {ns : List Nat} (h : Says K w us ns) (hb : Below w.heap.size w w') : Says K w' us ns := ⟨h.1, fun j hj => (h.2 j hj).next hb⟩

theorem owns_cap {w : World} {base t n m cap : Nat} {ga : Option Addr} {us : List Value} (h : w.ownsRow base t 1 (.slice ga m cap) n us) : n ≤ cap := by
  rcases h.2 with ⟨_, h0⟩ | ⟨g, c, cur, hv, _, _, hc, _⟩
  · omega
  · cases hv; exact hc
/-- What Cuts and Nats leave. -/
def CutsDone (K M : Nat) (w : World) (ns : List Nat) (e : Ending) (w' : World) : Prop := ∃ gp bp cp vs, e = .returned (.slice gp vs.length cp) ∧ (vs.length ≤ M ∧ vs.length ≤ cp) ∧ RowsN K w' gp bp 0 vs ns ∧ Below w.heap.size w w'

set_option maxRecDepth 100000 in
set_option maxHeartbeats 3200000 in
theorem cuts_any (w : World) (gp : Option Addr) (bp op cp np k m : Nat) (vs : List Value) (hvl : vs.length = np) (hk : k ≤ 1000) (hm : m ≤ 1000) (hP : RowsIn w gp bp op vs) :
    Calls Tryz.prog 27 #[.slice gp np cp, .int .i64 (k : Int), .int .i64 (m : Int)] w fun e w' => ∃ ns, CutsDone m k w ns e w' := by
  obtain ⟨i0, hi, hz0, hz1, hz2⟩ := info_of Tryz.infoS
  go_enter Tryz.func27, Tryz.ntmps27
  go_wp2
  go_loopw [7, 8] (fun out i wr => ∃ (q : Nat) (gw : Option Addr) (cw : Nat) (us : List Value) (ns : List Nat), q ≤ k ∧ q ≤ np ∧ i = .int .i64 (q : Int) ∧ out = .slice gw q cw ∧
      wr.ownsRow w.heap.size 24 1 (.slice gw q cw) q us ∧ Says m w us ns ∧ Below w.heap.size w wr)
    (fun _ i _ => np - (intOf i).toNat)
  case atStart => exact ⟨0, none, 0, [], [], Nat.zero_le _, Nat.zero_le _, rfl, rfl, World.ownsRow_nil _ _ _ _, ⟨rfl, fun j hj => absurd hj (by simp)⟩, Below.refl _ _⟩
  case round =>
    obtain ⟨q, gw, cw, us, ns, hqk, hqn, rfl, rfl, hown, hSay, hnx⟩ := hrel
    have hsz := hnx.size
    by_cases h1 : q < np
    · by_cases h2 : q < k
      · obtain rfl := hP.head (by omega)
        have cv := (hnx.cell (by exact World.block_lt_of_cell? _ _ (hP.cell q (by omega)))).trans (hP.cell q (by omega))
        obtain ⟨ga, b, o, cap, xs, hve, hR, hd⟩ := hP.each q (by omega)
        rw [hve] at cv
        obtain ⟨l, hl⟩ : ∃ l, l = min xs.length m := ⟨_, rfl⟩
        have CC := hide (fun w => cut_any w ga xs.length cap m l hR.room (by omega) hl)
        obtain ⟨hcl, hCr⟩ := cut_rep hR m l hl
        have hIn : InL m w (.slice ga l cap) (wval (xs.take l)) := ⟨ga, b, o, cap, xs.take l, by rw [hcl], hCr, wDig_take hd l, rfl, by omega⟩
        have hS2 := hide (says_snoc hSay hIn)
        have h1i : (q : Int) < (np : Int) := by omega
        have h2i : (q : Int) < (k : Int) := by omega
        generalize wval (xs.take l) = n at *
        generalize xs.length = lx at *
        clear hve hR hd hl hcl hCr hIn hSay
        go_wp2_with fail
        refine (unhide CC _).mono ?_
        rintro e w1 ⟨rfl, rfl⟩
        clear CC
        go_wp2_with (at_builtin; refine wpList_append_own _ rfl (.tmp 20) (.tmp 27) 62 rfl w.heap.size 24 i0 (.slice none 0 0) 1 24 Tryz.underlying62 hi hz0 hz1 hz2 rfl (by omega) (.slice gw q cw) q _ rfl (hown.alloc _) ⟨w1.heap.size, 0, none⟩ 1 1 [.slice ga l cap] rfl rfl (by exact cells_new w1 [.slice ga l cap] 24) (by intro u hu; simp at hu; subst hu; rfl) (by unfold maxLen; omega) (by omega) (by simp; omega) ?_; intro v1 w2 hown1 hgrow1 hnil1)
        have hb2 := below_append (hnx.alloc hsz _) (hown.alloc _) hgrow1 (by simp; omega)
        obtain ⟨g1, b1, c1, rfl, _, _, _⟩ := owns_vals hown1
        clear hgrow1 hnil1
        go_wp2
        go_roundw
        case rel => exact ⟨q + 1, g1, c1, us ++ [.slice ga l cap], ns ++ [n], by omega, by omega, by go_num, rfl, hown1, unhide hS2, hb2⟩
        case measure => simp [intOf]; omega
      · have h1i : (q : Int) < (np : Int) := by omega
        have h2i : ¬ (q : Int) < (k : Int) := by omega
        have hcp := owns_cap hown
        obtain ⟨g1, b1, c1, he, hl1, hh1, hc1⟩ := owns_vals hown
        cases he
        go_wp2
        go_ret
        exact ⟨ns, gw, b1, cw, us, by rw [hl1]; rfl, by omega, ⟨fun h => (hh1 (by omega)).1, hSay.1, fun j hj => hc1 j (by omega), fun j hj => (hSay.next hnx).2 j hj⟩, hnx⟩
    · have h1i : ¬ (q : Int) < (np : Int) := by omega
      have hcp := owns_cap hown
      obtain ⟨g1, b1, c1, he, hl1, hh1, hc1⟩ := owns_vals hown
      cases he
      go_wp2
      go_ret
      exact ⟨ns, gw, b1, cw, us, by rw [hl1]; rfl, by omega, ⟨fun h => (hh1 (by omega)).1, hSay.1, fun j hj => hc1 j (by omega), fun j hj => (hSay.next hnx).2 j hj⟩, hnx⟩

set_option maxRecDepth 100000 in
set_option maxHeartbeats 3200000 in
theorem nats_any (K : Nat) (w : World) (gp : Option Addr) (bp op cp np : Nat) (vs : List Value) (ns : List Nat) (hvl : vs.length = np) (hnp : np ≤ 1000) (hP : RowsN K w gp bp op vs ns) :
    Calls Tryz.prog 29 #[.slice gp np cp] w (CutsDone K np w ns) := by
  obtain ⟨i0, hi, hz0, hz1, hz2⟩ := info_of Tryz.infoNt
  go_enter Tryz.func29, Tryz.ntmps29
  go_wp2
  go_loopw [3, 4] (fun out i wr => ∃ (q : Nat) (gw : Option Addr) (cw : Nat), q ≤ np ∧ i = .int .i64 (q : Int) ∧ out = .slice gw q cw ∧
      wr.ownsRow w.heap.size 29 1 (.slice gw q cw) q (vs.take q) ∧ Below w.heap.size w wr)
    (fun _ i _ => np - (intOf i).toNat)
  case atStart => exact ⟨0, none, 0, Nat.zero_le _, rfl, rfl, World.ownsRow_nil _ _ _ _, Below.refl _ _⟩
  case round =>
    obtain ⟨q, gw, cw, hqn, rfl, rfl, hown, hnx⟩ := hrel
    have hsz := hnx.size
    by_cases h1 : q < np
    · obtain rfl := hP.head (by omega)
      have cv := (hnx.cell (by exact hP.lt (by omega))).trans (hP.cell q (by omega))
      obtain ⟨ga, b, o, cap, xs, hve, _, _, _, _⟩ := hP.each q (by omega)
      have hts : vs.take (q + 1) = vs.take q ++ [.slice ga xs.length cap] := by
        rw [List.take_succ_eq_append_getElem (by omega), ← hve]
        simp [List.getD_eq_getElem?_getD, show q < vs.length from by omega]
      rw [hve] at cv
      have HTS := hide hts
      generalize xs.length = lx at *
      clear hve hts
      go_wp2_with (at_builtin; refine wpList_append_own _ rfl (.tmp 11) (.tmp 16) 65 rfl w.heap.size 29 i0 (.slice none 0 0) 1 24 Tryz.underlying65 hi hz0 hz1 hz2 rfl (by omega) (.slice gw q cw) q _ rfl (hown.alloc _) ⟨wr.heap.size, 0, none⟩ 1 1 [.slice ga lx cap] rfl rfl (by exact cells_new wr [.slice ga lx cap] 29) (by intro u hu; simp at hu; subst hu; rfl) (by unfold maxLen; omega) (by omega) (by simp; omega) ?_; intro v1 w2 hown1 hgrow1 hnil1)
      have hb2 := below_append (hnx.alloc hsz _) (hown.alloc _) hgrow1 (by simp; omega)
      obtain ⟨g1, b1, c1, rfl, _, _, _⟩ := owns_vals hown1
      clear hgrow1 hnil1
      go_wp2
      go_roundw
      case rel => exact ⟨q + 1, g1, c1, by omega, by go_num, rfl, by rw [unhide HTS]; exact hown1, hb2⟩
      case measure => simp [intOf]; omega
    · obtain rfl : q = np := by omega
      rw [List.take_of_length_le (by omega)] at hown
      have hcp := owns_cap hown
      obtain ⟨g1, b1, c1, he, hl1, hh1, hc1⟩ := owns_vals hown
      cases he
      go_wp2
      go_ret
      exact ⟨gw, b1, cw, vs, by rw [hl1]; rfl, by omega, ⟨fun h => (hh1 (by omega)).1, hP.len, fun j hj => hc1 j (by omega), fun j hj => (hP.each j hj).next hnx⟩, hnx⟩

theorem jsum_zero_succ (ns : List Nat) (i : Nat) : jsum 0 ns (i + 1) = jsum 0 ns i + ns.getD i 0 := by
  rw [jsum, Nat.zero_mul, Nat.pow_zero, Nat.one_mul]
theorem jsum_zero_lt {K : Nat} {ns : List Nat} (np : Nat) (h : ∀ j, j < np → ns.getD j 0 < 18446744073709551616 ^ K) : ∀ q, q ≤ np → jsum 0 ns q ≤ q * 18446744073709551616 ^ K
  | 0 => fun _ => by simp [jsum]
  | q + 1 => fun hq => by
    have := jsum_zero_lt np h q (by omega)
    have := h q (by omega)
    rw [jsum_zero_succ, Nat.add_mul, Nat.one_mul]
    omega

set_option maxHeartbeats 800000 in
theorem sum_w (w : World) (gp : Option Addr) (bp op cp np : Nat) (vs : List Value) (ns : List Nat) (hvl : vs.length = np) (hnp : np ≤ 65536) (hP : Parts w gp bp op vs ns) :
    Calls Tryz.prog 74 #[.slice gp np cp] w fun e w' => ∃ r, e = .returned r ∧ NewW w.heap.size w' r (jsum 0 ns np) ∧ Below w.heap.size w w' := by
  have C := hide (join_k w gp bp op cp np 0 0 vs ns hvl hnp (by decide) hP)
  clear hP hvl
  go_enter Tryz.func74, Tryz.ntmps74
  go_wp2_with fail
  refine (unhide C).mono ?_
  rintro e w1 ⟨r, rfl, hr, hb⟩
  go_wp2
  go_ret
  exact ⟨r, rfl, hr, hb⟩

end Go.Proofs.YtiekgpphggejcaaGreatDoor

/- Parts that were just laid, joined and summed. -/
namespace Go.Proofs.YtiekgpphggejcaaGreatDoor
open Go.RowKit

theorem parts_three (w : World) (u v x : Value) (m n p t : Nat) (hu : InW w u m) (hv : InW w v n) (hx : InW w x p) : Parts (w.alloc (.cells #[u, v, x] t)) (some ⟨w.heap.size, 0, none⟩) w.heap.size 0 [u, v, x] [m, n, p] := by
  have hb : Below w.heap.size w (w.alloc (.cells #[u, v, x] t)) := (Below.refl _ _).alloc (Nat.le_refl _) _
  refine ⟨fun _ => rfl, rfl, fun j hj => ?_, fun j hj => ?_⟩
  · have hj2 : j < 3 := hj
    rw [Nat.zero_add, cell_of_row _ w.heap.size j #[u, v, x] t (0, 0) (heap_alloc_new w _)]
    match j, hj2 with
    | 0, _ => rfl
    | 1, _ => rfl
    | 2, _ => rfl
  · have hj2 : j < 3 := hj
    match j, hj2 with
    | 0, _ => exact hu.next hb
    | 1, _ => exact hv.next hb
    | 2, _ => exact hx.next hb

theorem sum_three (w : World) (u v x : Value) (m n p : Nat) (hu : InW w u m) (hv : InW w v n) (hx : InW w x p) :
    Calls Tryz.prog 74 #[.slice (some ⟨w.heap.size, 0, none⟩) 3 3] (w.alloc (.cells #[u, v, x] 29)) fun e w' => ∃ r, e = .returned r ∧ NewW w.heap.size w' r (m + n + p) ∧ Below w.heap.size w w' := by
  have hb : Below w.heap.size w (w.alloc (.cells #[u, v, x] 29)) := (Below.refl _ _).alloc (Nat.le_refl _) _
  refine (sum_w _ _ _ _ 3 3 _ _ rfl (by omega) (parts_three w u v x m n p 29 hu hv hx)).mono ?_
  rintro e w' ⟨r, rfl, hr, h⟩
  have e3 : jsum 0 [m, n, p] 3 = m + n + p := by
    rw [jsum_zero_succ, jsum_zero_succ, jsum_zero_succ]; simp [jsum]
  rw [e3] at hr
  exact ⟨r, rfl, hr.mono hb.size, bstep hb h⟩

theorem join_two (w : World) (u v : Value) (m n k : Nat) (z : Int) (hz : (k : Int) = min (max z 0) 16384) (hu : InW w u m) (hv : InW w v n) :
    Calls Tryz.prog 69 #[.int .i64 z, .slice (some ⟨w.heap.size, 0, none⟩) 2 2] (w.alloc (.cells #[u, v] 29)) fun e w' => ∃ r, e = .returned r ∧ NewW w.heap.size w' r (m + 18446744073709551616 ^ k * n) ∧ Below w.heap.size w w' := by
  have hb : Below w.heap.size w (w.alloc (.cells #[u, v] 29)) := (Below.refl _ _).alloc (Nat.le_refl _) _
  refine (join_k _ _ _ _ 2 2 k z _ _ rfl (by omega) hz (parts_two w u v m n 29 hu hv)).mono ?_
  rintro e w' ⟨r, rfl, hr, h⟩
  have e2 : jsum k [m, n] 2 = m + 18446744073709551616 ^ k * n := by simp [jsum]
  rw [e2] at hr
  exact ⟨r, rfl, hr.mono hb.size, bstep hb h⟩

end Go.Proofs.YtiekgpphggejcaaGreatDoor

/- Split of limb. -/
namespace Go.Proofs.YtiekgpphggejcaaGreatDoor
open Go.RowKit

theorem InW.drew {w : World} {v : Value} {n : Nat} (h : InW w v n) : InW w.drew v n := by
  obtain ⟨ga, b, o, cap, xs, rfl, hr, hd, hv, hl⟩ := h
  exact ⟨ga, b, o, cap, xs, rfl, hr.drew, hd, hv, hl⟩
theorem in_len0 (w : World) (ga : Option Addr) (cap : Nat) : InW w (.slice ga 0 cap) 0 := ⟨ga, 0, 0, cap, [], rfl, Rep.nil _ _ _ _ _, wDig_nil, rfl, by simp⟩

theorem in_zero {w : World} {ga : Option Addr} {cap n : Nat} (h : InW w (.slice ga 0 cap) n) : n = 0 := by
  obtain ⟨ga2, b, o, cap2, xs, he, _, _, hv, _⟩ := h
  have hl : xs.length = 0 := by injection he with _ h2 _; exact h2.symm
  obtain rfl : xs = [] := List.length_eq_zero_iff.1 hl
  exact hv.symm

/-- What Split leaves. -/
def SplitDone (w : World) (LO HI : Nat) (e : Ending) (w' : World) : Prop := ∃ lo hi B1 M1 B2 M2, e = .returned (.tuple #[lo, hi]) ∧ NewB B1 M1 w' lo LO ∧ NewB B2 M2 w' hi HI ∧ w.heap.size ≤ B1 ∧ w.heap.size ≤ B2 ∧ M1 ≤ w'.heap.size ∧ M2 ≤ w'.heap.size ∧ (M1 ≤ B2 ∨ M2 ≤ B1) ∧ Below w.heap.size w w'

set_option maxRecDepth 100000 in
set_option maxHeartbeats 3200000 in
theorem split_w (w : World) (u : Value) (z : Int) (m k : Nat) (hz : (k : Int) = min (max z 0) 16384) (hu : InW w u m) :
    Calls Tryz.prog 125 #[u, .int .i64 z] w (SplitDone w (m % 18446744073709551616 ^ k) (m / 18446744073709551616 ^ k)) := by
  have CW := hide (fun w => within_lim z 16384 k w hz)
  obtain ⟨ga, ba, oa, ca, xs, rfl, rA, dA, vA, lA⟩ := hu
  obtain ⟨la, hla⟩ : ∃ la, la = xs.length := ⟨_, rfl⟩
  have hroom := rA.room
  rw [← hla] at lA hroom ⊢
  obtain ⟨s, hs⟩ : ∃ s, s = min k la := ⟨_, rfl⟩
  have hmin : min (k : Int) (la : Int) = (s : Int) := by omega
  have hv := wval_drop xs s
  have hl := wval_lt dA s
  have hvLo : wval (xs.take s) = m % 18446744073709551616 ^ k := by
    by_cases h : k ≤ la
    · obtain rfl : s = k := by omega
      rw [← vA, hv, Nat.add_mul_mod_self_left, Nat.mod_eq_of_lt hl]
    · have h1 := pow_up (wval_lt_pow dA) (q := k) (by omega)
      rw [List.take_of_length_le (by omega), vA, Nat.mod_eq_of_lt (by rw [← vA]; exact h1)]
  have hvHi : wval (xs.drop s) = m / 18446744073709551616 ^ k := by
    by_cases h : k ≤ la
    · obtain rfl : s = k := by omega
      rw [← vA, hv, Nat.add_mul_div_left _ _ (wpow_pos s), Nat.div_eq_of_lt hl, Nat.zero_add]
    · have h1 := pow_up (wval_lt_pow dA) (q := k) (by omega)
      rw [List.drop_eq_nil_of_le (by omega), Nat.div_eq_of_lt (by rw [← vA]; exact h1)]
      rfl
  have hsla : s ≤ la := by omega
  generalize m % 18446744073709551616 ^ k = LO at *
  generalize m / 18446744073709551616 ^ k = HI at *
  have iLo : InW w (.slice ga s ca) LO := ⟨ga, ba, oa, ca, xs.take s, by rw [List.length_take, Nat.min_eq_left (by omega)], rA.take s (by omega), wDig_take dA s, hvLo, by simp; omega⟩
  have hHi : ∀ ga2 c2, (ga = some ⟨ba, oa, none⟩ → s < la → ga2 = some ⟨ba, oa + s, none⟩ ∧ c2 = ca - s) → InW w (.slice ga2 (la - s) c2) HI := fun ga2 c2 h => by
    by_cases h0 : s < la
    · have hg := rA.head (by omega)
      obtain ⟨rfl, rfl⟩ := h hg h0
      subst hg
      exact ⟨_, ba, oa + s, _, xs.drop s, by rw [List.length_drop, hla], rA.dropS (by omega), wDig_drop dA s, hvHi, by simp; omega⟩
    · have e : la - s = 0 := by omega
      rw [List.drop_eq_nil_of_le (by omega)] at hvHi
      have hH0 : HI = 0 := hvHi.symm
      rw [e, hH0]
      exact in_len0 _ _ _
  have hsi : 0 ≤ (s : Int) ∧ (s : Int) ≤ (la : Int) := by omega
  have hsi2 : 0 ≤ (s : Int) ∧ (s : Int) ≤ (ca : Int) := by omega
  have hnil : 0 < la → ga = some ⟨ba, oa, none⟩ := fun h => rA.head (by omega)
  have hlt : s < la → ¬ ca = s := fun h => by omega
  obtain ⟨M, hM⟩ : ∃ M, la - s = M := ⟨_, rfl⟩
  rw [hM] at hHi
  obtain ⟨cc, hcc⟩ : ∃ cc, ca - s = cc := ⟨_, rfl⟩
  clear hv hl hvLo hvHi hs hla vA rA dA hz
  have bl := Below.refl w.heap.size w
  cases ga with
  | none =>
    obtain rfl : la = 0 := by
      refine Nat.eq_zero_of_not_pos fun h => ?_
      have := hnil h
      cases this
    obtain rfl : s = 0 := by omega
    obtain rfl : M = 0 := by omega
    have hmin0 : min (k : Int) 0 = 0 := by omega
    obtain rfl : HI = 0 := in_zero (hHi none 0 (fun _ h => absurd h (by omega)))
    obtain rfl : LO = 0 := in_zero iLo
    have T1 : Hid True := trivial
    clear hnil hlt hHi iLo hmin hsi hsi2 hM hcc hroom
    go_enter Tryz.func125, Tryz.ntmps125
    go_wp2_with fail
    refine (unhide CW _).mono ?_
    rintro e w1 ⟨rfl, rfl⟩
    clear CW
    go_wp2
    go_region_with (first
        | (go_at_call 60; clear T1; refine (norm_w _ _ 0 ?_).mono ?_; exact in_len0 _ _ _; rintro e wL ⟨lo, rfl, nlo, bL⟩; have nlo := nlo.born; have bl := (by exact bstep bl.drew bL : Below w1.heap.size w1 wL))
        | (go_at_call 60; refine (norm_w _ _ 0 ?_).mono ?_; exact in_len0 _ _ _; rintro e wH ⟨hi, rfl, nhi, bH⟩; have nhi := nhi.born; have nlo := nlo.next bH; have bl := (by exact bstep bl bH : Below w1.heap.size w1 wH)))
    all_goals
      go_wp2
      go_ret2
      first
        | exact ⟨lo, hi, _, _, _, _, rfl, nlo, nhi, Nat.le_refl _, bL.size, bH.size, Nat.le_refl _, Or.inl (Nat.le_refl _), bl⟩
        | exact ⟨hi, lo, _, _, _, _, rfl, nhi, nlo, bL.size, Nat.le_refl _, Nat.le_refl _, bH.size, Or.inr (Nat.le_refl _), bl⟩
  | some x =>
    by_cases h0 : la = 0
    · subst h0
      by_cases hc0 : ca = 0
      · subst hc0
        obtain rfl : s = 0 := by omega
        obtain rfl : M = 0 := by omega
        have hmin0 : min (k : Int) 0 = 0 := by omega
        obtain rfl : HI = 0 := in_zero (hHi none 0 (fun _ h => absurd h (by omega)))
        obtain rfl : LO = 0 := in_zero iLo
        have T1 : Hid True := trivial
        clear hnil hlt hHi iLo hmin hsi hsi2 hM hcc hroom
        go_enter Tryz.func125, Tryz.ntmps125
        go_wp2_with fail
        refine (unhide CW _).mono ?_
        rintro e w1 ⟨rfl, rfl⟩
        clear CW
        go_wp2
        go_region_with (first
            | (go_at_call 60; clear T1; refine (norm_w _ _ 0 ?_).mono ?_; exact in_len0 _ _ _; rintro e wL ⟨lo, rfl, nlo, bL⟩; have nlo := nlo.born; have bl := (by exact bstep bl.drew bL : Below w1.heap.size w1 wL))
            | (go_at_call 60; refine (norm_w _ _ 0 ?_).mono ?_; exact in_len0 _ _ _; rintro e wH ⟨hi, rfl, nhi, bH⟩; have nhi := nhi.born; have nlo := nlo.next bH; have bl := (by exact bstep bl bH : Below w1.heap.size w1 wH)))
        all_goals
          go_wp2
          go_ret2
          first
            | exact ⟨lo, hi, _, _, _, _, rfl, nlo, nhi, Nat.le_refl _, bL.size, bH.size, Nat.le_refl _, Or.inl (Nat.le_refl _), bl⟩
            | exact ⟨hi, lo, _, _, _, _, rfl, nhi, nlo, bL.size, Nat.le_refl _, Nat.le_refl _, bH.size, Or.inr (Nat.le_refl _), bl⟩
      · skip
        obtain rfl : s = 0 := by omega
        obtain rfl : M = 0 := by omega
        have hmin0 : min (k : Int) 0 = 0 := by omega
        obtain rfl : HI = 0 := in_zero (hHi none 0 (fun _ h => absurd h (by omega)))
        obtain rfl : LO = 0 := in_zero iLo
        have T1 : Hid True := trivial
        clear hnil hlt hHi iLo hmin hsi hsi2 hM hcc hroom
        go_enter Tryz.func125, Tryz.ntmps125
        go_wp2_with fail
        refine (unhide CW _).mono ?_
        rintro e w1 ⟨rfl, rfl⟩
        clear CW
        go_wp2
        go_region_with (first
            | (go_at_call 60; clear T1; refine (norm_w _ _ 0 ?_).mono ?_; exact in_len0 _ _ _; rintro e wL ⟨lo, rfl, nlo, bL⟩; have nlo := nlo.born; have bl := (by exact bstep bl.drew bL : Below w1.heap.size w1 wL))
            | (go_at_call 60; refine (norm_w _ _ 0 ?_).mono ?_; exact in_len0 _ _ _; rintro e wH ⟨hi, rfl, nhi, bH⟩; have nhi := nhi.born; have nlo := nlo.next bH; have bl := (by exact bstep bl bH : Below w1.heap.size w1 wH)))
        all_goals
          go_wp2
          go_ret2
          first
            | exact ⟨lo, hi, _, _, _, _, rfl, nlo, nhi, Nat.le_refl _, bL.size, bH.size, Nat.le_refl _, Or.inl (Nat.le_refl _), bl⟩
            | exact ⟨hi, lo, _, _, _, _, rfl, nhi, nlo, bL.size, Nat.le_refl _, Nat.le_refl _, bH.size, Or.inr (Nat.le_refl _), bl⟩
    · cases hnil (by omega)
      by_cases hcs : ca = s
      · subst hcs
        obtain rfl : cc = 0 := by omega
        have iHi := hHi (some ⟨ba, oa, none⟩) 0 (fun _ h => absurd rfl (hlt h))
        have hMz : ca - ca = 0 := by omega
        clear hcc
        clear hnil hlt hHi
        go_enter Tryz.func125, Tryz.ntmps125
        go_wp2_with fail
        refine (unhide CW _).mono ?_
        rintro e w1 ⟨rfl, rfl⟩
        clear CW
        go_wp2
        go_region_with (first
            | (go_at_call_of 60 (Value.slice (some ⟨ba, oa, none⟩) ca ca); refine (norm_w _ _ LO ?_).mono ?_; (first | exact iLo.drew | exact iLo); rintro e wL ⟨lo, rfl, nlo, bL⟩; have nlo := nlo.born; (try have nhi := nhi.next bL); (try have iHi := (by first | exact iHi.drew.next bL | exact iHi.next bL : InW wL (Value.slice (some ⟨ba, oa, none⟩) M 0) HI)); have bl := (by first | exact bstep bl.drew bL | exact bstep bl bL : Below w1.heap.size w1 wL))
            | (go_at_call_of 60 (Value.slice (some ⟨ba, oa, none⟩) M 0); refine (norm_w _ _ HI ?_).mono ?_; (first | exact iHi.drew | exact iHi); rintro e wH ⟨hi, rfl, nhi, bH⟩; have nhi := nhi.born; (try have nlo := nlo.next bH); (try have iLo := (by first | exact iLo.drew.next bH | exact iLo.next bH : InW wH (Value.slice (some ⟨ba, oa, none⟩) ca ca) LO)); have bl := (by first | exact bstep bl.drew bH | exact bstep bl bH : Below w1.heap.size w1 wH)))
        all_goals
          go_wp2
          go_ret2
          first
            | exact ⟨lo, hi, _, _, _, _, rfl, nlo, nhi, Nat.le_refl _, bL.size, bH.size, Nat.le_refl _, Or.inl (Nat.le_refl _), bl⟩
            | exact ⟨lo, hi, _, _, _, _, rfl, nlo, nhi, bH.size, Nat.le_refl _, Nat.le_refl _, bL.size, Or.inr (Nat.le_refl _), bl⟩
      · have iHi := hHi (some ⟨ba, oa + s, none⟩) cc (fun _ _ => ⟨rfl, hcc.symm⟩)
        clear hnil hlt hHi
        go_enter Tryz.func125, Tryz.ntmps125
        go_wp2_with fail
        refine (unhide CW _).mono ?_
        rintro e w1 ⟨rfl, rfl⟩
        clear CW
        go_wp2
        go_region_with (first
            | (go_at_call_of 60 (Value.slice (some ⟨ba, oa, none⟩) s ca); refine (norm_w _ _ LO ?_).mono ?_; (first | exact iLo.drew | exact iLo); rintro e wL ⟨lo, rfl, nlo, bL⟩; have nlo := nlo.born; (try have nhi := nhi.next bL); (try have iHi := (by first | exact iHi.drew.next bL | exact iHi.next bL : InW wL (Value.slice (some ⟨ba, oa + s, none⟩) M cc) HI)); have bl := (by first | exact bstep bl.drew bL | exact bstep bl bL : Below w1.heap.size w1 wL))
            | (go_at_call_of 60 (Value.slice (some ⟨ba, oa + s, none⟩) M cc); refine (norm_w _ _ HI ?_).mono ?_; (first | exact iHi.drew | exact iHi); rintro e wH ⟨hi, rfl, nhi, bH⟩; have nhi := nhi.born; (try have nlo := nlo.next bH); (try have iLo := (by first | exact iLo.drew.next bH | exact iLo.next bH : InW wH (Value.slice (some ⟨ba, oa, none⟩) s ca) LO)); have bl := (by first | exact bstep bl.drew bH | exact bstep bl bH : Below w1.heap.size w1 wH)))
        all_goals
          go_wp2
          go_ret2
          first
            | exact ⟨lo, hi, _, _, _, _, rfl, nlo, nhi, Nat.le_refl _, bL.size, bH.size, Nat.le_refl _, Or.inl (Nat.le_refl _), bl⟩
            | exact ⟨lo, hi, _, _, _, _, rfl, nlo, nhi, bH.size, Nat.le_refl _, Nat.le_refl _, bL.size, Or.inr (Nat.le_refl _), bl⟩

end Go.Proofs.YtiekgpphggejcaaGreatDoor

/- Package conv: Carry. -/
namespace Go.Proofs.YtiekgpphggejcaaGreatDoor
open Go.RowKit

theorem Tryz.infoNat : (Tryz.prog.info? 29).map (fun i => (i.zero, i.size, i.bytes)) = some (some (.slice none 0 0), 1, 24) := by kernel_rfl
theorem info_nat : ∃ i : TypeInfo, Tryz.prog.info? 29 = some i ∧ i.zero = some (.slice none 0 0) ∧ i.size = 1 ∧ i.bytes = 24 := by
  have h := Tryz.infoNat
  cases hi : Tryz.prog.info? 29 with
  | none => rw [hi] at h; cases h
  | some i =>
    rw [hi] at h
    simp at h
    exact ⟨i, rfl, h.1, h.2.1, h.2.2⟩
/-- Rows that are nil. -/
def nils (n : Nat) : List Value := List.replicate n (.slice none 0 0)
theorem made_nils (n : Nat) : madeCells (Value.slice none 0 0).cells n = (nils n).toArray := by
  have e : (Value.slice none 0 0).cells = #[Value.slice none 0 0] := rfl
  rw [e]
  apply Array.ext'
  rw [toList_madeCells_one]
  simp [nils]
theorem make_nats (n : Nat) (hb : n ≤ 1048576) : ∀ w, (Instr.makeSlice 65 (.int .i64 (n : Int)) (.int .i64 (n : Int))).run Tryz.prog w = .ok (.slice (some ⟨w.heap.size, 0, none⟩) n n) (w.alloc (.cells (nils n).toArray 29)) := fun w => by
  obtain ⟨i0, hi, hz0, hz1, hz2⟩ := info_nat
  have h := run_make (P := Tryz.prog) w 65 29 i0 (.slice none 0 0) Tryz.underlying65 hi hz0 .i64 .i64 (n : Int) (n : Int) (by omega) (by omega) (by rw [hz2]; omega) (by omega)
  rw [h]
  have e1 : ((n : Int)).toNat = n := by omega
  rw [e1, hz1, Nat.mul_one, made_nils]

/-- A row of three words at each place. -/
def tri (g k : Nat) : Value := .slice (some ⟨g, k * 3, none⟩) 3 3
def tris (g : Nat) : Nat → List Value
  | 0 => []
  | k + 1 => tris g k ++ [tri g k]
theorem tris_len (g : Nat) : ∀ k, (tris g k).length = k
  | 0 => rfl
  | k + 1 => by simp [tris, tris_len g k]
theorem tris_at (g : Nat) : ∀ {q k : Nat}, k < q → (tris g q).getD k undef = tri g k
  | 0, _, h => absurd h (by omega)
  | q + 1, k, h => by
    have hl := tris_len g q
    unfold tris
    rw [List.getD_eq_getElem?_getD]
    by_cases hk : k < q
    · rw [List.getElem?_append_left (by omega), ← List.getD_eq_getElem?_getD]
      exact tris_at g hk
    · obtain rfl : k = q := by omega
      rw [List.getElem?_append_right (by omega), hl, Nat.sub_self]
      rfl
/-- The first k are set. -/
theorem tris_set (g q k : Nat) (h : k < q) : (tris g k ++ nils (q - k)).set k (tri g k) = tris g (k + 1) ++ nils (q - (k + 1)) := by
  have hl := tris_len g k
  rw [List.set_append_right _ _ (by omega), hl, Nat.sub_self]
  obtain ⟨m, hm⟩ : ∃ m, q - k = m + 1 := ⟨q - k - 1, by omega⟩
  have hm2 : q - (k + 1) = m := by omega
  rw [hm, hm2]
  show tris g k ++ (List.replicate (m + 1) _).set 0 (tri g k) = (tris g k ++ [tri g k]) ++ List.replicate m _
  rw [List.replicate_succ, List.set_cons_zero, List.append_assoc]
  rfl
theorem tri_in {w : World} {g q k : Nat} {T : Nat → Nat} (h : TriAt w g q T) (hk : k < q) : InW w (tri g k) (T k) := by
  obtain ⟨t0, t1, t2, a0, a1, a2, e, c0, c1, c2⟩ := h k hk
  refine ⟨_, g, k * 3, 3, [t0, t1, t2], rfl, ⟨fun _ => rfl, by simp, fun j hj => ?_⟩, ?_, by rw [v3_val]; exact e, by simp⟩
  · have hj : j < 3 := hj
    match j, hj with
    | 0, _ => exact c0
    | 1, _ => exact c1
    | 2, _ => exact c2
  · intro j
    match j with
    | 0 => exact a0
    | 1 => exact a1
    | 2 => exact a2
    | j + 3 => exact Nat.zero_lt_succ _
/-- The numbers, in a row. -/
def rowOf (T : Nat → Nat) (q : Nat) : List Nat := (List.range q).map T
theorem rowOf_len (T : Nat → Nat) (q : Nat) : (rowOf T q).length = q := by simp [rowOf]
theorem rowOf_at (T : Nat → Nat) {q k : Nat} (h : k < q) : (rowOf T q).getD k 0 = T k := by simp [rowOf, h]
theorem jsum_rowOf (T : Nat → Nat) {q : Nat} : ∀ k, k ≤ q → jsum 1 (rowOf T q) k = sN k fun i => T i * 18446744073709551616 ^ i
  | 0, _ => rfl
  | k + 1, h => by
    show jsum 1 (rowOf T q) k + _ = sN k _ + T k * 18446744073709551616 ^ k
    rw [jsum_rowOf T k (by omega), rowOf_at T (by omega), Nat.one_mul, Nat.mul_comm]
theorem tri_parts {w : World} {g gp q : Nat} {T : Nat → Nat} (h : TriAt w g q T) (hv : VBl w gp (tris g q) 29) : Parts w (some ⟨gp, 0, none⟩) gp 0 (tris g q) (rowOf T q) := by
  have hl := tris_len g q
  refine ⟨fun _ => rfl, by rw [rowOf_len, hl], fun j hj => ?_, fun j hj => ?_⟩
  · rw [Nat.zero_add]; exact hv.cell j hj
  · rw [hl] at hj
    rw [tris_at g hj, rowOf_at T hj]
    exact tri_in h hj

set_option maxRecDepth 100000 in
set_option maxHeartbeats 3200000 in
theorem carry_any (w : World) (ga : Option Addr) (g C q : Nat) (T : Nat → Nat) (hq : q ≤ 1048576) (hg : 0 < q → ga = some ⟨g, 0, none⟩) (hq2 : q ≤ 65536) (hC : q ≤ C) (hT : TriAt w g q T) :
    Calls Tryz.prog 86 #[.slice ga q C] w fun e w' => ∃ r, e = .returned r ∧ NewW w.heap.size w' r (sN q fun k => T k * 18446744073709551616 ^ k) ∧ Below w.heap.size w w' := by
  have hmk := make_nats q hq
  have HT : Hid (∀ W, Below w.heap.size w W → TriAt W g q T) := fun W b => hT.next b
  have hv0 : VBl (w.alloc (.cells (nils q).toArray 29)) w.heap.size (tris g 0 ++ nils (q - 0)) 29 := heap_alloc_new w _
  have bl : Below w.heap.size w (w.alloc (.cells (nils q).toArray 29)) := (Below.refl _ _).alloc (Nat.le_refl _) _
  obtain ⟨W1, hW1⟩ : ∃ W1, w.alloc (.cells (nils q).toArray 29) = W1 := ⟨_, rfl⟩
  rw [hW1] at hv0 bl
  obtain ⟨G, hG⟩ : ∃ G, w.heap.size = G := ⟨_, rfl⟩
  rw [hG] at hv0
  have HG := hide hG
  have HV := hide hv0
  have BL := hide bl
  clear hT hv0 bl
  go_enter Tryz.func86, Tryz.ntmps86
  go_wp2
  clear hW1 hG hmk
  go_loopw [10] (fun iv wr => ∃ k : Nat, k ≤ q ∧ iv = .int .i64 (k : Int) ∧ VBl wr G (tris g k ++ nils (q - k)) 29 ∧ Below w.heap.size w wr) (fun iv _ => q - (intOf iv).toNat)
  case atStart => exact ⟨0, Nat.zero_le _, rfl, unhide HV, unhide BL⟩
  case round =>
    clear HV BL
    obtain ⟨k, hk, rfl, hV, hb⟩ := hrel
    by_cases h1 : k < q
    · obtain rfl := hg (by omega)
      have hl : (tris g k ++ nils (q - k)).length = q := by rw [List.length_append, tris_len]; simp [nils]; omega
      have cv := hV.cell k (by omega)
      have fv := hV.frozen k
      have V2 := hide (hV.set k (tri g k))
      rw [tris_set g q k h1] at V2
      have B2 := hide (hb.setCell (p := ⟨G, k, none⟩) (Nat.le_of_eq (unhide HG)) (tri g k))
      have hmm : Hid (q - (k + 1) < q - k) := by show _ < _; omega
      unfold tri at V2 B2
      clear hV hb hl
      go_wp2
      go_roundw
      case rel => exact ⟨k + 1, by omega, by go_num, unhide V2, unhide B2⟩
      case measure => simp [intOf]; have := unhide hmm; omega
    · obtain rfl : k = q := by omega
      have hV' : VBl wr G (tris g k) 29 := by
        have := hV
        rw [Nat.sub_self] at this
        simpa [nils] using this
      have hP := tri_parts (unhide HT _ hb) hV'
      have CJ := hide (join_k wr (some ⟨G, 0, none⟩) G 0 k k 1 1 (tris g k) (rowOf T k) (tris_len g k) hq2 (by decide) hP)
      rw [jsum_rowOf T k (Nat.le_refl _)] at CJ
      have BL := hide hb
      have SZ := hide hb.size
      clear hV hV' hP hb
      obtain ⟨S, hS⟩ : ∃ S, S = sN k fun i => T i * 18446744073709551616 ^ i := ⟨_, rfl⟩
      rw [← hS] at CJ
      have HS := hide hS
      clear hS
      go_wp2_with fail
      refine (unhide CJ).mono ?_
      rintro e w2 ⟨r, rfl, nr, b⟩
      have bl := bstep (unhide BL) b
      have nr := nr.mono (unhide SZ)
      clear CJ b
      go_wp2
      go_ret
      exact ⟨r, rfl, by rw [← unhide HS]; exact nr, bl⟩

theorem spec_carry : SpecCarry := by
  intro w v q T hq hv
  rcases hv with ⟨rfl, rfl⟩ | ⟨g, C, rfl, hC, hT⟩
  · exact carry_any w none 0 0 0 T (by omega) (fun h => absurd h (by omega)) (by omega) (by omega) (fun k hk => absurd hk (by omega))
  · exact carry_any w _ g C q T (by omega) (fun _ => rfl) (by omega) hC hT

end Go.Proofs.YtiekgpphggejcaaGreatDoor
