/- Same and Spoil of keep; the examples of the document. -/
import Derived.Test.YtdocljbmmaoenaaJoin2
namespace Go.Proofs.Ytdocljbmmaoenaa
open Go.RowKit

set_option maxRecDepth 100000 in
set_option maxHeartbeats 1600000 in
theorem keepSame_any (w : World) (ga gb : Option Addr) (ba oa ca bb ob cb n : Nat) (xs : List Nat) (hx : xs.length = n) (hn : n ≤ 1073741824) (hA : Rep w ga ba oa ca xs) (hB : Rep w gb bb ob cb xs) :
    Calls Try.prog 21 #[.slice ga n ca, .slice gb n cb] w fun e w' => e = .returned (.bool true) ∧ Below w.heap.size w w' := by
  have q1 : ((n : Int) != (n : Int)) = false := by simp
  go_enter Try.func21, Try.ntmps21
  go_wp2
  go_loopw [5] (fun i wr => ∃ k : Nat, k ≤ n ∧ i = .int .i64 (k : Int) ∧ Below w.heap.size w wr) (fun i _ => n - (intOf i).toNat)
  case atStart => exact ⟨0, Nat.zero_le _, rfl, Below.refl _ _⟩
  case round =>
    obtain ⟨k, hk, rfl, hnx⟩ := hrel
    by_cases h1 : k < n
    · obtain rfl := hA.head (by omega)
      obtain rfl := hB.head (by omega)
      obtain ⟨x, hxe⟩ : ∃ x : Nat, x = xs.getD k 0 := ⟨_, rfl⟩
      have c1 : wr.cell? ⟨ba, oa + k, none⟩ = some (.int .u64 (x : Int)) := by rw [hxe]; exact (hnx.cell (by exact hA.lt (by omega))).trans (hA.cell k (by omega))
      have c2 : wr.cell? ⟨bb, ob + k, none⟩ = some (.int .u64 (x : Int)) := by rw [hxe]; exact (hnx.cell (by exact hB.lt (by omega))).trans (hB.cell k (by omega))
      have s2 : ((x : Int) != (x : Int)) = false := by simp
      clear hxe
      go_wp2
      go_quiet (fail)
      go_wp2
      exact ⟨⟨k + 1, by omega, by go_num, below_drewN hnx _⟩, by simp [intOf]; omega⟩
    · go_wp2
      go_ret
      exact ⟨rfl, hnx⟩

set_option maxRecDepth 100000 in
set_option maxHeartbeats 1600000 in
theorem spoil_blk (w : World) (g n cap : Nat) (z0 : List Nat) (hz : z0.length = cap) (_hn : n ≤ cap) (hc : cap ≤ 1099511627776) (hB : Blk w g z0) :
    Calls Try.prog 15 #[.slice (some ⟨g, 0, none⟩) n cap] w fun e w' => e = .returned (.tuple #[]) ∧ w.grownBy w' (some g) := by
  go_enter Try.func15, Try.ntmps15
  go_wp2
  go_loopw [3] (fun i wr => ∃ (k : Nat) (zs : List Nat), k ≤ cap ∧ i = .int .i64 (k : Int) ∧ zs.length = cap ∧ Blk wr g zs ∧ w.grownBy wr (some g)) (fun i _ => cap - (intOf i).toNat)
  case atStart => exact ⟨0, z0, Nat.zero_le _, rfl, hz, hB, grown_refl _ _⟩
  case round =>
    obtain ⟨k, zs, hk, rfl, hzl, hBlk, hG⟩ := hrel
    by_cases h1 : k < cap
    · have cr := hBlk.cell k (by omega)
      have fr := hBlk.frozen k
      go_wp2
      exact ⟨⟨k + 1, zs.set k 8608480567731124087, by omega, by go_num, by simpa using hzl, hBlk.set k 8608480567731124087, grown_trans hG (grown_set _ _ _ _)⟩, by simp [intOf]; omega⟩
    · go_wp2
      go_end0
      exact ⟨rfl, hG⟩

set_option maxHeartbeats 800000 in
theorem spoil_nil (w : World) : Calls Try.prog 15 #[.slice none 0 0] w fun e w' => e = .returned (.tuple #[]) ∧ w' = w := by
  go_enter Try.func15, Try.ntmps15
  go_wp2
  refine wp_loop_rounds 1 ?_
  rw [rounds_succ]
  go_wp2
  go_end0
  exact ⟨rfl, rfl⟩

/-- Spoil of what limb answered: all blocks that were there before it stay, and those that came behind it. -/
theorem spoil_new (w : World) (v : Value) (n B : Nat) (h : NewW B w v n) :
    Calls Try.prog 15 #[v] w fun e w' => e = .returned (.tuple #[]) ∧ ∃ g, B ≤ g ∧ w.grownBy w' (some g) ∧ ∀ ga m cap, v = .slice (some ga) m cap → g = ga.block ∧ g < w.heap.size := by
  obtain ⟨xs, hc, hv, ⟨rfl, rfl⟩ | ⟨g, ys, hg, rfl, hk, hl⟩⟩ := h
  · refine (spoil_nil w).mono ?_
    rintro e w' ⟨rfl, rfl⟩
    exact ⟨rfl, B, Nat.le_refl _, grown_refl _ _, fun ga m cap h => by cases h⟩
  · refine (spoil_blk w g _ _ _ rfl (by simp) (by simpa using hl) hk).mono ?_
    rintro e w' ⟨rfl, hG⟩
    exact ⟨rfl, g, hg, hG, fun ga m cap h => by cases h; exact ⟨rfl, hk.lt⟩⟩

/-- A word alone, just laid. -/
theorem in_one (w : World) (x : Nat) (hx : x < 18446744073709551616) : InW (w.alloc (.cells #[.int .u64 (x : Int)] 55)) (.slice (some ⟨w.heap.size, 0, none⟩) 1 1) x := by
  have hk : Blk (w.alloc (.cells #[.int .u64 (x : Int)] 55)) w.heap.size [x] := heap_alloc_new w _
  have hr := hk.rep 0 1 1 (by simp) (by omega)
  exact ⟨_, _, _, _, [x], rfl, hr, wDig_one hx, wval_one x, by simp⟩
theorem in_none (w : World) : InW w (.slice none 0 0) 0 := ⟨none, 0, 0, 0, [], rfl, Rep.nil _ _ _ _ _, wDig_nil, rfl, by simp⟩

/-- Two parts, just laid. -/
theorem parts_two (w : World) (u v : Value) (m n t : Nat) (hu : InW w u m) (hv : InW w v n) : Parts (w.alloc (.cells #[u, v] t)) (some ⟨w.heap.size, 0, none⟩) w.heap.size 0 [u, v] [m, n] := by
  have hb : Below w.heap.size w (w.alloc (.cells #[u, v] t)) := (Below.refl _ _).alloc (Nat.le_refl _) _
  refine ⟨fun _ => rfl, rfl, fun j hj => ?_, fun j hj => ?_⟩
  · have hj2 : j < 2 := hj
    rw [Nat.zero_add, cell_of_row _ w.heap.size j #[u, v] t (0, 0) (heap_alloc_new w _)]
    match j, hj2 with
    | 0, _ => rfl
    | 1, _ => rfl
  · have hj2 : j < 2 := hj
    match j, hj2 with
    | 0, _ => exact hu.next hb
    | 1, _ => exact hv.next hb

theorem can_57 : WCan [5, 7] := ⟨fun j => by match j with | 0 => decide | 1 => decide | j + 2 => simp, fun _ => by decide⟩
theorem can_3 : WCan [3] := ⟨wDig_one (by omega), fun _ => by decide⟩
theorem new_words {B : Nat} {w : World} {v : Value} {n : Nat} {ws : List Nat} (h : NewW B w v n) (hc : WCan ws) (hw : wval ws = n) : ∃ ga b cap, v = .slice ga ws.length cap ∧ Rep w ga b 0 cap ws := by
  obtain ⟨ga, b, cap, xs, rfl, hr, hx, hv, _⟩ := h.rep
  obtain rfl := wCan_unique hx hc (by rw [hv, hw])
  exact ⟨ga, b, cap, rfl, hr⟩

theorem lit_rep (w : World) (ws : List Nat) (t : Nat) (ht : t = 55) : Rep (w.alloc (.cells (cellsOf ws).toArray t)) (some ⟨w.heap.size, 0, none⟩) w.heap.size 0 ws.length ws := by
  subst ht
  have hk : Blk (w.alloc (.cells (cellsOf ws).toArray 55)) w.heap.size ws := heap_alloc_new w _
  have hr := hk.rep 0 ws.length ws.length (by simp) (Nat.le_refl _)
  rw [List.drop_zero, List.take_length] at hr
  exact hr

theorem wake_join (w1 : World) : Calls Try.prog 40 #[.int .i64 1, .slice (some ⟨w1.heap.size + 1 + 1, 0, none⟩) 2 2]
    (((w1.alloc (.cells #[.int .u64 5] 55)).alloc (.cells #[.int .u64 7] 55)).alloc (.cells #[.slice (some ⟨w1.heap.size, 0, none⟩) 1 1, .slice (some ⟨w1.heap.size + 1, 0, none⟩) 1 1] 29))
    fun e w' => ∃ ga b cap, e = .returned (.slice ga 2 cap) ∧ Rep w' ga b 0 cap [5, 7] ∧ Below w1.heap.size w1 w' := by
  have i5 := in_one w1 5 (by omega)
  have i7 := in_one (w1.alloc (.cells #[.int .u64 5] 55)) 7 (by omega)
  have s1 : (w1.alloc (.cells #[.int .u64 5] 55)).heap.size = w1.heap.size + 1 := by simp
  have s2 : ((w1.alloc (.cells #[.int .u64 5] 55)).alloc (.cells #[.int .u64 7] 55)).heap.size = w1.heap.size + 1 + 1 := by simp
  have bA : Below w1.heap.size w1 (w1.alloc (.cells #[.int .u64 5] 55)) := (Below.refl _ _).alloc (Nat.le_refl _) _
  have bB : Below (w1.alloc (.cells #[.int .u64 5] 55)).heap.size (w1.alloc (.cells #[.int .u64 5] 55)) ((w1.alloc (.cells #[.int .u64 5] 55)).alloc (.cells #[.int .u64 7] 55)) := (Below.refl _ _).alloc (Nat.le_refl _) _
  have hP := parts_two ((w1.alloc (.cells #[.int .u64 5] 55)).alloc (.cells #[.int .u64 7] 55)) _ _ 5 7 29 (i5.next bB) i7
  have bC : Below ((w1.alloc (.cells #[.int .u64 5] 55)).alloc (.cells #[.int .u64 7] 55)).heap.size ((w1.alloc (.cells #[.int .u64 5] 55)).alloc (.cells #[.int .u64 7] 55)) _ := (Below.refl _ _).alloc (Nat.le_refl _) (.cells #[.slice (some ⟨w1.heap.size, 0, none⟩) 1 1, .slice (some ⟨w1.heap.size + 1, 0, none⟩) 1 1] 29)
  rw [s1, s2] at hP
  refine (join_k _ _ _ _ 2 2 1 1 _ _ rfl (by omega) (by decide) hP).mono ?_
  rintro e w' ⟨r, rfl, hr, hb⟩
  obtain ⟨ga, b, cap, rfl, hrep⟩ := new_words hr can_57 (by decide)
  exact ⟨ga, b, cap, rfl, hrep, bstep (bstep (bstep bA bB) bC) hb⟩

theorem wake_same (w : World) (ga : Option Addr) (b cap : Nat) (ws : List Nat) (n : Nat) (hn : ws.length = n) (h1 : n ≤ 1073741824) (hr : Rep w ga b 0 cap ws) :
    Calls Try.prog 21 #[.slice ga n cap, .slice (some ⟨w.heap.size, 0, none⟩) n n] (w.alloc (.cells (cellsOf ws).toArray 55)) fun e w' => e = .returned (.bool true) ∧ Below w.heap.size w w' := by
  subst hn
  have hb : Below w.heap.size w (w.alloc (.cells (cellsOf ws).toArray 55)) := (Below.refl _ _).alloc (Nat.le_refl _) _
  refine (keepSame_any _ _ _ _ _ _ _ _ _ _ ws rfl h1 (hr.next hb) (lit_rep w ws _ rfl)).mono ?_
  rintro e w' ⟨rfl, h⟩
  exact ⟨rfl, bstep hb h⟩

theorem wake_one (w : World) : Calls Try.prog 34 #[.int .u64 3] w fun e w' => ∃ ga b cap, e = .returned (.slice ga 1 cap) ∧ Rep w' ga b 0 cap [3] ∧ Below w.heap.size w w' := by
  refine (one_w w 3 (by omega)).mono ?_
  rintro e w' ⟨r, rfl, hr, hb⟩
  obtain ⟨ga, b, cap, rfl, hrep⟩ := new_words hr can_3 (by decide)
  exact ⟨ga, b, cap, rfl, hrep, hb⟩

end Go.Proofs.Ytdocljbmmaoenaa
