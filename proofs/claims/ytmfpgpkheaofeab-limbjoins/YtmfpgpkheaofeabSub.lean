/- Sub: the difference of two naturals. -/
import Derived.Test.YtmfpgpkheaofeabFrom
import Derived.Test.YtmfpgpkheaofeabTwPlain
namespace Go.Proofs.Ytmfpgpkheaofeab
open Go.RowKit

theorem own_snoc {w1 : World} {B t g cap k d : Nat} {os : List Nat} (h : w1.ownsRow B t 1 (.slice (some ⟨g, 0, none⟩) (k + 1) cap) (k + 1) (cellsOf os ++ [.int .u64 ((d : Nat) : Int)])) :
    w1.ownsRow B t 1 (.slice (some ⟨g, 0, none⟩) (k + 1) cap) (k + 1) (cellsOf (os ++ [d])) := by simpa using h

set_option maxRecDepth 100000 in
set_option maxHeartbeats 3200000 in
theorem sub_rep (w : World) (ga gb : Option Addr) (ba oa bb ob ca cb la lb : Nat) (xs ys : List Nat) (hx : xs.length = la) (hy : ys.length = lb) (ha : la ≤ 1073741824) (hb : lb ≤ la)
    (hA : Rep w ga ba oa ca xs) (hB : Rep w gb bb ob cb ys) (dx : Dig xs) (dy : Dig ys) (hle : val ys ≤ val xs) :
    Calls Try.prog 35 #[.slice ga la ca, .slice gb lb cb] w fun e w' => ∃ v, e = .returned v ∧ IsN w' v (val xs - val ys) ∧ Below w.heap.size w w' := by
  obtain ⟨i0, hi, hz0, hz1, hz2⟩ := info_parts Try.infoU
  go_enter Try.func35, Try.ntmps35
  go_wp2_with (at_make; refine wpList_make_own _ rfl _ _ 30 rfl w.heap.size 45 i0 (.int .u64 0) 1 Try.underlying30 hi hz0 hz1 _ _ _ la rfl rfl ?b1 ?b2 ?b3 (Nat.le_refl _) ?_)
  case b1 => rfl
  case b2 => rw [hz2]; omega
  case b3 => unfold maxLen; omega
  intro w0 hown0 hgrow0
  go_wp2
  go_loopw [5, 6, 7] (fun out c i wr => ∃ (k cy : Nat) (os : List Nat), k ≤ la ∧ c = .int .u64 (cy : Int) ∧ i = .int .i64 (k : Int) ∧ out = .slice (some ⟨w.heap.size, 0, none⟩) k la ∧ cy ≤ 1 ∧
      wr.ownsRow w.heap.size 45 1 (.slice (some ⟨w.heap.size, 0, none⟩) k la) k (cellsOf os) ∧ Hid (SubAt xs ys os k cy) ∧ Below w.heap.size w wr)
    (fun _ _ i _ => la - (intOf i).toNat)
  case atStart => exact ⟨0, 0, [], Nat.zero_le _, rfl, rfl, rfl, by omega, hown0, sub_start xs ys, (Below.refl _ _).grown hgrow0 (Nat.le_refl _) (fun k h => by cases h)⟩
  case round =>
    obtain ⟨k, cy, os, hk, rfl, rfl, rfl, hcy, hown, hAt, hnx⟩ := hrel
    obtain ⟨x, HX⟩ : ∃ x : Nat, Hid (x = xs.getD k 0) := ⟨_, rfl⟩
    obtain ⟨y, HY⟩ : ∃ y : Nat, Hid (y = ys.getD k 0) := ⟨_, rfl⟩
    have hx32 : x < 4294967296 := by rw [HX.out]; exact dx k
    have hy32 : y < 4294967296 := by rw [HY.out]; exact dy k
    have hsz := hnx.size
    by_cases h1 : k < la
    · obtain rfl := hA.head (by omega)
      have cx : wr.cell? ⟨ba, oa + k, none⟩ = some (.int .u64 (x : Int)) := by rw [HX.out]; exact (hnx.cell (by exact hA.lt (by omega))).trans (hA.cell k (by omega))
      by_cases h2 : k < lb
      · obtain rfl := hB.head (by omega)
        have cy' : wr.cell? ⟨bb, ob + k, none⟩ = some (.int .u64 (y : Int)) := by rw [HY.out]; exact (hnx.cell (by exact hB.lt (by omega))).trans (hB.cell k (by omega))
        by_cases h5 : cy + y ≤ x
        · have h3 : ((cy : Int) + (y : Int)) ≤ (x : Int) := by omega
          have ed : (x : Int) - ((cy : Int) + (y : Int)) = ((x - (cy + y) : Nat) : Int) := by omega
          have H2 := hide (sub_no hAt.out (dx k) (by rw [← HX.out, ← HY.out]; omega))
          rw [← HX.out, ← HY.out] at H2
          generalize x - (cy + y) = d at *
          clear h5
          go_wp2_with (at_builtin; refine wpList_append_fits _ rfl (.tmp 35) (.tmp 42) 30 rfl w.heap.size 45 i0 1 Try.underlying30 hi hz1 w.heap.size k la _ rfl (hown.alloc _) ⟨wr.heap.size, 0, none⟩ 1 1 [.int .u64 (d : Int)] rfl rfl (by exact cells_new wr [.int .u64 (d : Int)] 45) (by intro u hu; simp at hu; subst hu; rfl) (by omega) ?_; intro w1 hown1 hgrow1)
          go_wp2
          go_roundw
          case rel => exact ⟨k + 1, 0, os ++ [d], by omega, rfl, by go_num, rfl, by omega, own_snoc hown1, H2, (hnx.alloc hsz _).grown hgrow1 (by simp; omega) (fun j hj => by cases hj; exact Nat.le_refl _)⟩
          case measure => simp [intOf]; omega
        · have h3 : ¬ ((cy : Int) + (y : Int)) ≤ (x : Int) := by omega
          have ed : (x : Int) + 4294967296 - ((cy : Int) + (y : Int)) = ((x + (4294967296 - (cy + y)) : Nat) : Int) := by omega
          have H2 := hide (sub_yes hAt.out (dy k) (by rw [← HX.out, ← HY.out]; omega))
          rw [← HX.out, ← HY.out] at H2
          generalize x + (4294967296 - (cy + y)) = d at *
          clear h5
          go_wp2_with (at_builtin; refine wpList_append_fits _ rfl (.tmp 44) (.tmp 52) 30 rfl w.heap.size 45 i0 1 Try.underlying30 hi hz1 w.heap.size k la _ rfl (hown.alloc _) ⟨wr.heap.size, 0, none⟩ 1 1 [.int .u64 (d : Int)] rfl rfl (by exact cells_new wr [.int .u64 (d : Int)] 45) (by intro u hu; simp at hu; subst hu; rfl) (by omega) ?_; intro w1 hown1 hgrow1)
          go_wp2
          go_roundw
          case rel => exact ⟨k + 1, 1, os ++ [d], by omega, rfl, by go_num, rfl, by omega, own_snoc hown1, H2, (hnx.alloc hsz _).grown hgrow1 (by simp; omega) (fun j hj => by cases hj; exact Nat.le_refl _)⟩
          case measure => simp [intOf]; omega
      · have hy0 : y = 0 := by rw [HY.out]; exact getD_ge (by omega)
        by_cases h5 : cy + y ≤ x
        · have h3 : (cy : Int) ≤ (x : Int) := by omega
          have ed : (x : Int) - (cy : Int) = ((x - (cy + y) : Nat) : Int) := by omega
          have H2 := hide (sub_no hAt.out (dx k) (by rw [← HX.out, ← HY.out]; omega))
          rw [← HX.out, ← HY.out] at H2
          generalize x - (cy + y) = d at *
          clear h5
          subst hy0
          go_wp2_with (at_builtin; refine wpList_append_fits _ rfl (.tmp 35) (.tmp 42) 30 rfl w.heap.size 45 i0 1 Try.underlying30 hi hz1 w.heap.size k la _ rfl (hown.alloc _) ⟨wr.heap.size, 0, none⟩ 1 1 [.int .u64 (d : Int)] rfl rfl (by exact cells_new wr [.int .u64 (d : Int)] 45) (by intro u hu; simp at hu; subst hu; rfl) (by omega) ?_; intro w1 hown1 hgrow1)
          go_wp2
          go_roundw
          case rel => exact ⟨k + 1, 0, os ++ [d], by omega, rfl, by go_num, rfl, by omega, own_snoc hown1, H2, (hnx.alloc hsz _).grown hgrow1 (by simp; omega) (fun j hj => by cases hj; exact Nat.le_refl _)⟩
          case measure => simp [intOf]; omega
        · have h3 : ¬ (cy : Int) ≤ (x : Int) := by omega
          have ed : (x : Int) + 4294967296 - (cy : Int) = ((x + (4294967296 - (cy + y)) : Nat) : Int) := by omega
          have H2 := hide (sub_yes hAt.out (dy k) (by rw [← HX.out, ← HY.out]; omega))
          rw [← HX.out, ← HY.out] at H2
          generalize x + (4294967296 - (cy + y)) = d at *
          clear h5
          subst hy0
          go_wp2_with (at_builtin; refine wpList_append_fits _ rfl (.tmp 44) (.tmp 52) 30 rfl w.heap.size 45 i0 1 Try.underlying30 hi hz1 w.heap.size k la _ rfl (hown.alloc _) ⟨wr.heap.size, 0, none⟩ 1 1 [.int .u64 (d : Int)] rfl rfl (by exact cells_new wr [.int .u64 (d : Int)] 45) (by intro u hu; simp at hu; subst hu; rfl) (by omega) ?_; intro w1 hown1 hgrow1)
          go_wp2
          go_roundw
          case rel => exact ⟨k + 1, 1, os ++ [d], by omega, rfl, by go_num, rfl, by omega, own_snoc hown1, H2, (hnx.alloc hsz _).grown hgrow1 (by simp; omega) (fun j hj => by cases hj; exact Nat.le_refl _)⟩
          case measure => simp [intOf]; omega
    · obtain rfl : k = la := by omega
      obtain ⟨hl, hrep⟩ := rep_of_owns hown
      have he := sub_end hAt.out (by omega) (by omega) hle
      have hd := hAt.out.2.1
      have HE := hide he
      clear he
      go_wp2_with fail
      refine (norm_isN _ _ _ _ _ _ _ hl (by omega) hrep hd).mono ?_
      rintro e w' ⟨v, rfl, hN, rfl⟩
      go_wp2
      go_ret
      exact ⟨v, rfl, by rw [← HE.out]; exact hN, hnx⟩

theorem sub_any (w : World) (u v : Value) (m n L : Nat) (hL : L ≤ 1073741824) (hm : m < 4294967296 ^ L) (hle : n ≤ m) (hu : IsN w u m) (hv : IsN w v n) :
    Calls Try.prog 35 #[u, v] w fun e w' => ∃ r, e = .returned r ∧ IsN w' r (m - n) ∧ Below w.heap.size w w' := by
  obtain ⟨ga, ba, oa, ca, xs, rfl, hA, cA, rfl⟩ := hu
  obtain ⟨gb, bb, ob, cb, ys, rfl, hB, cB, rfl⟩ := hv
  have la := len_le cA hm
  have lb : ys.length ≤ xs.length := Nat.le_of_not_lt fun h => by have := len_lt cA.1 cB h; omega
  exact sub_rep w ga gb ba oa bb ob ca cb _ _ xs ys rfl rfl (by omega) lb hA hB cA.1 cB.1 hle

end Go.Proofs.Ytmfpgpkheaofeab
