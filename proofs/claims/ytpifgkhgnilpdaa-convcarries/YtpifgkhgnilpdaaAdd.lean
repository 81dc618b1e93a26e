/- Add: the sum of two naturals. -/
import Derived.Test.YtpifgkhgnilpdaaFrom
namespace Go.Proofs.Ytpifgkhgnilpdaa
open Go.RowKit

/-- What holds of the sum's digits after k rounds: k digits are laid, c is carried. -/
def AddAt (xs ys out : List Nat) (k c : Nat) : Prop := out.length = k ∧ Dig out ∧ c ≤ 1 ∧ val out + 4294967296 ^ k * c = val (xs.take k) + val (ys.take k)

theorem add_start (xs ys : List Nat) : AddAt xs ys [] 0 0 := ⟨rfl, dig_nil, by omega, by simp [val]⟩

theorem add_step {xs ys out : List Nat} {k c : Nat} (h : AddAt xs ys out k c) (hx : xs.getD k 0 < 4294967296) (hy : ys.getD k 0 < 4294967296) :
    AddAt xs ys (out ++ [(c + xs.getD k 0 + ys.getD k 0) % 4294967296]) (k + 1) ((c + xs.getD k 0 + ys.getD k 0) / 4294967296) := by
  obtain ⟨h1, h2, h3, h4⟩ := h
  refine ⟨by simp [h1], dig_snoc h2 (by omega), by omega, ?_⟩
  rw [val_snoc, h1, val_take_succ, val_take_succ, Nat.pow_succ, Nat.mul_assoc]
  generalize 4294967296 ^ k = B at *
  generalize xs.getD k 0 = x at *
  generalize ys.getD k 0 = y at *
  have e : B * ((c + x + y) % 4294967296) + B * (4294967296 * ((c + x + y) / 4294967296)) = B * c + B * x + B * y := by
    rw [← Nat.mul_add, Nat.mod_add_div, Nat.mul_add, Nat.mul_add]
  omega

theorem add_end {xs ys out : List Nat} {k : Nat} (h : AddAt xs ys out k 0) (hx : xs.length ≤ k) (hy : ys.length ≤ k) : val out = val xs + val ys := by
  obtain ⟨h1, h2, h3, h4⟩ := h
  rw [val_take_ge _ _ hx, val_take_ge _ _ hy] at h4
  simpa using h4

theorem wrapU (x : Nat) (h : x < 18446744073709551616) : IntKind.u64.wrap (x : Int) = (x : Int) := by rw [IntKind.wrap_u64]; omega

theorem add_own {w1 : World} {B t g cap k c x y : Nat} {xs ys os : List Nat} {S : Int} (hx : x = xs.getD k 0) (hy : y = ys.getD k 0) (hS : S = ((c + x + y : Nat) : Int)) (h : w1.ownsRow B t 1 (.slice (some ⟨g, 0, none⟩) (k + 1) cap) (k + 1) (cellsOf os ++ [.int .u64 (S % 4294967296)])) :
    w1.ownsRow B t 1 (.slice (some ⟨g, 0, none⟩) (k + 1) cap) (k + 1) (cellsOf (os ++ [(c + xs.getD k 0 + ys.getD k 0) % 4294967296])) := by
  have e : S % 4294967296 = (((c + xs.getD k 0 + ys.getD k 0) % 4294967296 : Nat) : Int) := by rw [hS, ← hx, ← hy]; omega
  rw [e] at h
  simpa using h
theorem add_carry {c x y : Nat} {xs ys : List Nat} {k : Nat} {S : Int} (hx : x = xs.getD k 0) (hy : y = ys.getD k 0) (hS : S = ((c + x + y : Nat) : Int)) : Value.int .u64 (S / 4294967296) = .int .u64 (((c + xs.getD k 0 + ys.getD k 0) / 4294967296 : Nat) : Int) := by
  rw [hS, ← hx, ← hy]; congr 1

set_option maxHeartbeats 3200000 in
theorem add_rep (w : World) (ga gb : Option Addr) (ba oa bb ob ca cb la lb : Nat) (xs ys : List Nat) (hx : xs.length = la) (hy : ys.length = lb) (ha : la ≤ 1073741824) (hb : lb ≤ 1073741824)
    (hA : Rep w ga ba oa ca xs) (hB : Rep w gb bb ob cb ys) (dx : Dig xs) (dy : Dig ys) :
    Calls Try.prog 14 #[.slice ga la ca, .slice gb lb cb] w fun e w' => ∃ v, e = .returned v ∧ IsN w' v (val xs + val ys) ∧ Below w.heap.size w w' := by
  obtain ⟨i0, hi, hz0, hz1, hz2⟩ := info_parts Try.infoU
  obtain ⟨mx, hmx, hma, hmb, hmxb⟩ : ∃ mx : Nat, ((la < lb ∧ mx = lb) ∨ (¬ la < lb ∧ mx = la)) ∧ la ≤ mx ∧ lb ≤ mx ∧ mx ≤ 1073741824 := ⟨max la lb, by omega, by omega, by omega, by omega⟩
  rcases hmx with ⟨hlt, hm⟩ | ⟨hlt, hm⟩
  all_goals
    have HM := hide hm
    clear hm
    go_enter Try.func14, Try.ntmps14
    go_wp2_with (at_make; refine wpList_make_own _ rfl _ _ 24 rfl w.heap.size 22 i0 (.int .u64 0) 1 Try.underlying24 hi hz0 hz1 _ _ _ (mx + 1) rfl rfl ?b1 ?b2 ?b3 (Nat.le_refl _) ?_)
    case b1 => have := HM.out; omega
    case b2 => rw [hz2]; omega
    case b3 => unfold maxLen; omega
    intro w0 hown0 hgrow0
    go_wp2
    go_loopw [5, 6, 7] (fun out c i wr => ∃ (k cy : Nat) (os : List Nat), k ≤ mx + 1 ∧ c = .int .u64 (cy : Int) ∧ i = .int .i64 (k : Int) ∧ out = .slice (some ⟨w.heap.size, 0, none⟩) k (mx + 1) ∧
        wr.ownsRow w.heap.size 22 1 (.slice (some ⟨w.heap.size, 0, none⟩) k (mx + 1)) k (cellsOf os) ∧ Hid (AddAt xs ys os k cy) ∧ cy ≤ 1 ∧ Hid (k = mx + 1 → cy = 0) ∧ Below w.heap.size w wr)
      (fun _ _ i _ => mx + 1 - (intOf i).toNat)
    case atStart => exact ⟨0, 0, [], Nat.zero_le _, rfl, rfl, rfl, hown0, add_start xs ys, by omega, fun _ => rfl, (Below.refl _ _).grown hgrow0 (Nat.le_refl _) (fun k h => by cases h)⟩
    case round =>
      obtain ⟨k, cy, os, hk, rfl, rfl, rfl, hown, hAt, hcy, hlast, hnx⟩ := hrel
      obtain ⟨x, HX⟩ : ∃ x : Nat, Hid (x = xs.getD k 0) := ⟨_, rfl⟩
      obtain ⟨y, HY⟩ : ∃ y : Nat, Hid (y = ys.getD k 0) := ⟨_, rfl⟩
      have hx32 : x < 4294967296 := by rw [HX.out]; exact dx k
      have hy32 : y < 4294967296 := by rw [HY.out]; exact dy k
      have hsz := hnx.size
      by_cases h1 : k < la
      · obtain rfl := hA.head (by omega)
        have cx : wr.cell? ⟨ba, oa + k, none⟩ = some (.int .u64 (x : Int)) := by rw [HX.out]; exact (hnx.cell (by exact hA.lt (by omega))).trans (hA.cell k (by omega))
        by_cases h2 : k < lb
        · obtain rfl := hB.head (by omega)
          have cy' : wr.cell? ⟨bb, ob + k, none⟩ = some (.int .u64 (y : Int)) := by rw [HY.out]; exact (hnx.cell (by exact hB.lt (by omega))).trans (hB.cell k (by omega))
          go_wp2_with (at_builtin; refine wpList_append_fits _ rfl (.tmp 51) (.tmp 54) 24 rfl w.heap.size 22 i0 1 Try.underlying24 hi hz1 w.heap.size k (mx + 1) _ rfl (hown.alloc _) ⟨wr.heap.size, 0, none⟩ 1 1 [.int .u64 (((cy : Int) + (x : Int) + (y : Int)) % 4294967296)] rfl rfl (by exact cells_new wr [.int .u64 (((cy : Int) + (x : Int) + (y : Int)) % 4294967296)] 22) (by intro u hu; simp at hu; subst hu; rfl) (by omega) ?_; intro w1 hown1 hgrow1)
          go_wp2
          go_roundw
          case rel => exact ⟨k + 1, _, _, by omega, add_carry HX.out HY.out (by omega), by go_num, rfl, add_own HX.out HY.out (by omega) hown1, add_step hAt.out (by rw [← HX.out]; exact hx32) (by rw [← HY.out]; exact hy32), by rw [← HX.out, ← HY.out]; omega, fun h => absurd h (by omega), (hnx.alloc hsz _).grown hgrow1 (by simp; omega) (fun j hj => by cases hj; exact Nat.le_refl _)⟩
          case measure => simp [intOf]; omega
        · try (exfalso; omega)
          all_goals
            have hy0 : y = 0 := by rw [HY.out]; exact getD_ge (by omega)
            have HY0 := hide hy0
            clear hy0
            go_wp2_with (at_builtin; refine wpList_append_fits _ rfl (.tmp 51) (.tmp 54) 24 rfl w.heap.size 22 i0 1 Try.underlying24 hi hz1 w.heap.size k (mx + 1) _ rfl (hown.alloc _) ⟨wr.heap.size, 0, none⟩ 1 1 [.int .u64 (((cy : Int) + (x : Int)) % 4294967296)] rfl rfl (by exact cells_new wr [.int .u64 (((cy : Int) + (x : Int)) % 4294967296)] 22) (by intro u hu; simp at hu; subst hu; rfl) (by omega) ?_; intro w1 hown1 hgrow1)
            go_wp2
            go_roundw
            case rel => exact ⟨k + 1, _, _, by omega, add_carry HX.out HY.out (by have := HY0.out; omega), by go_num, rfl, add_own HX.out HY.out (by have := HY0.out; omega) hown1, add_step hAt.out (by rw [← HX.out]; exact hx32) (by rw [← HY.out]; exact hy32), by rw [← HX.out, ← HY.out]; omega, fun h => absurd h (by omega), (hnx.alloc hsz _).grown hgrow1 (by simp; omega) (fun j hj => by cases hj; exact Nat.le_refl _)⟩
            case measure => simp [intOf]; omega
      · have hx0 : x = 0 := by rw [HX.out]; exact getD_ge (by omega)
        have HX0 := hide hx0
        clear hx0
        by_cases h2 : k < lb
        · try (exfalso; omega)
          all_goals
            obtain rfl := hB.head (by omega)
            have cy' : wr.cell? ⟨bb, ob + k, none⟩ = some (.int .u64 (y : Int)) := by rw [HY.out]; exact (hnx.cell (by exact hB.lt (by omega))).trans (hB.cell k (by omega))
            go_wp2_with (at_builtin; refine wpList_append_fits _ rfl (.tmp 51) (.tmp 54) 24 rfl w.heap.size 22 i0 1 Try.underlying24 hi hz1 w.heap.size k (mx + 1) _ rfl (hown.alloc _) ⟨wr.heap.size, 0, none⟩ 1 1 [.int .u64 (((cy : Int) + (y : Int)) % 4294967296)] rfl rfl (by exact cells_new wr [.int .u64 (((cy : Int) + (y : Int)) % 4294967296)] 22) (by intro u hu; simp at hu; subst hu; rfl) (by omega) ?_; intro w1 hown1 hgrow1)
            go_wp2
            go_roundw
            case rel => exact ⟨k + 1, _, _, by omega, add_carry HX.out HY.out (by have := HX0.out; omega), by go_num, rfl, add_own HX.out HY.out (by have := HX0.out; omega) hown1, add_step hAt.out (by rw [← HX.out]; exact hx32) (by rw [← HY.out]; exact hy32), by rw [← HX.out, ← HY.out]; omega, fun h => absurd h (by omega), (hnx.alloc hsz _).grown hgrow1 (by simp; omega) (fun j hj => by cases hj; exact Nat.le_refl _)⟩
            case measure => simp [intOf]; omega
        · have hy0 : y = 0 := by rw [HY.out]; exact getD_ge (by omega)
          have HY0 := hide hy0
          clear hy0
          by_cases h3 : 0 < cy
          · have hkm : k ≤ mx := by
              have := hlast.out
              omega
            go_wp2_with (at_builtin; refine wpList_append_fits _ rfl (.tmp 51) (.tmp 54) 24 rfl w.heap.size 22 i0 1 Try.underlying24 hi hz1 w.heap.size k (mx + 1) _ rfl (hown.alloc _) ⟨wr.heap.size, 0, none⟩ 1 1 [.int .u64 (((cy : Int)) % 4294967296)] rfl rfl (by exact cells_new wr [.int .u64 (((cy : Int)) % 4294967296)] 22) (by intro u hu; simp at hu; subst hu; rfl) (by omega) ?_; intro w1 hown1 hgrow1)
            go_wp2
            go_roundw
            case rel => exact ⟨k + 1, _, _, by omega, add_carry HX.out HY.out (by have := HX0.out; have := HY0.out; omega), by go_num, rfl, add_own HX.out HY.out (by have := HX0.out; have := HY0.out; omega) hown1, add_step hAt.out (by rw [← HX.out]; exact hx32) (by rw [← HY.out]; exact hy32), by rw [← HX.out, ← HY.out]; omega, fun _ => by rw [← HX.out, ← HY.out]; have := HX0.out; have := HY0.out; omega, (hnx.alloc hsz _).grown hgrow1 (by simp; omega) (fun j hj => by cases hj; exact Nat.le_refl _)⟩
            case measure => simp [intOf]; omega
          · obtain rfl : cy = 0 := by omega
            obtain ⟨hl, hrep⟩ := rep_of_owns hown
            have he := add_end hAt.out (by omega) (by omega)
            have hd := hAt.out.2.1
            have HE := hide he
            clear he
            go_wp2_with fail
            refine (norm_isN _ _ _ _ _ _ _ hl (by omega) hrep hd).mono ?_
            rintro e w' ⟨v, rfl, hN, rfl⟩
            go_wp2
            go_ret
            exact ⟨v, rfl, by rw [← HE.out]; exact hN, hnx⟩

theorem add_any (w : World) (u v : Value) (m n L : Nat) (hL : L ≤ 1073741824) (hm : m < 4294967296 ^ L) (hn : n < 4294967296 ^ L) (hu : IsN w u m) (hv : IsN w v n) :
    Calls Try.prog 14 #[u, v] w fun e w' => ∃ r, e = .returned r ∧ IsN w' r (m + n) ∧ Below w.heap.size w w' := by
  obtain ⟨ga, ba, oa, ca, xs, rfl, hA, cA, rfl⟩ := hu
  obtain ⟨gb, bb, ob, cb, ys, rfl, hB, cB, rfl⟩ := hv
  have la := len_le cA hm
  have lb := len_le cB hn
  exact add_rep w ga gb ba oa bb ob ca cb _ _ xs ys rfl rfl (by omega) (by omega) hA hB cA.1 cB.1

end Go.Proofs.Ytpifgkhgnilpdaa
