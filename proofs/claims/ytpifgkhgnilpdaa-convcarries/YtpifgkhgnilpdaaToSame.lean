/- To and Same of the reference: digits become words again, and are held against words. -/
import Derived.Test.YtpifgkhgnilpdaaLRep
import Derived.Deep.QuietTactic
import Derived.BigQuiet
import Derived.WalkSmall
namespace Go.Proofs.Ytpifgkhgnilpdaa
open Go.RowKit

theorem owns_rep {w : World} {base t n : Nat} {v : Value} {xs : List Nat} (h : w.ownsRow base t 1 v n (cellsOf xs)) : ∃ ga b cap, v = .slice ga n cap ∧ xs.length = n ∧ Rep w ga b 0 cap xs ∧ (0 < n → base ≤ b) := by
  have hl : xs.length = n := by simpa using h.1
  rcases h.2 with ⟨rfl, rfl⟩ | ⟨g, cap, cur, rfl, hb, hg, hc, hm, hs, ht⟩
  · obtain rfl : xs = [] := List.length_eq_zero_iff.1 hl
    exact ⟨none, 0, 0, rfl, rfl, Rep.nil _ _ _ _ _, fun h => absurd h (by omega)⟩
  · exact ⟨_, g, cap, rfl, hl, (rep_of_owns ⟨h.1, Or.inr ⟨g, cap, cur, rfl, hb, hg, hc, hm, hs, ht⟩⟩).2, fun _ => hb⟩
theorem below_append {B : Nat} {a w w' : World} {v : Value} {t n : Nat} {xs : List Value} (h : Below B a w) (ho : w.ownsRow B t 1 v n xs) (hg : w.grownBy w' v.ownBlock) (hB : B ≤ w.heap.size) : Below B a w' :=
  h.grown hg hB (fun k hk => (ho.lt k hk).1)
theorem owns_snoc {w1 : World} {B t k d : Nat} {v : Value} {os : List Nat} (h : w1.ownsRow B t 1 v (k + 1) (cellsOf os ++ [.int .u64 ((d : Nat) : Int)])) :
    w1.ownsRow B t 1 v (k + 1) (cellsOf (os ++ [d])) := by simpa using h

/-- The k-th word of digits; the first k words. -/
def pwd (xs : List Nat) (k : Nat) : Nat := xs.getD (2 * k) 0 + 4294967296 * xs.getD (2 * k + 1) 0
def twd (xs : List Nat) : Nat → List Nat
  | 0 => []
  | k + 1 => twd xs k ++ [pwd xs k]
theorem twd_length (xs : List Nat) : ∀ k, (twd xs k).length = k
  | 0 => rfl
  | k + 1 => by simp [twd, twd_length xs k]
theorem pwd_lt {xs : List Nat} (h : Dig xs) (k : Nat) : pwd xs k < 18446744073709551616 := by
  have h1 := h (2 * k)
  have h2 := h (2 * k + 1)
  unfold pwd; omega
theorem twd_val (xs : List Nat) : ∀ k, wval (twd xs k) = val (xs.take (2 * k))
  | 0 => rfl
  | k + 1 => by
    rw [twd, wval_snoc, twd_length, twd_val xs k, show 2 * (k + 1) = 2 * k + 1 + 1 from by omega, val_take_succ, val_take_succ, wpow, Nat.pow_succ]
    unfold pwd
    rw [Nat.mul_add, Nat.mul_assoc]
    omega
theorem twd_dig {xs : List Nat} (h : Dig xs) : ∀ k, WDig (twd xs k)
  | 0 => wDig_nil
  | k + 1 => wDig_snoc (twd_dig h k) (pwd_lt h k)
theorem twd_top {xs : List Nat} {k : Nat} (h : Can xs) (hk : k < xs.length - k) (h2 : xs.length ≤ 2 * k + 2) : 0 < pwd xs k := by
  have := h.2 (by omega)
  unfold pwd
  rcases (show xs.length - 1 = 2 * k ∨ xs.length - 1 = 2 * k + 1 from by omega) with e | e
  · rw [e] at this; omega
  · rw [e] at this; omega
theorem twd_last (xs : List Nat) (k : Nat) : (twd xs (k + 1)).getD k 0 = pwd xs k := by
  rw [twd, getD_append, if_neg (by rw [twd_length]; omega), twd_length]
  simp

/-- What To answers: the words, canonical, in new memory. -/
def ToDone (w : World) (n : Nat) (e : Ending) (w' : World) : Prop := ∃ ga b cap ws, e = .returned (.slice ga ws.length cap) ∧ Rep w' ga b 0 cap ws ∧ WCan ws ∧ wval ws = n ∧ Below w.heap.size w w'

set_option maxRecDepth 100000 in
set_option maxHeartbeats 3200000 in
theorem to_rep (w : World) (ga : Option Addr) (ba oa ca la : Nat) (xs : List Nat) (hx : xs.length = la) (ha : la ≤ 1073741824) (hA : Rep w ga ba oa ca xs) (cx : Can xs) :
    Calls Try.prog 24 #[.slice ga la ca] w (ToDone w (val xs)) := by
  obtain ⟨i0, hi, hz0, hz1, hz2⟩ := info_parts Try.infoU
  go_enter Try.func24, Try.ntmps24
  go_wp2
  go_loopw [3, 4] (fun out i wr => ∃ (k : Nat) (gw : Option Addr) (cw : Nat), 2 * k ≤ la + 1 ∧ i = .int .i64 (2 * (k : Int)) ∧ out = .slice gw k cw ∧
      wr.ownsRow w.heap.size 22 1 (.slice gw k cw) k (cellsOf (twd xs k)) ∧ Below w.heap.size w wr)
    (fun _ i _ => la + 1 - (intOf i).toNat)
  case atStart => exact ⟨0, none, 0, by omega, rfl, rfl, World.ownsRow_nil _ _ _ _, Below.refl _ _⟩
  case round =>
    obtain ⟨k, gw, cw, hk, rfl, rfl, hown, hnx⟩ := hrel
    have hsz := hnx.size
    by_cases h1 : 2 * k < la
    · obtain rfl := hA.head (by omega)
      obtain ⟨x, hxe⟩ : ∃ x : Nat, x = xs.getD (2 * k) 0 := ⟨_, rfl⟩
      obtain ⟨y, hye⟩ : ∃ y : Nat, y = xs.getD (2 * k + 1) 0 := ⟨_, rfl⟩
      have hx32 : x < 4294967296 := by rw [hxe]; exact cx.1 _
      have hy32 : y < 4294967296 := by rw [hye]; exact cx.1 _
      have cx0 : wr.cell? ⟨ba, oa + 2 * k, none⟩ = some (.int .u64 (x : Int)) := by rw [hxe]; exact (hnx.cell (by exact hA.lt (by omega))).trans (hA.cell (2 * k) (by omega))
      have hd : pwd xs k = x + 4294967296 * y := by rw [hxe, hye]; rfl
      obtain ⟨d, hde⟩ : ∃ d, d = pwd xs k := ⟨_, rfl⟩
      have h1i : 2 * (k : Int) < (la : Int) := by omega
      by_cases h2 : 2 * k + 1 < la
      · have cy0 : wr.cell? ⟨ba, oa + (2 * k + 1), none⟩ = some (.int .u64 (y : Int)) := by rw [hye]; exact (hnx.cell (by exact hA.lt (by omega))).trans (hA.cell (2 * k + 1) (by omega))
        have h2i : 2 * (k : Int) + 1 < (la : Int) := by omega
        have ed : (x : Int) + (y : Int) * 4294967296 = (d : Int) := by rw [hde, hd]; omega
        have HD := hide hde
        clear hxe hye hd hde
        go_wp2_with (at_builtin; refine wpList_append_own _ rfl (.tmp 29) (.tmp 31) 38 rfl w.heap.size 22 i0 (.int .u64 0) 1 8 Try.underlying38 hi hz0 hz1 hz2 rfl (by omega) (.slice gw k cw) k _ rfl (hown.alloc _) ⟨wr.heap.size, 0, none⟩ 1 1 [.int .u64 (d : Int)] rfl rfl (by exact cells_new wr [.int .u64 (d : Int)] 22) (by intro u hu; simp at hu; subst hu; rfl) (by unfold maxLen; omega) (by omega) (by simp; omega) ?_; intro v1 w1 hown1 hgrow1 hnil1)
        have ho2 := owns_snoc hown1
        have hb2 := below_append (hnx.alloc hsz _) (hown.alloc _) hgrow1 (by simp; omega)
        obtain ⟨g1, b1, c1, rfl, _, _, _⟩ := owns_rep ho2
        clear hown1 hgrow1 hnil1
        go_wp2
        go_roundw
        case rel => exact ⟨k + 1, g1, c1, by omega, by first | rfl | exact congrArg (Value.int .i64) (by omega) | go_num, rfl, by rw [twd, ← unhide HD]; exact ho2, hb2⟩
        case measure => simp [intOf]; omega
      · have hy0 : y = 0 := by rw [hye]; exact getD_ge (by omega)
        have h2i : ¬ 2 * (k : Int) + 1 < (la : Int) := by omega
        obtain rfl : d = x := by rw [hde, hd, hy0]; omega
        have HD := hide hde
        clear hxe hye hd hde hy0
        go_wp2_with (at_builtin; refine wpList_append_own _ rfl (.tmp 29) (.tmp 31) 38 rfl w.heap.size 22 i0 (.int .u64 0) 1 8 Try.underlying38 hi hz0 hz1 hz2 rfl (by omega) (.slice gw k cw) k _ rfl (hown.alloc _) ⟨wr.heap.size, 0, none⟩ 1 1 [.int .u64 (d : Int)] rfl rfl (by exact cells_new wr [.int .u64 (d : Int)] 22) (by intro u hu; simp at hu; subst hu; rfl) (by unfold maxLen; omega) (by omega) (by simp; omega) ?_; intro v1 w1 hown1 hgrow1 hnil1)
        have ho2 := owns_snoc hown1
        have hb2 := below_append (hnx.alloc hsz _) (hown.alloc _) hgrow1 (by simp; omega)
        obtain ⟨g1, b1, c1, rfl, _, _, _⟩ := owns_rep ho2
        clear hown1 hgrow1 hnil1
        go_wp2
        go_roundw
        case rel => exact ⟨k + 1, g1, c1, by omega, by first | rfl | exact congrArg (Value.int .i64) (by omega) | go_num, rfl, by rw [twd, ← unhide HD]; exact ho2, hb2⟩
        case measure => simp [intOf]; omega
    · have h1i : ¬ 2 * (k : Int) < (la : Int) := by omega
      obtain ⟨g1, b1, c1, he, hl1, hrep, hb1⟩ := owns_rep hown
      cases he
      have hv : wval (twd xs k) = val xs := by rw [twd_val, val_take_ge _ _ (by omega)]
      have hd := twd_dig cx.1 k
      by_cases h0 : k = 0
      · subst h0
        have hc : WCan (twd xs 0) := wCan_nil
        go_wp2
        refine wp_loop_rounds 1 ?_
        rw [rounds_succ]
        go_wp2
        go_ret
        exact ⟨gw, b1, cw, twd xs 0, by first | rfl | exact ret_slice rfl, hrep, hc, hv, hnx⟩
      · obtain ⟨j, rfl⟩ : ∃ j, k = j + 1 := ⟨k - 1, by omega⟩
        have htop := twd_top (k := j) cx (by omega) (by omega)
        have hc : WCan (twd xs (j + 1)) := ⟨hd, fun _ => by rw [twd_length, Nat.add_sub_cancel, twd_last]; exact htop⟩
        obtain rfl := hrep.head (by omega)
        obtain ⟨t, hte⟩ : ∃ t, t = pwd xs j := ⟨_, rfl⟩
        have ct : wr.cell? ⟨b1, j, none⟩ = some (.int .u64 (t : Int)) := by
          have := hrep.cell j (by omega)
          rw [Nat.zero_add, twd_last, ← hte] at this
          exact this
        have htz : ((t : Int) == 0) = false := by rw [beq_eq_false_iff_ne]; omega
        have HC := hide hc
        have HV := hide hv
        clear hte htop hc hv hd hown
        go_wp2
        refine wp_loop_rounds 1 ?_
        rw [rounds_succ]
        go_wp2
        go_ret
        exact ⟨_, b1, cw, twd xs (j + 1), by rw [twd_length]; exact ret_slice rfl, hrep, unhide HC, unhide HV, hnx⟩

set_option maxRecDepth 100000 in
set_option maxHeartbeats 1600000 in
theorem same_rep (w : World) (u : Value) (gb : Option Addr) (bb ob cb lb m L : Nat) (ys : List Nat) (hy : ys.length = lb) (hL : L ≤ 1073741824) (hm : m < 4294967296 ^ L) (hu : IsN w u m) (hB : Rep w gb bb ob cb ys) (cY : WCan ys) (hv : wval ys = m) :
    Calls Try.prog 16 #[u, .slice gb lb cb] w fun e w' => e = .returned (.bool true) ∧ Below w.heap.size w w' := by
  obtain ⟨ga, ba, oa, ca, xs, rfl, hA, cA, hva⟩ := hu
  have la := len_le cA (L := L) (by rw [hva]; exact hm)
  have hlb : lb ≤ 1073741824 := by
    have h1 := wlen_le cY (L := L) (by rw [hv]; exact Nat.lt_of_lt_of_le hm (Nat.pow_le_pow_left (by omega) L))
    omega
  have CT := hide (to_rep w ga ba oa ca _ xs rfl (by omega) hA cA)
  rw [hva] at CT
  clear hva cA hA hm
  go_enter Try.func16, Try.ntmps16
  go_wp2_with fail
  refine (unhide CT).mono ?_
  rintro e w1 ⟨g1, b1, c1, ws, rfl, r1, k1, v1, hb1⟩
  obtain rfl : ws = ys := wCan_unique k1 cY (by rw [v1, hv])
  have rB := hB.next hb1
  rw [hy]
  have q1 : ((lb : Int) != (lb : Int)) = false := by simp
  clear CT k1 v1 cY hv
  go_wp2
  go_loopw [6] (fun i wr => ∃ k : Nat, k ≤ lb ∧ i = .int .i64 (k : Int) ∧ Below w1.heap.size w1 wr) (fun i _ => lb - (intOf i).toNat)
  case atStart => exact ⟨0, Nat.zero_le _, rfl, Below.refl _ _⟩
  case round =>
    obtain ⟨k, hk, rfl, hnx⟩ := hrel
    by_cases h1 : k < lb
    · obtain rfl := r1.head (by omega)
      obtain rfl := rB.head (by omega)
      obtain ⟨x, hx⟩ : ∃ x : Nat, x = ws.getD k 0 := ⟨_, rfl⟩
      have c1 : wr.cell? ⟨b1, k, none⟩ = some (.int .u64 (x : Int)) := by
        have := (hnx.cell (by exact r1.lt (by omega))).trans (r1.cell k (by omega))
        rw [Nat.zero_add, ← hx] at this
        exact this
      have c2 : wr.cell? ⟨bb, ob + k, none⟩ = some (.int .u64 (x : Int)) := by
        rw [hx]; exact (hnx.cell (by exact rB.lt (by omega))).trans (rB.cell k (by omega))
      have s2 : ((x : Int) != (x : Int)) = false := by simp
      clear hx
      go_wp2
      go_quiet (fail)
      go_wp2
      exact ⟨⟨k + 1, by omega, by go_num, below_drewN hnx _⟩, by simp [intOf]; omega⟩
    · go_wp2
      go_ret
      exact ⟨rfl, bstep hb1 hnx⟩

theorem same_new (w : World) (u v : Value) (B m p : Nat) (hp : p ≤ 268435456) (hm : m < 18446744073709551616 ^ p) (hu : IsN w u m) (hv : NewW B w v m) :
    Calls Try.prog 16 #[u, v] w fun e w' => e = .returned (.bool true) ∧ Below w.heap.size w w' := by
  obtain ⟨ga, b, cap, xs, rfl, hr, hc, hw, _⟩ := hv.rep
  exact same_rep w u ga b 0 cap _ m (2 * p) xs rfl (by omega) (by rw [← wpow]; exact hm) hu hr hc hw

end Go.Proofs.Ytpifgkhgnilpdaa
