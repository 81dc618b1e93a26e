/- ConvCarries: what the law's walk comes to, once the code's Carry is what the document asks. -/
import Derived.Test.YtpifgkhgnilpdaaVTri
import Derived.Test.YtpifgkhgnilpdaaRShift
import Derived.Test.YtpifgkhgnilpdaaAdd
import Derived.Test.YtpifgkhgnilpdaaToSame
namespace Go.Proofs.Ytpifgkhgnilpdaa
open Go.RowKit

/-- A row of numbers of three words that is handed in: none, or in a block of its own. -/
def TriS (w : World) (v : Value) (q : Nat) (T : Nat → Nat) : Prop := (q = 0 ∧ v = .slice none 0 0) ∨ ∃ g C, v = .slice (some ⟨g, 0, none⟩) q C ∧ q ≤ C ∧ TriAt w g q T
def SpecCarry : Prop := ∀ (w : World) (v : Value) (q : Nat) (T : Nat → Nat), q ≤ 1000 → TriS w v q T →
  Calls Try.prog 17 #[v] w fun e w' => ∃ r, e = .returned r ∧ NewW w.heap.size w' r (sN q fun k => T k * 18446744073709551616 ^ k) ∧ Below w.heap.size w w'

theorem Try.info3 : (Try.prog.info? 26).map (fun i => (i.zero, i.size, i.bytes)) = some (some (.agg #[.int .u64 0, .int .u64 0, .int .u64 0]), 3, 24) := by kernel_rfl
theorem info_three : ∃ i : TypeInfo, Try.prog.info? 26 = some i ∧ i.zero = some (.agg #[.int .u64 0, .int .u64 0, .int .u64 0]) ∧ i.size = 3 ∧ i.bytes = 24 := by
  have h := Try.info3
  cases hi : Try.prog.info? 26 with
  | none => rw [hi] at h; cases h
  | some i =>
    rw [hi] at h
    simp at h
    exact ⟨i, rfl, h.1, h.2.1, h.2.2⟩
/-- The words of all numbers so far, three each. -/
def flat (us vs ts : List Nat) : Nat → List Nat
  | 0 => []
  | k + 1 => flat us vs ts k ++ [us.getD k 0, vs.getD k 0, ts.getD k 0]
theorem flat_length (us vs ts : List Nat) : ∀ k, (flat us vs ts k).length = k * 3
  | 0 => rfl
  | k + 1 => by simp [flat, flat_length us vs ts k]; omega

theorem flat_get (us vs ts : List Nat) : ∀ n k, k < n → (flat us vs ts n)[k * 3]? = some (us.getD k 0) ∧ (flat us vs ts n)[k * 3 + 1]? = some (vs.getD k 0) ∧ (flat us vs ts n)[k * 3 + 2]? = some (ts.getD k 0)
  | 0, k, h => absurd h (by omega)
  | n + 1, k, h => by
    have hl := flat_length us vs ts n
    unfold flat
    by_cases hk : k < n
    · obtain ⟨a, b, c⟩ := flat_get us vs ts n k hk
      rw [List.getElem?_append_left (by omega), List.getElem?_append_left (by omega), List.getElem?_append_left (by omega)]
      exact ⟨a, b, c⟩
    · obtain rfl : k = n := by omega
      rw [List.getElem?_append_right (by omega), List.getElem?_append_right (by omega), List.getElem?_append_right (by omega), hl, Nat.sub_self, show k * 3 + 1 - k * 3 = 1 by omega, show k * 3 + 2 - k * 3 = 2 by omega]
      exact ⟨rfl, rfl, rfl⟩
theorem tri_of {w : World} {base n cw : Nat} {gw : Option Addr} {us vs ts ls : List Nat} (h : w.ownsRow base 26 3 (.slice gw n cw) n (cellsOf ls)) (hl : ls = flat us vs ts n) (dx : WDig us) (dy : WDig vs) (dz : WDig ts) : TriS w (.slice gw n cw) n (fun k => v3 (us.getD k 0) (vs.getD k 0) (ts.getD k 0)) := by
  rcases h.2 with ⟨hv, hn⟩ | ⟨g, cap, cur, hv, _, hg, hnc, _, _, htake⟩
  · exact .inl ⟨hn, hv⟩
  · refine .inr ⟨g, cap, hv, hnc, fun k hk => ?_⟩
    have key : ∀ j x, ls[j]? = some x → w.cell? ⟨g, j, none⟩ = some (.int .u64 ((x : Nat) : Int)) := fun j x hj => by
      rw [cell_of_row w g j _ _ (0, 0) hg, ← Array.getElem?_toList]
      have h1 : (cellsOf ls)[j]? = some (.int .u64 ((x : Nat) : Int)) := by simp [cellsOf, hj]
      rw [← htake, List.getElem?_take] at h1
      split at h1
      · exact h1
      · cases h1
    rw [hl] at key
    obtain ⟨a, b, c⟩ := flat_get us vs ts n k hk
    exact ⟨_, _, _, dx k, dy k, dz k, rfl, key _ _ a, key _ _ b, key _ _ c⟩
theorem wpow50 : (4294967296 : Nat) ^ 100 = 18446744073709551616 ^ 50 := by rw [wpow]
theorem TriS.next {w w' : World} {v : Value} {q : Nat} {T : Nat → Nat} (h : TriS w v q T) (b : Below w.heap.size w w') : TriS w' v q T := by
  rcases h with h | ⟨g, C, hv, hc, ht⟩
  · exact .inl h
  · exact .inr ⟨g, C, hv, hc, ht.next b⟩
/-- Horner's sums, from the top on. -/
def hv (T : Nat → Nat) (n : Nat) : Nat → Nat
  | 0 => 0
  | c + 1 => hv T n c * 2 ^ 64 + T (n - 1 - c)
theorem hv_lt {T : Nat → Nat} (h : ∀ k, T k < 18446744073709551616 ^ 3) (n : Nat) : ∀ c, hv T n c < 18446744073709551616 ^ (2 * c + 3)
  | 0 => Nat.pow_pos (by decide)
  | c + 1 => by
    have ih := hv_lt h n c
    have hT := h (n - 1 - c)
    have e : (2 : Nat) ^ 64 = 18446744073709551616 := by decide
    have h3 : 18446744073709551616 ^ 3 ≤ 18446744073709551616 ^ (2 * c + 3) := Nat.pow_le_pow_right (by decide) (by omega)
    show hv T n c * 2 ^ 64 + T (n - 1 - c) < _
    rw [e, show 2 * (c + 1) + 3 = (2 * c + 3) + 1 + 1 by omega, Nat.pow_succ, Nat.pow_succ]
    generalize 18446744073709551616 ^ (2 * c + 3) = P at *
    omega
theorem hv_sum (T : Nat → Nat) (n : Nat) : ∀ c, c ≤ n → hv T n c * 18446744073709551616 ^ (n - c) + (sN (n - c) fun k => T k * 18446744073709551616 ^ k) = sN n fun k => T k * 18446744073709551616 ^ k
  | 0, _ => by show 0 * _ + _ = _; rw [Nat.zero_mul, Nat.zero_add, Nat.sub_zero]
  | c + 1, h => by
    have ih := hv_sum T n c (by omega)
    have e : (2 : Nat) ^ 64 = 18446744073709551616 := by decide
    obtain ⟨d, hd⟩ : ∃ d, n - c = d + 1 := ⟨n - c - 1, by omega⟩
    rw [hd] at ih
    rw [← ih, show n - (c + 1) = d by omega]
    show (hv T n c * 2 ^ 64 + T (n - 1 - c)) * _ + _ = hv T n c * 18446744073709551616 ^ (d + 1) + (sN d (fun k => T k * 18446744073709551616 ^ k) + T d * 18446744073709551616 ^ d)
    rw [e, show n - 1 - c = d by omega, Nat.add_mul, Nat.pow_succ, Nat.mul_assoc, Nat.mul_comm 18446744073709551616 (18446744073709551616 ^ d)]
    omega
theorem hv_end (T : Nat → Nat) (n : Nat) : hv T n n = sN n fun k => T k * 18446744073709551616 ^ k := by
  have := hv_sum T n n (Nat.le_refl _)
  rw [Nat.sub_self, Nat.pow_zero, Nat.mul_one] at this
  exact this
theorem v3_lt {a b c : Nat} (h0 : a < 18446744073709551616) (h1 : b < 18446744073709551616) (h2 : c < 18446744073709551616) : v3 a b c < 18446744073709551616 ^ 3 := by
  unfold v3
  omega

set_option maxRecDepth 100000 in
set_option maxHeartbeats 6400000 in
theorem convCarries_any (SC : SpecCarry) (SW : SpecWakes) (ga : Option Addr) (ba oa ca la : Nat) (xs : List Nat) (gb : Option Addr) (bb ob cb lb : Nat) (ys : List Nat) (gc : Option Addr) (bc oc cc lc : Nat) (zs : List Nat) (w : World) (hx : xs.length = la) (hA : Rep w ga ba oa ca xs) (wx : ∀ j, xs.getD j 0 < 18446744073709551616) (hy : ys.length = lb) (hB : Rep w gb bb ob cb ys) (wy : ∀ j, ys.getD j 0 < 18446744073709551616) (hz : zs.length = lc) (hC : Rep w gc bc oc cc zs) (wz : ∀ j, zs.getD j 0 < 18446744073709551616) :
    Calls Try.prog 4 #[.slice ga la ca, .slice gb lb cb, .slice gc lc cc] w fun e w' => e = .returned (.bool true) ∧ Below w.heap.size w w' := by
  obtain ⟨n, hca⟩ : ∃ k, k = min la 20 := ⟨_, rfl⟩
  have Ca : Hid (∀ w, Calls Try.prog 13 #[.slice ga la ca, .int .i64 20] w fun e w' => e = .returned (.slice ga n ca) ∧ w' = w) := fun w => cut_any w ga la ca 20 n (by have := hA.room; omega) (by omega) hca
  obtain ⟨hla, rA⟩ := cut_rep hA 20 n (by rw [hx]; exact hca)
  have dx : WDig (xs.take n) := take_words wx n
  have hma : n ≤ 20 := by omega
  obtain ⟨m, hcb⟩ : ∃ k, k = min lb 20 := ⟨_, rfl⟩
  have Cb : Hid (∀ w, Calls Try.prog 13 #[.slice gb lb cb, .int .i64 20] w fun e w' => e = .returned (.slice gb m cb) ∧ w' = w) := fun w => cut_any w gb lb cb 20 m (by have := hB.room; omega) (by omega) hcb
  obtain ⟨hlb, rB⟩ := cut_rep hB 20 m (by rw [hy]; exact hcb)
  have dy : WDig (ys.take m) := take_words wy m
  have hmb : m ≤ 20 := by omega
  obtain ⟨o, hcc⟩ : ∃ k, k = min lc 20 := ⟨_, rfl⟩
  have Cc : Hid (∀ w, Calls Try.prog 13 #[.slice gc lc cc, .int .i64 20] w fun e w' => e = .returned (.slice gc o cc) ∧ w' = w) := fun w => cut_any w gc lc cc 20 o (by have := hC.room; omega) (by omega) hcc
  obtain ⟨hlc, rC⟩ := cut_rep hC 20 o (by rw [hz]; exact hcc)
  have dz : WDig (zs.take o) := take_words wz o
  have hmc : o ≤ 20 := by omega
  clear hca hA wx hx hcb hB wy hy hcc hC wz hz
  generalize xs.take n = us at *
  generalize ys.take m = vs at *
  generalize zs.take o = ts at *
  go_enter Try.func4, Try.ntmps4
  go_wp2_with fail
  refine (unhide Ca _).mono ?_
  rintro e wca ⟨rfl, hw⟩
  obtain rfl := hw.symm
  clear Ca hw
  go_wp2_with fail
  refine (unhide Cb _).mono ?_
  rintro e wcb ⟨rfl, hw⟩
  obtain rfl := hw.symm
  clear Cb hw
  go_wp2_with fail
  refine (unhide Cc _).mono ?_
  rintro e wcc ⟨rfl, hw⟩
  obtain rfl := hw.symm
  clear Cc hw
  obtain ⟨i0, hi, hz0, hz1, hz2⟩ := info_three
  have HXL := hide hla
  have HYL := hide hlb
  have HZL := hide hlc
  have RA := hide rA
  have RB := hide rB
  have RC := hide rC
  have DX := hide dx
  have DY := hide dy
  have DZ := hide dz
  have CW := hide SW
  have CC := hide SC
  clear rA rB rC dx dy dz SW SC hla hlb hlc
  go_wp2
  go_loopw [7, 8] (fun lv iv wr => ∃ (k : Nat) (gw : Option Addr) (cw : Nat) (ls : List Nat), k ≤ n ∧ lv = .slice gw k cw ∧ iv = .int .i64 (k : Int) ∧ Hid (ls = flat us vs ts k) ∧ wr.ownsRow w.heap.size 26 3 (.slice gw k cw) k (cellsOf ls) ∧ Below w.heap.size w wr) (fun _ iv _ => n - (intOf iv).toNat)
  case atStart => exact ⟨0, none, 0, [], Nat.zero_le _, rfl, rfl, rfl, World.ownsRow_nil _ _ _ _, Below.refl _ _⟩
  case round =>
    obtain ⟨k, gw, cw, ls, hk, rfl, rfl, hls, hown, hb⟩ := hrel
    by_cases h1 : k < n
    · have hk1 : (k : Int) < (n : Int) := by omega
      obtain ⟨x, hx⟩ : ∃ x, x = us.getD k 0 := ⟨_, rfl⟩
      obtain ⟨y, hy⟩ : ∃ y, y = vs.getD k 0 := ⟨_, rfl⟩
      obtain ⟨z, hz⟩ : ∃ z, z = ts.getD k 0 := ⟨_, rfl⟩
      have hhA := (unhide RA).head (by rw [unhide HXL]; omega)
      subst hhA
      have cx : wr.cell? ⟨ba, oa + k, none⟩ = some (.int .u64 (x : Int)) := by rw [hx]; exact ((unhide RA).next hb).cell k (by rw [unhide HXL]; omega)
      by_cases h2 : k < m
      · have hk2 : (k : Int) < (m : Int) := by omega
        have hhB := (unhide RB).head (by rw [unhide HYL]; omega)
        subst hhB
        have cy : wr.cell? ⟨bb, ob + k, none⟩ = some (.int .u64 (y : Int)) := by rw [hy]; exact ((unhide RB).next hb).cell k (by rw [unhide HYL]; omega)
        have ly : bb < wr.heap.size := World.block_lt_of_cell? _ _ cy
        by_cases h3 : k < o
        · have hk3 : (k : Int) < (o : Int) := by omega
          have hhC := (unhide RC).head (by rw [unhide HZL]; omega)
          subst hhC
          have cz : wr.cell? ⟨bc, oc + k, none⟩ = some (.int .u64 (z : Int)) := by rw [hz]; exact ((unhide RC).next hb).cell k (by rw [unhide HZL]; omega)
          have lz : bc < wr.heap.size := World.block_lt_of_cell? _ _ cz
          have hsz : w.heap.size ≤ wr.heap.size := hb.size
          have e1 : (wr.alloc (.cells #[.int .u64 (x : Int), .int .u64 (y : Int), .int .u64 (z : Int)] 26)).heap.size = wr.heap.size + 1 := by simp
          have hnew : Hid (∀ j u, ([.int .u64 (x : Int), .int .u64 (y : Int), .int .u64 (z : Int)] : List Value)[j]? = some u → ((wr.alloc (.cells #[.int .u64 (x : Int), .int .u64 (y : Int), .int .u64 (z : Int)] 26)).alloc (.cells #[.int .u64 (x : Int), .int .u64 (y : Int), .int .u64 (z : Int)] 26)).cell? ((⟨wr.heap.size + 1, 0, none⟩ : Addr).add j) = some u) := by
            have := cells_new (wr.alloc (.cells #[.int .u64 (x : Int), .int .u64 (y : Int), .int .u64 (z : Int)] 26)) [.int .u64 (x : Int), .int .u64 (y : Int), .int .u64 (z : Int)] 26
            rw [e1] at this
            exact this
          have hone : Hid (∀ u ∈ ([.int .u64 (x : Int), .int .u64 (y : Int), .int .u64 (z : Int)] : List Value), u.oneCell' = true) := by
            intro u hu
            simp at hu
            rcases hu with rfl | rfl | rfl <;> rfl
          have hown2 := hide ((hown.alloc (.cells #[.int .u64 (x : Int), .int .u64 (y : Int), .int .u64 (z : Int)] 26)).alloc (.cells #[.int .u64 (x : Int), .int .u64 (y : Int), .int .u64 (z : Int)] 26))
          have hb2 : Hid (Below w.heap.size w ((wr.alloc (.cells #[.int .u64 (x : Int), .int .u64 (y : Int), .int .u64 (z : Int)] 26)).alloc (.cells #[.int .u64 (x : Int), .int .u64 (y : Int), .int .u64 (z : Int)] 26))) := (hb.alloc hsz _).alloc (by rw [e1]; omega) _
          have hsz2 : Hid (w.heap.size ≤ ((wr.alloc (.cells #[.int .u64 (x : Int), .int .u64 (y : Int), .int .u64 (z : Int)] 26)).alloc (.cells #[.int .u64 (x : Int), .int .u64 (y : Int), .int .u64 (z : Int)] 26)).heap.size) := (unhide hb2).size
          have hmm : Hid (n - (k + 1) < n - k) := by show _ < _; omega
          have hflat : Hid (ls ++ [x, y, z] = flat us vs ts (k + 1)) := by show _ = flat us vs ts k ++ [us.getD k 0, vs.getD k 0, ts.getD k 0]; rw [hls.out, ← hx, ← hy, ← hz]
          clear hx hy hz hls hb hsz e1 hown
          go_wp2_with (at_builtin; refine wpList_append_own _ rfl _ _ 35 rfl w.heap.size 26 i0 (.agg #[.int .u64 0, .int .u64 0, .int .u64 0]) 3 24 Try.underlying35 hi hz0 hz1 hz2 rfl (by omega) (.slice gw k cw) k _ rfl (unhide hown2) ⟨wr.heap.size + 1, 0, none⟩ 1 1 [.int .u64 (x : Int), .int .u64 (y : Int), .int .u64 (z : Int)] rfl rfl (unhide hnew) (unhide hone) (by unfold maxLen; omega) (by omega) (unhide hsz2) ?_; intro v1 w1 hown1 hgrow1 hnil1)
          have hb3 : Hid (Below w.heap.size w w1) := (unhide hb2).grown hgrow1 (unhide hsz2) (fun i hi => ((unhide hown2).lt i hi).1)
          have ho3 : w1.ownsRow w.heap.size 26 3 v1 (k + 1) (cellsOf (ls ++ [x, y, z])) := by simpa using hown1
          obtain ⟨g1, c1, rfl⟩ : ∃ g1 c1, v1 = .slice g1 (k + 1) c1 := by
            rcases ho3.2 with ⟨_, h⟩ | ⟨g, cap, _, h, _⟩
            · omega
            · exact ⟨_, _, h⟩
          clear hown1 hgrow1 hnil1 hown2 hnew hone hb2 hsz2
          go_wp2
          go_roundw
          case rel => exact ⟨k + 1, g1, c1, _, by omega, by first | rfl | trivial, by go_num, unhide hflat, ho3, unhide hb3⟩
          case measure => simp [intOf]; have := unhide hmm; omega
        · have hk3 : ¬ (k : Int) < (o : Int) := by omega
          have hz9 : ts.getD k 0 = 0 := getD_ge (by rw [unhide HZL]; omega)
          have hsz : w.heap.size ≤ wr.heap.size := hb.size
          have e1 : (wr.alloc (.cells #[.int .u64 (x : Int), .int .u64 (y : Int), .int .u64 0] 26)).heap.size = wr.heap.size + 1 := by simp
          have hnew : Hid (∀ j u, ([.int .u64 (x : Int), .int .u64 (y : Int), .int .u64 0] : List Value)[j]? = some u → ((wr.alloc (.cells #[.int .u64 (x : Int), .int .u64 (y : Int), .int .u64 0] 26)).alloc (.cells #[.int .u64 (x : Int), .int .u64 (y : Int), .int .u64 0] 26)).cell? ((⟨wr.heap.size + 1, 0, none⟩ : Addr).add j) = some u) := by
            have := cells_new (wr.alloc (.cells #[.int .u64 (x : Int), .int .u64 (y : Int), .int .u64 0] 26)) [.int .u64 (x : Int), .int .u64 (y : Int), .int .u64 0] 26
            rw [e1] at this
            exact this
          have hone : Hid (∀ u ∈ ([.int .u64 (x : Int), .int .u64 (y : Int), .int .u64 0] : List Value), u.oneCell' = true) := by
            intro u hu
            simp at hu
            rcases hu with rfl | rfl | rfl <;> rfl
          have hown2 := hide ((hown.alloc (.cells #[.int .u64 (x : Int), .int .u64 (y : Int), .int .u64 0] 26)).alloc (.cells #[.int .u64 (x : Int), .int .u64 (y : Int), .int .u64 0] 26))
          have hb2 : Hid (Below w.heap.size w ((wr.alloc (.cells #[.int .u64 (x : Int), .int .u64 (y : Int), .int .u64 0] 26)).alloc (.cells #[.int .u64 (x : Int), .int .u64 (y : Int), .int .u64 0] 26))) := (hb.alloc hsz _).alloc (by rw [e1]; omega) _
          have hsz2 : Hid (w.heap.size ≤ ((wr.alloc (.cells #[.int .u64 (x : Int), .int .u64 (y : Int), .int .u64 0] 26)).alloc (.cells #[.int .u64 (x : Int), .int .u64 (y : Int), .int .u64 0] 26)).heap.size) := (unhide hb2).size
          have hmm : Hid (n - (k + 1) < n - k) := by show _ < _; omega
          have hflat : Hid (ls ++ [x, y, 0] = flat us vs ts (k + 1)) := by show _ = flat us vs ts k ++ [us.getD k 0, vs.getD k 0, ts.getD k 0]; rw [hls.out, ← hx, ← hy, hz9]
          clear hx hy hz hls hb hsz e1 hown
          go_wp2_with (at_builtin; refine wpList_append_own _ rfl _ _ 35 rfl w.heap.size 26 i0 (.agg #[.int .u64 0, .int .u64 0, .int .u64 0]) 3 24 Try.underlying35 hi hz0 hz1 hz2 rfl (by omega) (.slice gw k cw) k _ rfl (unhide hown2) ⟨wr.heap.size + 1, 0, none⟩ 1 1 [.int .u64 (x : Int), .int .u64 (y : Int), .int .u64 0] rfl rfl (unhide hnew) (unhide hone) (by unfold maxLen; omega) (by omega) (unhide hsz2) ?_; intro v1 w1 hown1 hgrow1 hnil1)
          have hb3 : Hid (Below w.heap.size w w1) := (unhide hb2).grown hgrow1 (unhide hsz2) (fun i hi => ((unhide hown2).lt i hi).1)
          have ho3 : w1.ownsRow w.heap.size 26 3 v1 (k + 1) (cellsOf (ls ++ [x, y, 0])) := by simpa using hown1
          obtain ⟨g1, c1, rfl⟩ : ∃ g1 c1, v1 = .slice g1 (k + 1) c1 := by
            rcases ho3.2 with ⟨_, h⟩ | ⟨g, cap, _, h, _⟩
            · omega
            · exact ⟨_, _, h⟩
          clear hown1 hgrow1 hnil1 hown2 hnew hone hb2 hsz2
          go_wp2
          go_roundw
          case rel => exact ⟨k + 1, g1, c1, _, by omega, by first | rfl | trivial, by go_num, unhide hflat, ho3, unhide hb3⟩
          case measure => simp [intOf]; have := unhide hmm; omega
      · have hk2 : ¬ (k : Int) < (m : Int) := by omega
        have hy0 : vs.getD k 0 = 0 := getD_ge (by rw [unhide HYL]; omega)
        by_cases h3 : k < o
        · have hk3 : (k : Int) < (o : Int) := by omega
          have hhC := (unhide RC).head (by rw [unhide HZL]; omega)
          subst hhC
          have cz : wr.cell? ⟨bc, oc + k, none⟩ = some (.int .u64 (z : Int)) := by rw [hz]; exact ((unhide RC).next hb).cell k (by rw [unhide HZL]; omega)
          have lz : bc < wr.heap.size := World.block_lt_of_cell? _ _ cz
          have hsz : w.heap.size ≤ wr.heap.size := hb.size
          have e1 : (wr.alloc (.cells #[.int .u64 (x : Int), .int .u64 0, .int .u64 (z : Int)] 26)).heap.size = wr.heap.size + 1 := by simp
          have hnew : Hid (∀ j u, ([.int .u64 (x : Int), .int .u64 0, .int .u64 (z : Int)] : List Value)[j]? = some u → ((wr.alloc (.cells #[.int .u64 (x : Int), .int .u64 0, .int .u64 (z : Int)] 26)).alloc (.cells #[.int .u64 (x : Int), .int .u64 0, .int .u64 (z : Int)] 26)).cell? ((⟨wr.heap.size + 1, 0, none⟩ : Addr).add j) = some u) := by
            have := cells_new (wr.alloc (.cells #[.int .u64 (x : Int), .int .u64 0, .int .u64 (z : Int)] 26)) [.int .u64 (x : Int), .int .u64 0, .int .u64 (z : Int)] 26
            rw [e1] at this
            exact this
          have hone : Hid (∀ u ∈ ([.int .u64 (x : Int), .int .u64 0, .int .u64 (z : Int)] : List Value), u.oneCell' = true) := by
            intro u hu
            simp at hu
            rcases hu with rfl | rfl | rfl <;> rfl
          have hown2 := hide ((hown.alloc (.cells #[.int .u64 (x : Int), .int .u64 0, .int .u64 (z : Int)] 26)).alloc (.cells #[.int .u64 (x : Int), .int .u64 0, .int .u64 (z : Int)] 26))
          have hb2 : Hid (Below w.heap.size w ((wr.alloc (.cells #[.int .u64 (x : Int), .int .u64 0, .int .u64 (z : Int)] 26)).alloc (.cells #[.int .u64 (x : Int), .int .u64 0, .int .u64 (z : Int)] 26))) := (hb.alloc hsz _).alloc (by rw [e1]; omega) _
          have hsz2 : Hid (w.heap.size ≤ ((wr.alloc (.cells #[.int .u64 (x : Int), .int .u64 0, .int .u64 (z : Int)] 26)).alloc (.cells #[.int .u64 (x : Int), .int .u64 0, .int .u64 (z : Int)] 26)).heap.size) := (unhide hb2).size
          have hmm : Hid (n - (k + 1) < n - k) := by show _ < _; omega
          have hflat : Hid (ls ++ [x, 0, z] = flat us vs ts (k + 1)) := by show _ = flat us vs ts k ++ [us.getD k 0, vs.getD k 0, ts.getD k 0]; rw [hls.out, ← hx, hy0, ← hz]
          clear hx hy hz hls hb hsz e1 hown
          go_wp2_with (at_builtin; refine wpList_append_own _ rfl _ _ 35 rfl w.heap.size 26 i0 (.agg #[.int .u64 0, .int .u64 0, .int .u64 0]) 3 24 Try.underlying35 hi hz0 hz1 hz2 rfl (by omega) (.slice gw k cw) k _ rfl (unhide hown2) ⟨wr.heap.size + 1, 0, none⟩ 1 1 [.int .u64 (x : Int), .int .u64 0, .int .u64 (z : Int)] rfl rfl (unhide hnew) (unhide hone) (by unfold maxLen; omega) (by omega) (unhide hsz2) ?_; intro v1 w1 hown1 hgrow1 hnil1)
          have hb3 : Hid (Below w.heap.size w w1) := (unhide hb2).grown hgrow1 (unhide hsz2) (fun i hi => ((unhide hown2).lt i hi).1)
          have ho3 : w1.ownsRow w.heap.size 26 3 v1 (k + 1) (cellsOf (ls ++ [x, 0, z])) := by simpa using hown1
          obtain ⟨g1, c1, rfl⟩ : ∃ g1 c1, v1 = .slice g1 (k + 1) c1 := by
            rcases ho3.2 with ⟨_, h⟩ | ⟨g, cap, _, h, _⟩
            · omega
            · exact ⟨_, _, h⟩
          clear hown1 hgrow1 hnil1 hown2 hnew hone hb2 hsz2
          go_wp2
          go_roundw
          case rel => exact ⟨k + 1, g1, c1, _, by omega, by first | rfl | trivial, by go_num, unhide hflat, ho3, unhide hb3⟩
          case measure => simp [intOf]; have := unhide hmm; omega
        · have hk3 : ¬ (k : Int) < (o : Int) := by omega
          have hz9 : ts.getD k 0 = 0 := getD_ge (by rw [unhide HZL]; omega)
          have hsz : w.heap.size ≤ wr.heap.size := hb.size
          have e1 : (wr.alloc (.cells #[.int .u64 (x : Int), .int .u64 0, .int .u64 0] 26)).heap.size = wr.heap.size + 1 := by simp
          have hnew : Hid (∀ j u, ([.int .u64 (x : Int), .int .u64 0, .int .u64 0] : List Value)[j]? = some u → ((wr.alloc (.cells #[.int .u64 (x : Int), .int .u64 0, .int .u64 0] 26)).alloc (.cells #[.int .u64 (x : Int), .int .u64 0, .int .u64 0] 26)).cell? ((⟨wr.heap.size + 1, 0, none⟩ : Addr).add j) = some u) := by
            have := cells_new (wr.alloc (.cells #[.int .u64 (x : Int), .int .u64 0, .int .u64 0] 26)) [.int .u64 (x : Int), .int .u64 0, .int .u64 0] 26
            rw [e1] at this
            exact this
          have hone : Hid (∀ u ∈ ([.int .u64 (x : Int), .int .u64 0, .int .u64 0] : List Value), u.oneCell' = true) := by
            intro u hu
            simp at hu
            rcases hu with rfl | rfl | rfl <;> rfl
          have hown2 := hide ((hown.alloc (.cells #[.int .u64 (x : Int), .int .u64 0, .int .u64 0] 26)).alloc (.cells #[.int .u64 (x : Int), .int .u64 0, .int .u64 0] 26))
          have hb2 : Hid (Below w.heap.size w ((wr.alloc (.cells #[.int .u64 (x : Int), .int .u64 0, .int .u64 0] 26)).alloc (.cells #[.int .u64 (x : Int), .int .u64 0, .int .u64 0] 26))) := (hb.alloc hsz _).alloc (by rw [e1]; omega) _
          have hsz2 : Hid (w.heap.size ≤ ((wr.alloc (.cells #[.int .u64 (x : Int), .int .u64 0, .int .u64 0] 26)).alloc (.cells #[.int .u64 (x : Int), .int .u64 0, .int .u64 0] 26)).heap.size) := (unhide hb2).size
          have hmm : Hid (n - (k + 1) < n - k) := by show _ < _; omega
          have hflat : Hid (ls ++ [x, 0, 0] = flat us vs ts (k + 1)) := by show _ = flat us vs ts k ++ [us.getD k 0, vs.getD k 0, ts.getD k 0]; rw [hls.out, ← hx, hy0, hz9]
          clear hx hy hz hls hb hsz e1 hown
          go_wp2_with (at_builtin; refine wpList_append_own _ rfl _ _ 35 rfl w.heap.size 26 i0 (.agg #[.int .u64 0, .int .u64 0, .int .u64 0]) 3 24 Try.underlying35 hi hz0 hz1 hz2 rfl (by omega) (.slice gw k cw) k _ rfl (unhide hown2) ⟨wr.heap.size + 1, 0, none⟩ 1 1 [.int .u64 (x : Int), .int .u64 0, .int .u64 0] rfl rfl (unhide hnew) (unhide hone) (by unfold maxLen; omega) (by omega) (unhide hsz2) ?_; intro v1 w1 hown1 hgrow1 hnil1)
          have hb3 : Hid (Below w.heap.size w w1) := (unhide hb2).grown hgrow1 (unhide hsz2) (fun i hi => ((unhide hown2).lt i hi).1)
          have ho3 : w1.ownsRow w.heap.size 26 3 v1 (k + 1) (cellsOf (ls ++ [x, 0, 0])) := by simpa using hown1
          obtain ⟨g1, c1, rfl⟩ : ∃ g1 c1, v1 = .slice g1 (k + 1) c1 := by
            rcases ho3.2 with ⟨_, h⟩ | ⟨g, cap, _, h, _⟩
            · omega
            · exact ⟨_, _, h⟩
          clear hown1 hgrow1 hnil1 hown2 hnew hone hb2 hsz2
          go_wp2
          go_roundw
          case rel => exact ⟨k + 1, g1, c1, _, by omega, by first | rfl | trivial, by go_num, unhide hflat, ho3, unhide hb3⟩
          case measure => simp [intOf]; have := unhide hmm; omega
    · obtain rfl : k = n := by omega
      have hTS := hide (tri_of hown hls.out (unhide DX) (unhide DY) (unhide DZ))
      have hb := hide hb
      obtain ⟨j0, hj0⟩ : ∃ j0 : Int, j0 = (k : Int) - 1 := ⟨_, rfl⟩
      have ej0 : (k : Int) - 1 = j0 := hj0.symm
      have wj0 : IntKind.i64.wrap j0 = j0 := by rw [IntKind.wrap_i64]; omega
      have HJ0 := hide hj0
      clear hj0 hls hown h1
      have HT3 : Hid (∀ q, v3 (us.getD q 0) (vs.getD q 0) (ts.getD q 0) < 18446744073709551616 ^ 3) := fun q => v3_lt (unhide DX q) (unhide DY q) (unhide DZ q)
      obtain ⟨T, hT⟩ : ∃ T : Nat → Nat, T = fun q => v3 (us.getD q 0) (vs.getD q 0) (ts.getD q 0) := ⟨_, rfl⟩
      rw [← hT] at hTS
      have HTL : Hid (∀ q, T q < 18446744073709551616 ^ 3) := by rw [hT]; exact HT3
      have HHL : Hid (∀ c, c ≤ 20 → hv T k c < 4294967296 ^ 100) := fun c hc => by
        have h := hv_lt (unhide HTL) k c
        have h2 : 18446744073709551616 ^ (2 * c + 3) ≤ 18446744073709551616 ^ 50 := Nat.pow_le_pow_right (by decide) (by omega)
        have h4 : (4294967296 : Nat) ^ 100 = 18446744073709551616 ^ 50 := by rw [wpow]
        rw [h4]
        omega
      have HHS : Hid (∀ c, hv T k (c + 1) = hv T k c * 2 ^ 64 + T (k - 1 - c)) := fun _ => rfl
      have HHE := hide (hv_end T k)
      have HH0 : Hid (hv T k 0 = 0) := rfl
      clear hT HT3
      generalize hv T k = Q at *
      generalize wr = W0 at *
      have HX : Hid (∀ W q, Below W0.heap.size W0 W → q < k → ∃ (g C t0 t1 t2 : Nat), gw = some ⟨g, 0, none⟩ ∧ cw = C ∧ t0 < 18446744073709551616 ∧ t1 < 18446744073709551616 ∧ t2 < 18446744073709551616 ∧ v3 t0 t1 t2 = T q ∧ W.cell? ⟨g, q * 3, none⟩ = some (.int .u64 (t0 : Int)) ∧ W.cell? ⟨g, q * 3 + 1, none⟩ = some (.int .u64 (t1 : Int)) ∧ W.cell? ⟨g, q * 3 + 2, none⟩ = some (.int .u64 (t2 : Int))) := fun W q b hq => by
        rcases unhide hTS with ⟨h0, _⟩ | ⟨g, C, hvv, _, ht⟩
        · omega
        · cases hvv
          obtain ⟨t0, t1, t2, a0, a1, a2, e, c0, c1, c2⟩ := ht.next b q hq
          exact ⟨g, _, t0, t1, t2, rfl, rfl, a0, a1, a2, e, c0, c1, c2⟩
      have HLE : Hid (k ≤ cw) := by
        show _ ≤ _
        rcases unhide hTS with ⟨h0, _⟩ | ⟨g, C, hvv, hc, _⟩
        · omega
        · cases hvv; exact hc
      go_wp2
      go_loopw [10, 11] (fun sv iv wr => ∃ (c S : Nat) (i : Int), c ≤ k ∧ iv = .int .i64 i ∧ i = (k : Int) - 1 - (c : Int) ∧ Hid (S = Q c) ∧ IsN wr sv S ∧ Below W0.heap.size W0 wr) (fun _ iv _ => (intOf iv + 1).toNat)
      case atStart => exact ⟨0, 0, j0, Nat.zero_le _, rfl, by have := unhide HJ0; omega, (unhide HH0).symm, ⟨none, 0, 0, 0, [], rfl, Rep.nil _ _ _ _ _, can_nil, rfl⟩, Below.refl _ _⟩
      case round =>
        clear ej0 wj0 HJ0
        obtain ⟨c, S, i, hc, rfl, hci, hS, hN, hbi⟩ := hrel
        by_cases h2 : c < k
        · obtain ⟨q, hq⟩ : ∃ q : Nat, q = k - 1 - c := ⟨_, rfl⟩
          obtain rfl : i = (q : Int) := by omega
          have hq0 : 0 ≤ (q : Int) := by omega
          have hqk : (q : Int) < (k : Int) := by omega
          obtain ⟨j2, hj2⟩ : ∃ j2 : Int, j2 = (q : Int) - 1 := ⟨_, rfl⟩
          have ej2 : (q : Int) - 1 = j2 := hj2.symm
          have wj2 : IntKind.i64.wrap j2 = j2 := by rw [IntKind.wrap_i64]; omega
          have hj3 : Hid (j2 = (k : Int) - 1 - ((c + 1 : Nat) : Int)) := by show _ = _; omega
          have hmm : Hid ((j2 + 1).toNat < ((q : Int) + 1).toNat) := by show _ < _; omega
          have hst := unhide HHS c
          rw [← hS.out, ← hq] at hst
          have HST := hide hst
          have HSL : Hid (S < 4294967296 ^ 100) := by rw [hS.out]; exact unhide HHL c (by omega)
          have HS2 : Hid (S * 2 ^ 64 < 4294967296 ^ 102) := by
            show _ < _
            have := unhide HSL
            rw [show (4294967296 : Nat) ^ 102 = 4294967296 ^ 100 * 2 ^ 64 by decide +kernel]
            exact Nat.mul_lt_mul_of_pos_right this (by decide)
          obtain ⟨g, C, t0, t1, t2, rfl, rfl, a0, a1, a2, e3, c0, c1, c2⟩ := unhide HX wr q hbi (by omega)
          have HTQ : Hid (T q < 4294967296 ^ 102) := Nat.lt_trans (unhide HTL q) (by decide +kernel)
          have CT3 := hide (fun w => lawThree_any t0 t1 t2 w a0 a1 a2)
          rw [e3] at CT3
          have gl := World.block_lt_of_cell? _ _ c0
          have d0 : wr.cell? ⟨g, q * 3, none⟩ = some (.int .u64 (t0 : Int)) := c0
          have bl : Below W0.heap.size W0 wr.drew := hbi.drew
          have nd := hN.drew
          have HC0 : Hid (∀ W, Below wr.heap.size wr W → W.cell? ⟨g, q * 3, none⟩ = some (.int .u64 (t0 : Int)) ∧ W.cell? ⟨g, q * 3 + 1, none⟩ = some (.int .u64 (t1 : Int)) ∧ W.cell? ⟨g, q * 3 + 2, none⟩ = some (.int .u64 (t2 : Int))) := fun W b => ⟨(b.cell (p := ⟨g, q * 3, none⟩) gl).trans c0, (b.cell (p := ⟨g, q * 3 + 1, none⟩) gl).trans c1, (b.cell (p := ⟨g, q * 3 + 2, none⟩) gl).trans c2⟩
          have bw : Below wr.heap.size wr wr.drew := (Below.refl _ _).drew
          clear hq hci hS hst hj2 e3 a0 a1 a2 d0 hN hbi
          go_wp2
          go_region_with (first
            | (go_at_call 15; refine (shl_any _ _ S 64 100 (by omega) (unhide HSL) (by omega) nd).mono ?_; rintro e wA ⟨vA, rfl, nA, bA⟩; have bl := bl.trans (bA.mono bl.size); have bw := bw.trans (bA.mono bw.size); obtain ⟨c0, c1, c2⟩ := unhide HC0 _ bw; try have nB := nB.next bA)
            | (go_at_call 5; refine (unhide CT3 _).mono ?_; rintro e wB ⟨vB, rfl, nB, bB⟩; have bl := bl.trans (bB.mono bl.size); have bw := bw.trans (bB.mono bw.size); (try (have nd := nd.next bB)); (try (have nA := nA.next bB)))
            | (go_at_call 14; refine (add_any _ _ _ (S * 2 ^ 64) (T q) 102 (by omega) (unhide HS2) (unhide HTQ) nA nB).mono ?_; rintro e wD ⟨vD, rfl, nD, bD⟩; have bl := bl.trans (bD.mono bl.size)))
          all_goals
            focus
              go_wp2
              go_roundw
              case rel => exact ⟨c + 1, _, j2, by omega, by first | rfl | go_num, unhide hj3, (unhide HST).symm, nD, bl⟩
              case measure => simp [intOf]; have := unhide hmm; omega
        · obtain rfl : c = k := by omega
          have hi0 : ¬ 0 ≤ i := by omega
          have HS : Hid (S < 18446744073709551616 ^ 50) := by
            show _ < _
            rw [hS.out, ← wpow50]
            exact unhide HHL c (by omega)
          have hTS2 : TriS wr (.slice gw c cw) c T := (unhide hTS).next hbi
          have CCr := hide (unhide CC wr _ c T (by omega) hTS2)
          rw [← unhide HHE, ← hS.out] at CCr
          have bl := bstep (unhide hb) hbi
          clear hci hS hTS2
          go_wp2_with fail
          refine (unhide CCr).mono ?_
          rintro e w5 ⟨r, rfl, nr, b5⟩
          have hN := hN.next b5
          have bl := bstep bl b5
          clear b5 CCr
          go_wp2_with fail
          refine (same_new _ _ _ _ _ 50 (by omega) (unhide HS) hN nr).mono ?_
          rintro e w6 ⟨rfl, b6⟩
          have bl := bstep bl b6
          clear b6
          go_wp2_with fail
          refine (unhide CW _).mono ?_
          rintro e w7 ⟨rfl, b7⟩
          have bl := bstep bl b7
          go_wp2
          go_ret
          exact ⟨rfl, bl⟩

end Go.Proofs.Ytpifgkhgnilpdaa
