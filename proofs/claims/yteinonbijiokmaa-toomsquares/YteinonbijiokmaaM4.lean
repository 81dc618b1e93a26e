/- Mul: the product of two naturals. -/
import Derived.Test.YteinonbijiokmaaM2
import Derived.Deep.QuietTactic
import Derived.BigQuiet
import Derived.WalkSmall
namespace Go.Proofs.Yteinonbijiokmaa
open Go.RowKit

theorem getD_set (xs : List Nat) (k j d : Nat) (hk : k < xs.length) : (xs.set k d).getD j 0 = if j = k then d else xs.getD j 0 := by
  simp only [List.getD_eq_getElem?_getD, List.getElem?_set]
  by_cases h : k = j
  · subst h; simp [hk]
  · have : ¬ j = k := fun e => h e.symm
    simp [h, this]

theorem dig_set {xs : List Nat} {k d : Nat} (h : Dig xs) (hk : k < xs.length) (hd : d < 4294967296) : Dig (xs.set k d) := by
  intro j
  rw [getD_set xs k j d hk]
  split
  · exact hd
  · exact h j

theorem val_set : ∀ (xs : List Nat) (k d : Nat), k < xs.length → val (xs.set k d) + 4294967296 ^ k * xs.getD k 0 = val xs + 4294967296 ^ k * d
  | [], k, d, h => absurd h (by simp)
  | x :: xs, 0, d, _ => by simp [val]; omega
  | x :: xs, k + 1, d, h => by
    have ih := val_set xs k d (by simpa using h)
    simp only [List.set_cons_succ, val, List.getD_cons_succ, Nat.pow_succ]
    rw [Nat.mul_comm (4294967296 ^ k) 4294967296, Nat.mul_assoc, Nat.mul_assoc]
    omega

/-- Row i, j places of it done: c is carried. -/
def MulAt (ys o0 os : List Nat) (n i j x c : Nat) : Prop :=
  os.length = n ∧ Dig os ∧ c < 4294967296 ∧ (∀ t, i + ys.length ≤ t → os.getD t 0 = 0) ∧ val os + 4294967296 ^ (i + j) * c = val o0 + 4294967296 ^ i * (x * val (ys.take j))
/-- i rows done. -/
def MulRow (xs ys os : List Nat) (n i : Nat) : Prop :=
  os.length = n ∧ Dig os ∧ (∀ t, i + ys.length ≤ t → os.getD t 0 = 0) ∧ val os = val (xs.take i) * val ys

theorem mul_start (xs ys : List Nat) (n : Nat) : MulRow xs ys (List.replicate n 0) n 0 := by
  have hz : ∀ t, (List.replicate n 0).getD t 0 = 0 := fun t => by
    simp only [List.getD_eq_getElem?_getD, List.getElem?_replicate]; split <;> rfl
  refine ⟨by simp, fun j => by rw [hz]; omega, fun t _ => hz t, ?_⟩
  have : ∀ k, val (List.replicate k 0) = 0 := by
    intro k; induction k with
    | zero => rfl
    | succ k ih => rw [List.replicate_succ, val, ih]
  rw [this]; simp [val]

theorem mul_row {xs ys os : List Nat} {n i : Nat} (h : MulRow xs ys os n i) (x : Nat) : MulAt ys os os n i 0 x 0 :=
  ⟨h.1, h.2.1, by omega, h.2.2.1, by simp [val]⟩

theorem mul_bound {o x y c : Nat} (ho : o < 4294967296) (hx : x < 4294967296) (hy : y < 4294967296) (hc : c < 4294967296) : x * y ≤ 18446744065119617025 ∧ (o + x * y + c) / 4294967296 < 4294967296 ∧ o + x * y + c < 18446744073709551616 := by
  have : x * y ≤ 4294967295 * 4294967295 := Nat.mul_le_mul (by omega) (by omega)
  omega

theorem mul_step {ys o0 os : List Nat} {n i j x c : Nat} (h : MulAt ys o0 os n i j x c) (hx : x < 4294967296) (dy : Dig ys) (hj : j < ys.length) (hn : i + j < n) :
    MulAt ys o0 (os.set (i + j) ((os.getD (i + j) 0 + x * ys.getD j 0 + c) % 4294967296)) n i (j + 1) x ((os.getD (i + j) 0 + x * ys.getD j 0 + c) / 4294967296) := by
  obtain ⟨h1, h2, h3, h4, h5⟩ := h
  have hb := mul_bound (h2 (i + j)) hx (dy j) h3
  refine ⟨by simp [h1], dig_set h2 (by omega) (by omega), hb.2.1, fun t ht => ?_, ?_⟩
  · rw [getD_set _ _ _ _ (by omega), if_neg (by omega)]; exact h4 t ht
  · have hs := val_set os (i + j) ((os.getD (i + j) 0 + x * ys.getD j 0 + c) % 4294967296) (by omega)
    rw [val_take_succ, ← Nat.add_assoc, Nat.pow_succ]
    generalize os.getD (i + j) 0 = o at *
    have e1 : 4294967296 ^ (i + j) * 4294967296 * ((o + x * ys.getD j 0 + c) / 4294967296) + 4294967296 ^ (i + j) * ((o + x * ys.getD j 0 + c) % 4294967296) = 4294967296 ^ (i + j) * o + 4294967296 ^ (i + j) * (x * ys.getD j 0) + 4294967296 ^ (i + j) * c := by
      rw [Nat.mul_assoc, ← Nat.mul_add, Nat.div_add_mod, Nat.mul_add, Nat.mul_add]
    have e2 : 4294967296 ^ i * (x * (val (ys.take j) + 4294967296 ^ j * ys.getD j 0)) = 4294967296 ^ i * (x * val (ys.take j)) + 4294967296 ^ (i + j) * (x * ys.getD j 0) := by
      rw [Nat.mul_add, Nat.mul_add, Nat.pow_add, Nat.mul_left_comm x, Nat.mul_assoc]
    omega

theorem mul_rowend {xs ys o0 os : List Nat} {n i c : Nat} (h0 : MulRow xs ys o0 n i) (h : MulAt ys o0 os n i ys.length (xs.getD i 0) c) (hn : i + ys.length < n) : MulRow xs ys (os.set (i + ys.length) c) n (i + 1) := by
  obtain ⟨h1, h2, h3, h4, h5⟩ := h
  refine ⟨by simp [h1], dig_set h2 (by omega) h3, fun t ht => ?_, ?_⟩
  · rw [getD_set _ _ _ _ (by omega), if_neg (by omega)]; exact h4 t (by omega)
  · have hs := val_set os (i + ys.length) c (by omega)
    rw [h4 _ (Nat.le_refl _)] at hs
    rw [List.take_length] at h5
    rw [val_take_succ, Nat.add_mul, ← h0.2.2.2, Nat.mul_assoc]
    omega

theorem cells_set (os : List Nat) (k d : Nat) : (cellsOf os).set k (.int .u64 ((d : Nat) : Int)) = cellsOf (os.set k d) := by simp [cellsOf, List.map_set]
theorem cells_zero (n : Nat) : (madeCells #[Value.int .u64 0] n).toList = cellsOf (List.replicate n 0) := by
  rw [toList_madeCells_one]; simp [cellsOf]

theorem mul_s {z x y c : Nat} (hz : z < 4294967296) (hx : x < 4294967296) (hy : y < 4294967296) (hc : c < 4294967296) :
    IntKind.u64.wrap (IntKind.u64.wrap ((z : Int) + IntKind.u64.wrap ((x : Int) * (y : Int))) + (c : Int)) = ((z + x * y + c : Nat) : Int) := by
  obtain ⟨b1, _, b3⟩ := mul_bound hz hx hy hc
  have e : (x : Int) * (y : Int) = ((x * y : Nat) : Int) := (Int.natCast_mul x y).symm
  rw [e]
  generalize x * y = p at *
  rw [IntKind.wrap_u64, IntKind.wrap_u64, IntKind.wrap_u64]
  omega
theorem mul_carry {ps ys : List Nat} {k q x y z c : Nat} (HZ : z = ps.getD (k + q) 0) (HY : y = ys.getD q 0) (hz : z < 4294967296) (hx : x < 4294967296) (hy : y < 4294967296) (hc : c < 4294967296) :
    Value.int .u64 (IntKind.u64.wrap ((IntKind.u64.wrap (IntKind.u64.wrap ((z : Int) + IntKind.u64.wrap ((x : Int) * (y : Int))) + (c : Int))).tdiv 4294967296)) = .int .u64 (((ps.getD (k + q) 0 + x * ys.getD q 0 + c) / 4294967296 : Nat) : Int) := by
  rw [mul_s hz hx hy hc, ← HZ, ← HY]
  have b := (mul_bound hz hx hy hc).2.2
  generalize z + x * y + c = s at *
  rw [Int.tdiv_eq_ediv_of_nonneg (by omega), IntKind.wrap_u64]
  congr 1; omega
theorem mul_own {wr : World} {B t g n : Nat} {ps ys : List Nat} {k q x y z c : Nat} (h : wr.ownsRow B t 1 (.slice (some ⟨g, 0, none⟩) n n) n (cellsOf ps)) (HZ : z = ps.getD (k + q) 0) (HY : y = ys.getD q 0) (hz : z < 4294967296) (hx : x < 4294967296) (hy : y < 4294967296) (hc : c < 4294967296) (nq : Nat) :
    ((wr.drewN nq).setCell ⟨g, k + q, none⟩ (.int .u64 ((IntKind.u64.wrap (IntKind.u64.wrap ((z : Int) + IntKind.u64.wrap ((x : Int) * (y : Int))) + (c : Int))).tmod 4294967296))).ownsRow B t 1 (.slice (some ⟨g, 0, none⟩) n n) n (cellsOf (ps.set (k + q) ((ps.getD (k + q) 0 + x * ys.getD q 0 + c) % 4294967296))) := by
  rw [mul_s hz hx hy hc, ← HZ, ← HY, tmod_dig, ← cells_set]
  have h' : (wr.drewN nq).ownsRow B t 1 (.slice (some ⟨g, 0, none⟩) n n) n (cellsOf ps) := h
  exact (h'.stored _ _).1

set_option maxHeartbeats 3200000 in
theorem mul_rep (w : World) (ga gb : Option Addr) (ba oa bb ob ca cb la lb : Nat) (xs ys : List Nat) (hx : xs.length = la) (hy : ys.length = lb) (ha : la ≤ 1073741824) (hb : lb ≤ 1073741824)
    (hA : Rep w ga ba oa ca xs) (hB : Rep w gb bb ob cb ys) (dx : Dig xs) (dy : Dig ys) :
    Calls Try.prog 11 #[.slice ga la ca, .slice gb lb cb] w fun e w' => ∃ v, e = .returned v ∧ IsN w' v (val xs * val ys) ∧ Below w.heap.size w w' := by
  obtain ⟨i0, hi, hz0, hz1, hz2⟩ := info_parts Try.infoU
  go_enter Try.func11, Try.ntmps11
  go_wp2_with (at_make; refine wpList_make_full _ rfl _ _ 24 rfl w.heap.size 28 i0 (.int .u64 0) 1 Try.underlying24 hi hz0 hz1 _ _ _ _ (la + lb) rfl rfl ?b0 ?b1 ?b2 ?b3 (Nat.le_refl _) ?_)
  case b0 => omega
  case b1 => omega
  case b2 => rw [hz2]; omega
  case b3 => unfold maxLen; omega
  intro w0 hown0 hgrow0
  rw [cells_zero] at hown0
  go_wp2
  go_loopw [6] (fun i wr => ∃ (k : Nat) (os : List Nat), k ≤ la ∧ i = .int .i64 (k : Int) ∧
      wr.ownsRow w.heap.size 28 1 (.slice (some ⟨w.heap.size, 0, none⟩) (la + lb) (la + lb)) (la + lb) (cellsOf os) ∧ Hid (MulRow xs ys os (la + lb) k) ∧ Below w.heap.size w wr)
    (fun i _ => la - (intOf i).toNat)
  case atStart => exact ⟨0, _, Nat.zero_le _, rfl, hown0, mul_start xs ys _, (Below.refl _ _).grown hgrow0 (Nat.le_refl _) (fun k h => by cases h)⟩
  case round =>
    obtain ⟨k, os, hk, rfl, hown, hRow, hnx⟩ := hrel
    by_cases h1 : k < la
    · obtain rfl := hA.head (by omega)
      obtain ⟨x, HX⟩ : ∃ x : Nat, Hid (x = xs.getD k 0) := ⟨_, rfl⟩
      have hx32 : x < 4294967296 := by rw [HX.out]; exact dx k
      go_wp2
      go_loopw [7, 8] (fun c j wi => ∃ (q cy : Nat) (ps : List Nat), q ≤ lb ∧ j = .int .i64 (q : Int) ∧ c = .int .u64 (cy : Int) ∧ cy < 4294967296 ∧
          wi.ownsRow w.heap.size 28 1 (.slice (some ⟨w.heap.size, 0, none⟩) (la + lb) (la + lb)) (la + lb) (cellsOf ps) ∧ Hid (MulAt ys os ps (la + lb) k q x cy) ∧ Below w.heap.size w wi)
        (fun _ j _ => lb - (intOf j).toNat)
      case atStart => exact ⟨0, 0, os, Nat.zero_le _, rfl, rfl, by omega, hown, mul_row hRow.out x, hnx⟩
      case round =>
        obtain ⟨q, cy, ps, hq, rfl, rfl, hcy, howni, hAt, hni⟩ := hrel
        by_cases h2 : q < lb
        · obtain rfl := hB.head (by omega)
          obtain ⟨y, HY⟩ : ∃ y : Nat, Hid (y = ys.getD q 0) := ⟨_, rfl⟩
          obtain ⟨z, HZ⟩ : ∃ z : Nat, Hid (z = ps.getD (k + q) 0) := ⟨_, rfl⟩
          have hy32 : y < 4294967296 := by rw [HY.out]; exact dy q
          have hz32 : z < 4294967296 := by rw [HZ.out]; exact hAt.out.2.1 _
          have cx : wr.cell? ⟨ba, oa + k, none⟩ = some (.int .u64 (x : Int)) := by rw [HX.out]; exact (hni.cell (by exact hA.lt (by omega))).trans (hA.cell k (by omega))
          have cy' : wr.cell? ⟨bb, ob + q, none⟩ = some (.int .u64 (y : Int)) := by rw [HY.out]; exact (hni.cell (by exact hB.lt (by omega))).trans (hB.cell q (by omega))
          have hrep := (rep_of_owns howni).2
          have hl := (rep_of_owns howni).1
          have cz : wr.cell? ⟨w.heap.size, k + q, none⟩ = some (.int .u64 (z : Int)) := by rw [HZ.out]; have := hrep.cell (k + q) (by omega); rwa [Nat.zero_add] at this
          have fz := howni.frozenAt (k + q)
          clear hrep hl
          go_wp2
          go_quiet (fail)
          go_wp2
          go_roundw
          case rel => exact ⟨q + 1, _, _, by omega, by go_num, mul_carry HZ.out HY.out hz32 hx32 hy32 hcy, (mul_bound (by rw [← HZ.out]; exact hz32) hx32 (dy q) hcy).2.1, mul_own howni HZ.out HY.out hz32 hx32 hy32 hcy nq, mul_step hAt.out hx32 dy (by omega) (by omega), (below_drewN hni nq).setCell (Nat.le_refl _) _⟩
          case measure => simp [intOf]; omega
        · obtain rfl : q = lb := by omega
          subst hy
          have hrep := (rep_of_owns howni).2
          have hl := (rep_of_owns howni).1
          have cz : wr.cell? ⟨w.heap.size, k + ys.length, none⟩ = some (.int .u64 ((ps.getD (k + ys.length) 0 : Nat) : Int)) := by have := hrep.cell (k + ys.length) (by omega); rwa [Nat.zero_add] at this
          have fz := howni.frozenAt (k + ys.length)
          have HR := hide (mul_rowend (c := cy) hRow.out (by rw [← HX.out]; exact hAt.out) (by omega))
          have HO := hide (howni.stored (k + ys.length) (.int .u64 (cy : Int))).1
          clear hrep hl
          go_wp2
          go_roundw
          case rel => exact ⟨k + 1, _, by omega, by go_num, by have := HO.out; rwa [cells_set] at this, HR, hni.setCell (Nat.le_refl _) _⟩
          case measure => simp [intOf]; omega
    · obtain rfl : k = la := by omega
      obtain ⟨hl, hrep⟩ := rep_of_owns hown
      have he := hRow.out.2.2.2
      rw [List.take_of_length_le (by omega)] at he
      have hd := hRow.out.2.1
      have HE := hide he
      clear he
      go_wp2_with fail
      refine (norm_isN _ _ _ _ _ _ _ hl (by omega) hrep hd).mono ?_
      rintro e w' ⟨v, rfl, hN, rfl⟩
      go_wp2
      go_ret
      exact ⟨v, rfl, by rw [← HE.out]; exact hN, hnx⟩

theorem mul_any (w : World) (u v : Value) (m n L : Nat) (hL : L ≤ 1073741824) (hm : m < 4294967296 ^ L) (hn : n < 4294967296 ^ L) (hu : IsN w u m) (hv : IsN w v n) :
    Calls Try.prog 11 #[u, v] w fun e w' => ∃ r, e = .returned r ∧ IsN w' r (m * n) ∧ Below w.heap.size w w' := by
  obtain ⟨ga, ba, oa, ca, xs, rfl, hA, cA, rfl⟩ := hu
  obtain ⟨gb, bb, ob, cb, ys, rfl, hB, cB, rfl⟩ := hv
  have la := len_le cA hm
  have lb := len_le cB hn
  exact mul_rep w ga gb ba oa bb ob ca cb _ _ xs ys rfl rfl (by omega) (by omega) hA hB cA.1 cB.1

end Go.Proofs.Yteinonbijiokmaa

/- Plain mathematics of naturals as rows of words of 64 bits, the lowest first. Nothing of any program here. -/
namespace Go.Proofs.Yteinonbijiokmaa

/-- Every word is below the base. -/
def WDig (xs : List Nat) : Prop := ∀ j, xs.getD j 0 < 18446744073709551616

/-- Words, and no nought on top. -/
def WCan (xs : List Nat) : Prop := WDig xs ∧ (0 < xs.length → 0 < xs.getD (xs.length - 1) 0)

theorem wDig_nil : WDig [] := fun j => by simp
theorem wCan_nil : WCan [] := ⟨wDig_nil, fun h => absurd h (by simp)⟩

theorem wDig_snoc {xs : List Nat} {d : Nat} (h : WDig xs) (hd : d < 18446744073709551616) : WDig (xs ++ [d]) := by
  intro j
  rw [getD_append]
  split
  · exact h j
  · generalize j - xs.length = k
    match k with
    | 0 => simpa using hd
    | k + 1 => simp

theorem wDig_take {xs : List Nat} (h : WDig xs) (k : Nat) : WDig (xs.take k) := by
  intro j
  simp only [List.getD_eq_getElem?_getD, List.getElem?_take]
  split
  · have := h j; simpa [List.getD_eq_getElem?_getD] using this
  · simp

theorem wval_append (xs ys : List Nat) : wval (xs ++ ys) = wval xs + 18446744073709551616 ^ xs.length * wval ys := by
  induction xs with
  | nil => simp [wval]
  | cons d ds ih =>
    simp only [List.cons_append, wval, ih, List.length_cons, Nat.pow_succ, Nat.mul_add]
    rw [Nat.mul_comm (18446744073709551616 ^ ds.length) 18446744073709551616, Nat.mul_assoc]
    omega

theorem wval_snoc (xs : List Nat) (d : Nat) : wval (xs ++ [d]) = wval xs + 18446744073709551616 ^ xs.length * d := by
  rw [wval_append]; simp [wval]

theorem wval_take_succ (xs : List Nat) (k : Nat) : wval (xs.take (k + 1)) = wval (xs.take k) + 18446744073709551616 ^ k * xs.getD k 0 := by
  by_cases h : k < xs.length
  · rw [take_snoc xs k h, wval_snoc, List.length_take, Nat.min_eq_left (by omega)]
  · rw [List.take_of_length_le (by omega), List.take_of_length_le (by omega), getD_ge (by omega)]; simp

theorem wval_take_ge (xs : List Nat) (k : Nat) (h : xs.length ≤ k) : wval (xs.take k) = wval xs := by rw [List.take_of_length_le h]

theorem wval_lt {xs : List Nat} (h : WDig xs) : ∀ k, wval (xs.take k) < 18446744073709551616 ^ k
  | 0 => by simp [wval]
  | k + 1 => by
    rw [wval_take_succ]
    have h1 := wval_lt h k
    have h2 := h k
    have h3 : 18446744073709551616 ^ k * xs.getD k 0 ≤ 18446744073709551616 ^ k * 18446744073709551615 := Nat.mul_le_mul_left _ (by omega)
    have h4 : 18446744073709551616 ^ (k + 1) = 18446744073709551616 ^ k * 18446744073709551615 + 18446744073709551616 ^ k := by rw [Nat.pow_succ, ← Nat.mul_succ]
    omega

theorem wval_lt_pow {xs : List Nat} (h : WDig xs) : wval xs < 18446744073709551616 ^ xs.length := by
  have := wval_lt h xs.length
  rwa [List.take_length] at this

theorem wval_drop (xs : List Nat) (k : Nat) : wval xs = wval (xs.take k) + 18446744073709551616 ^ k * wval (xs.drop k) := by
  by_cases h : k ≤ xs.length
  · have := wval_append (xs.take k) (xs.drop k)
    rw [List.take_append_drop, List.length_take, Nat.min_eq_left h] at this
    exact this
  · rw [List.take_of_length_le (by omega), List.drop_eq_nil_of_le (by omega)]; simp [wval]

theorem wval_ge {xs : List Nat} (h : WCan xs) (hl : 0 < xs.length) : 18446744073709551616 ^ (xs.length - 1) ≤ wval xs := by
  have h1 := wval_take_succ xs (xs.length - 1)
  rw [show xs.length - 1 + 1 = xs.length from by omega, List.take_length] at h1
  have h2 := h.2 hl
  have h3 : 18446744073709551616 ^ (xs.length - 1) * 1 ≤ 18446744073709551616 ^ (xs.length - 1) * xs.getD (xs.length - 1) 0 := Nat.mul_le_mul_left _ (by omega)
  omega

theorem wlen_lt {xs ys : List Nat} (hx : WDig xs) (hy : WCan ys) (h : xs.length < ys.length) : wval xs < wval ys := by
  have h1 := wval_lt_pow hx
  have h2 := wval_ge hy (by omega)
  have h3 : 18446744073709551616 ^ xs.length ≤ 18446744073709551616 ^ (ys.length - 1) := Nat.pow_le_pow_right (by omega) (by omega)
  omega

/-- Digits above place i are the same, the digit at i is less: the number is less. -/
theorem wDig_below {xs ys : List Nat} (hx : WDig xs) (i : Nat) (hd : xs.drop (i + 1) = ys.drop (i + 1)) (h : xs.getD i 0 < ys.getD i 0) : wval xs < wval ys := by
  have h1 := wval_drop xs (i + 1)
  have h2 := wval_drop ys (i + 1)
  rw [wval_take_succ] at h1 h2
  have h3 := wval_lt hx i
  have h4 : 18446744073709551616 ^ i * (xs.getD i 0 + 1) ≤ 18446744073709551616 ^ i * ys.getD i 0 := Nat.mul_le_mul_left _ (by omega)
  rw [Nat.mul_succ] at h4
  rw [hd] at h1
  omega

theorem wCan_unique {xs ys : List Nat} (hx : WCan xs) (hy : WCan ys) (h : wval xs = wval ys) : xs = ys := by
  have hl : xs.length = ys.length := by
    rcases Nat.lt_trichotomy xs.length ys.length with l | l | l
    · have := wlen_lt hx.1 hy l; omega
    · exact l
    · have := wlen_lt hy.1 hx l; omega
  have key : ∀ k, k ≤ xs.length → xs.drop (xs.length - k) = ys.drop (xs.length - k) := by
    intro k
    induction k with
    | zero => intro _; rw [Nat.sub_zero, List.drop_eq_nil_of_le (Nat.le_refl _), List.drop_eq_nil_of_le (by omega)]
    | succ k ih =>
      intro hk
      have ih := ih (by omega)
      have e : xs.length - k = xs.length - (k + 1) + 1 := by omega
      rw [e] at ih
      refine drop_step _ (by omega) hl ih ?_
      rcases Nat.lt_trichotomy (xs.getD (xs.length - (k + 1)) 0) (ys.getD (xs.length - (k + 1)) 0) with l | l | l
      · have := wDig_below hx.1 _ ih l; omega
      · exact l
      · have := wDig_below hy.1 _ ih.symm l; omega
  have := key xs.length (Nat.le_refl _)
  simpa using this

theorem nlen_wval (xs : List Nat) : ∀ k, wval (xs.take (nlen xs k)) = wval (xs.take k)
  | 0 => rfl
  | k + 1 => by
    unfold nlen; split
    · rename_i h; rw [nlen_wval xs k, wval_take_succ, h]; simp
    · rfl
theorem nrm_wval (xs : List Nat) : wval (nrm xs) = wval xs := by
  have := nlen_wval xs xs.length
  rw [List.take_length] at this; exact this
theorem nrm_wcan {xs : List Nat} (h : WDig xs) : WCan (nrm xs) := by
  refine ⟨wDig_take h _, fun hl => ?_⟩
  rw [nrm_length] at hl ⊢
  have h1 := nlen_top xs xs.length hl
  unfold nrm
  rw [List.getD_eq_getElem?_getD, List.getElem?_take, if_pos (by omega)]
  rwa [List.getD_eq_getElem?_getD] at h1

/-- A small number has few digits. -/
theorem wlen_le {xs : List Nat} (h : WCan xs) {L : Nat} (hv : wval xs < 18446744073709551616 ^ L) : xs.length ≤ L := by
  refine Nat.le_of_not_lt fun hl => ?_
  have h1 := wval_ge h (by omega)
  have h2 : 18446744073709551616 ^ L ≤ 18446744073709551616 ^ (xs.length - 1) := Nat.pow_le_pow_right (by omega) (by omega)
  omega

theorem wDig_set {xs : List Nat} {k d : Nat} (h : WDig xs) (hk : k < xs.length) (hd : d < 18446744073709551616) : WDig (xs.set k d) := by
  intro j
  rw [getD_set xs k j d hk]
  split
  · exact hd
  · exact h j

theorem wval_set : ∀ (xs : List Nat) (k d : Nat), k < xs.length → wval (xs.set k d) + 18446744073709551616 ^ k * xs.getD k 0 = wval xs + 18446744073709551616 ^ k * d
  | [], k, d, h => absurd h (by simp)
  | x :: xs, 0, d, _ => by simp [wval]; omega
  | x :: xs, k + 1, d, h => by
    have ih := wval_set xs k d (by simpa using h)
    simp only [List.set_cons_succ, wval, List.getD_cons_succ, Nat.pow_succ]
    rw [Nat.mul_comm (18446744073709551616 ^ k) 18446744073709551616, Nat.mul_assoc, Nat.mul_assoc]
    omega


theorem wzeros (n : Nat) : WDig (List.replicate n 0) ∧ wval (List.replicate n 0) = 0 := by
  constructor
  · intro j
    have : (List.replicate n 0).getD j 0 = 0 := by
      simp only [List.getD_eq_getElem?_getD, List.getElem?_replicate]; split <;> rfl
    omega
  · induction n with
    | zero => rfl
    | succ k ih => rw [List.replicate_succ, wval, ih]

theorem wval_one (x : Nat) : wval [x] = x := by simp [wval]
theorem wDig_one {x : Nat} (h : x < 18446744073709551616) : WDig [x] := fun j => by
  match j with
  | 0 => simpa using h
  | j + 1 => simp
theorem wDig_append {xs ys : List Nat} (h : WDig xs) (k : WDig ys) : WDig (xs ++ ys) := by
  intro j; rw [getD_append]; split
  · exact h j
  · exact k _
theorem wDig_drop {xs : List Nat} (h : WDig xs) (k : Nat) : WDig (xs.drop k) := by
  intro j
  have e : (xs.drop k).getD j 0 = xs.getD (k + j) 0 := by simp [List.getD_eq_getElem?_getD]
  rw [e]; exact h _
theorem wDig_mem {xs : List Nat} (h : WDig xs) : ∀ x ∈ xs, x < 18446744073709551616 := by
  intro x hx
  obtain ⟨j, hj, rfl⟩ := List.getElem_of_mem hx
  have := h j
  rwa [getD_lt hj] at this

/-- B to the p, of words and of digits. -/
theorem wpow (p : Nat) : 18446744073709551616 ^ p = 4294967296 ^ (2 * p) := by
  rw [Nat.pow_mul]
theorem wpow_pos (p : Nat) : 0 < 18446744073709551616 ^ p := Nat.pow_pos (by omega)
theorem pow_sum {m n p : Nat} (hm : m < 18446744073709551616 ^ p) (hn : n < 18446744073709551616 ^ p) : m + n < 18446744073709551616 ^ (p + 1) := by
  rw [Nat.pow_succ]; omega
theorem pow_times {m p x : Nat} (hm : m < 18446744073709551616 ^ p) (hx : x < 18446744073709551616) : m * x < 18446744073709551616 ^ (p + 1) := by
  rw [Nat.pow_succ]
  exact Nat.mul_lt_mul_of_lt_of_le hm (by omega) (by omega)
theorem pow_up {m p q : Nat} (hm : m < 18446744073709551616 ^ p) (h : p ≤ q) : m < 18446744073709551616 ^ q := Nat.lt_of_lt_of_le hm (Nat.pow_le_pow_right (by omega) h)

end Go.Proofs.Yteinonbijiokmaa

/- Cmp: how two naturals stand to each other. -/
namespace Go.Proofs.Yteinonbijiokmaa
open Go.RowKit

set_option maxHeartbeats 800000 in
theorem cmp_len (w : World) (ga gb : Option Addr) (ca cb la lb : Nat) (_ha : la ≤ 1099511627776) (_hb : lb ≤ 1099511627776) (h : la < lb ∨ lb < la) :
    Calls Try.prog 46 #[.slice ga la ca, .slice gb lb cb] w fun e w' => e = .returned (.int .i64 (if la < lb then -1 else 1)) ∧ w' = w := by
  rcases h with h | h
  · have hne : ((la : Int) != (lb : Int)) = true := by rw [bne_iff_ne]; omega
    go_enter Try.func46, Try.ntmps46
    go_wp2
    go_ret
    exact ⟨ret_int rfl, rfl⟩
  · have hne : ((la : Int) != (lb : Int)) = true := by rw [bne_iff_ne]; omega
    have hn : ¬ la < lb := by omega
    go_enter Try.func46, Try.ntmps46
    go_wp2
    go_ret
    exact ⟨ret_int rfl, rfl⟩

set_option maxHeartbeats 1600000 in
theorem cmp_dig (w : World) (ga gb : Option Addr) (ba oa bb ob ca cb : Nat) (xs ys : List Nat) (n : Nat) (hx : xs.length = n) (hy : ys.length = n) (ha : n ≤ 1099511627776)
    (hA : Rep w ga ba oa ca xs) (hB : Rep w gb bb ob cb ys) (dx : Dig xs) (dy : Dig ys) :
    Calls Try.prog 46 #[.slice ga n ca, .slice gb n cb] w fun e w' => e = .returned (.int .i64 (cmpN (val xs) (val ys))) ∧ Below w.heap.size w w' := by
  have hne : ((n : Int) != (n : Int)) = false := by simp
  go_enter Try.func46, Try.ntmps46
  go_wp2
  go_loopw [5] (fun i wr => ∃ k : Nat, k ≤ n ∧ i = .int .i64 ((k : Int) - 1) ∧ Hid (xs.drop k = ys.drop k) ∧ Below w.heap.size w wr) (fun i _ => (intOf i + 1).toNat)
  case atStart => exact ⟨n, Nat.le_refl _, rfl, by show xs.drop n = ys.drop n; rw [List.drop_eq_nil_of_le (by omega), List.drop_eq_nil_of_le (by omega)], Below.refl _ _⟩
  case round =>
    obtain ⟨k, hk, rfl, hD, hnx⟩ := hrel
    by_cases hlt : 0 < k
    · obtain ⟨j, rfl⟩ : ∃ j, k = j + 1 := ⟨k - 1, by omega⟩
      have ej : ((j + 1 : Nat) : Int) - 1 = (j : Int) := by omega
      rw [ej]
      obtain rfl := hA.head (by omega)
      obtain rfl := hB.head (by omega)
      obtain ⟨x, HX⟩ : ∃ x : Nat, Hid (x = xs.getD j 0) := ⟨_, rfl⟩
      obtain ⟨y, HY⟩ : ∃ y : Nat, Hid (y = ys.getD j 0) := ⟨_, rfl⟩
      have cx : wr.cell? ⟨ba, oa + j, none⟩ = some (.int .u64 (x : Int)) := by rw [HX.out]; exact (hnx.cell (by exact hA.lt (by omega))).trans (hA.cell j (by omega))
      have cy : wr.cell? ⟨bb, ob + j, none⟩ = some (.int .u64 (y : Int)) := by rw [HY.out]; exact (hnx.cell (by exact hB.lt (by omega))).trans (hB.cell j (by omega))
      rcases Nat.lt_trichotomy x y with l | l | l
      · have e := cmpN_lt (dig_below dx j hD.out (by rw [← HX.out, ← HY.out]; exact l))
        have E := hide e
        clear e
        go_wp2
        go_quiet (fail)
        go_wp2
        go_ret
        exact ⟨ret_int (unhide E).symm, below_drewN hnx _⟩
      · have l1 : ¬ x < y := by omega
        have l2 : ¬ y < x := by omega
        have H := hide (drop_step j (by omega) (hx.trans hy.symm) hD.out (by rw [← HX.out, ← HY.out]; exact l))
        clear l
        go_wp2
        go_quiet (fail)
        go_wp2
        go_quiet (fail)
        go_wp2
        go_roundw
        case rel => exact ⟨j, by omega, by go_num, H, below_drewN hnx _⟩
        case measure => simp [intOf]
      · have l1 : ¬ x < y := by omega
        have e := cmpN_gt (dig_below dy j hD.out.symm (by rw [← HX.out, ← HY.out]; exact l))
        have E := hide e
        clear e
        go_wp2
        go_quiet (fail)
        go_wp2
        go_quiet (fail)
        go_wp2
        go_ret
        exact ⟨ret_int (unhide E).symm, below_drewN (below_drewN hnx _) _⟩
    · obtain rfl : k = 0 := by omega
      have e := cmpN_eq (congrArg val (by simpa using hD.out : xs = ys))
      have E := hide e
      clear e
      go_wp2
      go_ret
      exact ⟨ret_int (unhide E).symm, hnx⟩

theorem cmp_any (w : World) (u v : Value) (m n L : Nat) (hL : L ≤ 1073741824) (hm : m < 4294967296 ^ L) (hn : n < 4294967296 ^ L) (hu : IsN w u m) (hv : IsN w v n) :
    Calls Try.prog 46 #[u, v] w fun e w' => e = .returned (.int .i64 (cmpN m n)) ∧ Below w.heap.size w w' := by
  obtain ⟨ga, ba, oa, ca, xs, rfl, hA, cA, rfl⟩ := hu
  obtain ⟨gb, bb, ob, cb, ys, rfl, hB, cB, rfl⟩ := hv
  have la := len_le cA hm
  have lb := len_le cB hn
  by_cases h : xs.length = ys.length
  · rw [h]
    exact cmp_dig w ga gb ba oa bb ob ca cb xs ys ys.length h rfl (by omega) hA hB cA.1 cB.1
  · refine (cmp_len w ga gb ca cb xs.length ys.length (by omega) (by omega) (by omega)).mono ?_
    rintro e w' ⟨rfl, rfl⟩
    refine ⟨ret_int ?_, Below.refl _ _⟩
    by_cases hl : xs.length < ys.length
    · rw [if_pos hl, cmpN_lt (len_lt cA.1 cB hl)]
    · rw [if_neg hl, cmpN_gt (len_lt cB.1 cA (by omega))]

end Go.Proofs.Yteinonbijiokmaa

/- Products in two pieces: plain mathematics. Nothing of any program here. -/
namespace Go.Proofs.Yteinonbijiokmaa

/-- The product of sums holds both products of pieces. -/
theorem kara_le (a0 a1 b0 b1 : Nat) : a0 * b0 + a1 * b1 ≤ (a0 + a1) * (b0 + b1) := by
  have e : (a0 + a1) * (b0 + b1) = a0 * b0 + a1 * b1 + (a0 * b1 + a1 * b0) := by grind
  omega
theorem kara_rest (a0 a1 b0 b1 : Nat) : (a0 + a1) * (b0 + b1) - (a0 * b0 + a1 * b1) = a0 * b1 + a1 * b0 := by
  have e : (a0 + a1) * (b0 + b1) = a0 * b0 + a1 * b1 + (a0 * b1 + a1 * b0) := by grind
  omega
/-- Three products of pieces are the product. -/
theorem kara_value (P a0 a1 b0 b1 : Nat) : a0 * b0 + P * ((a0 + a1) * (b0 + b1) - (a0 * b0 + a1 * b1)) + P * P * (a1 * b1) = (a0 + P * a1) * (b0 + P * b1) := by
  rw [kara_rest]
  grind
/-- By rows: cut behind h words. -/
theorem kara_rows (xs ys : List Nat) (h : Nat) : wval (xs.take h) * wval (ys.take h) + 18446744073709551616 ^ h * ((wval (xs.take h) + wval (xs.drop h)) * (wval (ys.take h) + wval (ys.drop h)) - (wval (xs.take h) * wval (ys.take h) + wval (xs.drop h) * wval (ys.drop h))) + 18446744073709551616 ^ (2 * h) * (wval (xs.drop h) * wval (ys.drop h)) = wval xs * wval ys := by
  rw [wval_drop xs h, wval_drop ys h, show 2 * h = h + h by omega, Nat.pow_add]
  exact kara_value _ _ _ _ _
/-- A sum of two pieces of at most h words has h + 1 words. -/
theorem kara_sum_lt {a0 a1 h : Nat} (h0 : a0 < 18446744073709551616 ^ h) (h1 : a1 < 18446744073709551616 ^ h) : a0 + a1 < 18446744073709551616 ^ (h + 1) := by
  rw [Nat.pow_succ]
  omega

end Go.Proofs.Yteinonbijiokmaa
