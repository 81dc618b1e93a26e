/- Mul: the product of two naturals. -/
import Derived.Test.YtnmddjakfhlnnaaFrom
import Derived.Deep.QuietTactic
import Derived.BigQuiet
import Derived.WalkSmall
namespace Go.Proofs.Ytnmddjakfhlnnaa
open Go.RowKit

theorem getD_set (xs : List Nat) (k j d : Nat) (hk : k < xs.length) : (xs.set k d).getD j 0 = if j = k then d else xs.getD j 0 := by
  simp only [List.getD_eq_getElem?_getD, List.getElem?_set]
  by_cases h : k = j
  · subst h; simp [hk]
  · have : ¬ j = k := fun e => h e.symm
    simp [h, this]

theorem dig_set {xs : List Nat} {k d : Nat} (h : Dig xs) (hk : k < xs.length) (hd : d < 4294967296) : Dig (xs.set k d) := by
  intro j
  rw [getD_set xs k j d hk]
  split
  · exact hd
  · exact h j

theorem val_set : ∀ (xs : List Nat) (k d : Nat), k < xs.length → val (xs.set k d) + 4294967296 ^ k * xs.getD k 0 = val xs + 4294967296 ^ k * d
  | [], k, d, h => absurd h (by simp)
  | x :: xs, 0, d, _ => by simp [val]; omega
  | x :: xs, k + 1, d, h => by
    have ih := val_set xs k d (by simpa using h)
    simp only [List.set_cons_succ, val, List.getD_cons_succ, Nat.pow_succ]
    rw [Nat.mul_comm (4294967296 ^ k) 4294967296, Nat.mul_assoc, Nat.mul_assoc]
    omega

/-- Row i, j places of it done: c is carried. -/
def MulAt (ys o0 os : List Nat) (n i j x c : Nat) : Prop :=
  os.length = n ∧ Dig os ∧ c < 4294967296 ∧ (∀ t, i + ys.length ≤ t → os.getD t 0 = 0) ∧ val os + 4294967296 ^ (i + j) * c = val o0 + 4294967296 ^ i * (x * val (ys.take j))
/-- i rows done. -/
def MulRow (xs ys os : List Nat) (n i : Nat) : Prop :=
  os.length = n ∧ Dig os ∧ (∀ t, i + ys.length ≤ t → os.getD t 0 = 0) ∧ val os = val (xs.take i) * val ys

theorem mul_start (xs ys : List Nat) (n : Nat) : MulRow xs ys (List.replicate n 0) n 0 := by
  have hz : ∀ t, (List.replicate n 0).getD t 0 = 0 := fun t => by
    simp only [List.getD_eq_getElem?_getD, List.getElem?_replicate]; split <;> rfl
  refine ⟨by simp, fun j => by rw [hz]; omega, fun t _ => hz t, ?_⟩
  have : ∀ k, val (List.replicate k 0) = 0 := by
    intro k; induction k with
    | zero => rfl
    | succ k ih => rw [List.replicate_succ, val, ih]
  rw [this]; simp [val]

theorem mul_row {xs ys os : List Nat} {n i : Nat} (h : MulRow xs ys os n i) (x : Nat) : MulAt ys os os n i 0 x 0 :=
  ⟨h.1, h.2.1, by omega, h.2.2.1, by simp [val]⟩

theorem mul_bound {o x y c : Nat} (ho : o < 4294967296) (hx : x < 4294967296) (hy : y < 4294967296) (hc : c < 4294967296) : x * y ≤ 18446744065119617025 ∧ (o + x * y + c) / 4294967296 < 4294967296 ∧ o + x * y + c < 18446744073709551616 := by
  have : x * y ≤ 4294967295 * 4294967295 := Nat.mul_le_mul (by omega) (by omega)
  omega

theorem mul_step {ys o0 os : List Nat} {n i j x c : Nat} (h : MulAt ys o0 os n i j x c) (hx : x < 4294967296) (dy : Dig ys) (hj : j < ys.length) (hn : i + j < n) :
    MulAt ys o0 (os.set (i + j) ((os.getD (i + j) 0 + x * ys.getD j 0 + c) % 4294967296)) n i (j + 1) x ((os.getD (i + j) 0 + x * ys.getD j 0 + c) / 4294967296) := by
  obtain ⟨h1, h2, h3, h4, h5⟩ := h
  have hb := mul_bound (h2 (i + j)) hx (dy j) h3
  refine ⟨by simp [h1], dig_set h2 (by omega) (by omega), hb.2.1, fun t ht => ?_, ?_⟩
  · rw [getD_set _ _ _ _ (by omega), if_neg (by omega)]; exact h4 t ht
  · have hs := val_set os (i + j) ((os.getD (i + j) 0 + x * ys.getD j 0 + c) % 4294967296) (by omega)
    rw [val_take_succ, ← Nat.add_assoc, Nat.pow_succ]
    generalize os.getD (i + j) 0 = o at *
    have e1 : 4294967296 ^ (i + j) * 4294967296 * ((o + x * ys.getD j 0 + c) / 4294967296) + 4294967296 ^ (i + j) * ((o + x * ys.getD j 0 + c) % 4294967296) = 4294967296 ^ (i + j) * o + 4294967296 ^ (i + j) * (x * ys.getD j 0) + 4294967296 ^ (i + j) * c := by
      rw [Nat.mul_assoc, ← Nat.mul_add, Nat.div_add_mod, Nat.mul_add, Nat.mul_add]
    have e2 : 4294967296 ^ i * (x * (val (ys.take j) + 4294967296 ^ j * ys.getD j 0)) = 4294967296 ^ i * (x * val (ys.take j)) + 4294967296 ^ (i + j) * (x * ys.getD j 0) := by
      rw [Nat.mul_add, Nat.mul_add, Nat.pow_add, Nat.mul_left_comm x, Nat.mul_assoc]
    omega

theorem mul_rowend {xs ys o0 os : List Nat} {n i c : Nat} (h0 : MulRow xs ys o0 n i) (h : MulAt ys o0 os n i ys.length (xs.getD i 0) c) (hn : i + ys.length < n) : MulRow xs ys (os.set (i + ys.length) c) n (i + 1) := by
  obtain ⟨h1, h2, h3, h4, h5⟩ := h
  refine ⟨by simp [h1], dig_set h2 (by omega) h3, fun t ht => ?_, ?_⟩
  · rw [getD_set _ _ _ _ (by omega), if_neg (by omega)]; exact h4 t (by omega)
  · have hs := val_set os (i + ys.length) c (by omega)
    rw [h4 _ (Nat.le_refl _)] at hs
    rw [List.take_length] at h5
    rw [val_take_succ, Nat.add_mul, ← h0.2.2.2, Nat.mul_assoc]
    omega

theorem cells_set (os : List Nat) (k d : Nat) : (cellsOf os).set k (.int .u64 ((d : Nat) : Int)) = cellsOf (os.set k d) := by simp [cellsOf, List.map_set]
theorem cells_zero (n : Nat) : (madeCells #[Value.int .u64 0] n).toList = cellsOf (List.replicate n 0) := by
  rw [toList_madeCells_one]; simp [cellsOf]

theorem mul_s {z x y c : Nat} (hz : z < 4294967296) (hx : x < 4294967296) (hy : y < 4294967296) (hc : c < 4294967296) :
    IntKind.u64.wrap (IntKind.u64.wrap ((z : Int) + IntKind.u64.wrap ((x : Int) * (y : Int))) + (c : Int)) = ((z + x * y + c : Nat) : Int) := by
  obtain ⟨b1, _, b3⟩ := mul_bound hz hx hy hc
  have e : (x : Int) * (y : Int) = ((x * y : Nat) : Int) := (Int.natCast_mul x y).symm
  rw [e]
  generalize x * y = p at *
  rw [IntKind.wrap_u64, IntKind.wrap_u64, IntKind.wrap_u64]
  omega
theorem mul_carry {ps ys : List Nat} {k q x y z c : Nat} (HZ : z = ps.getD (k + q) 0) (HY : y = ys.getD q 0) (hz : z < 4294967296) (hx : x < 4294967296) (hy : y < 4294967296) (hc : c < 4294967296) :
    Value.int .u64 (IntKind.u64.wrap ((IntKind.u64.wrap (IntKind.u64.wrap ((z : Int) + IntKind.u64.wrap ((x : Int) * (y : Int))) + (c : Int))).tdiv 4294967296)) = .int .u64 (((ps.getD (k + q) 0 + x * ys.getD q 0 + c) / 4294967296 : Nat) : Int) := by
  rw [mul_s hz hx hy hc, ← HZ, ← HY]
  have b := (mul_bound hz hx hy hc).2.2
  generalize z + x * y + c = s at *
  rw [Int.tdiv_eq_ediv_of_nonneg (by omega), IntKind.wrap_u64]
  congr 1; omega
theorem mul_own {wr : World} {B t g n : Nat} {ps ys : List Nat} {k q x y z c : Nat} (h : wr.ownsRow B t 1 (.slice (some ⟨g, 0, none⟩) n n) n (cellsOf ps)) (HZ : z = ps.getD (k + q) 0) (HY : y = ys.getD q 0) (hz : z < 4294967296) (hx : x < 4294967296) (hy : y < 4294967296) (hc : c < 4294967296) (nq : Nat) :
    ((wr.drewN nq).setCell ⟨g, k + q, none⟩ (.int .u64 ((IntKind.u64.wrap (IntKind.u64.wrap ((z : Int) + IntKind.u64.wrap ((x : Int) * (y : Int))) + (c : Int))).tmod 4294967296))).ownsRow B t 1 (.slice (some ⟨g, 0, none⟩) n n) n (cellsOf (ps.set (k + q) ((ps.getD (k + q) 0 + x * ys.getD q 0 + c) % 4294967296))) := by
  rw [mul_s hz hx hy hc, ← HZ, ← HY, tmod_dig, ← cells_set]
  have h' : (wr.drewN nq).ownsRow B t 1 (.slice (some ⟨g, 0, none⟩) n n) n (cellsOf ps) := h
  exact (h'.stored _ _).1

end Go.Proofs.Ytnmddjakfhlnnaa
