/- TablePieces: all ways together. -/
import Derived.Test.YtpaeihaiaegoeaaLPieces2
namespace Go.Proofs.Ytpaeihaiaegoeaa
open Go.RowKit

theorem tablePieces_any (T : Tab) (n m : Int) (w : World) (hn1 : -9223372036854775808 ≤ n) (hn2 : n ≤ 9223372036854775807) (hm1 : -9223372036854775808 ≤ m) (hm2 : m ≤ 9223372036854775807) :
    Calls Try.prog 8 #[T.val, .int .i64 n, .int .i64 m] w fun e w' => e = .returned (.bool true) ∧ Below w.heap.size w w' := by
  have L1 := hide (fun w => lawLength_any n w hn1 hn2)
  have L2 := hide (fun w => lawLength_any m w hm1 hm2)
  have a2 := lenT_high n
  have b2 := lenT_high m
  obtain ⟨x, hx⟩ := Int.eq_ofNat_of_zero_le (lenT_low n)
  obtain ⟨y, hy⟩ := Int.eq_ofNat_of_zero_le (lenT_low m)
  rw [hx] at L1 a2
  rw [hy] at L2 b2
  clear hx hy hn1 hn2 hm1 hm2
  obtain ⟨a, b, hxy, ha, hba⟩ : ∃ a b : Nat, ((a = x ∧ b = y) ∨ (b = x ∧ a = y ∧ b < a)) ∧ a ≤ 400 ∧ b ≤ a := by
    by_cases h : y ≤ x
    · exact ⟨x, y, Or.inl ⟨rfl, rfl⟩, by omega, h⟩
    · exact ⟨y, x, Or.inr ⟨rfl, rfl, by omega⟩, by omega, by omega⟩
  have CT := hide (fun w => tCost_any T (a : Int) (b : Int) w (by omega) (by omega) (by omega) (by omega))
  rw [costT_nat T hba (by omega)] at CT
  have CR := hide (fun w => tRoute_any T (a : Int) (b : Int) w)
  rw [rtT_nat T hba (by omega)] at CR
  have hX := cst_small T hba (show a ≤ 16384 by omega)
  have e1 := T.ent.b1
  have e2 := T.ent.t1
  have e3 := T.ent.n1
  rcases rt_ways a b hba T.ent with ⟨r, h0⟩ | ⟨r, _, _⟩ | ⟨r, h1, h2⟩ | ⟨r, h1, h2⟩ | ⟨r, h0, h1, h2⟩ | ⟨r, h0, h1, h2, h3⟩
  · rw [r] at CR
    exact pieces_zero T n m a b x y _ w ha hba hxy hX L1 L2 CT CR h0 (cst_zero r)
  · rw [r] at CR
    exact pieces_one T n m a b x y _ w ha hba hxy hX L1 L2 CT CR (cst_one r).symm
  · rw [r] at CR
    refine pieces_two T n m a b x y _ w ha hba hxy hX L1 L2 CT CR (by omega) (fun j => j / b * cst T.B T.D T.N b b + cst T.B T.D T.N b (j % b)) (cst T.B T.D T.N b b) (cst_two T.ent hba r h1 h2).symm ?_ ?_ ?_ (costT_nat T (Nat.le_refl _) (by omega))
    · show 0 / b * _ + cst T.B T.D T.N b (0 % b) = 0
      rw [Nat.zero_div, Nat.zero_mod, cst_nought, Nat.zero_mul]
    · intro j hj
      obtain ⟨i, rfl⟩ : ∃ i, j = i + b := ⟨j - b, by omega⟩
      show (i + b) / b * _ + cst T.B T.D T.N b ((i + b) % b) = _ + ((i + b - b) / b * _ + cst T.B T.D T.N b ((i + b - b) % b))
      rw [Nat.add_div_right i (by omega), Nat.add_mod_right, Nat.add_sub_cancel, Nat.succ_mul]
      generalize i / b * cst T.B T.D T.N b b = p
      generalize cst T.B T.D T.N b b = q
      generalize cst T.B T.D T.N b (i % b) = s
      omega
    · intro j h0 hj
      show costT T (j : Int) (b : Int) = ((j / b * _ + cst T.B T.D T.N b (j % b) : Nat) : Int)
      rw [Nat.div_eq_of_lt hj, Nat.mod_eq_of_lt hj, Nat.zero_mul, Nat.zero_add, costT_comm, costT_nat T (by omega) (by omega)]
  · rw [r] at CR
    have g1 : (a + 1) / 2 ≤ 16384 := by omega
    have g2 : b - (a + 1) / 2 ≤ a - (a + 1) / 2 := by omega
    have g3 : a - (a + 1) / 2 ≤ 16384 := by omega
    have g4 : (a + 1) / 2 + 1 ≤ 16384 := by omega
    have k1 : ((a : Int) + 1) / 2 = (((a + 1) / 2 : Nat) : Int) := by omega
    have k2 : (a : Int) - (((a + 1) / 2 : Nat) : Int) = ((a - (a + 1) / 2 : Nat) : Int) := by omega
    have k3 : (b : Int) - (((a + 1) / 2 : Nat) : Int) = ((b - (a + 1) / 2 : Nat) : Int) := by omega
    have k4 : (((a + 1) / 2 : Nat) : Int) + 1 = (((a + 1) / 2 + 1 : Nat) : Int) := by omega
    exact pieces_three T n m a b x y _ w ha hba hxy hX L1 L2 CT CR (by omega) h2 _ _ _ (by rw [k1]; exact costT_nat T (Nat.le_refl _) g1) (by rw [k1, k2, k3]; exact costT_nat T g2 g3) (by rw [k1, k4]; exact costT_nat T (Nat.le_refl _) g4) (cst_three T.ent hba r h1 h2)
  · rw [r] at CR
    have g1 : (a + 2) / 3 ≤ 16384 := by omega
    have g2 : b - 2 * ((a + 2) / 3) ≤ a - 2 * ((a + 2) / 3) := by omega
    have g3 : a - 2 * ((a + 2) / 3) ≤ 16384 := by omega
    have g4 : (a + 2) / 3 + 1 ≤ 16384 := by omega
    have k1 : ((a : Int) + 2) / 3 = (((a + 2) / 3 : Nat) : Int) := by omega
    have k2 : (a : Int) - 2 * (((a + 2) / 3 : Nat) : Int) = ((a - 2 * ((a + 2) / 3) : Nat) : Int) := by omega
    have k3 : (b : Int) - 2 * (((a + 2) / 3 : Nat) : Int) = ((b - 2 * ((a + 2) / 3) : Nat) : Int) := by omega
    have k4 : (((a + 2) / 3 : Nat) : Int) + 1 = (((a + 2) / 3 + 1 : Nat) : Int) := by omega
    exact pieces_four T n m a b x y _ w ha hba hxy hX L1 L2 CT CR (by omega) h2 _ _ _ (by rw [k1]; exact costT_nat T (Nat.le_refl _) g1) (by rw [k1, k4]; exact costT_nat T (Nat.le_refl _) g4) (by rw [k1, k2, k3]; exact costT_nat T g2 g3) (cst_four T.ent hba r h0 h2)
  · rw [r] at CR
    exact pieces_five T n m a b x y _ w ha hba hxy hX L1 L2 CT CR (cst_five r).symm (by omega) (by omega)

end Go.Proofs.Ytpaeihaiaegoeaa
