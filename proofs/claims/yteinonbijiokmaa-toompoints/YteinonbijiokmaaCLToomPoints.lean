/- ToomPoints: what the law's walk comes to, once the code's Points is what the document asks. -/
import Derived.Test.YteinonbijiokmaaM14
import Derived.Test.YteinonbijiokmaaM15
import Derived.Test.YteinonbijiokmaaM5
import Derived.Test.YteinonbijiokmaaCRShift
import Derived.Test.YteinonbijiokmaaM2
namespace Go.Proofs.Yteinonbijiokmaa
open Go.RowKit

set_option maxRecDepth 100000 in
set_option maxHeartbeats 12800000 in
theorem toomPoints_any (SN : SpecTNew) (S3 : SpecThird) (S4 : SpecThirdNo) (SP : SpecPoints) (ga : Option Addr) (ba oa ca la : Nat) (xs : List Nat) (k : Int) (w : World) (hx : xs.length = la) (hA : Rep w ga ba oa ca xs) (wx : ∀ j, xs.getD j 0 < 18446744073709551616) :
    Calls Try.prog 4 #[.slice ga la ca, .int .i64 k] w fun e w' => e = .returned (.bool true) ∧ Below w.heap.size w w' := by
  obtain ⟨n, hca⟩ : ∃ k, k = min la 30 := ⟨_, rfl⟩
  have Ca : Hid (∀ w, Calls Try.prog 9 #[.slice ga la ca, .int .i64 30] w fun e w' => e = .returned (.slice ga n ca) ∧ w' = w) := fun w => cut_any w ga la ca 30 n (by have := hA.room; omega) (by omega) hca
  obtain ⟨hla, rA⟩ := cut_rep hA 30 n (by rw [hx]; exact hca)
  have dx : WDig (xs.take n) := take_words wx n
  have hn30 : n ≤ 30 := by omega
  have CW : Hid (∀ w : World, Calls Try.prog 19 #[] w fun e w' => e = .returned (.bool true) ∧ Below w.heap.size w w') := toomWakes_any SN S3 S4
  clear hA wx hx SN S3 S4 hca
  generalize xs.take n = us at *
  obtain ⟨A, hva⟩ : ∃ k, k = wval us := ⟨_, rfl⟩
  have hA : A < 18446744073709551616 ^ 30 := by rw [hva]; exact pow_up (wval_lt_pow dx) (by omega)
  obtain ⟨K, hK⟩ : ∃ K, K = pcs k := ⟨_, rfl⟩
  have hK1 : (K : Int) = min (max k 1) 16384 := by rw [hK]; unfold pcs; omega
  obtain ⟨N, hN⟩ : ∃ N, N = 64 * K := ⟨_, rfl⟩
  obtain ⟨N2, hN2⟩ : ∃ N2, N2 = 2 * N := ⟨_, rfl⟩
  have eN : 2 ^ N = 18446744073709551616 ^ K := by rw [hN, Nat.pow_mul]
  have eN2 : 2 ^ N2 = 18446744073709551616 ^ (2 * K) := by rw [hN2, Nat.mul_comm 2 N, Nat.mul_comm 2 K, Nat.pow_mul, Nat.pow_mul, eN]
  obtain ⟨a0, ha0⟩ : ∃ a, a = A % 2 ^ N := ⟨_, rfl⟩
  obtain ⟨a1, ha1⟩ : ∃ a, a = A / 2 ^ N % 2 ^ N := ⟨_, rfl⟩
  obtain ⟨a2, ha2⟩ : ∃ a, a = A / 2 ^ N2 := ⟨_, rfl⟩
  have l0 : a0 < 18446744073709551616 ^ 30 := by rw [ha0]; exact Nat.lt_of_le_of_lt (Nat.mod_le _ _) hA
  have l1 : a1 < 18446744073709551616 ^ 30 := by rw [ha1]; exact Nat.lt_of_le_of_lt (Nat.le_trans (Nat.mod_le _ _) (Nat.div_le_self _ _)) hA
  have l2 : a2 < 18446744073709551616 ^ 30 := by rw [ha2]; exact Nat.lt_of_le_of_lt (Nat.div_le_self _ _) hA
  have SPk := hide (fun (w : World) (ga : Option Addr) (b o cap la : Nat) hl hr => SP w ga b o cap la K k us a0 a1 a2 hl hr dx (by omega) hK (by rw [ha0, eN, hva]) (by rw [ha1, eN, hva]) (by rw [ha2, eN2, hva]))
  have hA60 : A < 4294967296 ^ 60 := by rw [show (4294967296 : Nat) ^ 60 = (4294967296 ^ 2) ^ 30 from (Nat.pow_mul _ 2 30).symm ▸ rfl]; exact hA
  have hNb : N ≤ 1048576 := by omega
  have hN2b : N2 ≤ 2097152 := by omega
  have hS1 : A / 2 ^ N < 4294967296 ^ 60 := Nat.lt_of_le_of_lt (Nat.div_le_self _ _) hA60
  have eI : (64 : Int) * min (max k 1) 16384 = (N : Int) := by rw [← hK1]; omega
  have wI : IntKind.i64.wrap (N : Int) = (N : Int) := by rw [IntKind.wrap_i64]; omega
  have eI2 : (2 : Int) * (N : Int) = (N2 : Int) := by omega
  have wI2 : IntKind.i64.wrap (N2 : Int) = (N2 : Int) := by rw [IntKind.wrap_i64]; omega
  have HF := hide (fun (w : World) (r : Rep w ga ba oa ca us) => from_toom w ga ba oa ca n A us hla (by omega) r dx hva)
  have LW : Hid (∀ (w : World) (v : Value), IsN w v A → Calls Try.prog 23 #[v, .int .i64 (N : Int)] w fun e w' => ∃ r, e = .returned r ∧ IsN w' r a0 ∧ Below w.heap.size w w') := fun w v h => by
    rw [ha0]; exact low_any w v A N 60 (by omega) hA60 (by omega) h
  have SW : Hid (∀ (w : World) (v : Value), IsN w v A → Calls Try.prog 24 #[v, .int .i64 (N : Int)] w fun e w' => ∃ r, e = .returned r ∧ IsN w' r (A / 2 ^ N) ∧ Below w.heap.size w w') := fun w v h => shr_any w v A N 60 (by omega) hA60 (by omega) h
  have LW1 : Hid (∀ (w : World) (v : Value), IsN w v (A / 2 ^ N) → Calls Try.prog 23 #[v, .int .i64 (N : Int)] w fun e w' => ∃ r, e = .returned r ∧ IsN w' r a1 ∧ Below w.heap.size w w') := fun w v h => by
    rw [ha1]; exact low_any w v _ N 60 (by omega) hS1 (by omega) h
  have SW2 : Hid (∀ (w : World) (v : Value), IsN w v A → Calls Try.prog 24 #[v, .int .i64 (N2 : Int)] w fun e w' => ∃ r, e = .returned r ∧ IsN w' r a2 ∧ Below w.heap.size w w') := fun w v h => by
    rw [ha2]; exact shr_any w v A N2 60 (by omega) hA60 (by omega) h
  have CAdd : Hid (∀ (w : World) (u v : Value) (a c : Int), a.natAbs < 4294967296 ^ 64 → c.natAbs < 4294967296 ^ 64 → IsI w u a → IsI w v c → Calls Try.prog 25 #[u, v] w fun e w' => ∃ r, e = .returned r ∧ IsI w' r (a + c) ∧ Below w.heap.size w w') := fun w u v a c h1 h2 h3 h4 => iAdd_any w u v a c 64 (by omega) h1 h2 h3 h4
  obtain ⟨X30, hX30⟩ : ∃ X, X = 18446744073709551616 ^ 30 := ⟨_, rfl⟩
  obtain ⟨X64, hX64⟩ : ∃ X, X = 4294967296 ^ 64 := ⟨_, rfl⟩
  have hXX : 8 * X30 ≤ X64 := by rw [hX30, hX64]; decide
  rw [← hX30] at l0 l1 l2
  have B0 : Hid ((a0 : Int).natAbs < 4294967296 ^ 64) := by show _ < _; rw [← hX64]; omega
  have B1 : Hid ((a1 : Int).natAbs < 4294967296 ^ 64) := by show _ < _; rw [← hX64]; omega
  have B2 : Hid ((a2 : Int).natAbs < 4294967296 ^ 64) := by show _ < _; rw [← hX64]; omega
  have M1 : Hid ((((2 : Nat) : Int) * (a2 : Int)).natAbs < 4294967296 ^ 64) := by show _ < _; rw [← hX64]; omega
  have M2 : Hid (((a1 : Int) + ((2 : Nat) : Int) * (a2 : Int)).natAbs < 4294967296 ^ 64) := by show _ < _; rw [← hX64]; omega
  have M3 : Hid ((((2 : Nat) : Int) * ((a1 : Int) + ((2 : Nat) : Int) * (a2 : Int))).natAbs < 4294967296 ^ 64) := by show _ < _; rw [← hX64]; omega
  have hX32 : (18446744073709551616 : Nat) ^ 32 = X64 := by rw [hX64]
  have M4 : Hid (((a0 : Int) + (a2 : Int)).natAbs < 4294967296 ^ 64) := by show _ < _; rw [← hX64]; omega
  have ETA : Hid ((a0 : Int).natAbs < 18446744073709551616 ^ 32) := by show _ < _; rw [hX32]; omega
  have VTA : Hid (a0 = (a0 : Int).natAbs) := by show _ = _ <;> omega
  have GTA : Hid (false = decide ((a0 : Int) < 0)) := by show _ = _; symm; rw [decide_eq_false_iff_not]; omega
  have ETS : Hid (((a0 : Int) + (a2 : Int) + (a1 : Int)).natAbs < 18446744073709551616 ^ 32) := by show _ < _; rw [hX32]; omega
  have VTS : Hid (a0 + a1 + a2 = ((a0 : Int) + (a2 : Int) + (a1 : Int)).natAbs) := by show _ = _ <;> omega
  have GTS : Hid (false = decide (((a0 : Int) + (a2 : Int) + (a1 : Int)) < 0)) := by show _ = _; symm; rw [decide_eq_false_iff_not]; omega
  have ETM : Hid (((a0 : Int) + (a2 : Int) - (a1 : Int)).natAbs < 18446744073709551616 ^ 32) := by show _ < _; rw [hX32]; omega
  have VTM : Hid (nd (a0 + a2) a1 = ((a0 : Int) + (a2 : Int) - (a1 : Int)).natAbs) := by show _ = _; unfold nd; omega
  have GTM : Hid (decide (a0 + a2 < a1) = decide (((a0 : Int) + (a2 : Int) - (a1 : Int)) < 0)) := by show _ = _; rw [decide_eq_decide]; omega
  have ETF : Hid (((a0 : Int) + ((2 : Nat) : Int) * ((a1 : Int) + ((2 : Nat) : Int) * (a2 : Int))).natAbs < 18446744073709551616 ^ 32) := by show _ < _; rw [hX32]; omega
  have VTF : Hid (a0 + 2 * a1 + 4 * a2 = ((a0 : Int) + ((2 : Nat) : Int) * ((a1 : Int) + ((2 : Nat) : Int) * (a2 : Int))).natAbs) := by show _ = _ <;> omega
  have GTF : Hid (false = decide (((a0 : Int) + ((2 : Nat) : Int) * ((a1 : Int) + ((2 : Nat) : Int) * (a2 : Int))) < 0)) := by show _ = _; symm; rw [decide_eq_false_iff_not]; omega
  have ETC : Hid ((a2 : Int).natAbs < 18446744073709551616 ^ 32) := by show _ < _; rw [hX32]; omega
  have VTC : Hid (a2 = (a2 : Int).natAbs) := by show _ = _ <;> omega
  have GTC : Hid (false = decide ((a2 : Int) < 0)) := by show _ = _; symm; rw [decide_eq_false_iff_not]; omega
  rw [hX30] at l0 l1 l2
  clear hX30 hX64 hXX hX32
  have hLA := hide hla
  have hL0 := hide l0
  have hL1 := hide l1
  have hL2 := hide l2
  clear SP eN eN2 ha0 ha1 ha2 hA hA60 hS1 hK hK1 hN hN2 dx hva hla l0 l1 l2
  generalize A / 2 ^ N = A1 at *
  obtain ⟨F, hF⟩ : ∃ F, F = 6148914691236517205 := ⟨_, rfl⟩
  have HF6 := hide hF
  have bl := Below.refl w.heap.size w
  go_enter Try.func4, Try.ntmps4
  go_wp2_with fail
  refine (unhide Ca _).mono ?_
  rintro e wca ⟨rfl, hw⟩
  obtain rfl := hw.symm
  clear Ca hw
  go_wp2_with fail
  refine (lend_any _ ga ba oa ca n us (unhide hLA) (by omega) rA F hF).mono ?_
  rintro e w1 ⟨rfl, o1, b⟩
  obtain ⟨r1, t1⟩ := lent_rep o1 (unhide hLA)
  have rA := rA.next b
  have bl := bstep bl b
  clear o1 b
  go_wp2_with fail
  refine (unhide SPk w1 _ _ 0 (n + 4) n (unhide hLA) r1).mono ?_
  rintro e w2 ⟨v0, v1, v2, v3, v4, rfl, n0, n1, n2, n3, n4, b⟩
  obtain ⟨g0, l0, c0, rfl⟩ := n0.form
  obtain ⟨g1, l1, c1, rfl⟩ := n1.form
  obtain ⟨g2, l2, c2, rfl⟩ := n2.form
  obtain ⟨g3, l3, c3, rfl⟩ := n3.form
  obtain ⟨g4, l4, c4, rfl⟩ := n4.form
  have rA := rA.next b
  have r1 := r1.next b
  have t1 := t1.next b
  have bl := bstep bl b
  clear b SPk
  generalize hng : decide (a0 + a2 < a1) = ng at *
  have HNG := hide hng
  clear hng
  go_wp2_with fail
  obtain ⟨q0, q1, q2, q3, q4⟩ := boxes5 w2 (.cells #[.slice g0 l0 c0, .bool false] 42) (.cells #[.slice g1 l1 c1, .bool false] 42) (.cells #[.slice g2 l2 c2, .bool ng] 42) (.cells #[.slice g3 l3 c3, .bool false] 42) (.cells #[.slice g4 l4 c4, .bool false] 42)
  have b := below5 w2 (.cells #[.slice g0 l0 c0, .bool false] 42) (.cells #[.slice g1 l1 c1, .bool false] 42) (.cells #[.slice g2 l2 c2, .bool ng] 42) (.cells #[.slice g3 l3 c3, .bool false] 42) (.cells #[.slice g4 l4 c4, .bool false] 42)
  obtain ⟨W3, hW3⟩ : ∃ W3, (((((w2.alloc (.cells #[.slice g0 l0 c0, .bool false] 42)).alloc (.cells #[.slice g1 l1 c1, .bool false] 42)).alloc (.cells #[.slice g2 l2 c2, .bool ng] 42)).alloc (.cells #[.slice g3 l3 c3, .bool false] 42)).alloc (.cells #[.slice g4 l4 c4, .bool false] 42)) = W3 := ⟨_, rfl⟩
  rw [hW3] at q0 q1 q2 q3 q4 b ⊢
  clear hW3
  obtain ⟨Q0, hQ0⟩ : ∃ Q0, w2.heap.size = Q0 := ⟨_, rfl⟩
  have x0 : Bx W3 (w2.heap.size) 42 (.slice g0 l0 c0) (.bool false) := q0
  have x1 : Bx W3 (w2.heap.size + 1) 42 (.slice g1 l1 c1) (.bool false) := q1
  have x2 : Bx W3 (w2.heap.size + 1 + 1) 42 (.slice g2 l2 c2) (.bool ng) := q2
  have x3 : Bx W3 (w2.heap.size + 1 + 1 + 1) 42 (.slice g3 l3 c3) (.bool false) := q3
  have x4 : Bx W3 (w2.heap.size + 1 + 1 + 1 + 1) 42 (.slice g4 l4 c4) (.bool false) := q4
  rw [hQ0] at x0 x1 x2 x3 x4 ⊢
  have rA := rA.next b
  have t1 := t1.next b
  have n0 := n0.next b
  have n1 := n1.next b
  have n2 := n2.next b
  have n3 := n3.next b
  have n4 := n4.next b
  have bl := bstep bl b
  clear q0 q1 q2 q3 q4 b
  refine (unhide HF _ rA).mono ?_
  rintro e w11 ⟨vN, rfl, iN, b⟩
  have rA := rA.next b
  have t1 := t1.next b
  have n0 := n0.next b
  have n1 := n1.next b
  have n2 := n2.next b
  have n3 := n3.next b
  have n4 := n4.next b
  have x0 := x0.next b
  have x1 := x1.next b
  have x2 := x2.next b
  have x3 := x3.next b
  have x4 := x4.next b
  have bl := bstep bl b
  clear b
  go_wp2_with fail
  refine (unhide LW _ _ iN).mono ?_
  rintro e w12 ⟨vM, rfl, iM, b⟩
  have rA := rA.next b
  have t1 := t1.next b
  have n0 := n0.next b
  have n1 := n1.next b
  have n2 := n2.next b
  have n3 := n3.next b
  have n4 := n4.next b
  have x0 := x0.next b
  have x1 := x1.next b
  have x2 := x2.next b
  have x3 := x3.next b
  have x4 := x4.next b
  have bl := bstep bl b
  clear b
  go_wp2_with fail
  refine (iNat_any _ _ a0 iM).mono ?_
  rintro e w13 ⟨uA, rfl, iA, b⟩
  have rA := rA.next b
  have t1 := t1.next b
  have n0 := n0.next b
  have n1 := n1.next b
  have n2 := n2.next b
  have n3 := n3.next b
  have n4 := n4.next b
  have x0 := x0.next b
  have x1 := x1.next b
  have x2 := x2.next b
  have x3 := x3.next b
  have x4 := x4.next b
  have bl := bstep bl b
  clear b
  obtain ⟨gA, lA, cA, dA, rfl⟩ := iA.form
  have b : Below w13.heap.size w13 (w13.alloc (.cells #[.slice gA lA cA, .bool dA] 46)) := (Below.refl _ _).alloc (Nat.le_refl _) _
  go_wp2_with fail
  have xA := bx_new w13 46 (.slice gA lA cA) (.bool dA)
  obtain ⟨WA, hWA⟩ : ∃ W, w13.alloc (.cells #[.slice gA lA cA, .bool dA] 46) = W := ⟨_, rfl⟩
  rw [hWA] at b xA ⊢
  clear hWA
  obtain ⟨QA, hQA⟩ : ∃ Q, w13.heap.size = Q := ⟨_, rfl⟩
  rw [hQA] at xA ⊢
  clear hQA
  have rA := rA.next b
  have t1 := t1.next b
  have n0 := n0.next b
  have n1 := n1.next b
  have n2 := n2.next b
  have n3 := n3.next b
  have n4 := n4.next b
  have x0 := x0.next b
  have x1 := x1.next b
  have x2 := x2.next b
  have x3 := x3.next b
  have x4 := x4.next b
  have iA := iA.next b
  have bl := bstep bl b
  clear b
  refine (unhide HF _ rA).mono ?_
  rintro e w14 ⟨vN, rfl, iN, b⟩
  have rA := rA.next b
  have t1 := t1.next b
  have n0 := n0.next b
  have n1 := n1.next b
  have n2 := n2.next b
  have n3 := n3.next b
  have n4 := n4.next b
  have x0 := x0.next b
  have x1 := x1.next b
  have x2 := x2.next b
  have x3 := x3.next b
  have x4 := x4.next b
  have iA := iA.next b
  have xA := xA.next b
  have bl := bstep bl b
  clear b
  go_wp2_with fail
  refine (unhide SW _ _ iN).mono ?_
  rintro e w15 ⟨vS, rfl, iS, b⟩
  have rA := rA.next b
  have t1 := t1.next b
  have n0 := n0.next b
  have n1 := n1.next b
  have n2 := n2.next b
  have n3 := n3.next b
  have n4 := n4.next b
  have x0 := x0.next b
  have x1 := x1.next b
  have x2 := x2.next b
  have x3 := x3.next b
  have x4 := x4.next b
  have iA := iA.next b
  have xA := xA.next b
  have bl := bstep bl b
  clear b
  go_wp2_with fail
  refine (unhide LW1 _ _ iS).mono ?_
  rintro e w16 ⟨vM, rfl, iM, b⟩
  have rA := rA.next b
  have t1 := t1.next b
  have n0 := n0.next b
  have n1 := n1.next b
  have n2 := n2.next b
  have n3 := n3.next b
  have n4 := n4.next b
  have x0 := x0.next b
  have x1 := x1.next b
  have x2 := x2.next b
  have x3 := x3.next b
  have x4 := x4.next b
  have iA := iA.next b
  have xA := xA.next b
  have bl := bstep bl b
  clear b
  go_wp2_with fail
  refine (iNat_any _ _ a1 iM).mono ?_
  rintro e w17 ⟨uB, rfl, iB, b⟩
  have rA := rA.next b
  have t1 := t1.next b
  have n0 := n0.next b
  have n1 := n1.next b
  have n2 := n2.next b
  have n3 := n3.next b
  have n4 := n4.next b
  have x0 := x0.next b
  have x1 := x1.next b
  have x2 := x2.next b
  have x3 := x3.next b
  have x4 := x4.next b
  have iA := iA.next b
  have xA := xA.next b
  have bl := bstep bl b
  clear b
  obtain ⟨gB, lB, cB, dB, rfl⟩ := iB.form
  have b : Below w17.heap.size w17 (w17.alloc (.cells #[.slice gB lB cB, .bool dB] 46)) := (Below.refl _ _).alloc (Nat.le_refl _) _
  go_wp2_with fail
  have xB := bx_new w17 46 (.slice gB lB cB) (.bool dB)
  obtain ⟨WB, hWB⟩ : ∃ W, w17.alloc (.cells #[.slice gB lB cB, .bool dB] 46) = W := ⟨_, rfl⟩
  rw [hWB] at b xB ⊢
  clear hWB
  obtain ⟨QB, hQB⟩ : ∃ Q, w17.heap.size = Q := ⟨_, rfl⟩
  rw [hQB] at xB ⊢
  clear hQB
  have rA := rA.next b
  have t1 := t1.next b
  have n0 := n0.next b
  have n1 := n1.next b
  have n2 := n2.next b
  have n3 := n3.next b
  have n4 := n4.next b
  have x0 := x0.next b
  have x1 := x1.next b
  have x2 := x2.next b
  have x3 := x3.next b
  have x4 := x4.next b
  have iA := iA.next b
  have xA := xA.next b
  have iB := iB.next b
  have bl := bstep bl b
  clear b
  refine (unhide HF _ rA).mono ?_
  rintro e w18 ⟨vN, rfl, iN, b⟩
  have rA := rA.next b
  have t1 := t1.next b
  have n0 := n0.next b
  have n1 := n1.next b
  have n2 := n2.next b
  have n3 := n3.next b
  have n4 := n4.next b
  have x0 := x0.next b
  have x1 := x1.next b
  have x2 := x2.next b
  have x3 := x3.next b
  have x4 := x4.next b
  have iA := iA.next b
  have xA := xA.next b
  have iB := iB.next b
  have xB := xB.next b
  have bl := bstep bl b
  clear b
  go_wp2_with fail
  refine (unhide SW2 _ _ iN).mono ?_
  rintro e w19 ⟨vM, rfl, iM, b⟩
  have rA := rA.next b
  have t1 := t1.next b
  have n0 := n0.next b
  have n1 := n1.next b
  have n2 := n2.next b
  have n3 := n3.next b
  have n4 := n4.next b
  have x0 := x0.next b
  have x1 := x1.next b
  have x2 := x2.next b
  have x3 := x3.next b
  have x4 := x4.next b
  have iA := iA.next b
  have xA := xA.next b
  have iB := iB.next b
  have xB := xB.next b
  have bl := bstep bl b
  clear b
  go_wp2_with fail
  refine (iNat_any _ _ a2 iM).mono ?_
  rintro e w20 ⟨uC, rfl, iC, b⟩
  have rA := rA.next b
  have t1 := t1.next b
  have n0 := n0.next b
  have n1 := n1.next b
  have n2 := n2.next b
  have n3 := n3.next b
  have n4 := n4.next b
  have x0 := x0.next b
  have x1 := x1.next b
  have x2 := x2.next b
  have x3 := x3.next b
  have x4 := x4.next b
  have iA := iA.next b
  have xA := xA.next b
  have iB := iB.next b
  have xB := xB.next b
  have bl := bstep bl b
  clear b
  obtain ⟨gC, lC, cC, dC, rfl⟩ := iC.form
  have b : Below w20.heap.size w20 (w20.alloc (.cells #[.slice gC lC cC, .bool dC] 46)) := (Below.refl _ _).alloc (Nat.le_refl _) _
  have c0A := (xA.next b).c0
  have c1A := (xA.next b).c1
  go_wp2_with fail
  clear c0A c1A
  have xC := bx_new w20 46 (.slice gC lC cC) (.bool dC)
  obtain ⟨WC, hWC⟩ : ∃ W, w20.alloc (.cells #[.slice gC lC cC, .bool dC] 46) = W := ⟨_, rfl⟩
  rw [hWC] at b xC ⊢
  clear hWC
  obtain ⟨QC, hQC⟩ : ∃ Q, w20.heap.size = Q := ⟨_, rfl⟩
  rw [hQC] at xC ⊢
  clear hQC
  have rA := rA.next b
  have t1 := t1.next b
  have n0 := n0.next b
  have n1 := n1.next b
  have n2 := n2.next b
  have n3 := n3.next b
  have n4 := n4.next b
  have x0 := x0.next b
  have x1 := x1.next b
  have x2 := x2.next b
  have x3 := x3.next b
  have x4 := x4.next b
  have iA := iA.next b
  have xA := xA.next b
  have iB := iB.next b
  have xB := xB.next b
  have iC := iC.next b
  have bl := bstep bl b
  clear b
  refine (unhide CAdd _ _ _ _ _ (unhide B0) (unhide B2) iA iC).mono ?_
  rintro e w21 ⟨uD, rfl, iD, b⟩
  have rA := rA.next b
  have t1 := t1.next b
  have n0 := n0.next b
  have n1 := n1.next b
  have n2 := n2.next b
  have n3 := n3.next b
  have n4 := n4.next b
  have x0 := x0.next b
  have x1 := x1.next b
  have x2 := x2.next b
  have x3 := x3.next b
  have x4 := x4.next b
  have iA := iA.next b
  have xA := xA.next b
  have iB := iB.next b
  have xB := xB.next b
  have iC := iC.next b
  have xC := xC.next b
  have bl := bstep bl b
  clear b
  obtain ⟨gD, lD, cD, dD, rfl⟩ := iD.form
  have b : Below w21.heap.size w21 (w21.alloc (.cells #[.slice gD lD cD, .bool dD] 46)) := (Below.refl _ _).alloc (Nat.le_refl _) _
  go_wp2_with fail
  have xD := bx_new w21 46 (.slice gD lD cD) (.bool dD)
  obtain ⟨WD, hWD⟩ : ∃ W, w21.alloc (.cells #[.slice gD lD cD, .bool dD] 46) = W := ⟨_, rfl⟩
  rw [hWD] at b xD ⊢
  clear hWD
  obtain ⟨QD, hQD⟩ : ∃ Q, w21.heap.size = Q := ⟨_, rfl⟩
  rw [hQD] at xD ⊢
  clear hQD
  have rA := rA.next b
  have t1 := t1.next b
  have n0 := n0.next b
  have n1 := n1.next b
  have n2 := n2.next b
  have n3 := n3.next b
  have n4 := n4.next b
  have x0 := x0.next b
  have x1 := x1.next b
  have x2 := x2.next b
  have x3 := x3.next b
  have x4 := x4.next b
  have iA := iA.next b
  have xA := xA.next b
  have iB := iB.next b
  have xB := xB.next b
  have iC := iC.next b
  have xC := xC.next b
  have iD := iD.next b
  have bl := bstep bl b
  clear b
  refine (iSmall_any _ 2 (by omega)).mono ?_
  rintro e w22 ⟨uE, rfl, iE, b⟩
  have rA := rA.next b
  have t1 := t1.next b
  have n0 := n0.next b
  have n1 := n1.next b
  have n2 := n2.next b
  have n3 := n3.next b
  have n4 := n4.next b
  have x0 := x0.next b
  have x1 := x1.next b
  have x2 := x2.next b
  have x3 := x3.next b
  have x4 := x4.next b
  have iA := iA.next b
  have xA := xA.next b
  have iB := iB.next b
  have xB := xB.next b
  have iC := iC.next b
  have xC := xC.next b
  have iD := iD.next b
  have xD := xD.next b
  have bl := bstep bl b
  clear b
  obtain ⟨gE, lE, cE, dE, rfl⟩ := iE.form
  have b : Below w22.heap.size w22 (w22.alloc (.cells #[.slice gE lE cE, .bool dE] 46)) := (Below.refl _ _).alloc (Nat.le_refl _) _
  go_wp2_with fail
  have xE := bx_new w22 46 (.slice gE lE cE) (.bool dE)
  obtain ⟨WE, hWE⟩ : ∃ W, w22.alloc (.cells #[.slice gE lE cE, .bool dE] 46) = W := ⟨_, rfl⟩
  rw [hWE] at b xE ⊢
  clear hWE
  obtain ⟨QE, hQE⟩ : ∃ Q, w22.heap.size = Q := ⟨_, rfl⟩
  rw [hQE] at xE ⊢
  clear hQE
  have rA := rA.next b
  have t1 := t1.next b
  have n0 := n0.next b
  have n1 := n1.next b
  have n2 := n2.next b
  have n3 := n3.next b
  have n4 := n4.next b
  have x0 := x0.next b
  have x1 := x1.next b
  have x2 := x2.next b
  have x3 := x3.next b
  have x4 := x4.next b
  have iA := iA.next b
  have xA := xA.next b
  have iB := iB.next b
  have xB := xB.next b
  have iC := iC.next b
  have xC := xC.next b
  have iD := iD.next b
  have xD := xD.next b
  have iE := iE.next b
  have bl := bstep bl b
  clear b
  have HrA := hide rA
  have Ht1 := hide t1
  have Hn0 := hide n0
  have Hn1 := hide n1
  have Hn2 := hide n2
  have Hn3 := hide n3
  have Hn4 := hide n4
  have Hx0 := hide x0
  have Hx1 := hide x1
  have Hx2 := hide x2
  have Hx3 := hide x3
  have Hx4 := hide x4
  have HiA := hide iA
  have HxA := hide xA
  have HiB := hide iB
  have HxB := hide xB
  have HiC := hide iC
  have HxC := hide xC
  have HiD := hide iD
  have HxD := hide xD
  have HiE := hide iE
  have HxE := hide xE
  have bl0 := hide bl
  clear rA t1 n0 n1 n2 n3 n4 x0 x1 x2 x3 x4 iA xA iB xB iC xC iD xD iE xE
  have HC : Hid (∀ W, Below WE.heap.size WE W → W.cell? ⟨QA, 0, none⟩ = some (.slice gA lA cA) ∧ W.cell? ⟨QA, 1, none⟩ = some (.bool dA) ∧ W.cell? ⟨QB, 0, none⟩ = some (.slice gB lB cB) ∧ W.cell? ⟨QB, 1, none⟩ = some (.bool dB) ∧ W.cell? ⟨QC, 0, none⟩ = some (.slice gC lC cC) ∧ W.cell? ⟨QC, 1, none⟩ = some (.bool dC) ∧ W.cell? ⟨QE, 0, none⟩ = some (.slice gE lE cE) ∧ W.cell? ⟨QE, 1, none⟩ = some (.bool dE)) := fun W b => ⟨((unhide HxA).next b).c0, ((unhide HxA).next b).c1, ((unhide HxB).next b).c0, ((unhide HxB).next b).c1, ((unhide HxC).next b).c0, ((unhide HxC).next b).c1, ((unhide HxE).next b).c0, ((unhide HxE).next b).c1⟩
  have HC2 : Hid (∀ W q u v, Below WE.heap.size WE W → WE.heap.size ≤ q → ((W.setCell ⟨q, 0, none⟩ u).setCell ⟨q, 1, none⟩ v).cell? ⟨QA, 0, none⟩ = some (.slice gA lA cA) ∧ ((W.setCell ⟨q, 0, none⟩ u).setCell ⟨q, 1, none⟩ v).cell? ⟨QA, 1, none⟩ = some (.bool dA) ∧ ((W.setCell ⟨q, 0, none⟩ u).setCell ⟨q, 1, none⟩ v).cell? ⟨QB, 0, none⟩ = some (.slice gB lB cB) ∧ ((W.setCell ⟨q, 0, none⟩ u).setCell ⟨q, 1, none⟩ v).cell? ⟨QB, 1, none⟩ = some (.bool dB) ∧ ((W.setCell ⟨q, 0, none⟩ u).setCell ⟨q, 1, none⟩ v).cell? ⟨QC, 0, none⟩ = some (.slice gC lC cC) ∧ ((W.setCell ⟨q, 0, none⟩ u).setCell ⟨q, 1, none⟩ v).cell? ⟨QC, 1, none⟩ = some (.bool dC) ∧ ((W.setCell ⟨q, 0, none⟩ u).setCell ⟨q, 1, none⟩ v).cell? ⟨QE, 0, none⟩ = some (.slice gE lE cE) ∧ ((W.setCell ⟨q, 0, none⟩ u).setCell ⟨q, 1, none⟩ v).cell? ⟨QE, 1, none⟩ = some (.bool dE)) := fun W q u v b hq => ⟨(((unhide HxA).next b).other (by have := (unhide HxA).lt; omega) u v).c0, (((unhide HxA).next b).other (by have := (unhide HxA).lt; omega) u v).c1, (((unhide HxB).next b).other (by have := (unhide HxB).lt; omega) u v).c0, (((unhide HxB).next b).other (by have := (unhide HxB).lt; omega) u v).c1, (((unhide HxC).next b).other (by have := (unhide HxC).lt; omega) u v).c0, (((unhide HxC).next b).other (by have := (unhide HxC).lt; omega) u v).c1, (((unhide HxE).next b).other (by have := (unhide HxE).lt; omega) u v).c0, (((unhide HxE).next b).other (by have := (unhide HxE).lt; omega) u v).c1⟩
  have C1 : Hid (∀ W, Below WE.heap.size WE W → Calls Try.prog 27 #[.agg #[.slice gE lE cE, .bool dE], .agg #[.slice gC lC cC, .bool dC]] W fun e W' => ∃ r, e = .returned r ∧ IsI W' r (((2 : Nat) : Int) * (a2 : Int)) ∧ Below W.heap.size W W') := fun W b => iMul_any W _ _ _ _ 64 (by omega) (by decide) (unhide B2) ((unhide HiE).next b) ((unhide HiC).next b)
  have C2 : Hid (∀ W r, Below WE.heap.size WE W → IsI W r (((2 : Nat) : Int) * (a2 : Int)) → Calls Try.prog 25 #[.agg #[.slice gB lB cB, .bool dB], r] W fun e W' => ∃ r, e = .returned r ∧ IsI W' r ((a1 : Int) + ((2 : Nat) : Int) * (a2 : Int)) ∧ Below W.heap.size W W') := fun W r b j => iAdd_any W _ _ _ _ 64 (by omega) (unhide B1) (unhide M1) ((unhide HiB).next b) j
  have C3 : Hid (∀ W r, Below WE.heap.size WE W → IsI W r ((a1 : Int) + ((2 : Nat) : Int) * (a2 : Int)) → Calls Try.prog 27 #[.agg #[.slice gE lE cE, .bool dE], r] W fun e W' => ∃ r, e = .returned r ∧ IsI W' r (((2 : Nat) : Int) * ((a1 : Int) + ((2 : Nat) : Int) * (a2 : Int))) ∧ Below W.heap.size W W') := fun W r b j => iMul_any W _ _ _ _ 64 (by omega) (by decide) (unhide M2) ((unhide HiE).next b) j
  have C4 : Hid (∀ W r, Below WE.heap.size WE W → IsI W r (((2 : Nat) : Int) * ((a1 : Int) + ((2 : Nat) : Int) * (a2 : Int))) → Calls Try.prog 25 #[.agg #[.slice gA lA cA, .bool dA], r] W fun e W' => ∃ r, e = .returned r ∧ IsI W' r ((a0 : Int) + ((2 : Nat) : Int) * ((a1 : Int) + ((2 : Nat) : Int) * (a2 : Int))) ∧ Below W.heap.size W W') := fun W r b j => iAdd_any W _ _ _ _ 64 (by omega) (unhide B0) (unhide M3) ((unhide HiA).next b) j
  have bq : Below WE.heap.size WE WE.drew := (Below.refl _ _).drew
  obtain ⟨cA0, cA1, cB0, cB1, cC0, cC1, cE0, cE1⟩ := unhide HC _ (Below.refl _ _)
  go_region_held3 (fun W => W.cell? ⟨QA, 0, none⟩ = some (.slice gA lA cA) ∧ W.cell? ⟨QA, 1, none⟩ = some (.bool dA) ∧ W.cell? ⟨QB, 0, none⟩ = some (.slice gB lB cB) ∧ W.cell? ⟨QB, 1, none⟩ = some (.bool dB) ∧ W.cell? ⟨QC, 0, none⟩ = some (.slice gC lC cC) ∧ W.cell? ⟨QC, 1, none⟩ = some (.bool dC) ∧ W.cell? ⟨QE, 0, none⟩ = some (.slice gE lE cE) ∧ W.cell? ⟨QE, 1, none⟩ = some (.bool dE)) (first | (with_reducible exact unhide HC _ (below_drew WE _)) | (with_reducible exact unhide HC _ bq) | (with_reducible exact unhide HC _ (bq.alloc bq.size _)) | (with_reducible exact unhide HC2 _ _ _ _ bq hq) | go_keep) (first
    | (go_at_call 27; with_reducible refine (unhide C1 _ (below_drew WE _)).mono ?_; rintro e w31 ⟨r1, rfl, j1, b⟩; have hq := Nat.le_refl WE.heap.size; have bq := (below_drew WE _).trans (b.mono (below_drew WE _).size); have hx := (bx_drew _ _ _ _).next b; have y0 := hx.c0; have y1 := hx.c1; have y2 := hx.f0; have y3 := hx.f1)
    | (go_at_call 27; with_reducible refine (unhide C1 _ bq).mono ?_; rintro e w31 ⟨r1, rfl, j1, b⟩; have bq := bq.trans (b.mono bq.size); (try (have hx := hx.next b; have y0 := hx.c0; have y1 := hx.c1; have y2 := hx.f0; have y3 := hx.f1)))
    | (go_at_call 27; with_reducible refine (unhide C1 _ (bq.alloc bq.size _)).mono ?_; rintro e w31 ⟨r1, rfl, j1, b⟩; have hq := bq.size; have bq := (bq.alloc bq.size _).trans (b.mono (bq.alloc bq.size _).size); have hx := (bx_new _ _ _ _).next b; have y0 := hx.c0; have y1 := hx.c1; have y2 := hx.f0; have y3 := hx.f1)
    | (go_at_call 25; with_reducible refine (unhide C2 _ _ bq j1).mono ?_; rintro e w32 ⟨r2, rfl, j2, b⟩; have bq := bq.trans (b.mono bq.size); (try (have hx := hx.next b; have y0 := hx.c0; have y1 := hx.c1; have y2 := hx.f0; have y3 := hx.f1)))
    | (go_at_call 25; with_reducible refine (unhide C2 _ _ (bq.alloc bq.size _) (j1.next ((Below.refl _ _).alloc (Nat.le_refl _) _))).mono ?_; rintro e w32 ⟨r2, rfl, j2, b⟩; have hq := bq.size; have bq := (bq.alloc bq.size _).trans (b.mono (bq.alloc bq.size _).size); have hx := (bx_new _ _ _ _).next b; have y0 := hx.c0; have y1 := hx.c1; have y2 := hx.f0; have y3 := hx.f1)
    | (go_at_call 27; with_reducible refine (unhide C3 _ _ bq j2).mono ?_; rintro e w33 ⟨r3, rfl, j3, b⟩; have bq := bq.trans (b.mono bq.size); (try (have hx := hx.next b; have y0 := hx.c0; have y1 := hx.c1; have y2 := hx.f0; have y3 := hx.f1)))
    | (go_at_call 27; with_reducible refine (unhide C3 _ _ (bq.alloc bq.size _) (j2.next ((Below.refl _ _).alloc (Nat.le_refl _) _))).mono ?_; rintro e w33 ⟨r3, rfl, j3, b⟩; have hq := bq.size; have bq := (bq.alloc bq.size _).trans (b.mono (bq.alloc bq.size _).size); have hx := (bx_new _ _ _ _).next b; have y0 := hx.c0; have y1 := hx.c1; have y2 := hx.f0; have y3 := hx.f1)
    | (go_at_call 25; with_reducible refine (unhide C4 _ _ bq j3).mono ?_; rintro e w34 ⟨r4, rfl, j4, b⟩; have bq := bq.trans (b.mono bq.size); (try (have hx := hx.next b; have y0 := hx.c0; have y1 := hx.c1; have y2 := hx.f0; have y3 := hx.f1)); obtain ⟨gF, lF, cF, dF, rfl⟩ := j4.form)
    | (go_at_call 25; with_reducible refine (unhide C4 _ _ (bq.alloc bq.size _) (j3.next ((Below.refl _ _).alloc (Nat.le_refl _) _))).mono ?_; rintro e w34 ⟨r4, rfl, j4, b⟩; have hq := bq.size; have bq := (bq.alloc bq.size _).trans (b.mono (bq.alloc bq.size _).size); have hx := (bx_new _ _ _ _).next b; have y0 := hx.c0; have y1 := hx.c1; have y2 := hx.f0; have y3 := hx.f1; obtain ⟨gF, lF, cF, dF, rfl⟩ := j4.form)
    | fail)
  rotate_left 0
  · have bF := bq.alloc bq.size (.cells #[.slice gF lF cF, .bool dF] 46)
    have iF := j4.next (w' := w34.alloc (.cells #[.slice gF lF cF, .bool dF] 46)) ((Below.refl _ _).alloc (Nat.le_refl _) _)
    have xF := bx_new w34 46 (.slice gF lF cF) (.bool dF)
    obtain ⟨WF, hWF⟩ : ∃ WF, w34.alloc (.cells #[.slice gF lF cF, .bool dF] 46) = WF := ⟨_, rfl⟩
    rw [hWF] at bF iF xF ⊢
    obtain ⟨QF, hQF⟩ : ∃ QF, w34.heap.size = QF := ⟨_, rfl⟩
    rw [hQF] at xF ⊢
    clear hWF hQF
    clear HC HC2 C1 C2 C3 C4
    have HD : Hid (∀ W, Below WF.heap.size WF W → W.cell? ⟨Q0, 0, none⟩ = some (.slice g0 l0 c0) ∧ W.cell? ⟨Q0, 1, none⟩ = some (.bool false) ∧ W.cell? ⟨Q0 + 1, 0, none⟩ = some (.slice g1 l1 c1) ∧ W.cell? ⟨Q0 + 1, 1, none⟩ = some (.bool false) ∧ W.cell? ⟨Q0 + 1 + 1, 0, none⟩ = some (.slice g2 l2 c2) ∧ W.cell? ⟨Q0 + 1 + 1, 1, none⟩ = some (.bool ng) ∧ W.cell? ⟨Q0 + 1 + 1 + 1, 0, none⟩ = some (.slice g3 l3 c3) ∧ W.cell? ⟨Q0 + 1 + 1 + 1, 1, none⟩ = some (.bool false) ∧ W.cell? ⟨Q0 + 1 + 1 + 1 + 1, 0, none⟩ = some (.slice g4 l4 c4) ∧ W.cell? ⟨Q0 + 1 + 1 + 1 + 1, 1, none⟩ = some (.bool false) ∧ W.cell? ⟨QA, 0, none⟩ = some (.slice gA lA cA) ∧ W.cell? ⟨QA, 1, none⟩ = some (.bool dA) ∧ W.cell? ⟨QB, 0, none⟩ = some (.slice gB lB cB) ∧ W.cell? ⟨QB, 1, none⟩ = some (.bool dB) ∧ W.cell? ⟨QC, 0, none⟩ = some (.slice gC lC cC) ∧ W.cell? ⟨QC, 1, none⟩ = some (.bool dC) ∧ W.cell? ⟨QD, 0, none⟩ = some (.slice gD lD cD) ∧ W.cell? ⟨QD, 1, none⟩ = some (.bool dD) ∧ W.cell? ⟨QF, 0, none⟩ = some (.slice gF lF cF) ∧ W.cell? ⟨QF, 1, none⟩ = some (.bool dF)) := fun W b => ⟨((unhide Hx0).next (bF.trans (b.mono bF.size))).c0, ((unhide Hx0).next (bF.trans (b.mono bF.size))).c1, ((unhide Hx1).next (bF.trans (b.mono bF.size))).c0, ((unhide Hx1).next (bF.trans (b.mono bF.size))).c1, ((unhide Hx2).next (bF.trans (b.mono bF.size))).c0, ((unhide Hx2).next (bF.trans (b.mono bF.size))).c1, ((unhide Hx3).next (bF.trans (b.mono bF.size))).c0, ((unhide Hx3).next (bF.trans (b.mono bF.size))).c1, ((unhide Hx4).next (bF.trans (b.mono bF.size))).c0, ((unhide Hx4).next (bF.trans (b.mono bF.size))).c1, ((unhide HxA).next (bF.trans (b.mono bF.size))).c0, ((unhide HxA).next (bF.trans (b.mono bF.size))).c1, ((unhide HxB).next (bF.trans (b.mono bF.size))).c0, ((unhide HxB).next (bF.trans (b.mono bF.size))).c1, ((unhide HxC).next (bF.trans (b.mono bF.size))).c0, ((unhide HxC).next (bF.trans (b.mono bF.size))).c1, ((unhide HxD).next (bF.trans (b.mono bF.size))).c0, ((unhide HxD).next (bF.trans (b.mono bF.size))).c1, (xF.next b).c0, (xF.next b).c1⟩
    have TA : Hid (∀ W, Below WF.heap.size WF W → Calls Try.prog 29 #[.agg #[.slice gA lA cA, .bool dA]] W fun e W' => ∃ v, e = .returned (.agg #[v, .bool false]) ∧ ToW W' v (a0) ∧ Below W.heap.size W W') := fun W b => toI_any W _ (a0 : Int) 32 (by omega) (unhide ETA) ((unhide HiA).next (bF.trans (b.mono bF.size))) _ _ (unhide VTA) (unhide GTA)
    have TS : Hid (∀ W r, Below WF.heap.size WF W → IsI W r ((a0 : Int) + (a2 : Int) + (a1 : Int)) → Calls Try.prog 29 #[r] W fun e W' => ∃ v, e = .returned (.agg #[v, .bool false]) ∧ ToW W' v (a0 + a1 + a2) ∧ Below W.heap.size W W') := fun W r b j => toI_any W _ ((a0 : Int) + (a2 : Int) + (a1 : Int)) 32 (by omega) (unhide ETS) (j) _ _ (unhide VTS) (unhide GTS)
    have TM : Hid (∀ W r, Below WF.heap.size WF W → IsI W r ((a0 : Int) + (a2 : Int) - (a1 : Int)) → Calls Try.prog 29 #[r] W fun e W' => ∃ v, e = .returned (.agg #[v, .bool ng]) ∧ ToW W' v (nd (a0 + a2) a1) ∧ Below W.heap.size W W') := fun W r b j => toI_any W _ ((a0 : Int) + (a2 : Int) - (a1 : Int)) 32 (by omega) (unhide ETM) (j) _ _ (unhide VTM) (unhide GTM)
    have TF : Hid (∀ W, Below WF.heap.size WF W → Calls Try.prog 29 #[.agg #[.slice gF lF cF, .bool dF]] W fun e W' => ∃ v, e = .returned (.agg #[v, .bool false]) ∧ ToW W' v (a0 + 2 * a1 + 4 * a2) ∧ Below W.heap.size W W') := fun W b => toI_any W _ ((a0 : Int) + ((2 : Nat) : Int) * ((a1 : Int) + ((2 : Nat) : Int) * (a2 : Int))) 32 (by omega) (unhide ETF) (iF.next b) _ _ (unhide VTF) (unhide GTF)
    have TC : Hid (∀ W, Below WF.heap.size WF W → Calls Try.prog 29 #[.agg #[.slice gC lC cC, .bool dC]] W fun e W' => ∃ v, e = .returned (.agg #[v, .bool false]) ∧ ToW W' v (a2) ∧ Below W.heap.size W W') := fun W b => toI_any W _ (a2 : Int) 32 (by omega) (unhide ETC) ((unhide HiC).next (bF.trans (b.mono bF.size))) _ _ (unhide VTC) (unhide GTC)
    have AS : Hid (∀ W, Below WF.heap.size WF W → Calls Try.prog 25 #[.agg #[.slice gD lD cD, .bool dD], .agg #[.slice gB lB cB, .bool dB]] W fun e W' => ∃ r, e = .returned r ∧ IsI W' r ((a0 : Int) + (a2 : Int) + (a1 : Int)) ∧ Below W.heap.size W W') := fun W b => iAdd_any W _ _ _ _ 64 (by omega) (unhide M4) (unhide B1) ((unhide HiD).next (bF.trans (b.mono bF.size))) ((unhide HiB).next (bF.trans (b.mono bF.size)))
    have SS : Hid (∀ W, Below WF.heap.size WF W → Calls Try.prog 30 #[.agg #[.slice gD lD cD, .bool dD], .agg #[.slice gB lB cB, .bool dB]] W fun e W' => ∃ r, e = .returned r ∧ IsI W' r ((a0 : Int) + (a2 : Int) - (a1 : Int)) ∧ Below W.heap.size W W') := fun W b => iSub_any W _ _ _ _ 64 (by omega) (unhide M4) (unhide B1) ((unhide HiD).next (bF.trans (b.mono bF.size))) ((unhide HiB).next (bF.trans (b.mono bF.size)))
    have I0 : Hid (∀ W v, Below WF.heap.size WF W → ToW W v (a0) → Calls Try.prog 28 #[.agg #[.slice g0 l0 c0, .bool false], .agg #[v, .bool false]] W fun e W' => e = .returned (.bool true) ∧ Below W.heap.size W W') := fun W v b k => chk_any W _ _ _ _ _ ((unhide Hn0).next (bF.trans (b.mono bF.size))) k
    have I1 : Hid (∀ W v, Below WF.heap.size WF W → ToW W v (a0 + a1 + a2) → Calls Try.prog 28 #[.agg #[.slice g1 l1 c1, .bool false], .agg #[v, .bool false]] W fun e W' => e = .returned (.bool true) ∧ Below W.heap.size W W') := fun W v b k => chk_any W _ _ _ _ _ ((unhide Hn1).next (bF.trans (b.mono bF.size))) k
    have I2 : Hid (∀ W v, Below WF.heap.size WF W → ToW W v (nd (a0 + a2) a1) → Calls Try.prog 28 #[.agg #[.slice g2 l2 c2, .bool ng], .agg #[v, .bool ng]] W fun e W' => e = .returned (.bool true) ∧ Below W.heap.size W W') := fun W v b k => chk_any W _ _ _ _ _ ((unhide Hn2).next (bF.trans (b.mono bF.size))) k
    have I3 : Hid (∀ W v, Below WF.heap.size WF W → ToW W v (a0 + 2 * a1 + 4 * a2) → Calls Try.prog 28 #[.agg #[.slice g3 l3 c3, .bool false], .agg #[v, .bool false]] W fun e W' => e = .returned (.bool true) ∧ Below W.heap.size W W') := fun W v b k => chk_any W _ _ _ _ _ ((unhide Hn3).next (bF.trans (b.mono bF.size))) k
    have I4 : Hid (∀ W v, Below WF.heap.size WF W → ToW W v (a2) → Calls Try.prog 28 #[.agg #[.slice g4 l4 c4, .bool false], .agg #[v, .bool false]] W fun e W' => e = .returned (.bool true) ∧ Below W.heap.size W W') := fun W v b k => chk_any W _ _ _ _ _ ((unhide Hn4).next (bF.trans (b.mono bF.size))) k
    have IN : Hid (∀ W, Below WF.heap.size WF W → Calls Try.prog 18 #[.slice (some ⟨w.heap.size, 0, none⟩) n (n + 4), .slice ga n ca] W fun e W' => e = .returned (.bool true) ∧ Below W.heap.size W W') := fun W b => intact_any W ga w.heap.size ba oa ca n us (unhide hLA) (by omega) ((unhide HrA).next (bF.trans (b.mono bF.size))) F (unhide HF6) ((unhide Ht1).next (bF.trans (b.mono bF.size)))
    have BF := hide bF
    clear bF iF xF bq j1 j2 j3 j4
    go_wp2
    obtain ⟨p00, p01, p10, p11, p20, p21, p30, p31, p40, p41, pA0, pA1, pB0, pB1, pC0, pC1, pD0, pD1, pF0, pF1⟩ := unhide HD _ (Below.refl _ _)
    have bz : Below WF.heap.size WF WF.drew := (Below.refl _ _).drew
    go_region_held3 (fun W => W.cell? ⟨Q0, 0, none⟩ = some (.slice g0 l0 c0) ∧ W.cell? ⟨Q0, 1, none⟩ = some (.bool false) ∧ W.cell? ⟨Q0 + 1, 0, none⟩ = some (.slice g1 l1 c1) ∧ W.cell? ⟨Q0 + 1, 1, none⟩ = some (.bool false) ∧ W.cell? ⟨Q0 + 1 + 1, 0, none⟩ = some (.slice g2 l2 c2) ∧ W.cell? ⟨Q0 + 1 + 1, 1, none⟩ = some (.bool ng) ∧ W.cell? ⟨Q0 + 1 + 1 + 1, 0, none⟩ = some (.slice g3 l3 c3) ∧ W.cell? ⟨Q0 + 1 + 1 + 1, 1, none⟩ = some (.bool false) ∧ W.cell? ⟨Q0 + 1 + 1 + 1 + 1, 0, none⟩ = some (.slice g4 l4 c4) ∧ W.cell? ⟨Q0 + 1 + 1 + 1 + 1, 1, none⟩ = some (.bool false) ∧ W.cell? ⟨QA, 0, none⟩ = some (.slice gA lA cA) ∧ W.cell? ⟨QA, 1, none⟩ = some (.bool dA) ∧ W.cell? ⟨QB, 0, none⟩ = some (.slice gB lB cB) ∧ W.cell? ⟨QB, 1, none⟩ = some (.bool dB) ∧ W.cell? ⟨QC, 0, none⟩ = some (.slice gC lC cC) ∧ W.cell? ⟨QC, 1, none⟩ = some (.bool dC) ∧ W.cell? ⟨QD, 0, none⟩ = some (.slice gD lD cD) ∧ W.cell? ⟨QD, 1, none⟩ = some (.bool dD) ∧ W.cell? ⟨QF, 0, none⟩ = some (.slice gF lF cF) ∧ W.cell? ⟨QF, 1, none⟩ = some (.bool dF)) (first | (with_reducible exact unhide HD _ bz) | go_keep) (first
      | (go_at_call 29; with_reducible refine (unhide TA _ bz).mono ?_; rintro e uu ⟨vv1, rfl, kk1, b⟩; have bz := bz.trans (b.mono bz.size); skip)
      | (go_at_call 28; with_reducible refine (unhide I0 _ _ bz kk1).mono ?_; rintro e uu ⟨rfl, b⟩; have bz := bz.trans (b.mono bz.size); skip)
      | (go_at_call 25; with_reducible refine (unhide AS _ bz).mono ?_; rintro e uu ⟨rr2, rfl, jj2, b⟩; have bz := bz.trans (b.mono bz.size); skip)
      | (go_at_call 29; with_reducible refine (unhide TS _ _ bz jj2).mono ?_; rintro e uu ⟨vv2, rfl, kk2, b⟩; have bz := bz.trans (b.mono bz.size); skip)
      | (go_at_call 28; with_reducible refine (unhide I1 _ _ bz kk2).mono ?_; rintro e uu ⟨rfl, b⟩; have bz := bz.trans (b.mono bz.size); skip)
      | (go_at_call 30; with_reducible refine (unhide SS _ bz).mono ?_; rintro e uu ⟨rr3, rfl, jj3, b⟩; have bz := bz.trans (b.mono bz.size); skip)
      | (go_at_call 29; with_reducible refine (unhide TM _ _ bz jj3).mono ?_; rintro e uu ⟨vv3, rfl, kk3, b⟩; have bz := bz.trans (b.mono bz.size); skip)
      | (go_at_call 28; with_reducible refine (unhide I2 _ _ bz kk3).mono ?_; rintro e uu ⟨rfl, b⟩; have bz := bz.trans (b.mono bz.size); skip)
      | (go_at_call 29; with_reducible refine (unhide TF _ bz).mono ?_; rintro e uu ⟨vv4, rfl, kk4, b⟩; have bz := bz.trans (b.mono bz.size); skip)
      | (go_at_call 28; with_reducible refine (unhide I3 _ _ bz kk4).mono ?_; rintro e uu ⟨rfl, b⟩; have bz := bz.trans (b.mono bz.size); skip)
      | (go_at_call 29; with_reducible refine (unhide TC _ bz).mono ?_; rintro e uu ⟨vv5, rfl, kk5, b⟩; have bz := bz.trans (b.mono bz.size); skip)
      | (go_at_call 28; with_reducible refine (unhide I4 _ _ bz kk5).mono ?_; rintro e uu ⟨rfl, b⟩; have bz := bz.trans (b.mono bz.size); skip)
      | (go_at_call 18; with_reducible refine (unhide IN _ bz).mono ?_; rintro e uu ⟨rfl, b⟩; have bz := bz.trans (b.mono bz.size); skip)
      | (go_at_call 19; with_reducible refine (unhide CW _).mono ?_; rintro e uu ⟨rfl, b⟩; have bz := bz.trans (b.mono bz.size); skip)
      | fail)
    have fin := hide (bstep (unhide bl0) ((unhide BF).trans (bz.mono (unhide BF).size)))
    go_wp2
    go_ret
    exact ⟨rfl, unhide fin⟩
  · have bF := (bq.setCell (p := ⟨w33.heap.size, 0, none⟩) hq (.slice gF lF cF)).setCell (p := ⟨w33.heap.size, 1, none⟩) hq (.bool dF)
    have iF := j4.box (t := 46) ⟨_, _, _, _, hx⟩ (.slice gF lF cF) (.bool dF)
    have xF := hx.set (.slice gF lF cF) (.bool dF)
    obtain ⟨WF, hWF⟩ : ∃ WF, (w34.setCell ⟨w33.heap.size, 0, none⟩ (.slice gF lF cF)).setCell ⟨w33.heap.size, 1, none⟩ (.bool dF) = WF := ⟨_, rfl⟩
    rw [hWF] at bF iF xF ⊢
    obtain ⟨QF, hQF⟩ : ∃ QF, w33.heap.size = QF := ⟨_, rfl⟩
    rw [hQF] at xF ⊢
    clear hWF hQF
    clear HC HC2 C1 C2 C3 C4
    have HD : Hid (∀ W, Below WF.heap.size WF W → W.cell? ⟨Q0, 0, none⟩ = some (.slice g0 l0 c0) ∧ W.cell? ⟨Q0, 1, none⟩ = some (.bool false) ∧ W.cell? ⟨Q0 + 1, 0, none⟩ = some (.slice g1 l1 c1) ∧ W.cell? ⟨Q0 + 1, 1, none⟩ = some (.bool false) ∧ W.cell? ⟨Q0 + 1 + 1, 0, none⟩ = some (.slice g2 l2 c2) ∧ W.cell? ⟨Q0 + 1 + 1, 1, none⟩ = some (.bool ng) ∧ W.cell? ⟨Q0 + 1 + 1 + 1, 0, none⟩ = some (.slice g3 l3 c3) ∧ W.cell? ⟨Q0 + 1 + 1 + 1, 1, none⟩ = some (.bool false) ∧ W.cell? ⟨Q0 + 1 + 1 + 1 + 1, 0, none⟩ = some (.slice g4 l4 c4) ∧ W.cell? ⟨Q0 + 1 + 1 + 1 + 1, 1, none⟩ = some (.bool false) ∧ W.cell? ⟨QA, 0, none⟩ = some (.slice gA lA cA) ∧ W.cell? ⟨QA, 1, none⟩ = some (.bool dA) ∧ W.cell? ⟨QB, 0, none⟩ = some (.slice gB lB cB) ∧ W.cell? ⟨QB, 1, none⟩ = some (.bool dB) ∧ W.cell? ⟨QC, 0, none⟩ = some (.slice gC lC cC) ∧ W.cell? ⟨QC, 1, none⟩ = some (.bool dC) ∧ W.cell? ⟨QD, 0, none⟩ = some (.slice gD lD cD) ∧ W.cell? ⟨QD, 1, none⟩ = some (.bool dD) ∧ W.cell? ⟨QF, 0, none⟩ = some (.slice gF lF cF) ∧ W.cell? ⟨QF, 1, none⟩ = some (.bool dF)) := fun W b => ⟨((unhide Hx0).next (bF.trans (b.mono bF.size))).c0, ((unhide Hx0).next (bF.trans (b.mono bF.size))).c1, ((unhide Hx1).next (bF.trans (b.mono bF.size))).c0, ((unhide Hx1).next (bF.trans (b.mono bF.size))).c1, ((unhide Hx2).next (bF.trans (b.mono bF.size))).c0, ((unhide Hx2).next (bF.trans (b.mono bF.size))).c1, ((unhide Hx3).next (bF.trans (b.mono bF.size))).c0, ((unhide Hx3).next (bF.trans (b.mono bF.size))).c1, ((unhide Hx4).next (bF.trans (b.mono bF.size))).c0, ((unhide Hx4).next (bF.trans (b.mono bF.size))).c1, ((unhide HxA).next (bF.trans (b.mono bF.size))).c0, ((unhide HxA).next (bF.trans (b.mono bF.size))).c1, ((unhide HxB).next (bF.trans (b.mono bF.size))).c0, ((unhide HxB).next (bF.trans (b.mono bF.size))).c1, ((unhide HxC).next (bF.trans (b.mono bF.size))).c0, ((unhide HxC).next (bF.trans (b.mono bF.size))).c1, ((unhide HxD).next (bF.trans (b.mono bF.size))).c0, ((unhide HxD).next (bF.trans (b.mono bF.size))).c1, (xF.next b).c0, (xF.next b).c1⟩
    have TA : Hid (∀ W, Below WF.heap.size WF W → Calls Try.prog 29 #[.agg #[.slice gA lA cA, .bool dA]] W fun e W' => ∃ v, e = .returned (.agg #[v, .bool false]) ∧ ToW W' v (a0) ∧ Below W.heap.size W W') := fun W b => toI_any W _ (a0 : Int) 32 (by omega) (unhide ETA) ((unhide HiA).next (bF.trans (b.mono bF.size))) _ _ (unhide VTA) (unhide GTA)
    have TS : Hid (∀ W r, Below WF.heap.size WF W → IsI W r ((a0 : Int) + (a2 : Int) + (a1 : Int)) → Calls Try.prog 29 #[r] W fun e W' => ∃ v, e = .returned (.agg #[v, .bool false]) ∧ ToW W' v (a0 + a1 + a2) ∧ Below W.heap.size W W') := fun W r b j => toI_any W _ ((a0 : Int) + (a2 : Int) + (a1 : Int)) 32 (by omega) (unhide ETS) (j) _ _ (unhide VTS) (unhide GTS)
    have TM : Hid (∀ W r, Below WF.heap.size WF W → IsI W r ((a0 : Int) + (a2 : Int) - (a1 : Int)) → Calls Try.prog 29 #[r] W fun e W' => ∃ v, e = .returned (.agg #[v, .bool ng]) ∧ ToW W' v (nd (a0 + a2) a1) ∧ Below W.heap.size W W') := fun W r b j => toI_any W _ ((a0 : Int) + (a2 : Int) - (a1 : Int)) 32 (by omega) (unhide ETM) (j) _ _ (unhide VTM) (unhide GTM)
    have TF : Hid (∀ W, Below WF.heap.size WF W → Calls Try.prog 29 #[.agg #[.slice gF lF cF, .bool dF]] W fun e W' => ∃ v, e = .returned (.agg #[v, .bool false]) ∧ ToW W' v (a0 + 2 * a1 + 4 * a2) ∧ Below W.heap.size W W') := fun W b => toI_any W _ ((a0 : Int) + ((2 : Nat) : Int) * ((a1 : Int) + ((2 : Nat) : Int) * (a2 : Int))) 32 (by omega) (unhide ETF) (iF.next b) _ _ (unhide VTF) (unhide GTF)
    have TC : Hid (∀ W, Below WF.heap.size WF W → Calls Try.prog 29 #[.agg #[.slice gC lC cC, .bool dC]] W fun e W' => ∃ v, e = .returned (.agg #[v, .bool false]) ∧ ToW W' v (a2) ∧ Below W.heap.size W W') := fun W b => toI_any W _ (a2 : Int) 32 (by omega) (unhide ETC) ((unhide HiC).next (bF.trans (b.mono bF.size))) _ _ (unhide VTC) (unhide GTC)
    have AS : Hid (∀ W, Below WF.heap.size WF W → Calls Try.prog 25 #[.agg #[.slice gD lD cD, .bool dD], .agg #[.slice gB lB cB, .bool dB]] W fun e W' => ∃ r, e = .returned r ∧ IsI W' r ((a0 : Int) + (a2 : Int) + (a1 : Int)) ∧ Below W.heap.size W W') := fun W b => iAdd_any W _ _ _ _ 64 (by omega) (unhide M4) (unhide B1) ((unhide HiD).next (bF.trans (b.mono bF.size))) ((unhide HiB).next (bF.trans (b.mono bF.size)))
    have SS : Hid (∀ W, Below WF.heap.size WF W → Calls Try.prog 30 #[.agg #[.slice gD lD cD, .bool dD], .agg #[.slice gB lB cB, .bool dB]] W fun e W' => ∃ r, e = .returned r ∧ IsI W' r ((a0 : Int) + (a2 : Int) - (a1 : Int)) ∧ Below W.heap.size W W') := fun W b => iSub_any W _ _ _ _ 64 (by omega) (unhide M4) (unhide B1) ((unhide HiD).next (bF.trans (b.mono bF.size))) ((unhide HiB).next (bF.trans (b.mono bF.size)))
    have I0 : Hid (∀ W v, Below WF.heap.size WF W → ToW W v (a0) → Calls Try.prog 28 #[.agg #[.slice g0 l0 c0, .bool false], .agg #[v, .bool false]] W fun e W' => e = .returned (.bool true) ∧ Below W.heap.size W W') := fun W v b k => chk_any W _ _ _ _ _ ((unhide Hn0).next (bF.trans (b.mono bF.size))) k
    have I1 : Hid (∀ W v, Below WF.heap.size WF W → ToW W v (a0 + a1 + a2) → Calls Try.prog 28 #[.agg #[.slice g1 l1 c1, .bool false], .agg #[v, .bool false]] W fun e W' => e = .returned (.bool true) ∧ Below W.heap.size W W') := fun W v b k => chk_any W _ _ _ _ _ ((unhide Hn1).next (bF.trans (b.mono bF.size))) k
    have I2 : Hid (∀ W v, Below WF.heap.size WF W → ToW W v (nd (a0 + a2) a1) → Calls Try.prog 28 #[.agg #[.slice g2 l2 c2, .bool ng], .agg #[v, .bool ng]] W fun e W' => e = .returned (.bool true) ∧ Below W.heap.size W W') := fun W v b k => chk_any W _ _ _ _ _ ((unhide Hn2).next (bF.trans (b.mono bF.size))) k
    have I3 : Hid (∀ W v, Below WF.heap.size WF W → ToW W v (a0 + 2 * a1 + 4 * a2) → Calls Try.prog 28 #[.agg #[.slice g3 l3 c3, .bool false], .agg #[v, .bool false]] W fun e W' => e = .returned (.bool true) ∧ Below W.heap.size W W') := fun W v b k => chk_any W _ _ _ _ _ ((unhide Hn3).next (bF.trans (b.mono bF.size))) k
    have I4 : Hid (∀ W v, Below WF.heap.size WF W → ToW W v (a2) → Calls Try.prog 28 #[.agg #[.slice g4 l4 c4, .bool false], .agg #[v, .bool false]] W fun e W' => e = .returned (.bool true) ∧ Below W.heap.size W W') := fun W v b k => chk_any W _ _ _ _ _ ((unhide Hn4).next (bF.trans (b.mono bF.size))) k
    have IN : Hid (∀ W, Below WF.heap.size WF W → Calls Try.prog 18 #[.slice (some ⟨w.heap.size, 0, none⟩) n (n + 4), .slice ga n ca] W fun e W' => e = .returned (.bool true) ∧ Below W.heap.size W W') := fun W b => intact_any W ga w.heap.size ba oa ca n us (unhide hLA) (by omega) ((unhide HrA).next (bF.trans (b.mono bF.size))) F (unhide HF6) ((unhide Ht1).next (bF.trans (b.mono bF.size)))
    have BF := hide bF
    clear bF iF xF bq j1 j2 j3 j4
    go_wp2
    obtain ⟨p00, p01, p10, p11, p20, p21, p30, p31, p40, p41, pA0, pA1, pB0, pB1, pC0, pC1, pD0, pD1, pF0, pF1⟩ := unhide HD _ (Below.refl _ _)
    have bz : Below WF.heap.size WF WF.drew := (Below.refl _ _).drew
    go_region_held3 (fun W => W.cell? ⟨Q0, 0, none⟩ = some (.slice g0 l0 c0) ∧ W.cell? ⟨Q0, 1, none⟩ = some (.bool false) ∧ W.cell? ⟨Q0 + 1, 0, none⟩ = some (.slice g1 l1 c1) ∧ W.cell? ⟨Q0 + 1, 1, none⟩ = some (.bool false) ∧ W.cell? ⟨Q0 + 1 + 1, 0, none⟩ = some (.slice g2 l2 c2) ∧ W.cell? ⟨Q0 + 1 + 1, 1, none⟩ = some (.bool ng) ∧ W.cell? ⟨Q0 + 1 + 1 + 1, 0, none⟩ = some (.slice g3 l3 c3) ∧ W.cell? ⟨Q0 + 1 + 1 + 1, 1, none⟩ = some (.bool false) ∧ W.cell? ⟨Q0 + 1 + 1 + 1 + 1, 0, none⟩ = some (.slice g4 l4 c4) ∧ W.cell? ⟨Q0 + 1 + 1 + 1 + 1, 1, none⟩ = some (.bool false) ∧ W.cell? ⟨QA, 0, none⟩ = some (.slice gA lA cA) ∧ W.cell? ⟨QA, 1, none⟩ = some (.bool dA) ∧ W.cell? ⟨QB, 0, none⟩ = some (.slice gB lB cB) ∧ W.cell? ⟨QB, 1, none⟩ = some (.bool dB) ∧ W.cell? ⟨QC, 0, none⟩ = some (.slice gC lC cC) ∧ W.cell? ⟨QC, 1, none⟩ = some (.bool dC) ∧ W.cell? ⟨QD, 0, none⟩ = some (.slice gD lD cD) ∧ W.cell? ⟨QD, 1, none⟩ = some (.bool dD) ∧ W.cell? ⟨QF, 0, none⟩ = some (.slice gF lF cF) ∧ W.cell? ⟨QF, 1, none⟩ = some (.bool dF)) (first | (with_reducible exact unhide HD _ bz) | go_keep) (first
      | (go_at_call 29; with_reducible refine (unhide TA _ bz).mono ?_; rintro e uu ⟨vv1, rfl, kk1, b⟩; have bz := bz.trans (b.mono bz.size); skip)
      | (go_at_call 28; with_reducible refine (unhide I0 _ _ bz kk1).mono ?_; rintro e uu ⟨rfl, b⟩; have bz := bz.trans (b.mono bz.size); skip)
      | (go_at_call 25; with_reducible refine (unhide AS _ bz).mono ?_; rintro e uu ⟨rr2, rfl, jj2, b⟩; have bz := bz.trans (b.mono bz.size); skip)
      | (go_at_call 29; with_reducible refine (unhide TS _ _ bz jj2).mono ?_; rintro e uu ⟨vv2, rfl, kk2, b⟩; have bz := bz.trans (b.mono bz.size); skip)
      | (go_at_call 28; with_reducible refine (unhide I1 _ _ bz kk2).mono ?_; rintro e uu ⟨rfl, b⟩; have bz := bz.trans (b.mono bz.size); skip)
      | (go_at_call 30; with_reducible refine (unhide SS _ bz).mono ?_; rintro e uu ⟨rr3, rfl, jj3, b⟩; have bz := bz.trans (b.mono bz.size); skip)
      | (go_at_call 29; with_reducible refine (unhide TM _ _ bz jj3).mono ?_; rintro e uu ⟨vv3, rfl, kk3, b⟩; have bz := bz.trans (b.mono bz.size); skip)
      | (go_at_call 28; with_reducible refine (unhide I2 _ _ bz kk3).mono ?_; rintro e uu ⟨rfl, b⟩; have bz := bz.trans (b.mono bz.size); skip)
      | (go_at_call 29; with_reducible refine (unhide TF _ bz).mono ?_; rintro e uu ⟨vv4, rfl, kk4, b⟩; have bz := bz.trans (b.mono bz.size); skip)
      | (go_at_call 28; with_reducible refine (unhide I3 _ _ bz kk4).mono ?_; rintro e uu ⟨rfl, b⟩; have bz := bz.trans (b.mono bz.size); skip)
      | (go_at_call 29; with_reducible refine (unhide TC _ bz).mono ?_; rintro e uu ⟨vv5, rfl, kk5, b⟩; have bz := bz.trans (b.mono bz.size); skip)
      | (go_at_call 28; with_reducible refine (unhide I4 _ _ bz kk5).mono ?_; rintro e uu ⟨rfl, b⟩; have bz := bz.trans (b.mono bz.size); skip)
      | (go_at_call 18; with_reducible refine (unhide IN _ bz).mono ?_; rintro e uu ⟨rfl, b⟩; have bz := bz.trans (b.mono bz.size); skip)
      | (go_at_call 19; with_reducible refine (unhide CW _).mono ?_; rintro e uu ⟨rfl, b⟩; have bz := bz.trans (b.mono bz.size); skip)
      | fail)
    have fin := hide (bstep (unhide bl0) ((unhide BF).trans (bz.mono (unhide BF).size)))
    go_wp2
    go_ret
    exact ⟨rfl, unhide fin⟩
  · have bF := (bq.setCell (p := ⟨w32.heap.size, 0, none⟩) hq (.slice gF lF cF)).setCell (p := ⟨w32.heap.size, 1, none⟩) hq (.bool dF)
    have iF := j4.box (t := 46) ⟨_, _, _, _, hx⟩ (.slice gF lF cF) (.bool dF)
    have xF := hx.set (.slice gF lF cF) (.bool dF)
    obtain ⟨WF, hWF⟩ : ∃ WF, (w34.setCell ⟨w32.heap.size, 0, none⟩ (.slice gF lF cF)).setCell ⟨w32.heap.size, 1, none⟩ (.bool dF) = WF := ⟨_, rfl⟩
    rw [hWF] at bF iF xF ⊢
    obtain ⟨QF, hQF⟩ : ∃ QF, w32.heap.size = QF := ⟨_, rfl⟩
    rw [hQF] at xF ⊢
    clear hWF hQF
    clear HC HC2 C1 C2 C3 C4
    have HD : Hid (∀ W, Below WF.heap.size WF W → W.cell? ⟨Q0, 0, none⟩ = some (.slice g0 l0 c0) ∧ W.cell? ⟨Q0, 1, none⟩ = some (.bool false) ∧ W.cell? ⟨Q0 + 1, 0, none⟩ = some (.slice g1 l1 c1) ∧ W.cell? ⟨Q0 + 1, 1, none⟩ = some (.bool false) ∧ W.cell? ⟨Q0 + 1 + 1, 0, none⟩ = some (.slice g2 l2 c2) ∧ W.cell? ⟨Q0 + 1 + 1, 1, none⟩ = some (.bool ng) ∧ W.cell? ⟨Q0 + 1 + 1 + 1, 0, none⟩ = some (.slice g3 l3 c3) ∧ W.cell? ⟨Q0 + 1 + 1 + 1, 1, none⟩ = some (.bool false) ∧ W.cell? ⟨Q0 + 1 + 1 + 1 + 1, 0, none⟩ = some (.slice g4 l4 c4) ∧ W.cell? ⟨Q0 + 1 + 1 + 1 + 1, 1, none⟩ = some (.bool false) ∧ W.cell? ⟨QA, 0, none⟩ = some (.slice gA lA cA) ∧ W.cell? ⟨QA, 1, none⟩ = some (.bool dA) ∧ W.cell? ⟨QB, 0, none⟩ = some (.slice gB lB cB) ∧ W.cell? ⟨QB, 1, none⟩ = some (.bool dB) ∧ W.cell? ⟨QC, 0, none⟩ = some (.slice gC lC cC) ∧ W.cell? ⟨QC, 1, none⟩ = some (.bool dC) ∧ W.cell? ⟨QD, 0, none⟩ = some (.slice gD lD cD) ∧ W.cell? ⟨QD, 1, none⟩ = some (.bool dD) ∧ W.cell? ⟨QF, 0, none⟩ = some (.slice gF lF cF) ∧ W.cell? ⟨QF, 1, none⟩ = some (.bool dF)) := fun W b => ⟨((unhide Hx0).next (bF.trans (b.mono bF.size))).c0, ((unhide Hx0).next (bF.trans (b.mono bF.size))).c1, ((unhide Hx1).next (bF.trans (b.mono bF.size))).c0, ((unhide Hx1).next (bF.trans (b.mono bF.size))).c1, ((unhide Hx2).next (bF.trans (b.mono bF.size))).c0, ((unhide Hx2).next (bF.trans (b.mono bF.size))).c1, ((unhide Hx3).next (bF.trans (b.mono bF.size))).c0, ((unhide Hx3).next (bF.trans (b.mono bF.size))).c1, ((unhide Hx4).next (bF.trans (b.mono bF.size))).c0, ((unhide Hx4).next (bF.trans (b.mono bF.size))).c1, ((unhide HxA).next (bF.trans (b.mono bF.size))).c0, ((unhide HxA).next (bF.trans (b.mono bF.size))).c1, ((unhide HxB).next (bF.trans (b.mono bF.size))).c0, ((unhide HxB).next (bF.trans (b.mono bF.size))).c1, ((unhide HxC).next (bF.trans (b.mono bF.size))).c0, ((unhide HxC).next (bF.trans (b.mono bF.size))).c1, ((unhide HxD).next (bF.trans (b.mono bF.size))).c0, ((unhide HxD).next (bF.trans (b.mono bF.size))).c1, (xF.next b).c0, (xF.next b).c1⟩
    have TA : Hid (∀ W, Below WF.heap.size WF W → Calls Try.prog 29 #[.agg #[.slice gA lA cA, .bool dA]] W fun e W' => ∃ v, e = .returned (.agg #[v, .bool false]) ∧ ToW W' v (a0) ∧ Below W.heap.size W W') := fun W b => toI_any W _ (a0 : Int) 32 (by omega) (unhide ETA) ((unhide HiA).next (bF.trans (b.mono bF.size))) _ _ (unhide VTA) (unhide GTA)
    have TS : Hid (∀ W r, Below WF.heap.size WF W → IsI W r ((a0 : Int) + (a2 : Int) + (a1 : Int)) → Calls Try.prog 29 #[r] W fun e W' => ∃ v, e = .returned (.agg #[v, .bool false]) ∧ ToW W' v (a0 + a1 + a2) ∧ Below W.heap.size W W') := fun W r b j => toI_any W _ ((a0 : Int) + (a2 : Int) + (a1 : Int)) 32 (by omega) (unhide ETS) (j) _ _ (unhide VTS) (unhide GTS)
    have TM : Hid (∀ W r, Below WF.heap.size WF W → IsI W r ((a0 : Int) + (a2 : Int) - (a1 : Int)) → Calls Try.prog 29 #[r] W fun e W' => ∃ v, e = .returned (.agg #[v, .bool ng]) ∧ ToW W' v (nd (a0 + a2) a1) ∧ Below W.heap.size W W') := fun W r b j => toI_any W _ ((a0 : Int) + (a2 : Int) - (a1 : Int)) 32 (by omega) (unhide ETM) (j) _ _ (unhide VTM) (unhide GTM)
    have TF : Hid (∀ W, Below WF.heap.size WF W → Calls Try.prog 29 #[.agg #[.slice gF lF cF, .bool dF]] W fun e W' => ∃ v, e = .returned (.agg #[v, .bool false]) ∧ ToW W' v (a0 + 2 * a1 + 4 * a2) ∧ Below W.heap.size W W') := fun W b => toI_any W _ ((a0 : Int) + ((2 : Nat) : Int) * ((a1 : Int) + ((2 : Nat) : Int) * (a2 : Int))) 32 (by omega) (unhide ETF) (iF.next b) _ _ (unhide VTF) (unhide GTF)
    have TC : Hid (∀ W, Below WF.heap.size WF W → Calls Try.prog 29 #[.agg #[.slice gC lC cC, .bool dC]] W fun e W' => ∃ v, e = .returned (.agg #[v, .bool false]) ∧ ToW W' v (a2) ∧ Below W.heap.size W W') := fun W b => toI_any W _ (a2 : Int) 32 (by omega) (unhide ETC) ((unhide HiC).next (bF.trans (b.mono bF.size))) _ _ (unhide VTC) (unhide GTC)
    have AS : Hid (∀ W, Below WF.heap.size WF W → Calls Try.prog 25 #[.agg #[.slice gD lD cD, .bool dD], .agg #[.slice gB lB cB, .bool dB]] W fun e W' => ∃ r, e = .returned r ∧ IsI W' r ((a0 : Int) + (a2 : Int) + (a1 : Int)) ∧ Below W.heap.size W W') := fun W b => iAdd_any W _ _ _ _ 64 (by omega) (unhide M4) (unhide B1) ((unhide HiD).next (bF.trans (b.mono bF.size))) ((unhide HiB).next (bF.trans (b.mono bF.size)))
    have SS : Hid (∀ W, Below WF.heap.size WF W → Calls Try.prog 30 #[.agg #[.slice gD lD cD, .bool dD], .agg #[.slice gB lB cB, .bool dB]] W fun e W' => ∃ r, e = .returned r ∧ IsI W' r ((a0 : Int) + (a2 : Int) - (a1 : Int)) ∧ Below W.heap.size W W') := fun W b => iSub_any W _ _ _ _ 64 (by omega) (unhide M4) (unhide B1) ((unhide HiD).next (bF.trans (b.mono bF.size))) ((unhide HiB).next (bF.trans (b.mono bF.size)))
    have I0 : Hid (∀ W v, Below WF.heap.size WF W → ToW W v (a0) → Calls Try.prog 28 #[.agg #[.slice g0 l0 c0, .bool false], .agg #[v, .bool false]] W fun e W' => e = .returned (.bool true) ∧ Below W.heap.size W W') := fun W v b k => chk_any W _ _ _ _ _ ((unhide Hn0).next (bF.trans (b.mono bF.size))) k
    have I1 : Hid (∀ W v, Below WF.heap.size WF W → ToW W v (a0 + a1 + a2) → Calls Try.prog 28 #[.agg #[.slice g1 l1 c1, .bool false], .agg #[v, .bool false]] W fun e W' => e = .returned (.bool true) ∧ Below W.heap.size W W') := fun W v b k => chk_any W _ _ _ _ _ ((unhide Hn1).next (bF.trans (b.mono bF.size))) k
    have I2 : Hid (∀ W v, Below WF.heap.size WF W → ToW W v (nd (a0 + a2) a1) → Calls Try.prog 28 #[.agg #[.slice g2 l2 c2, .bool ng], .agg #[v, .bool ng]] W fun e W' => e = .returned (.bool true) ∧ Below W.heap.size W W') := fun W v b k => chk_any W _ _ _ _ _ ((unhide Hn2).next (bF.trans (b.mono bF.size))) k
    have I3 : Hid (∀ W v, Below WF.heap.size WF W → ToW W v (a0 + 2 * a1 + 4 * a2) → Calls Try.prog 28 #[.agg #[.slice g3 l3 c3, .bool false], .agg #[v, .bool false]] W fun e W' => e = .returned (.bool true) ∧ Below W.heap.size W W') := fun W v b k => chk_any W _ _ _ _ _ ((unhide Hn3).next (bF.trans (b.mono bF.size))) k
    have I4 : Hid (∀ W v, Below WF.heap.size WF W → ToW W v (a2) → Calls Try.prog 28 #[.agg #[.slice g4 l4 c4, .bool false], .agg #[v, .bool false]] W fun e W' => e = .returned (.bool true) ∧ Below W.heap.size W W') := fun W v b k => chk_any W _ _ _ _ _ ((unhide Hn4).next (bF.trans (b.mono bF.size))) k
    have IN : Hid (∀ W, Below WF.heap.size WF W → Calls Try.prog 18 #[.slice (some ⟨w.heap.size, 0, none⟩) n (n + 4), .slice ga n ca] W fun e W' => e = .returned (.bool true) ∧ Below W.heap.size W W') := fun W b => intact_any W ga w.heap.size ba oa ca n us (unhide hLA) (by omega) ((unhide HrA).next (bF.trans (b.mono bF.size))) F (unhide HF6) ((unhide Ht1).next (bF.trans (b.mono bF.size)))
    have BF := hide bF
    clear bF iF xF bq j1 j2 j3 j4
    go_wp2
    obtain ⟨p00, p01, p10, p11, p20, p21, p30, p31, p40, p41, pA0, pA1, pB0, pB1, pC0, pC1, pD0, pD1, pF0, pF1⟩ := unhide HD _ (Below.refl _ _)
    have bz : Below WF.heap.size WF WF.drew := (Below.refl _ _).drew
    go_region_held3 (fun W => W.cell? ⟨Q0, 0, none⟩ = some (.slice g0 l0 c0) ∧ W.cell? ⟨Q0, 1, none⟩ = some (.bool false) ∧ W.cell? ⟨Q0 + 1, 0, none⟩ = some (.slice g1 l1 c1) ∧ W.cell? ⟨Q0 + 1, 1, none⟩ = some (.bool false) ∧ W.cell? ⟨Q0 + 1 + 1, 0, none⟩ = some (.slice g2 l2 c2) ∧ W.cell? ⟨Q0 + 1 + 1, 1, none⟩ = some (.bool ng) ∧ W.cell? ⟨Q0 + 1 + 1 + 1, 0, none⟩ = some (.slice g3 l3 c3) ∧ W.cell? ⟨Q0 + 1 + 1 + 1, 1, none⟩ = some (.bool false) ∧ W.cell? ⟨Q0 + 1 + 1 + 1 + 1, 0, none⟩ = some (.slice g4 l4 c4) ∧ W.cell? ⟨Q0 + 1 + 1 + 1 + 1, 1, none⟩ = some (.bool false) ∧ W.cell? ⟨QA, 0, none⟩ = some (.slice gA lA cA) ∧ W.cell? ⟨QA, 1, none⟩ = some (.bool dA) ∧ W.cell? ⟨QB, 0, none⟩ = some (.slice gB lB cB) ∧ W.cell? ⟨QB, 1, none⟩ = some (.bool dB) ∧ W.cell? ⟨QC, 0, none⟩ = some (.slice gC lC cC) ∧ W.cell? ⟨QC, 1, none⟩ = some (.bool dC) ∧ W.cell? ⟨QD, 0, none⟩ = some (.slice gD lD cD) ∧ W.cell? ⟨QD, 1, none⟩ = some (.bool dD) ∧ W.cell? ⟨QF, 0, none⟩ = some (.slice gF lF cF) ∧ W.cell? ⟨QF, 1, none⟩ = some (.bool dF)) (first | (with_reducible exact unhide HD _ bz) | go_keep) (first
      | (go_at_call 29; with_reducible refine (unhide TA _ bz).mono ?_; rintro e uu ⟨vv1, rfl, kk1, b⟩; have bz := bz.trans (b.mono bz.size); skip)
      | (go_at_call 28; with_reducible refine (unhide I0 _ _ bz kk1).mono ?_; rintro e uu ⟨rfl, b⟩; have bz := bz.trans (b.mono bz.size); skip)
      | (go_at_call 25; with_reducible refine (unhide AS _ bz).mono ?_; rintro e uu ⟨rr2, rfl, jj2, b⟩; have bz := bz.trans (b.mono bz.size); skip)
      | (go_at_call 29; with_reducible refine (unhide TS _ _ bz jj2).mono ?_; rintro e uu ⟨vv2, rfl, kk2, b⟩; have bz := bz.trans (b.mono bz.size); skip)
      | (go_at_call 28; with_reducible refine (unhide I1 _ _ bz kk2).mono ?_; rintro e uu ⟨rfl, b⟩; have bz := bz.trans (b.mono bz.size); skip)
      | (go_at_call 30; with_reducible refine (unhide SS _ bz).mono ?_; rintro e uu ⟨rr3, rfl, jj3, b⟩; have bz := bz.trans (b.mono bz.size); skip)
      | (go_at_call 29; with_reducible refine (unhide TM _ _ bz jj3).mono ?_; rintro e uu ⟨vv3, rfl, kk3, b⟩; have bz := bz.trans (b.mono bz.size); skip)
      | (go_at_call 28; with_reducible refine (unhide I2 _ _ bz kk3).mono ?_; rintro e uu ⟨rfl, b⟩; have bz := bz.trans (b.mono bz.size); skip)
      | (go_at_call 29; with_reducible refine (unhide TF _ bz).mono ?_; rintro e uu ⟨vv4, rfl, kk4, b⟩; have bz := bz.trans (b.mono bz.size); skip)
      | (go_at_call 28; with_reducible refine (unhide I3 _ _ bz kk4).mono ?_; rintro e uu ⟨rfl, b⟩; have bz := bz.trans (b.mono bz.size); skip)
      | (go_at_call 29; with_reducible refine (unhide TC _ bz).mono ?_; rintro e uu ⟨vv5, rfl, kk5, b⟩; have bz := bz.trans (b.mono bz.size); skip)
      | (go_at_call 28; with_reducible refine (unhide I4 _ _ bz kk5).mono ?_; rintro e uu ⟨rfl, b⟩; have bz := bz.trans (b.mono bz.size); skip)
      | (go_at_call 18; with_reducible refine (unhide IN _ bz).mono ?_; rintro e uu ⟨rfl, b⟩; have bz := bz.trans (b.mono bz.size); skip)
      | (go_at_call 19; with_reducible refine (unhide CW _).mono ?_; rintro e uu ⟨rfl, b⟩; have bz := bz.trans (b.mono bz.size); skip)
      | fail)
    have fin := hide (bstep (unhide bl0) ((unhide BF).trans (bz.mono (unhide BF).size)))
    go_wp2
    go_ret
    exact ⟨rfl, unhide fin⟩
  · have bF := (bq.setCell (p := ⟨w31.heap.size, 0, none⟩) hq (.slice gF lF cF)).setCell (p := ⟨w31.heap.size, 1, none⟩) hq (.bool dF)
    have iF := j4.box (t := 46) ⟨_, _, _, _, hx⟩ (.slice gF lF cF) (.bool dF)
    have xF := hx.set (.slice gF lF cF) (.bool dF)
    obtain ⟨WF, hWF⟩ : ∃ WF, (w34.setCell ⟨w31.heap.size, 0, none⟩ (.slice gF lF cF)).setCell ⟨w31.heap.size, 1, none⟩ (.bool dF) = WF := ⟨_, rfl⟩
    rw [hWF] at bF iF xF ⊢
    obtain ⟨QF, hQF⟩ : ∃ QF, w31.heap.size = QF := ⟨_, rfl⟩
    rw [hQF] at xF ⊢
    clear hWF hQF
    clear HC HC2 C1 C2 C3 C4
    have HD : Hid (∀ W, Below WF.heap.size WF W → W.cell? ⟨Q0, 0, none⟩ = some (.slice g0 l0 c0) ∧ W.cell? ⟨Q0, 1, none⟩ = some (.bool false) ∧ W.cell? ⟨Q0 + 1, 0, none⟩ = some (.slice g1 l1 c1) ∧ W.cell? ⟨Q0 + 1, 1, none⟩ = some (.bool false) ∧ W.cell? ⟨Q0 + 1 + 1, 0, none⟩ = some (.slice g2 l2 c2) ∧ W.cell? ⟨Q0 + 1 + 1, 1, none⟩ = some (.bool ng) ∧ W.cell? ⟨Q0 + 1 + 1 + 1, 0, none⟩ = some (.slice g3 l3 c3) ∧ W.cell? ⟨Q0 + 1 + 1 + 1, 1, none⟩ = some (.bool false) ∧ W.cell? ⟨Q0 + 1 + 1 + 1 + 1, 0, none⟩ = some (.slice g4 l4 c4) ∧ W.cell? ⟨Q0 + 1 + 1 + 1 + 1, 1, none⟩ = some (.bool false) ∧ W.cell? ⟨QA, 0, none⟩ = some (.slice gA lA cA) ∧ W.cell? ⟨QA, 1, none⟩ = some (.bool dA) ∧ W.cell? ⟨QB, 0, none⟩ = some (.slice gB lB cB) ∧ W.cell? ⟨QB, 1, none⟩ = some (.bool dB) ∧ W.cell? ⟨QC, 0, none⟩ = some (.slice gC lC cC) ∧ W.cell? ⟨QC, 1, none⟩ = some (.bool dC) ∧ W.cell? ⟨QD, 0, none⟩ = some (.slice gD lD cD) ∧ W.cell? ⟨QD, 1, none⟩ = some (.bool dD) ∧ W.cell? ⟨QF, 0, none⟩ = some (.slice gF lF cF) ∧ W.cell? ⟨QF, 1, none⟩ = some (.bool dF)) := fun W b => ⟨((unhide Hx0).next (bF.trans (b.mono bF.size))).c0, ((unhide Hx0).next (bF.trans (b.mono bF.size))).c1, ((unhide Hx1).next (bF.trans (b.mono bF.size))).c0, ((unhide Hx1).next (bF.trans (b.mono bF.size))).c1, ((unhide Hx2).next (bF.trans (b.mono bF.size))).c0, ((unhide Hx2).next (bF.trans (b.mono bF.size))).c1, ((unhide Hx3).next (bF.trans (b.mono bF.size))).c0, ((unhide Hx3).next (bF.trans (b.mono bF.size))).c1, ((unhide Hx4).next (bF.trans (b.mono bF.size))).c0, ((unhide Hx4).next (bF.trans (b.mono bF.size))).c1, ((unhide HxA).next (bF.trans (b.mono bF.size))).c0, ((unhide HxA).next (bF.trans (b.mono bF.size))).c1, ((unhide HxB).next (bF.trans (b.mono bF.size))).c0, ((unhide HxB).next (bF.trans (b.mono bF.size))).c1, ((unhide HxC).next (bF.trans (b.mono bF.size))).c0, ((unhide HxC).next (bF.trans (b.mono bF.size))).c1, ((unhide HxD).next (bF.trans (b.mono bF.size))).c0, ((unhide HxD).next (bF.trans (b.mono bF.size))).c1, (xF.next b).c0, (xF.next b).c1⟩
    have TA : Hid (∀ W, Below WF.heap.size WF W → Calls Try.prog 29 #[.agg #[.slice gA lA cA, .bool dA]] W fun e W' => ∃ v, e = .returned (.agg #[v, .bool false]) ∧ ToW W' v (a0) ∧ Below W.heap.size W W') := fun W b => toI_any W _ (a0 : Int) 32 (by omega) (unhide ETA) ((unhide HiA).next (bF.trans (b.mono bF.size))) _ _ (unhide VTA) (unhide GTA)
    have TS : Hid (∀ W r, Below WF.heap.size WF W → IsI W r ((a0 : Int) + (a2 : Int) + (a1 : Int)) → Calls Try.prog 29 #[r] W fun e W' => ∃ v, e = .returned (.agg #[v, .bool false]) ∧ ToW W' v (a0 + a1 + a2) ∧ Below W.heap.size W W') := fun W r b j => toI_any W _ ((a0 : Int) + (a2 : Int) + (a1 : Int)) 32 (by omega) (unhide ETS) (j) _ _ (unhide VTS) (unhide GTS)
    have TM : Hid (∀ W r, Below WF.heap.size WF W → IsI W r ((a0 : Int) + (a2 : Int) - (a1 : Int)) → Calls Try.prog 29 #[r] W fun e W' => ∃ v, e = .returned (.agg #[v, .bool ng]) ∧ ToW W' v (nd (a0 + a2) a1) ∧ Below W.heap.size W W') := fun W r b j => toI_any W _ ((a0 : Int) + (a2 : Int) - (a1 : Int)) 32 (by omega) (unhide ETM) (j) _ _ (unhide VTM) (unhide GTM)
    have TF : Hid (∀ W, Below WF.heap.size WF W → Calls Try.prog 29 #[.agg #[.slice gF lF cF, .bool dF]] W fun e W' => ∃ v, e = .returned (.agg #[v, .bool false]) ∧ ToW W' v (a0 + 2 * a1 + 4 * a2) ∧ Below W.heap.size W W') := fun W b => toI_any W _ ((a0 : Int) + ((2 : Nat) : Int) * ((a1 : Int) + ((2 : Nat) : Int) * (a2 : Int))) 32 (by omega) (unhide ETF) (iF.next b) _ _ (unhide VTF) (unhide GTF)
    have TC : Hid (∀ W, Below WF.heap.size WF W → Calls Try.prog 29 #[.agg #[.slice gC lC cC, .bool dC]] W fun e W' => ∃ v, e = .returned (.agg #[v, .bool false]) ∧ ToW W' v (a2) ∧ Below W.heap.size W W') := fun W b => toI_any W _ (a2 : Int) 32 (by omega) (unhide ETC) ((unhide HiC).next (bF.trans (b.mono bF.size))) _ _ (unhide VTC) (unhide GTC)
    have AS : Hid (∀ W, Below WF.heap.size WF W → Calls Try.prog 25 #[.agg #[.slice gD lD cD, .bool dD], .agg #[.slice gB lB cB, .bool dB]] W fun e W' => ∃ r, e = .returned r ∧ IsI W' r ((a0 : Int) + (a2 : Int) + (a1 : Int)) ∧ Below W.heap.size W W') := fun W b => iAdd_any W _ _ _ _ 64 (by omega) (unhide M4) (unhide B1) ((unhide HiD).next (bF.trans (b.mono bF.size))) ((unhide HiB).next (bF.trans (b.mono bF.size)))
    have SS : Hid (∀ W, Below WF.heap.size WF W → Calls Try.prog 30 #[.agg #[.slice gD lD cD, .bool dD], .agg #[.slice gB lB cB, .bool dB]] W fun e W' => ∃ r, e = .returned r ∧ IsI W' r ((a0 : Int) + (a2 : Int) - (a1 : Int)) ∧ Below W.heap.size W W') := fun W b => iSub_any W _ _ _ _ 64 (by omega) (unhide M4) (unhide B1) ((unhide HiD).next (bF.trans (b.mono bF.size))) ((unhide HiB).next (bF.trans (b.mono bF.size)))
    have I0 : Hid (∀ W v, Below WF.heap.size WF W → ToW W v (a0) → Calls Try.prog 28 #[.agg #[.slice g0 l0 c0, .bool false], .agg #[v, .bool false]] W fun e W' => e = .returned (.bool true) ∧ Below W.heap.size W W') := fun W v b k => chk_any W _ _ _ _ _ ((unhide Hn0).next (bF.trans (b.mono bF.size))) k
    have I1 : Hid (∀ W v, Below WF.heap.size WF W → ToW W v (a0 + a1 + a2) → Calls Try.prog 28 #[.agg #[.slice g1 l1 c1, .bool false], .agg #[v, .bool false]] W fun e W' => e = .returned (.bool true) ∧ Below W.heap.size W W') := fun W v b k => chk_any W _ _ _ _ _ ((unhide Hn1).next (bF.trans (b.mono bF.size))) k
    have I2 : Hid (∀ W v, Below WF.heap.size WF W → ToW W v (nd (a0 + a2) a1) → Calls Try.prog 28 #[.agg #[.slice g2 l2 c2, .bool ng], .agg #[v, .bool ng]] W fun e W' => e = .returned (.bool true) ∧ Below W.heap.size W W') := fun W v b k => chk_any W _ _ _ _ _ ((unhide Hn2).next (bF.trans (b.mono bF.size))) k
    have I3 : Hid (∀ W v, Below WF.heap.size WF W → ToW W v (a0 + 2 * a1 + 4 * a2) → Calls Try.prog 28 #[.agg #[.slice g3 l3 c3, .bool false], .agg #[v, .bool false]] W fun e W' => e = .returned (.bool true) ∧ Below W.heap.size W W') := fun W v b k => chk_any W _ _ _ _ _ ((unhide Hn3).next (bF.trans (b.mono bF.size))) k
    have I4 : Hid (∀ W v, Below WF.heap.size WF W → ToW W v (a2) → Calls Try.prog 28 #[.agg #[.slice g4 l4 c4, .bool false], .agg #[v, .bool false]] W fun e W' => e = .returned (.bool true) ∧ Below W.heap.size W W') := fun W v b k => chk_any W _ _ _ _ _ ((unhide Hn4).next (bF.trans (b.mono bF.size))) k
    have IN : Hid (∀ W, Below WF.heap.size WF W → Calls Try.prog 18 #[.slice (some ⟨w.heap.size, 0, none⟩) n (n + 4), .slice ga n ca] W fun e W' => e = .returned (.bool true) ∧ Below W.heap.size W W') := fun W b => intact_any W ga w.heap.size ba oa ca n us (unhide hLA) (by omega) ((unhide HrA).next (bF.trans (b.mono bF.size))) F (unhide HF6) ((unhide Ht1).next (bF.trans (b.mono bF.size)))
    have BF := hide bF
    clear bF iF xF bq j1 j2 j3 j4
    go_wp2
    obtain ⟨p00, p01, p10, p11, p20, p21, p30, p31, p40, p41, pA0, pA1, pB0, pB1, pC0, pC1, pD0, pD1, pF0, pF1⟩ := unhide HD _ (Below.refl _ _)
    have bz : Below WF.heap.size WF WF.drew := (Below.refl _ _).drew
    go_region_held3 (fun W => W.cell? ⟨Q0, 0, none⟩ = some (.slice g0 l0 c0) ∧ W.cell? ⟨Q0, 1, none⟩ = some (.bool false) ∧ W.cell? ⟨Q0 + 1, 0, none⟩ = some (.slice g1 l1 c1) ∧ W.cell? ⟨Q0 + 1, 1, none⟩ = some (.bool false) ∧ W.cell? ⟨Q0 + 1 + 1, 0, none⟩ = some (.slice g2 l2 c2) ∧ W.cell? ⟨Q0 + 1 + 1, 1, none⟩ = some (.bool ng) ∧ W.cell? ⟨Q0 + 1 + 1 + 1, 0, none⟩ = some (.slice g3 l3 c3) ∧ W.cell? ⟨Q0 + 1 + 1 + 1, 1, none⟩ = some (.bool false) ∧ W.cell? ⟨Q0 + 1 + 1 + 1 + 1, 0, none⟩ = some (.slice g4 l4 c4) ∧ W.cell? ⟨Q0 + 1 + 1 + 1 + 1, 1, none⟩ = some (.bool false) ∧ W.cell? ⟨QA, 0, none⟩ = some (.slice gA lA cA) ∧ W.cell? ⟨QA, 1, none⟩ = some (.bool dA) ∧ W.cell? ⟨QB, 0, none⟩ = some (.slice gB lB cB) ∧ W.cell? ⟨QB, 1, none⟩ = some (.bool dB) ∧ W.cell? ⟨QC, 0, none⟩ = some (.slice gC lC cC) ∧ W.cell? ⟨QC, 1, none⟩ = some (.bool dC) ∧ W.cell? ⟨QD, 0, none⟩ = some (.slice gD lD cD) ∧ W.cell? ⟨QD, 1, none⟩ = some (.bool dD) ∧ W.cell? ⟨QF, 0, none⟩ = some (.slice gF lF cF) ∧ W.cell? ⟨QF, 1, none⟩ = some (.bool dF)) (first | (with_reducible exact unhide HD _ bz) | go_keep) (first
      | (go_at_call 29; with_reducible refine (unhide TA _ bz).mono ?_; rintro e uu ⟨vv1, rfl, kk1, b⟩; have bz := bz.trans (b.mono bz.size); skip)
      | (go_at_call 28; with_reducible refine (unhide I0 _ _ bz kk1).mono ?_; rintro e uu ⟨rfl, b⟩; have bz := bz.trans (b.mono bz.size); skip)
      | (go_at_call 25; with_reducible refine (unhide AS _ bz).mono ?_; rintro e uu ⟨rr2, rfl, jj2, b⟩; have bz := bz.trans (b.mono bz.size); skip)
      | (go_at_call 29; with_reducible refine (unhide TS _ _ bz jj2).mono ?_; rintro e uu ⟨vv2, rfl, kk2, b⟩; have bz := bz.trans (b.mono bz.size); skip)
      | (go_at_call 28; with_reducible refine (unhide I1 _ _ bz kk2).mono ?_; rintro e uu ⟨rfl, b⟩; have bz := bz.trans (b.mono bz.size); skip)
      | (go_at_call 30; with_reducible refine (unhide SS _ bz).mono ?_; rintro e uu ⟨rr3, rfl, jj3, b⟩; have bz := bz.trans (b.mono bz.size); skip)
      | (go_at_call 29; with_reducible refine (unhide TM _ _ bz jj3).mono ?_; rintro e uu ⟨vv3, rfl, kk3, b⟩; have bz := bz.trans (b.mono bz.size); skip)
      | (go_at_call 28; with_reducible refine (unhide I2 _ _ bz kk3).mono ?_; rintro e uu ⟨rfl, b⟩; have bz := bz.trans (b.mono bz.size); skip)
      | (go_at_call 29; with_reducible refine (unhide TF _ bz).mono ?_; rintro e uu ⟨vv4, rfl, kk4, b⟩; have bz := bz.trans (b.mono bz.size); skip)
      | (go_at_call 28; with_reducible refine (unhide I3 _ _ bz kk4).mono ?_; rintro e uu ⟨rfl, b⟩; have bz := bz.trans (b.mono bz.size); skip)
      | (go_at_call 29; with_reducible refine (unhide TC _ bz).mono ?_; rintro e uu ⟨vv5, rfl, kk5, b⟩; have bz := bz.trans (b.mono bz.size); skip)
      | (go_at_call 28; with_reducible refine (unhide I4 _ _ bz kk5).mono ?_; rintro e uu ⟨rfl, b⟩; have bz := bz.trans (b.mono bz.size); skip)
      | (go_at_call 18; with_reducible refine (unhide IN _ bz).mono ?_; rintro e uu ⟨rfl, b⟩; have bz := bz.trans (b.mono bz.size); skip)
      | (go_at_call 19; with_reducible refine (unhide CW _).mono ?_; rintro e uu ⟨rfl, b⟩; have bz := bz.trans (b.mono bz.size); skip)
      | fail)
    have fin := hide (bstep (unhide bl0) ((unhide BF).trans (bz.mono (unhide BF).size)))
    go_wp2
    go_ret
    exact ⟨rfl, unhide fin⟩
  · have bF := (bq.setCell (p := ⟨WE.heap.size, 0, none⟩) hq (.slice gF lF cF)).setCell (p := ⟨WE.heap.size, 1, none⟩) hq (.bool dF)
    have iF := j4.box (t := 46) ⟨_, _, _, _, hx⟩ (.slice gF lF cF) (.bool dF)
    have xF := hx.set (.slice gF lF cF) (.bool dF)
    obtain ⟨WF, hWF⟩ : ∃ WF, (w34.setCell ⟨WE.heap.size, 0, none⟩ (.slice gF lF cF)).setCell ⟨WE.heap.size, 1, none⟩ (.bool dF) = WF := ⟨_, rfl⟩
    rw [hWF] at bF iF xF ⊢
    obtain ⟨QF, hQF⟩ : ∃ QF, WE.heap.size = QF := ⟨_, rfl⟩
    rw [hQF] at xF ⊢
    clear hWF hQF
    clear HC HC2 C1 C2 C3 C4
    have HD : Hid (∀ W, Below WF.heap.size WF W → W.cell? ⟨Q0, 0, none⟩ = some (.slice g0 l0 c0) ∧ W.cell? ⟨Q0, 1, none⟩ = some (.bool false) ∧ W.cell? ⟨Q0 + 1, 0, none⟩ = some (.slice g1 l1 c1) ∧ W.cell? ⟨Q0 + 1, 1, none⟩ = some (.bool false) ∧ W.cell? ⟨Q0 + 1 + 1, 0, none⟩ = some (.slice g2 l2 c2) ∧ W.cell? ⟨Q0 + 1 + 1, 1, none⟩ = some (.bool ng) ∧ W.cell? ⟨Q0 + 1 + 1 + 1, 0, none⟩ = some (.slice g3 l3 c3) ∧ W.cell? ⟨Q0 + 1 + 1 + 1, 1, none⟩ = some (.bool false) ∧ W.cell? ⟨Q0 + 1 + 1 + 1 + 1, 0, none⟩ = some (.slice g4 l4 c4) ∧ W.cell? ⟨Q0 + 1 + 1 + 1 + 1, 1, none⟩ = some (.bool false) ∧ W.cell? ⟨QA, 0, none⟩ = some (.slice gA lA cA) ∧ W.cell? ⟨QA, 1, none⟩ = some (.bool dA) ∧ W.cell? ⟨QB, 0, none⟩ = some (.slice gB lB cB) ∧ W.cell? ⟨QB, 1, none⟩ = some (.bool dB) ∧ W.cell? ⟨QC, 0, none⟩ = some (.slice gC lC cC) ∧ W.cell? ⟨QC, 1, none⟩ = some (.bool dC) ∧ W.cell? ⟨QD, 0, none⟩ = some (.slice gD lD cD) ∧ W.cell? ⟨QD, 1, none⟩ = some (.bool dD) ∧ W.cell? ⟨QF, 0, none⟩ = some (.slice gF lF cF) ∧ W.cell? ⟨QF, 1, none⟩ = some (.bool dF)) := fun W b => ⟨((unhide Hx0).next (bF.trans (b.mono bF.size))).c0, ((unhide Hx0).next (bF.trans (b.mono bF.size))).c1, ((unhide Hx1).next (bF.trans (b.mono bF.size))).c0, ((unhide Hx1).next (bF.trans (b.mono bF.size))).c1, ((unhide Hx2).next (bF.trans (b.mono bF.size))).c0, ((unhide Hx2).next (bF.trans (b.mono bF.size))).c1, ((unhide Hx3).next (bF.trans (b.mono bF.size))).c0, ((unhide Hx3).next (bF.trans (b.mono bF.size))).c1, ((unhide Hx4).next (bF.trans (b.mono bF.size))).c0, ((unhide Hx4).next (bF.trans (b.mono bF.size))).c1, ((unhide HxA).next (bF.trans (b.mono bF.size))).c0, ((unhide HxA).next (bF.trans (b.mono bF.size))).c1, ((unhide HxB).next (bF.trans (b.mono bF.size))).c0, ((unhide HxB).next (bF.trans (b.mono bF.size))).c1, ((unhide HxC).next (bF.trans (b.mono bF.size))).c0, ((unhide HxC).next (bF.trans (b.mono bF.size))).c1, ((unhide HxD).next (bF.trans (b.mono bF.size))).c0, ((unhide HxD).next (bF.trans (b.mono bF.size))).c1, (xF.next b).c0, (xF.next b).c1⟩
    have TA : Hid (∀ W, Below WF.heap.size WF W → Calls Try.prog 29 #[.agg #[.slice gA lA cA, .bool dA]] W fun e W' => ∃ v, e = .returned (.agg #[v, .bool false]) ∧ ToW W' v (a0) ∧ Below W.heap.size W W') := fun W b => toI_any W _ (a0 : Int) 32 (by omega) (unhide ETA) ((unhide HiA).next (bF.trans (b.mono bF.size))) _ _ (unhide VTA) (unhide GTA)
    have TS : Hid (∀ W r, Below WF.heap.size WF W → IsI W r ((a0 : Int) + (a2 : Int) + (a1 : Int)) → Calls Try.prog 29 #[r] W fun e W' => ∃ v, e = .returned (.agg #[v, .bool false]) ∧ ToW W' v (a0 + a1 + a2) ∧ Below W.heap.size W W') := fun W r b j => toI_any W _ ((a0 : Int) + (a2 : Int) + (a1 : Int)) 32 (by omega) (unhide ETS) (j) _ _ (unhide VTS) (unhide GTS)
    have TM : Hid (∀ W r, Below WF.heap.size WF W → IsI W r ((a0 : Int) + (a2 : Int) - (a1 : Int)) → Calls Try.prog 29 #[r] W fun e W' => ∃ v, e = .returned (.agg #[v, .bool ng]) ∧ ToW W' v (nd (a0 + a2) a1) ∧ Below W.heap.size W W') := fun W r b j => toI_any W _ ((a0 : Int) + (a2 : Int) - (a1 : Int)) 32 (by omega) (unhide ETM) (j) _ _ (unhide VTM) (unhide GTM)
    have TF : Hid (∀ W, Below WF.heap.size WF W → Calls Try.prog 29 #[.agg #[.slice gF lF cF, .bool dF]] W fun e W' => ∃ v, e = .returned (.agg #[v, .bool false]) ∧ ToW W' v (a0 + 2 * a1 + 4 * a2) ∧ Below W.heap.size W W') := fun W b => toI_any W _ ((a0 : Int) + ((2 : Nat) : Int) * ((a1 : Int) + ((2 : Nat) : Int) * (a2 : Int))) 32 (by omega) (unhide ETF) (iF.next b) _ _ (unhide VTF) (unhide GTF)
    have TC : Hid (∀ W, Below WF.heap.size WF W → Calls Try.prog 29 #[.agg #[.slice gC lC cC, .bool dC]] W fun e W' => ∃ v, e = .returned (.agg #[v, .bool false]) ∧ ToW W' v (a2) ∧ Below W.heap.size W W') := fun W b => toI_any W _ (a2 : Int) 32 (by omega) (unhide ETC) ((unhide HiC).next (bF.trans (b.mono bF.size))) _ _ (unhide VTC) (unhide GTC)
    have AS : Hid (∀ W, Below WF.heap.size WF W → Calls Try.prog 25 #[.agg #[.slice gD lD cD, .bool dD], .agg #[.slice gB lB cB, .bool dB]] W fun e W' => ∃ r, e = .returned r ∧ IsI W' r ((a0 : Int) + (a2 : Int) + (a1 : Int)) ∧ Below W.heap.size W W') := fun W b => iAdd_any W _ _ _ _ 64 (by omega) (unhide M4) (unhide B1) ((unhide HiD).next (bF.trans (b.mono bF.size))) ((unhide HiB).next (bF.trans (b.mono bF.size)))
    have SS : Hid (∀ W, Below WF.heap.size WF W → Calls Try.prog 30 #[.agg #[.slice gD lD cD, .bool dD], .agg #[.slice gB lB cB, .bool dB]] W fun e W' => ∃ r, e = .returned r ∧ IsI W' r ((a0 : Int) + (a2 : Int) - (a1 : Int)) ∧ Below W.heap.size W W') := fun W b => iSub_any W _ _ _ _ 64 (by omega) (unhide M4) (unhide B1) ((unhide HiD).next (bF.trans (b.mono bF.size))) ((unhide HiB).next (bF.trans (b.mono bF.size)))
    have I0 : Hid (∀ W v, Below WF.heap.size WF W → ToW W v (a0) → Calls Try.prog 28 #[.agg #[.slice g0 l0 c0, .bool false], .agg #[v, .bool false]] W fun e W' => e = .returned (.bool true) ∧ Below W.heap.size W W') := fun W v b k => chk_any W _ _ _ _ _ ((unhide Hn0).next (bF.trans (b.mono bF.size))) k
    have I1 : Hid (∀ W v, Below WF.heap.size WF W → ToW W v (a0 + a1 + a2) → Calls Try.prog 28 #[.agg #[.slice g1 l1 c1, .bool false], .agg #[v, .bool false]] W fun e W' => e = .returned (.bool true) ∧ Below W.heap.size W W') := fun W v b k => chk_any W _ _ _ _ _ ((unhide Hn1).next (bF.trans (b.mono bF.size))) k
    have I2 : Hid (∀ W v, Below WF.heap.size WF W → ToW W v (nd (a0 + a2) a1) → Calls Try.prog 28 #[.agg #[.slice g2 l2 c2, .bool ng], .agg #[v, .bool ng]] W fun e W' => e = .returned (.bool true) ∧ Below W.heap.size W W') := fun W v b k => chk_any W _ _ _ _ _ ((unhide Hn2).next (bF.trans (b.mono bF.size))) k
    have I3 : Hid (∀ W v, Below WF.heap.size WF W → ToW W v (a0 + 2 * a1 + 4 * a2) → Calls Try.prog 28 #[.agg #[.slice g3 l3 c3, .bool false], .agg #[v, .bool false]] W fun e W' => e = .returned (.bool true) ∧ Below W.heap.size W W') := fun W v b k => chk_any W _ _ _ _ _ ((unhide Hn3).next (bF.trans (b.mono bF.size))) k
    have I4 : Hid (∀ W v, Below WF.heap.size WF W → ToW W v (a2) → Calls Try.prog 28 #[.agg #[.slice g4 l4 c4, .bool false], .agg #[v, .bool false]] W fun e W' => e = .returned (.bool true) ∧ Below W.heap.size W W') := fun W v b k => chk_any W _ _ _ _ _ ((unhide Hn4).next (bF.trans (b.mono bF.size))) k
    have IN : Hid (∀ W, Below WF.heap.size WF W → Calls Try.prog 18 #[.slice (some ⟨w.heap.size, 0, none⟩) n (n + 4), .slice ga n ca] W fun e W' => e = .returned (.bool true) ∧ Below W.heap.size W W') := fun W b => intact_any W ga w.heap.size ba oa ca n us (unhide hLA) (by omega) ((unhide HrA).next (bF.trans (b.mono bF.size))) F (unhide HF6) ((unhide Ht1).next (bF.trans (b.mono bF.size)))
    have BF := hide bF
    clear bF iF xF bq j1 j2 j3 j4
    go_wp2
    obtain ⟨p00, p01, p10, p11, p20, p21, p30, p31, p40, p41, pA0, pA1, pB0, pB1, pC0, pC1, pD0, pD1, pF0, pF1⟩ := unhide HD _ (Below.refl _ _)
    have bz : Below WF.heap.size WF WF.drew := (Below.refl _ _).drew
    go_region_held3 (fun W => W.cell? ⟨Q0, 0, none⟩ = some (.slice g0 l0 c0) ∧ W.cell? ⟨Q0, 1, none⟩ = some (.bool false) ∧ W.cell? ⟨Q0 + 1, 0, none⟩ = some (.slice g1 l1 c1) ∧ W.cell? ⟨Q0 + 1, 1, none⟩ = some (.bool false) ∧ W.cell? ⟨Q0 + 1 + 1, 0, none⟩ = some (.slice g2 l2 c2) ∧ W.cell? ⟨Q0 + 1 + 1, 1, none⟩ = some (.bool ng) ∧ W.cell? ⟨Q0 + 1 + 1 + 1, 0, none⟩ = some (.slice g3 l3 c3) ∧ W.cell? ⟨Q0 + 1 + 1 + 1, 1, none⟩ = some (.bool false) ∧ W.cell? ⟨Q0 + 1 + 1 + 1 + 1, 0, none⟩ = some (.slice g4 l4 c4) ∧ W.cell? ⟨Q0 + 1 + 1 + 1 + 1, 1, none⟩ = some (.bool false) ∧ W.cell? ⟨QA, 0, none⟩ = some (.slice gA lA cA) ∧ W.cell? ⟨QA, 1, none⟩ = some (.bool dA) ∧ W.cell? ⟨QB, 0, none⟩ = some (.slice gB lB cB) ∧ W.cell? ⟨QB, 1, none⟩ = some (.bool dB) ∧ W.cell? ⟨QC, 0, none⟩ = some (.slice gC lC cC) ∧ W.cell? ⟨QC, 1, none⟩ = some (.bool dC) ∧ W.cell? ⟨QD, 0, none⟩ = some (.slice gD lD cD) ∧ W.cell? ⟨QD, 1, none⟩ = some (.bool dD) ∧ W.cell? ⟨QF, 0, none⟩ = some (.slice gF lF cF) ∧ W.cell? ⟨QF, 1, none⟩ = some (.bool dF)) (first | (with_reducible exact unhide HD _ bz) | go_keep) (first
      | (go_at_call 29; with_reducible refine (unhide TA _ bz).mono ?_; rintro e uu ⟨vv1, rfl, kk1, b⟩; have bz := bz.trans (b.mono bz.size); skip)
      | (go_at_call 28; with_reducible refine (unhide I0 _ _ bz kk1).mono ?_; rintro e uu ⟨rfl, b⟩; have bz := bz.trans (b.mono bz.size); skip)
      | (go_at_call 25; with_reducible refine (unhide AS _ bz).mono ?_; rintro e uu ⟨rr2, rfl, jj2, b⟩; have bz := bz.trans (b.mono bz.size); skip)
      | (go_at_call 29; with_reducible refine (unhide TS _ _ bz jj2).mono ?_; rintro e uu ⟨vv2, rfl, kk2, b⟩; have bz := bz.trans (b.mono bz.size); skip)
      | (go_at_call 28; with_reducible refine (unhide I1 _ _ bz kk2).mono ?_; rintro e uu ⟨rfl, b⟩; have bz := bz.trans (b.mono bz.size); skip)
      | (go_at_call 30; with_reducible refine (unhide SS _ bz).mono ?_; rintro e uu ⟨rr3, rfl, jj3, b⟩; have bz := bz.trans (b.mono bz.size); skip)
      | (go_at_call 29; with_reducible refine (unhide TM _ _ bz jj3).mono ?_; rintro e uu ⟨vv3, rfl, kk3, b⟩; have bz := bz.trans (b.mono bz.size); skip)
      | (go_at_call 28; with_reducible refine (unhide I2 _ _ bz kk3).mono ?_; rintro e uu ⟨rfl, b⟩; have bz := bz.trans (b.mono bz.size); skip)
      | (go_at_call 29; with_reducible refine (unhide TF _ bz).mono ?_; rintro e uu ⟨vv4, rfl, kk4, b⟩; have bz := bz.trans (b.mono bz.size); skip)
      | (go_at_call 28; with_reducible refine (unhide I3 _ _ bz kk4).mono ?_; rintro e uu ⟨rfl, b⟩; have bz := bz.trans (b.mono bz.size); skip)
      | (go_at_call 29; with_reducible refine (unhide TC _ bz).mono ?_; rintro e uu ⟨vv5, rfl, kk5, b⟩; have bz := bz.trans (b.mono bz.size); skip)
      | (go_at_call 28; with_reducible refine (unhide I4 _ _ bz kk5).mono ?_; rintro e uu ⟨rfl, b⟩; have bz := bz.trans (b.mono bz.size); skip)
      | (go_at_call 18; with_reducible refine (unhide IN _ bz).mono ?_; rintro e uu ⟨rfl, b⟩; have bz := bz.trans (b.mono bz.size); skip)
      | (go_at_call 19; with_reducible refine (unhide CW _).mono ?_; rintro e uu ⟨rfl, b⟩; have bz := bz.trans (b.mono bz.size); skip)
      | fail)
    have fin := hide (bstep (unhide bl0) ((unhide BF).trans (bz.mono (unhide BF).size)))
    go_wp2
    go_ret
    exact ⟨rfl, unhide fin⟩

end Go.Proofs.Yteinonbijiokmaa
