/- Within, and WordEdges: what the law's walk comes to. -/
import Derived.Test.YtahmnjpnokhbpabLawMuls
import Derived.Test.YtahmnjpnokhbpabLawAdds
import Derived.Test.YtahmnjpnokhbpabLawInverses
import Derived.Test.YtahmnjpnokhbpabLawThrees
namespace Go.Proofs.Ytahmnjpnokhbpab
open Go.RowKit

theorem tmod_to {v n : Int} (hn : 0 < n) : -n < v.tmod n ∧ v.tmod n < n ∧ (0 ≤ v.tmod n → v % n = v.tmod n) ∧ (v.tmod n < 0 → v % n = v.tmod n + n) := by
  have h1 := Int.tmod_lt_of_pos v hn
  have h2 := Int.lt_tmod_of_pos v hn
  have e : v % n = v.tmod n % n := by
    conv => lhs; rw [← Int.mul_tdiv_add_tmod v n]
    rw [Int.mul_add_emod_self_left]
  refine ⟨h2, h1, fun h => ?_, fun h => ?_⟩
  · rw [e, Int.emod_eq_of_lt h h1]
  · rw [e, ← Int.add_emod_right, Int.emod_eq_of_lt (by omega) (by omega)]

set_option maxHeartbeats 800000 in
theorem within_any (v n : Int) (w : World) (_h1 : -9223372036854775808 ≤ v) (_h2 : v ≤ 9223372036854775807) (hn : 1 ≤ n) (hn2 : n ≤ 4611686018427387904) :
    Calls Try.prog 4 #[.int .i64 v, .int .i64 n] w fun e w' => e = .returned (.int .i64 (v % n)) ∧ w' = w := by
  have hn1 : ¬ n < 1 := by omega
  obtain ⟨t1, t2, t3, t4⟩ := tmod_to (v := v) (n := n) (by omega)
  have T3 := hide t3
  have T4 := hide t4
  clear t3 t4
  go_enter Try.func4, Try.ntmps4
  go_wp2
  · go_ret
    exact ⟨ret_int (by rw [unhide T4 (by assumption)]), rfl⟩
  · go_ret
    exact ⟨ret_int (by rw [unhide T3 (by assumption)]), rfl⟩

/-- The two words that an exponent stands for: a power of two, or what it lacks of two to the 64. -/
def edge (more : Bool) (t : Nat) : Nat := if more then 18446744073709551616 - 2 ^ t else 2 ^ t
theorem edge_lt (more : Bool) (t : Nat) (ht : t < 64) : edge more t < 18446744073709551616 := by
  have h1 : 2 ^ t ≤ 2 ^ 63 := Nat.pow_le_pow_right (by omega) (by omega)
  have h2 : 0 < 2 ^ t := Nat.pow_pos (by omega)
  unfold edge; split <;> omega
theorem edge_one (t : Nat) (ht : t < 64) : IntKind.u64.wrap (2 ^ t) = ((edge false t : Nat) : Int) := by
  have h1 : 2 ^ t ≤ 2 ^ 63 := Nat.pow_le_pow_right (by omega) (by omega)
  have e : edge false t = 2 ^ t := rfl
  rw [pow_cast, e]
  generalize 2 ^ t = p at *
  rw [IntKind.wrap_u64]; omega
theorem edge_neg (t : Nat) (ht : t < 64) : IntKind.u64.wrap (-((edge false t : Nat) : Int)) = ((edge true t : Nat) : Int) := by
  have h1 : 2 ^ t ≤ 2 ^ 63 := Nat.pow_le_pow_right (by omega) (by omega)
  have h2 : 0 < 2 ^ t := Nat.pow_pos (by omega)
  have e : edge false t = 2 ^ t := rfl
  have e2 : edge true t = 18446744073709551616 - 2 ^ t := rfl
  rw [e, e2]
  generalize 2 ^ t = p at *
  rw [IntKind.wrap_u64]; omega

theorem mod64 (v : Int) : ∃ t : Nat, t < 64 ∧ v % 64 = (t : Int) := ⟨(v % 64).toNat, by omega, by omega⟩

set_option maxRecDepth 100000 in
set_option maxHeartbeats 3200000 in
theorem wordEdges_any (i j k : Int) (more : Bool) (w : World) (i1 : -9223372036854775808 ≤ i) (i2 : i ≤ 9223372036854775807) (j1 : -9223372036854775808 ≤ j) (j2 : j ≤ 9223372036854775807) (k1 : -9223372036854775808 ≤ k) (k2 : k ≤ 9223372036854775807) :
    Calls Try.prog 3 #[.int .i64 i, .int .i64 j, .int .i64 k, .bool more] w fun e w' => e = .returned (.bool true) ∧ Below w.heap.size w w' := by
  have C1 := hide (fun w => within_any i 64 w i1 i2 (by omega) (by omega))
  have C2 := hide (fun w => within_any j 64 w j1 j2 (by omega) (by omega))
  have C3 := hide (fun w => within_any k 64 w k1 k2 (by omega) (by omega))
  obtain ⟨t1, h1, e1⟩ := mod64 i
  obtain ⟨t2, h2, e2⟩ := mod64 j
  obtain ⟨t3, h3, e3⟩ := mod64 k
  rw [e1] at C1
  rw [e2] at C2
  rw [e3] at C3
  have a1 := edge_one t1 h1
  have a2 := edge_one t2 h2
  have a3 := edge_one t3 h3
  have n1 := edge_neg t1 h1
  have n2 := edge_neg t2 h2
  have n3 := edge_neg t3 h3
  clear e1 e2 e3 i1 i2 j1 j2 k1 k2
  have bt := edge_lt true
  have bf := edge_lt false
  have b1 := edge_lt more t1 h1
  have b2 := edge_lt more t2 h2
  have b3 := edge_lt more t3 h3
  have m1 := hide (fun w => wordMuls_any (edge more t1) (edge more t2) w b1 b2)
  have m2 := hide (fun w => wordDivs_any (edge more t1) (edge more t2) (edge more t3) w b1 b2 b3)
  have m3 := hide (fun w => wordInverses_any (edge more t1) (edge more t2) (edge more t3) w b1 b2 b3)
  have m4 := hide (fun w => wordThrees_any (edge more t1) (edge more t2) (edge more t3) (edge more t3) (edge more t1) w b1 b2 b3 b3 b1)
  have m5 := hide (fun w => wordAdds_any (edge more t1) (edge more t2) (edge more t3) w b1 b2 b3)
  have f1 := bf t1 h1
  have f2 := bf t2 h2
  have f3 := bf t3 h3
  clear bt bf
  cases more
  all_goals
    generalize edge false t1 = x1 at *
    generalize edge false t2 = x2 at *
    generalize edge false t3 = x3 at *
    generalize edge true t1 = y1 at *
    generalize edge true t2 = y2 at *
    generalize edge true t3 = y3 at *
    go_enter Try.func3, Try.ntmps3
    go_wp2_with fail
    refine (unhide C1 _).mono ?_
    rintro e w1 ⟨rfl, rfl⟩
    go_wp2_with fail
    refine (unhide C2 _).mono ?_
    rintro e w2 ⟨rfl, rfl⟩
    go_wp2_with fail
    refine (unhide C3 _).mono ?_
    rintro e w3 ⟨rfl, rfl⟩
    go_wp2_with fail
    refine (unhide m1 _).mono ?_
    rintro e w4 ⟨rfl, g4⟩
    go_wp2_with fail
    refine (unhide m2 _).mono ?_
    rintro e w5 ⟨rfl, g5⟩
    go_wp2_with fail
    refine (unhide m3 _).mono ?_
    rintro e w6 ⟨rfl, g6⟩
    go_wp2_with fail
    refine (unhide m4 _).mono ?_
    rintro e w7 ⟨rfl, g7⟩
    go_wp2_with fail
    refine (unhide m5 _).mono ?_
    rintro e w8 ⟨rfl, g8⟩
    go_wp2_with fail
    refine (wakes_any _).mono ?_
    rintro e w9 ⟨rfl, g9⟩
    go_wp2
    go_ret
    exact ⟨rfl, bstep (bstep (bstep (bstep (bstep g4 g5) g6) g7) g8) g9⟩

end Go.Proofs.Ytahmnjpnokhbpab
