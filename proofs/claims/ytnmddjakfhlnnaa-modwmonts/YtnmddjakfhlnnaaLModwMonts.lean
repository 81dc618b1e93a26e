/- ModwMonts: what the law's walk comes to. -/
import Derived.Test.YtnmddjakfhlnnaaQOdd
import Derived.Test.YtnmddjakfhlnnaaQRef
namespace Go.Proofs.Ytnmddjakfhlnnaa
open Go.RowKit

/-- B modulo p, and what it times is 1. -/
theorem b_back {p : Nat} (h : p % 2 = 1) (hl : 3 ≤ p) (hp : p < 18446744073709551616) : ml p (18446744073709551616 % p) (ib p % p) = 1 := by
  unfold ml
  rw [modmul]
  have := ib_one h hp
  have e : Cg p ((18446744073709551616 * ib p : Nat) : Int) ((1 : Nat) : Int) := by
    rw [Int.natCast_mul, Int.mul_comm]; exact this
  rw [e.same, Nat.mod_eq_of_lt (by omega)]
theorem ml_right (p a b : Nat) : ml p a (b % p) = ml p a b := by unfold ml; rw [Nat.mul_mod_mod]
theorem ml_left (p a b : Nat) : ml p (a % p) b = ml p a b := by unfold ml; rw [Nat.mod_mul_mod]
theorem mm_one (p a : Nat) : mm p a 1 = ml p a (ib p % p) := by rw [ml_right]; unfold mm ml; rw [Nat.mul_one]
theorem mm_two (p a b : Nat) : mm p a b = ml p (ml p a b) (ib p % p) := by rw [ml_right]; unfold mm ml; rw [Nat.mod_mul_mod]

set_option maxHeartbeats 3200000 in
theorem modwMonts_any (p a d : Nat) (w : World) (hp : p < 18446744073709551616) :
    Calls Try.prog 7 #[.int .u64 (p : Int), .int .u64 (a : Int), .int .u64 (d : Int)] w fun e w' => e = .returned (.bool true) ∧ Below w.heap.size w w' := by
  obtain ⟨P, ho, hl, hh, co⟩ := odd_any p hp
  have CO := hide co
  have CN := hide (fun w => modNew_any P w ho hl hh)
  have CB := hide (fun w => rB_any P w (by omega) (by omega))
  have CI := hide (fun w => rInv_any P (18446744073709551616 % P) (ib P % P) w hl (by omega) (Nat.mod_lt _ (by omega)) (b_back ho hl (by omega)))
  have CX := hide (fun x y w => rMul_any P x y w (by omega) (by omega))
  have CM := hide (fun w g (h : MW w g P) x => mont_any h x)
  have CK := hide (fun w g (h : MW w g P) x => back_any h x)
  have CP := hide (fun w g (h : MW w g P) x y => montMul_any h x y)
  have CY := hide (fun w g (h : MW w g P) x y => mul_mod h x y)
  have f1 : ml P a 18446744073709551616 = ml P a (18446744073709551616 % P) := (ml_right P a _).symm
  have f2 := mm_one P a
  have f3 := mm_two P a d
  have f4 : mm P (ml P a 18446744073709551616) (ml P d 18446744073709551616) = ml P (ml P a d) 18446744073709551616 := by
    show mm P (a * 18446744073709551616 % P) (d * 18446744073709551616 % P) = _
    rw [mm_mont a d ho (by omega)]
    exact (ml_left P (a * d) _).symm
  have f5 : mm P (ml P a 18446744073709551616) 1 = rd P a := by
    show mm P (a * 18446744073709551616 % P) 1 = a % P
    unfold mm
    rw [Nat.mul_one, mont_back a ho (by omega)]
  have f6 : (a : Int).tmod (P : Int) = (rd P a : Int) := rtmod_nat a P
  have hz : ¬ (P : Int) = 0 := by omega
  clear co ho hp hl hh
  have F1 := hide f1
  have F2 := hide f2
  have F3 := hide f3
  have F4 := hide f4
  have F5 := hide f5
  clear f1 f2 f3 f4 f5
  generalize 18446744073709551616 % P = Bp at *
  generalize ib P % P = back at *
  generalize ml P = M at *
  generalize mm P = N at *
  generalize rd P a = ra at *
  go_enter Try.func7, Try.ntmps7
  go_wp2_with fail
  refine (unhide CO _).mono ?_
  rintro e w0 ⟨rfl, rfl⟩
  go_wp2_with fail
  refine (unhide CN _).mono ?_
  rintro e w1 ⟨g, rfl, h, hg, bl⟩
  have hM := hide h
  clear h CN hg CO
  go_wp2_with fail
  refine (unhide CB _).mono ?_
  rintro e w5 ⟨rfl, b5⟩
  have hM := hide ((unhide hM).next b5)
  have bl := bstep bl b5
  clear b5
  go_wp2_with fail
  refine (unhide CI _).mono ?_
  rintro e w5 ⟨rfl, b5⟩
  have hM := hide ((unhide hM).next b5)
  have bl := bstep bl b5
  clear b5
  go_wp2_with fail
  refine (unhide CM _ _ (unhide hM) _).mono ?_
  rintro e w5 ⟨rfl, rfl⟩
  rw [unhide F1]
  go_wp2_with fail
  refine (unhide CX _ _ _).mono ?_
  rintro e w5 ⟨rfl, b5⟩
  have hM := hide ((unhide hM).next b5)
  have bl := bstep bl b5
  clear b5
  have z1 : ((M a Bp : Int) != (M a Bp : Int)) = false := by simp
  go_wp2_with fail
  refine (unhide CK _ _ (unhide hM) _).mono ?_
  rintro e w5 ⟨rfl, rfl⟩
  rw [unhide F2]
  go_wp2_with fail
  refine (unhide CX _ _ _).mono ?_
  rintro e w5 ⟨rfl, b5⟩
  have hM := hide ((unhide hM).next b5)
  have bl := bstep bl b5
  clear b5
  have z2 : ((M a back : Int) != (M a back : Int)) = false := by simp
  go_wp2_with fail
  refine (unhide CP _ _ (unhide hM) _ _).mono ?_
  rintro e w5 ⟨rfl, rfl⟩
  rw [unhide F3]
  go_wp2_with fail
  refine (unhide CX _ _ _).mono ?_
  rintro e w5 ⟨rfl, b5⟩
  have hM := hide ((unhide hM).next b5)
  have bl := bstep bl b5
  clear b5
  go_wp2_with fail
  refine (unhide CX _ _ _).mono ?_
  rintro e w5 ⟨rfl, b5⟩
  have hM := hide ((unhide hM).next b5)
  have bl := bstep bl b5
  clear b5
  have z3 : ((M (M a d) back : Int) != (M (M a d) back : Int)) = false := by simp
  have z4 : ((N (M a 18446744073709551616) (M d 18446744073709551616) : Int) == (M (M a d) 18446744073709551616 : Int)) = true := by rw [unhide F4]; simp
  have z5 : ((N (M a 18446744073709551616) 1 : Int) == (ra : Int)) = true := by rw [unhide F5]; simp
  have inst := old_some w5
  go_wp2_with fail
  refine region_old (by kernel_rfl) (by kernel_rfl) ?_
  repeat (go_big_quiet_step ((first | (go_at_call 31; exact Calls.old_same (unhide CM _ _ ((unhide hM).next (Old.old _)) _)) | (go_at_call 33; exact Calls.old_same (unhide CP _ _ ((unhide hM).next (Old.old _)) _ _)) | (go_at_call 23; exact Calls.old (unhide CY _ _ ((unhide hM).next (Old.old _)) _ _)) | (go_at_call 32; exact Calls.old_same (unhide CK _ _ ((unhide hM).next (Old.old _)) _)) | (go_at_call 12; exact Calls.old (modWakes_any _)))))
  refine wpQuiet_nil ?_
  intro w6 hw6
  obtain ⟨u, rfl⟩ := hw6
  go_wp2
  go_ret
  exact ⟨rfl, bstep bl u.old⟩

end Go.Proofs.Ytnmddjakfhlnnaa
