/- ModwShoups: what the law's walk comes to. -/
import Derived.Test.YtnmddjakfhlnnaaQOdd
import Derived.Test.YtnmddjakfhlnnaaQRef
import Derived.Test.YtnmddjakfhlnnaaFrom
import Derived.Test.YtnmddjakfhlnnaaSmall
import Derived.Test.YtnmddjakfhlnnaaDivMod
namespace Go.Proofs.Ytnmddjakfhlnnaa
open Go.RowKit

theorem from_two (w : World) (r : Nat) (hr : r < 18446744073709551616) :
    Calls Try.prog 36 #[.slice (some ⟨w.heap.size, 0, none⟩) 2 2] (w.alloc (.cells #[.int .u64 0, .int .u64 (r : Int)] 22)) fun e w' => ∃ v, e = .returned v ∧ IsN w' v (18446744073709551616 * r) ∧ Below w.heap.size w w' := by
  refine (from_any _ _ _ _ _ [0, r] (by simp) (rep_new w [0, r] 22) (by intro y hy; simp at hy; omega)).mono ?_
  rintro e w' ⟨v, rfl, hN, hb⟩
  refine ⟨v, rfl, ?_, ((Below.refl _ _).alloc (Nat.le_refl _) _).trans (hb.mono (by simp))⟩
  have e : wval [0, r] = 18446744073709551616 * r := by simp only [wval]; omega
  rw [e] at hN; exact hN
theorem small_nat (x : Nat) (h1 : x < 18446744073709551616) (w : World) :
    Calls Try.prog 37 #[.int .u64 (x : Int)] w fun e w' => ∃ v, e = .returned v ∧ IsN w' v x ∧ Below w.heap.size w w' :=
  small_any (x : Int) (by omega) (by omega) w

set_option maxHeartbeats 1600000 in
theorem modwShoups_any (p a v : Nat) (w : World) (hp : p < 18446744073709551616) :
    Calls Try.prog 8 #[.int .u64 (p : Int), .int .u64 (a : Int), .int .u64 (v : Int)] w fun e w' => e = .returned (.bool true) ∧ Below w.heap.size w w' := by
  obtain ⟨P, ho, hl, hh, co⟩ := odd_any p hp
  have CO := hide co
  have CN := hide (fun w => modNew_any P w ho hl hh)
  have CS := hide (fun w g (h : MW w g P) => shoup_any h v)
  have CX := hide (fun w g (h : MW w g P) => shoupMul_any h a v)
  have CM := hide (fun w => rMul_any P a v w (by omega) (by omega))
  have et : (v : Int).tmod (P : Int) = ((v % P : Nat) : Int) := rtmod_nat v P
  have hz : ¬ (P : Int) = 0 := by omega
  clear co ho hp
  have hs := shp_lt v (show 0 < P by omega)
  have hsr : shp P v = 18446744073709551616 * (v % P) / P := rfl
  have hr : v % P < P := Nat.mod_lt _ (by omega)
  generalize ml P a v = z at *
  generalize shp P v = s at *
  generalize v % P = r at *
  have CF := hide (fun w => from_two w r (by omega))
  have CP := hide (fun w => small_nat P (by omega) w)
  have CZ := hide (fun w => small_nat s hs w)
  have hr4 : 18446744073709551616 * r < 4294967296 ^ 4 := by omega
  have hP4 : P < 4294967296 ^ 4 := by omega
  have hs4 : s < 4294967296 ^ 4 := by omega
  have CD := hide (fun w u v (hu : IsN w u (18446744073709551616 * r)) (hv : IsN w v P) => divmod_any w u v (18446744073709551616 * r) P 4 (by omega) hr4 hP4 (by omega) hu hv)
  rw [← hsr] at CD
  have CC := hide (fun w u v (hu : IsN w u s) (hv : IsN w v s) => cmp_any w u v s s 4 (by omega) hs4 hs4 hu hv)
  rw [cmpN_eq rfl] at CC
  clear hs hsr hr4 hP4 hs4 hr hl hh
  generalize 18446744073709551616 * r % P = rr at *
  generalize 18446744073709551616 * r = A at *
  go_enter Try.func8, Try.ntmps8
  go_wp2_with fail
  refine (unhide CO _).mono ?_
  rintro e w0 ⟨rfl, rfl⟩
  go_wp2_with fail
  refine (unhide CN _).mono ?_
  rintro e w1 ⟨g, rfl, h, hg, b⟩
  have hM := hide h
  clear h CN hg CO
  go_wp2_with fail
  refine (unhide CS _ _ (unhide hM)).mono ?_
  rintro e w2 ⟨rfl, b2⟩
  have hM := hide ((unhide hM).next b2)
  have b := bstep b b2
  clear b2 CS
  go_wp2_with fail
  refine (unhide CF _).mono ?_
  rintro e w3 ⟨vA, rfl, nA, b3⟩
  have hM := hide ((unhide hM).next b3)
  have b := bstep b b3
  clear b3 CF
  go_wp2_with fail
  refine (unhide CP _).mono ?_
  rintro e w4 ⟨vP, rfl, nP, b4⟩
  have hM := hide ((unhide hM).next b4)
  have b := bstep b b4
  have nA := nA.next b4
  clear b4 CP
  go_wp2_with fail
  refine (unhide CD _ _ _ nA nP).mono ?_
  rintro e w5 ⟨vq, vr, rfl, nq, _nr, b5⟩
  have hM := hide ((unhide hM).next b5)
  have b := bstep b b5
  clear b5 CD nA nP _nr
  go_wp2_with fail
  refine (unhide CZ _).mono ?_
  rintro e w6 ⟨vs, rfl, ns, b6⟩
  have hM := hide ((unhide hM).next b6)
  have b := bstep b b6
  have nq := nq.next b6
  clear b6 CZ
  go_wp2_with fail
  refine (unhide CC _ _ _ nq ns).mono ?_
  rintro e w7 ⟨rfl, b7⟩
  have hM := hide ((unhide hM).next b7)
  have b := bstep b b7
  clear b7 CC nq ns
  go_wp2_with fail
  refine (unhide CX _ _ (unhide hM)).mono ?_
  rintro e w8 ⟨rfl, rfl⟩
  clear CX hM
  go_wp2_with fail
  refine (unhide CM _).mono ?_
  rintro e w9 ⟨rfl, b9⟩
  have b := bstep b b9
  clear b9 CM
  have hzz : ((z : Int) == (z : Int)) = true := by simp
  go_wp2_with fail
  refine (modWakes_any _).mono ?_
  rintro e w4 ⟨rfl, b4⟩
  go_wp2
  go_ret
  exact ⟨rfl, bstep b b4⟩

end Go.Proofs.Ytnmddjakfhlnnaa
