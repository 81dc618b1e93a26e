/- ModwLaws: what the law's walk comes to. -/
import Derived.Test.YtnmddjakfhlnnabQOdd
import Derived.Test.YtnmddjakfhlnnabQSum
namespace Go.Proofs.Ytnmddjakfhlnnab
open Go.RowKit

theorem ml_ad (p a b d : Nat) : ml p a (ad p b d) = ad p (ml p a b) (ml p a d) := by
  unfold ml ad
  rw [Nat.mul_mod_mod, Nat.mul_add, ← Nat.add_mod]
theorem ml_ml (p a b d : Nat) : ml p (ml p a b) d = ml p a (ml p b d) := by
  unfold ml
  rw [Nat.mod_mul_mod, Nat.mul_mod_mod, Nat.mul_assoc]
theorem sb_ad {p : Nat} (h : 0 < p) (a b : Nat) : sb p (ad p a b) b = rd p a := by
  refine Cg.eq (p := p) ?_ (sb_lt h _ _) (Nat.mod_lt _ h)
  refine (sb_cg h _ _).trans (Cg.trans ?_ (Cg.mod p a).symm)
  have k := (Cg.mod p (a + b)).sub (Cg.refl p (b : Int))
  refine k.trans (Cg.of_eq ?_)
  omega
theorem ad_neg {p : Nat} (h : 0 < p) (a : Nat) : ad p a (sb p 0 a) = 0 := by
  refine Cg.eq (p := p) ?_ (Nat.mod_lt _ h) h
  refine (Cg.mod p _).trans ?_
  rw [Int.natCast_add]
  refine ((Cg.refl p (a : Int)).add (sb_cg h 0 a)).trans (Cg.of_eq ?_)
  omega
theorem fold_ad (p a b d : Nat) : fold (ad p) 0 [a, b, d] = ad p a (ad p b d) := by
  show ad p (ad p (ad p 0 a) b) d = _
  unfold ad
  rw [Nat.zero_add, Nat.mod_add_mod, Nat.add_assoc, Nat.mod_add_mod, Nat.add_mod_mod]
theorem fold_ml (p a b d : Nat) : fold (ml p) 1 [a, b, d] = ml p a (ml p b d) := by
  show ml p (ml p (ml p 1 a) b) d = _
  unfold ml
  rw [Nat.one_mul, Nat.mod_mul_mod, Nat.mul_assoc, Nat.mod_mul_mod, Nat.mul_mod_mod]
theorem rep_laid (w : World) (ws : List Nat) (t : TypeId) : Rep (w.alloc (.cells (cellsOf ws).toArray t)) (some ⟨w.heap.size, 0, none⟩) w.heap.size 0 ws.length ws :=
  ⟨fun _ => rfl, Nat.le_refl _, fun j hj => by
    rw [Nat.zero_add, World.cell?_alloc_new]
    simp [List.getElem?_eq_getElem hj]⟩

set_option maxRecDepth 100000 in
set_option maxHeartbeats 3200000 in
theorem modwLaws_any (p a d f n : Nat) (w : World) (hp : p < 18446744073709551616) (hn : n < 18446744073709551616) :
    Calls Try.prog 3 #[.int .u64 (p : Int), .int .u64 (a : Int), .int .u64 (d : Int), .int .u64 (f : Int), .int .u64 (n : Int)] w fun e w' => e = .returned (.bool true) ∧ Below w.heap.size w w' := by
  obtain ⟨P, ho, hl, hh, co⟩ := odd_any p hp
  have CO := hide co
  have CN := hide (fun w => modNew_any P w ho hl hh)
  have CM := hide (fun w g (h : MW w g P) x y => mul_mod h x y)
  have CA := hide (fun w g (h : MW w g P) x y => add_mod h x y)
  have CS := hide (fun w g (h : MW w g P) x y => sub_mod h x y)
  have CG := hide (fun w g (h : MW w g P) x => neg_mod h x)
  have CR := hide (fun w g (h : MW w g P) x => red_any h x)
  obtain ⟨k, hk⟩ : ∃ k, k = n / 2 := ⟨_, rfl⟩
  obtain ⟨k1, hk1⟩ : ∃ k1, k1 = k + 1 := ⟨_, rfl⟩
  obtain ⟨k2, hk2⟩ : ∃ k2, k2 = 2 * k := ⟨_, rfl⟩
  have g0 : IntKind.u64.wrap ((n : Int) / 2) = (k : Int) := by rw [IntKind.wrap_u64]; omega
  have g1 : (k : Int) + 1 = (k1 : Int) := by omega
  have g2 : (2 : Int) * (k : Int) = (k2 : Int) := by omega
  have g3 : IntKind.u64.wrap (k1 : Int) = (k1 : Int) := by rw [IntKind.wrap_u64]; omega
  have g4 : IntKind.u64.wrap (k2 : Int) = (k2 : Int) := by rw [IntKind.wrap_u64]; omega
  have CW := hide (fun w g (h : MW w g P) => pow_mod h a k (by omega))
  have CW1 := hide (fun w g (h : MW w g P) => pow_mod h a k1 (by omega))
  have CW2 := hide (fun w g (h : MW w g P) => pow_mod h a k2 (by omega))
  have e1 := pw_double P a k
  have e2 := pw_more P a k
  rw [← hk2] at e1
  rw [← hk1] at e2
  have CU : Hid (∀ w g, MW w g P → Calls Try.prog 12 #[.pointer (some ⟨g, 0, none⟩), .slice (some ⟨w.heap.size, 0, none⟩) 3 3] (w.alloc (.cells #[.int .u64 (a : Int), .int .u64 (d : Int), .int .u64 (f : Int)] 22)) fun e w' => e = .returned (.int .u64 (ad P a (ad P d f) : Int)) ∧ Below w.heap.size w w') := fun w g h => by
    have b0 := (Below.refl w.heap.size w).alloc (Nat.le_refl _) (.cells #[.int .u64 (a : Int), .int .u64 (d : Int), .int .u64 (f : Int)] 22)
    have := sum_mod (h.next b0) _ _ _ _ 3 [a, d, f] rfl (by omega) (rep_laid w [a, d, f] 22)
    rw [fold_ad] at this
    exact this.mono fun e w' ⟨h1, h2⟩ => ⟨h1, bstep b0 h2⟩
  have CV : Hid (∀ w g, MW w g P → Calls Try.prog 13 #[.pointer (some ⟨g, 0, none⟩), .slice (some ⟨w.heap.size, 0, none⟩) 3 3] (w.alloc (.cells #[.int .u64 (a : Int), .int .u64 (d : Int), .int .u64 (f : Int)] 22)) fun e w' => e = .returned (.int .u64 (ml P a (ml P d f) : Int)) ∧ Below w.heap.size w w') := fun w g h => by
    have b0 := (Below.refl w.heap.size w).alloc (Nat.le_refl _) (.cells #[.int .u64 (a : Int), .int .u64 (d : Int), .int .u64 (f : Int)] 22)
    have := product_mod (h.next b0) _ _ _ _ 3 [a, d, f] rfl (by omega) (rep_laid w [a, d, f] 22)
    rw [fold_ml] at this
    exact this.mono fun e w' ⟨h1, h2⟩ => ⟨h1, bstep b0 h2⟩
  have F1 := hide (ml_ad P a d f)
  have F2 := hide (ml_ml P a d f)
  have F3 := hide (sb_ad (show 0 < P by omega) a d)
  have F4 := hide (ad_neg (show 0 < P by omega) a)
  have E1 := hide e1
  have E2 := hide e2
  clear e1 e2 hk hk1 hk2 co ho hl hh hp hn
  generalize pw P a k = x at *
  generalize pw P a k1 = x1 at *
  generalize pw P a k2 = x2 at *
  generalize ml P = M at *
  generalize ad P = A at *
  generalize sb P = S at *
  generalize rd P = R at *
  go_enter Try.func3, Try.ntmps3
  go_wp2_with fail
  refine (unhide CO _).mono ?_
  rintro e w0 ⟨rfl, rfl⟩
  go_wp2_with fail
  refine (unhide CN _).mono ?_
  rintro e w1 ⟨g, rfl, h, hg, bl⟩
  have hM := hide h
  clear h CN hg CO
  go_wp2_with fail
  refine (unhide CA _ _ (unhide hM) _ _).mono ?_
  rintro e w5 ⟨rfl, rfl⟩
  go_wp2_with fail
  refine (unhide CM _ _ (unhide hM) _ _).mono ?_
  rintro e w5 ⟨rfl, b5⟩
  have hM := hide ((unhide hM).next b5)
  have bl := bstep bl b5
  clear b5
  rw [unhide F1]
  go_wp2_with fail
  refine (unhide CM _ _ (unhide hM) _ _).mono ?_
  rintro e w5 ⟨rfl, b5⟩
  have hM := hide ((unhide hM).next b5)
  have bl := bstep bl b5
  clear b5
  go_wp2_with fail
  refine (unhide CM _ _ (unhide hM) _ _).mono ?_
  rintro e w5 ⟨rfl, b5⟩
  have hM := hide ((unhide hM).next b5)
  have bl := bstep bl b5
  clear b5
  go_wp2_with fail
  refine (unhide CA _ _ (unhide hM) _ _).mono ?_
  rintro e w5 ⟨rfl, rfl⟩
  have z1 : ((A (M a d) (M a f) : Int) != (A (M a d) (M a f) : Int)) = false := by simp
  go_wp2_with fail
  refine (unhide CM _ _ (unhide hM) _ _).mono ?_
  rintro e w5 ⟨rfl, b5⟩
  have hM := hide ((unhide hM).next b5)
  have bl := bstep bl b5
  clear b5
  go_wp2_with fail
  refine (unhide CM _ _ (unhide hM) _ _).mono ?_
  rintro e w5 ⟨rfl, b5⟩
  have hM := hide ((unhide hM).next b5)
  have bl := bstep bl b5
  clear b5
  rw [unhide F2]
  go_wp2_with fail
  refine (unhide CM _ _ (unhide hM) _ _).mono ?_
  rintro e w5 ⟨rfl, b5⟩
  have hM := hide ((unhide hM).next b5)
  have bl := bstep bl b5
  clear b5
  go_wp2_with fail
  refine (unhide CM _ _ (unhide hM) _ _).mono ?_
  rintro e w5 ⟨rfl, b5⟩
  have hM := hide ((unhide hM).next b5)
  have bl := bstep bl b5
  clear b5
  have z2 : ((M a (M d f) : Int) != (M a (M d f) : Int)) = false := by simp
  go_wp2_with fail
  refine (unhide CA _ _ (unhide hM) _ _).mono ?_
  rintro e w5 ⟨rfl, rfl⟩
  go_wp2_with fail
  refine (unhide CS _ _ (unhide hM) _ _).mono ?_
  rintro e w5 ⟨rfl, rfl⟩
  rw [unhide F3]
  go_wp2_with fail
  refine (unhide CR _ _ (unhide hM) _).mono ?_
  rintro e w5 ⟨rfl, rfl⟩
  have z3 : ((R a : Int) != (R a : Int)) = false := by simp
  go_wp2_with fail
  refine (unhide CG _ _ (unhide hM) _).mono ?_
  rintro e w5 ⟨rfl, rfl⟩
  go_wp2_with fail
  refine (unhide CA _ _ (unhide hM) _ _).mono ?_
  rintro e w5 ⟨rfl, rfl⟩
  rw [unhide F4]
  go_wp2_with fail
  refine (unhide CW _ _ (unhide hM)).mono ?_
  rintro e w5 ⟨rfl, rfl⟩
  go_wp2_with fail
  refine (unhide CW _ _ (unhide hM)).mono ?_
  rintro e w5 ⟨rfl, rfl⟩
  go_wp2_with fail
  refine (unhide CM _ _ (unhide hM) _ _).mono ?_
  rintro e w5 ⟨rfl, b5⟩
  have hM := hide ((unhide hM).next b5)
  have bl := bstep bl b5
  clear b5
  rw [unhide E1]
  go_wp2_with fail
  refine (unhide CW2 _ _ (unhide hM)).mono ?_
  rintro e w5 ⟨rfl, rfl⟩
  have z4 : ((x2 : Int) == (x2 : Int)) = true := by simp
  go_wp2_with fail
  refine (unhide CW _ _ (unhide hM)).mono ?_
  rintro e w5 ⟨rfl, rfl⟩
  go_wp2_with fail
  refine (unhide CM _ _ (unhide hM) _ _).mono ?_
  rintro e w5 ⟨rfl, b5⟩
  have hM := hide ((unhide hM).next b5)
  have bl := bstep bl b5
  clear b5
  rw [unhide E2]
  go_wp2_with fail
  refine (unhide CW1 _ _ (unhide hM)).mono ?_
  rintro e w5 ⟨rfl, rfl⟩
  have z5 : ((x1 : Int) == (x1 : Int)) = true := by simp
  go_wp2_with fail
  refine (unhide CU _ _ (unhide hM)).mono ?_
  rintro e w5 ⟨rfl, b5⟩
  have hM := hide ((unhide hM).next b5)
  have bl := bstep bl b5
  clear b5
  go_wp2_with fail
  refine (unhide CA _ _ (unhide hM) _ _).mono ?_
  rintro e w5 ⟨rfl, rfl⟩
  go_wp2_with fail
  refine (unhide CA _ _ (unhide hM) _ _).mono ?_
  rintro e w5 ⟨rfl, rfl⟩
  have z6 : ((A a (A d f) : Int) == (A a (A d f) : Int)) = true := by simp
  go_wp2_with fail
  refine (unhide CV _ _ (unhide hM)).mono ?_
  rintro e w5 ⟨rfl, b5⟩
  have hM := hide ((unhide hM).next b5)
  have bl := bstep bl b5
  clear b5
  go_wp2_with fail
  refine (unhide CM _ _ (unhide hM) _ _).mono ?_
  rintro e w5 ⟨rfl, b5⟩
  have hM := hide ((unhide hM).next b5)
  have bl := bstep bl b5
  clear b5
  go_wp2_with fail
  refine (unhide CM _ _ (unhide hM) _ _).mono ?_
  rintro e w5 ⟨rfl, b5⟩
  have hM := hide ((unhide hM).next b5)
  have bl := bstep bl b5
  clear b5
  have z7 : ((M a (M d f) : Int) == (M a (M d f) : Int)) = true := by simp
  go_wp2_with fail
  refine (modWakes_any _).mono ?_
  rintro e w5 ⟨rfl, b5⟩
  go_wp2
  go_ret
  exact ⟨rfl, bstep bl b5⟩

end Go.Proofs.Ytnmddjakfhlnnab
