/- ModwMuls: what the law's walk comes to. -/
import Derived.Test.YtnmddjakfhlnnaaQOdd
import Derived.Test.YtnmddjakfhlnnaaQRef
import Derived.Test.YtnmddjakfhlnnaaQSum
import Derived.Test.YtnmddjakfhlnnaaKeep
import Derived.Test.YtnmddjakfhlnnaaRepMore
namespace Go.Proofs.Ytnmddjakfhlnnaa
open Go.RowKit

set_option maxRecDepth 100000 in
set_option maxHeartbeats 3200000 in
theorem modwMuls_any (p a d N : Nat) (ga : Option Addr) (ba oa ca la : Nat) (xs : List Nat) (w : World) (hp : p < 18446744073709551616) (hN : N < 18446744073709551616) (hx : xs.length = la) (hA : Rep w ga ba oa ca xs) :
    Calls Try.prog 5 #[.int .u64 (p : Int), .int .u64 (a : Int), .int .u64 (d : Int), .int .u64 (N : Int), .slice ga la ca] w fun e w' => e = .returned (.bool true) ∧ Below w.heap.size w w' := by
  obtain ⟨P, ho, hl, hh, co⟩ := odd_any p hp
  have CO := hide co
  obtain ⟨n, hca⟩ : ∃ k, k = min la 40 := ⟨_, rfl⟩
  have CC : Hid (∀ w, Calls Try.prog 14 #[.slice ga la ca, .int .i64 40] w fun e w' => e = .returned (.slice ga n ca) ∧ w' = w) := fun w => cut_any w ga la ca 40 n (by have := hA.room; omega) (by omega) hca
  have hn : n ≤ 40 := by omega
  obtain ⟨hlu, rA⟩ := cut_rep hA 40 n (by rw [hx]; exact hca)
  generalize xs.take n = us at *
  have HR := hide rA
  have HL := hide hlu
  have CN := hide (fun w => modNew_any P w ho hl hh)
  have CX := hide (fun x y w => rMul_any P x y w (by omega) (by omega))
  have CQ := hide (fun w => rPow_any P a N w (by omega) (by omega) hN)
  have CM := hide (fun w g (h : MW w g P) x y => mul_mod h x y)
  have CW := hide (fun w g (h : MW w g P) => pow_mod h a N hN)
  have e0 : pw P a 0 = 1 := by unfold pw; rw [Nat.pow_zero, Nat.mod_eq_of_lt (by omega)]
  have CV : Hid (∀ w g, MW w g P → Calls Try.prog 24 #[.pointer (some ⟨g, 0, none⟩), .int .u64 (a : Int), .int .u64 0] w fun e w' => e = .returned (.int .u64 1) ∧ w' = w) := fun w g h => by
    have := pow_mod h a 0 (by omega)
    rw [e0] at this
    exact this
  have CU := hide (fun w g (h : MW w g P) (r : Rep w ga ba oa ca us) => product_mod h ga ba oa ca n us hlu (by omega) r)
  clear e0 co ho hp hl hh hN hca hx hA rA hlu
  generalize ml P = A at *
  generalize pw P a N = z at *
  go_enter Try.func5, Try.ntmps5
  go_wp2_with fail
  refine (unhide CO _).mono ?_
  rintro e w0 ⟨rfl, rfl⟩
  go_wp2_with fail
  refine (unhide CC _).mono ?_
  rintro e w0 ⟨rfl, rfl⟩
  go_wp2_with fail
  refine (unhide CN _).mono ?_
  rintro e w1 ⟨g, rfl, h, hg, bl⟩
  have hM := hide h
  have HR := hide ((unhide HR).next bl)
  clear h CN hg CO CC
  go_wp2
  go_loopw [13, 14] (fun sv iv wr => ∃ (k s : Nat), k ≤ n ∧ sv = .int .u64 (s : Int) ∧ iv = .int .i64 (k : Int) ∧ Hid (s = fold A 1 (us.take k)) ∧ Hid (MW wr g P) ∧ Hid (Rep wr ga ba oa ca us) ∧ Below w0.heap.size w0 wr) (fun _ iv _ => n - (intOf iv).toNat)
  case atStart => exact ⟨0, 1, by omega, rfl, rfl, rfl, hM, HR, bl⟩
  case round =>
    clear hM HR bl
    obtain ⟨k, s, hk, rfl, rfl, hs, hM, HR, bl⟩ := hrel
    by_cases hlt : k < n
    · have hle : k < us.length := by rw [unhide HL]; exact hlt
      obtain rfl := (unhide HR).head (by omega)
      obtain ⟨x, HX⟩ : ∃ x : Nat, Hid (x = us.getD k 0) := ⟨_, rfl⟩
      have cx : wr.cell? ⟨ba, oa + k, none⟩ = some (.int .u64 (x : Int)) := by rw [HX.out]; exact (unhide HR).cell k hle
      have HN : Hid (A s x = fold A 1 (us.take (k + 1))) := by show _ = _; rw [fold_next A 1 us hle, ← hs.out, ← HX.out]
      clear hs HX hle
      go_wp2_with fail
      refine (unhide CX s x _).mono ?_
      rintro e w7 ⟨rfl, b2⟩
      have hM := hide ((unhide hM).next b2)
      have HR := hide ((unhide HR).next b2)
      have bl := bstep bl b2
      clear b2 cx
      go_wp2
      go_roundw
      case rel => exact ⟨k + 1, _, by omega, rfl, by go_num, HN, hM, HR, bl⟩
      case measure => simp [intOf]; omega
    · obtain rfl : k = n := by omega
      have HN : Hid (s = fold A 1 us) := by show _ = _; rw [← fold_all A 1 us (unhide HL), ← hs.out]
      clear hs hk hlt
      have zs : ((fold A 1 us : Int) == (s : Int)) = true := by rw [← unhide HN]; simp
      generalize fold A 1 us = F at *
      have z1 : ((A a d : Int) == (A a d : Int)) = true := by simp
      have z2 : ((z : Int) == (z : Int)) = true := by simp
      go_wp2_with fail
      refine (unhide CM _ _ (unhide hM) _ _).mono ?_
      rintro e w5 ⟨rfl, b5⟩
      have hM := hide ((unhide hM).next b5)
      have HR := hide ((unhide HR).next b5)
      have bl := bstep bl b5
      clear b5
      go_wp2_with fail
      refine (unhide CX _ _ _).mono ?_
      rintro e w5 ⟨rfl, b5⟩
      have hM := hide ((unhide hM).next b5)
      have HR := hide ((unhide HR).next b5)
      have bl := bstep bl b5
      clear b5
      go_wp2_with fail
      refine (unhide CW _ _ (unhide hM)).mono ?_
      rintro e w5 ⟨rfl, rfl⟩
      go_wp2_with fail
      refine (unhide CQ _).mono ?_
      rintro e w5 ⟨rfl, b5⟩
      have hM := hide ((unhide hM).next b5)
      have HR := hide ((unhide HR).next b5)
      have bl := bstep bl b5
      clear b5
      go_wp2_with fail
      refine (unhide CU _ _ (unhide hM) (unhide HR)).mono ?_
      rintro e w5 ⟨rfl, b5⟩
      have hM := hide ((unhide hM).next b5)
      have bl := bstep bl b5
      clear b5
      go_wp2_with fail
      refine (unhide CV _ _ (unhide hM)).mono ?_
      rintro e w5 ⟨rfl, rfl⟩
      go_wp2_with fail
      refine (modWakes_any _).mono ?_
      rintro e w5 ⟨rfl, b5⟩
      go_wp2
      go_ret
      exact ⟨rfl, bstep bl b5⟩

end Go.Proofs.Ytnmddjakfhlnnaa
