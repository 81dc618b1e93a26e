/- ModwSums: what the law's walk comes to. -/
import Derived.Test.YtnmddjakfhlnnaaQOdd
import Derived.Test.YtnmddjakfhlnnaaQRef
import Derived.Test.YtnmddjakfhlnnaaQSum
import Derived.Test.YtnmddjakfhlnnaaKeep
import Derived.Test.YtnmddjakfhlnnaaRepMore
namespace Go.Proofs.Ytnmddjakfhlnnaa
open Go.RowKit

set_option maxRecDepth 100000 in
set_option maxHeartbeats 3200000 in
theorem modwSums_any (p a d : Nat) (ga : Option Addr) (ba oa ca la : Nat) (xs : List Nat) (w : World) (hp : p < 18446744073709551616) (hx : xs.length = la) (hA : Rep w ga ba oa ca xs) :
    Calls Try.prog 4 #[.int .u64 (p : Int), .int .u64 (a : Int), .int .u64 (d : Int), .slice ga la ca] w fun e w' => e = .returned (.bool true) ∧ Below w.heap.size w w' := by
  obtain ⟨P, ho, hl, hh, co⟩ := odd_any p hp
  have CO := hide co
  obtain ⟨n, hca⟩ : ∃ k, k = min la 40 := ⟨_, rfl⟩
  have CC : Hid (∀ w, Calls Try.prog 14 #[.slice ga la ca, .int .i64 40] w fun e w' => e = .returned (.slice ga n ca) ∧ w' = w) := fun w => cut_any w ga la ca 40 n (by have := hA.room; omega) (by omega) hca
  have hn : n ≤ 40 := by omega
  obtain ⟨hlu, rA⟩ := cut_rep hA 40 n (by rw [hx]; exact hca)
  generalize xs.take n = us at *
  have HR := hide rA
  have HL := hide hlu
  have CN := hide (fun w => modNew_any P w ho hl hh)
  have CX := hide (fun x y w => rAdd_any P x y w (by omega) (by omega))
  have CZ := hide (fun x y w => rSub_any P x y w (by omega) (by omega))
  have CR := hide (fun w g (h : MW w g P) x => red_any h x)
  have CA := hide (fun w g (h : MW w g P) x y => add_mod h x y)
  have CS := hide (fun w g (h : MW w g P) x y => sub_mod h x y)
  have CG := hide (fun w g (h : MW w g P) x => neg_mod h x)
  have CU := hide (fun w g (h : MW w g P) (r : Rep w ga ba oa ca us) => sum_mod h ga ba oa ca n us hlu (by omega) r)
  have f6 : (a : Int).tmod (P : Int) = (rd P a : Int) := rtmod_nat a P
  have hz : ¬ (P : Int) = 0 := by omega
  have CZ0 : Hid (∀ y w, Calls Try.prog 19 #[.int .u64 0, .int .u64 ((y : Nat) : Int), .int .u64 (P : Int)] w fun e w' => e = .returned (.int .u64 (sb P 0 y : Int)) ∧ Below w.heap.size w w') := fun y w => rSub_any P 0 y w (by omega) (by omega)
  clear co ho hp hl hh hca hx hA rA hlu
  generalize ad P = A at *
  generalize sb P = S at *
  generalize rd P = R at *
  go_enter Try.func4, Try.ntmps4
  go_wp2_with fail
  refine (unhide CO _).mono ?_
  rintro e w0 ⟨rfl, rfl⟩
  go_wp2_with fail
  refine (unhide CC _).mono ?_
  rintro e w0 ⟨rfl, rfl⟩
  go_wp2_with fail
  refine (unhide CN _).mono ?_
  rintro e w1 ⟨g, rfl, h, hg, bl⟩
  have hM := hide h
  have HR := hide ((unhide HR).next bl)
  clear h CN hg CO CC
  go_wp2
  go_loopw [11, 12] (fun sv iv wr => ∃ (k s : Nat), k ≤ n ∧ sv = .int .u64 (s : Int) ∧ iv = .int .i64 (k : Int) ∧ Hid (s = fold A 0 (us.take k)) ∧ Hid (MW wr g P) ∧ Hid (Rep wr ga ba oa ca us) ∧ Below w0.heap.size w0 wr) (fun _ iv _ => n - (intOf iv).toNat)
  case atStart => exact ⟨0, 0, by omega, rfl, rfl, rfl, hM, HR, bl⟩
  case round =>
    clear hM HR bl
    obtain ⟨k, s, hk, rfl, rfl, hs, hM, HR, bl⟩ := hrel
    by_cases hlt : k < n
    · have hle : k < us.length := by rw [unhide HL]; exact hlt
      obtain rfl := (unhide HR).head (by omega)
      obtain ⟨x, HX⟩ : ∃ x : Nat, Hid (x = us.getD k 0) := ⟨_, rfl⟩
      have cx : wr.cell? ⟨ba, oa + k, none⟩ = some (.int .u64 (x : Int)) := by rw [HX.out]; exact (unhide HR).cell k hle
      have HN : Hid (A s x = fold A 0 (us.take (k + 1))) := by show _ = _; rw [fold_next A 0 us hle, ← hs.out, ← HX.out]
      clear hs HX hle
      go_wp2_with fail
      refine (unhide CX s x _).mono ?_
      rintro e w7 ⟨rfl, b2⟩
      have hM := hide ((unhide hM).next b2)
      have HR := hide ((unhide HR).next b2)
      have bl := bstep bl b2
      clear b2 cx
      go_wp2
      go_roundw
      case rel => exact ⟨k + 1, _, by omega, rfl, by go_num, HN, hM, HR, bl⟩
      case measure => simp [intOf]; omega
    · obtain rfl : k = n := by omega
      have HN : Hid (s = fold A 0 us) := by show _ = _; rw [← fold_all A 0 us (unhide HL), ← hs.out]
      clear hs hk hlt
      have zs : ((fold A 0 us : Int) == (s : Int)) = true := by rw [← unhide HN]; simp
      generalize fold A 0 us = F at *
      have inst := old_some wr
      go_wp2_with fail
      refine region_old (by kernel_rfl) (by kernel_rfl) ?_
      repeat (go_big_quiet_step ((first | (go_at_call 16; exact Calls.old_same (unhide CR _ _ ((unhide hM).next (Old.old _)) _)) | (go_at_call 17; exact Calls.old_same (unhide CA _ _ ((unhide hM).next (Old.old _)) _ _)) | (go_at_call 18; exact Calls.old_same (unhide CS _ _ ((unhide hM).next (Old.old _)) _ _)) | (go_at_call 20; exact Calls.old_same (unhide CG _ _ ((unhide hM).next (Old.old _)) _)) | (go_at_call 15; exact Calls.old (unhide CX _ _ _)) | (go_at_call 21; exact Calls.old (unhide CU _ _ ((unhide hM).next (Old.old _)) ((unhide HR).next (Old.old _)))) | (go_at_call_of 19 (Value.int .u64 0); exact Calls.old (unhide CZ0 _ _)) | (go_at_call_of 19 (Value.int .u64 (a : Int)); exact Calls.old (unhide CZ _ _ _)) | (go_at_call 12; exact Calls.old (modWakes_any _)))))
      refine wpQuiet_nil ?_
      intro w6 hw6
      obtain ⟨u, rfl⟩ := hw6
      go_wp2
      go_ret
      exact ⟨rfl, bstep bl u.old⟩

end Go.Proofs.Ytnmddjakfhlnnaa
