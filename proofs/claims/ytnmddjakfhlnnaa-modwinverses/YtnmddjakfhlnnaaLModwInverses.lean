/- ModwInverses: what the law's walk comes to. -/
import Derived.Test.YtnmddjakfhlnnaaQOdd
import Derived.Test.YtnmddjakfhlnnaaQRef
namespace Go.Proofs.Ytnmddjakfhlnnaa
open Go.RowKit

set_option maxHeartbeats 1600000 in
theorem modwInverses_any (p a : Nat) (w : World) (hp : p < 18446744073709551616) :
    Calls Try.prog 6 #[.int .u64 (p : Int), .int .u64 (a : Int)] w fun e w' => e = .returned (.bool true) ∧ Below w.heap.size w w' := by
  obtain ⟨P, ho, hl, hh, co⟩ := odd_any p hp
  have CO := hide co
  have CN := hide (fun w => modNew_any P w ho hl hh)
  have CI := hide (fun w g (h : MW w g P) => inv_any h a)
  have CG := hide (fun w => rGcd_any a P w)
  have CM := hide (fun x w => rMul_any P a x w (by omega) (by omega))
  clear co ho hl hh hp
  go_enter Try.func6, Try.ntmps6
  go_wp2_with fail
  refine (unhide CO _).mono ?_
  rintro e w0 ⟨rfl, rfl⟩
  go_wp2_with fail
  refine (unhide CN _).mono ?_
  rintro e w1 ⟨g, rfl, h, hg, b⟩
  have hM := hide h
  clear h CN hg CO
  go_wp2_with fail
  refine (unhide CI _ _ (unhide hM)).mono ?_
  rintro e w2 ⟨v, rfl, hv, b2⟩
  have b := bstep b b2
  clear b2 CI hM
  rcases hv with ⟨hg, x, hx, h1, rfl⟩ | ⟨hg, rfl⟩
  · rw [hg] at CG
    have hxi : (x : Int) < (P : Int) := by omega
    have CM := fun w => unhide CM x w
    rw [h1] at CM
    have CM := hide CM
    clear hg h1
    go_wp2_with fail
    refine (unhide CG _).mono ?_
    rintro e w3 ⟨rfl, b3⟩
    have b := bstep b b3
    clear b3 CG
    go_wp2_with fail
    refine (unhide CM _).mono ?_
    rintro e w4 ⟨rfl, b4⟩
    have b := bstep b b4
    clear b4 CM
    go_wp2_with fail
    refine (modWakes_any _).mono ?_
    rintro e w4 ⟨rfl, b4⟩
    go_wp2
    go_ret
    exact ⟨rfl, bstep b b4⟩
  · have hne : ((Nat.gcd a P : Int) != 1) = true := by rw [bne_iff_ne]; omega
    clear hg
    generalize Nat.gcd a P = G at *
    go_wp2_with fail
    refine (unhide CG _).mono ?_
    rintro e w3 ⟨rfl, b3⟩
    have b := bstep b b3
    clear b3 CG
    go_wp2_with fail
    refine (modWakes_any _).mono ?_
    rintro e w4 ⟨rfl, b4⟩
    go_wp2
    go_ret
    exact ⟨rfl, bstep b b4⟩

end Go.Proofs.Ytnmddjakfhlnnaa
