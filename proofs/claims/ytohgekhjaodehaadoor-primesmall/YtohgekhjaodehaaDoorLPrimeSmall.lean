/- PrimeSmall: what the law's walk comes to. -/
import Derived.Test.YtohgekhjaodehaaDoorPSeen
import Derived.Test.YtohgekhjaodehaaDoorPMod
namespace Go.Proofs.YtohgekhjaodehaaDoor
open Go.RowKit

theorem tried_more {n d : Nat} (h2 : 2 ≤ d) : tried n (d + 1) ↔ tried n d ∧ ¬ n % d = 0 := by
  constructor
  · exact fun h => ⟨⟨h.1, fun e he hlt => h.2 e he (by omega)⟩, h.2 d h2 (by omega)⟩
  · refine fun h => ⟨h.1.1, fun e he hlt => ?_⟩
    by_cases e1 : e = d
    · rw [e1]; exact h.2
    · exact h.1.2 e he (by omega)

set_option maxHeartbeats 1600000 in
theorem primeSmall_any (n : Nat) (w : World) (hT : TB w) :
    Calls Tryd.prog 3 #[.int .u64 (n : Int)] w fun e w' => e = .returned (.bool true) ∧ Below w.heap.size w w' := by
  obtain ⟨N, hN⟩ : ∃ N, N = n % 200000 := ⟨_, rfl⟩
  have hl : N < 200000 := by omega
  have e1 : (n : Int) % 200000 = (N : Int) := by omega
  have e2 : (n : Int).tmod 200000 = (N : Int) := by rw [hN]; rfl
  have CI := hide (is_any N w (by omega) hT)
  have CW := hide (fun w' (b : Below w.heap.size w w') => primeWakes_any w' (hT.next b))
  have HE := hide (fun d => tried_end (n := N) (d := d) hl)
  have HM := hide (fun d => tried_more (n := N) (d := d))
  have H0 : Hid (∀ I : Bool, (I = decide (2 ≤ N)) → (I = true ↔ tried N 2)) := fun I e => by
    rw [e, decide_eq_true_iff]
    exact ⟨fun h => ⟨h, fun e he hlt => absurd hlt (by omega)⟩, fun h => h.1⟩
  clear hN hT
  generalize isP N = Z at *
  have HL : Hid (2 ≤ N ∨ ¬ 2 ≤ N) := Classical.em _
  obtain ⟨I0, hI0⟩ : ∃ I0, I0 = decide (2 ≤ N) := ⟨_, rfl⟩
  have hge : decide ((2 : Int) ≤ (N : Int)) = I0 := by
    rw [hI0]
    by_cases h : 2 ≤ N
    · rw [decide_eq_true h, decide_eq_true (by omega)]
    · rw [decide_eq_false h, decide_eq_false (by omega)]
  have H0 := hide (unhide H0 I0 hI0)
  clear hI0 HL
  generalize tried N = T at *
  go_enter Tryd.func3, Tryd.ntmps3
  go_wp2
  clear hge
  go_loopw [3, 4] (fun iv dv wr => ∃ (I : Bool) (d : Nat), 2 ≤ d ∧ d ≤ 448 ∧ iv = .bool I ∧ dv = .int .u64 (d : Int) ∧ Hid (I = true ↔ T d) ∧ Hid (∀ e, 2 ≤ e → e < d → e * e ≤ N) ∧ Hid (wr = w)) (fun _ dv _ => 448 - (intOf dv).toNat)
  case atStart => exact ⟨I0, 2, by omega, by omega, rfl, rfl, H0, fun e he hlt => absurd hlt (by omega), rfl⟩
  case round =>
    clear H0
    obtain ⟨I, d, hd2, hd8, rfl, rfl, hI, hlow, hw⟩ := hrel
    obtain rfl := hw.out.symm
    obtain ⟨s, hs⟩ : ∃ s, s = d * d := ⟨_, rfl⟩
    have es : (d : Int) * (d : Int) = (s : Int) := by rw [hs]; exact (Int.natCast_mul d d).symm
    have hsl : s ≤ 448 * 448 := by rw [hs]; exact Nat.mul_le_mul hd8 hd8
    have esw : IntKind.u64.wrap (s : Int) = (s : Int) := by rw [IntKind.wrap_u64]; omega
    by_cases hend : N < s
    · have hE := unhide HE d hlow.out (by rw [← hs]; exact hend)
      have hZ : Z = I := by
        cases I
        · exact hE.2 (fun h => by have := hI.out.2 h; cases this)
        · exact hE.1 (hI.out.1 rfl)
      subst hZ
      have hle : ¬ (s : Int) ≤ (N : Int) := by omega
      have hz : (Z == Z) = true := beq_self_eq_true Z
      clear hs hE hI hlow HE HM hw
      go_wp2_with fail
      refine (unhide CI).mono ?_
      rintro e w1 ⟨rfl, b⟩
      go_wp2_with fail
      refine (unhide CW _ b).mono ?_
      rintro e w3 ⟨rfl, b2⟩
      have b := bstep b b2
      go_wp2
      go_ret
      exact ⟨rfl, b⟩
    · have hle : (s : Int) ≤ (N : Int) := by omega
      have hd9 : d < 448 := by
        apply Nat.lt_of_not_le
        intro h
        have := Nat.mul_le_mul h h
        omega
      have hlow2 : Hid (∀ e, 2 ≤ e → e < d + 1 → e * e ≤ N) := fun e he hlt => by
        by_cases e1 : e = d
        · rw [e1, ← hs]; omega
        · exact hlow.out e he (by omega)
      have hm : (N : Int) % (d : Int) = ((N % d : Nat) : Int) := rfl
      have hm2 : (N : Int).tmod (d : Int) = ((N % d : Nat) : Int) := rfl
      have hnz : ¬ (d : Int) = 0 := by omega
      have hmore := unhide HM d hd2
      have hmm : Hid (448 - (d + 1) < 448 - d) := by show _ < _; omega
      cases I
      · have hI2 : Hid (false = true ↔ T (d + 1)) := by
          show _ ↔ _
          rw [hmore, ← hI.out]
          simp
        clear hs hend hI hlow hmore HE HM
        go_wp2
        go_roundw
        case rel => exact ⟨false, d + 1, by omega, by omega, rfl, by go_num, hI2, hlow2, trivial⟩
        case measure => simp [intOf]; have := unhide hmm; omega
      · by_cases h0 : N % d = 0
        · have hI2 : Hid (false = true ↔ T (d + 1)) := by
            show _ ↔ _
            rw [hmore]
            simp [h0]
          rw [h0] at hm hm2
          clear hs hend hI hlow hmore HE HM h0
          go_wp2
          go_roundw
          case rel => exact ⟨false, d + 1, by omega, by omega, rfl, by go_num, hI2, hlow2, trivial⟩
          case measure => simp [intOf]; have := unhide hmm; omega
        · have hI2 : Hid (true = true ↔ T (d + 1)) := by
            show _ ↔ _
            rw [hmore, ← hI.out]
            simp [h0]
          have hne : (((N % d : Nat) : Int) != 0) = true := by rw [bne_iff_ne]; omega
          generalize N % d = r at *
          clear hs hend hI hlow hmore HE HM h0
          go_wp2
          go_roundw
          case rel => exact ⟨true, d + 1, by omega, by omega, rfl, by go_num, hI2, hlow2, trivial⟩
          case measure => simp [intOf]; have := unhide hmm; omega

end Go.Proofs.YtohgekhjaodehaaDoor
