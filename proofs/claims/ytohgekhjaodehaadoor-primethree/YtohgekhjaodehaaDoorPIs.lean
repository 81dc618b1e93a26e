/- Package prime: Is; the reference's Prime. -/
import Derived.Test.YtohgekhjaodehaaDoorPPass
namespace Go.Proofs.YtohgekhjaodehaaDoor
open Go.RowKit

theorem beq_dec (a b : Nat) : ((a : Int) == (b : Int)) = decide (a = b) := by
  by_cases h : a = b
  · rw [decide_eq_true h, h]; exact beq_self_eq_true _
  · rw [decide_eq_false h, beq_eq_false_iff_ne]; omega
theorem more_none {n k : Nat} (hf : ∀ j, j < k → ¬ n % bs j = 0) (h : ¬ n % bs k = 0) : ∀ j, j < k + 1 → ¬ n % bs j = 0 := fun j hj => by
  by_cases e : j = k
  · rw [e]; exact h
  · exact hf j (by omega)
theorem more_all {n k : Nat} (hf : ∀ j, j < k → pass n (bs j) = true) (h : pass n (bs k) = true) : ∀ j, j < k + 1 → pass n (bs j) = true := fun j hj => by
  by_cases e : j = k
  · rw [e]; exact h
  · exact hf j (by omega)
theorem base_at (w : World) : ∀ k : Nat, k < 12 → (Instr.index 45 (.agg #[.int .u64 2, .int .u64 3, .int .u64 5, .int .u64 7, .int .u64 11, .int .u64 13, .int .u64 17, .int .u64 19, .int .u64 23, .int .u64 29, .int .u64 31, .int .u64 37]) (.int .i64 (k : Int))).run Tryd.prog w = .ok (.int .u64 (bs k : Int)) w
  | 0, _ => by kernel_rfl
  | 1, _ => by kernel_rfl
  | 2, _ => by kernel_rfl
  | 3, _ => by kernel_rfl
  | 4, _ => by kernel_rfl
  | 5, _ => by kernel_rfl
  | 6, _ => by kernel_rfl
  | 7, _ => by kernel_rfl
  | 8, _ => by kernel_rfl
  | 9, _ => by kernel_rfl
  | 10, _ => by kernel_rfl
  | 11, _ => by kernel_rfl
  | k + 12, h => absurd h (by omega)

set_option maxHeartbeats 1600000 in
theorem is_any (n : Nat) (w : World) (hn : n < 18446744073709551616) (hT : TB w) :
    Calls Tryd.prog 9 #[.int .u64 (n : Int)] w fun e w' => e = .returned (.bool (isP n)) ∧ Below w.heap.size w w' := by
  by_cases h2 : n < 2
  · have HZ := hide (isP_low h2)
    generalize isP n = Z at *
    have hi : (n : Int) < 2 := by omega
    clear h2
    go_enter Tryd.func9, Tryd.ntmps9
    go_wp2
    go_ret
    exact ⟨ret_bool (unhide HZ).symm, Below.refl _ _⟩
  · have hi : ¬ (n : Int) < 2 := by omega
    have H1 := hide (fun k => isP_hit (n := n) (k := k) (by omega))
    have H2 := hide (fun k hb hk => isP_fail (n := n) (k := k) hb hk)
    have H3 := hide (fun hb => isP_all (n := n) (by omega) hb)
    have H4 := hide (no_base (n := n) (by omega))
    have HM := hide (fun k => more_none (n := n) (k := k))
    have HA := hide (fun k => more_all (n := n) (k := k))
    have HT := hide hT
    have HR := hide bs_range
    generalize isP n = Z at *
    have b0 : w.cell? ⟨0, 0, none⟩ = some (.int .u64 2) := hT.b 0 (by decide)
    have b1 : w.cell? ⟨0, 1, none⟩ = some (.int .u64 3) := hT.b 1 (by decide)
    have b2 : w.cell? ⟨0, 2, none⟩ = some (.int .u64 5) := hT.b 2 (by decide)
    have b3 : w.cell? ⟨0, 3, none⟩ = some (.int .u64 7) := hT.b 3 (by decide)
    have b4 : w.cell? ⟨0, 4, none⟩ = some (.int .u64 11) := hT.b 4 (by decide)
    have b5 : w.cell? ⟨0, 5, none⟩ = some (.int .u64 13) := hT.b 5 (by decide)
    have b6 : w.cell? ⟨0, 6, none⟩ = some (.int .u64 17) := hT.b 6 (by decide)
    have b7 : w.cell? ⟨0, 7, none⟩ = some (.int .u64 19) := hT.b 7 (by decide)
    have b8 : w.cell? ⟨0, 8, none⟩ = some (.int .u64 23) := hT.b 8 (by decide)
    have b9 : w.cell? ⟨0, 9, none⟩ = some (.int .u64 29) := hT.b 9 (by decide)
    have b10 : w.cell? ⟨0, 10, none⟩ = some (.int .u64 31) := hT.b 10 (by decide)
    have b11 : w.cell? ⟨0, 11, none⟩ = some (.int .u64 37) := hT.b 11 (by decide)
    go_enter Tryd.func9, Tryd.ntmps9
    go_wp2
    clear hT b0 b1 b2 b3 b4 b5 b6 b7 b8 b9 b10 b11
    go_loopw [10] (fun iv wr => ∃ k : Nat, k ≤ 12 ∧ iv = .int .i64 (k : Int) ∧ Hid (∀ j, j < k → ¬ n % bs j = 0) ∧ Hid (wr = w)) (fun iv _ => 12 - (intOf iv).toNat)
    case atStart => exact ⟨0, by omega, rfl, fun j hj => absurd hj (by omega), rfl⟩
    case round =>
      obtain ⟨k, hk, rfl, hf, hw⟩ := hrel
      by_cases h12 : k = 12
      · subst h12
        obtain rfl := hw.out.symm
        have b0 : w.cell? ⟨0, 0, none⟩ = some (.int .u64 2) := (unhide HT).b 0 (by decide)
        have b1 : w.cell? ⟨0, 1, none⟩ = some (.int .u64 3) := (unhide HT).b 1 (by decide)
        have b2 : w.cell? ⟨0, 2, none⟩ = some (.int .u64 5) := (unhide HT).b 2 (by decide)
        have b3 : w.cell? ⟨0, 3, none⟩ = some (.int .u64 7) := (unhide HT).b 3 (by decide)
        have b4 : w.cell? ⟨0, 4, none⟩ = some (.int .u64 11) := (unhide HT).b 4 (by decide)
        have b5 : w.cell? ⟨0, 5, none⟩ = some (.int .u64 13) := (unhide HT).b 5 (by decide)
        have b6 : w.cell? ⟨0, 6, none⟩ = some (.int .u64 17) := (unhide HT).b 6 (by decide)
        have b7 : w.cell? ⟨0, 7, none⟩ = some (.int .u64 19) := (unhide HT).b 7 (by decide)
        have b8 : w.cell? ⟨0, 8, none⟩ = some (.int .u64 23) := (unhide HT).b 8 (by decide)
        have b9 : w.cell? ⟨0, 9, none⟩ = some (.int .u64 29) := (unhide HT).b 9 (by decide)
        have b10 : w.cell? ⟨0, 10, none⟩ = some (.int .u64 31) := (unhide HT).b 10 (by decide)
        have b11 : w.cell? ⟨0, 11, none⟩ = some (.int .u64 37) := (unhide HT).b 11 (by decide)
        obtain ⟨hodd, hbig⟩ := unhide H4 hf.out
        go_wp2
        clear b0 b1 b2 b3 b4 b5 b6 b7 b8 b9 b10 b11 hw
        go_loopw [22] (fun iv wr => ∃ k : Nat, k ≤ 12 ∧ iv = .int .i64 (k : Int) ∧ Hid (∀ j, j < k → pass n (bs j) = true) ∧ Below w.heap.size w wr) (fun iv _ => 12 - (intOf iv).toNat)
        case atStart => exact ⟨0, by omega, rfl, fun j hj => absurd hj (by omega), Below.refl _ _⟩
        case round =>
          obtain ⟨k, hk, rfl, hp, hb⟩ := hrel
          by_cases h12 : k = 12
          · subst h12
            have HZ := hide (unhide H3 hf.out hp.out)
            go_wp2
            go_ret
            exact ⟨ret_bool (unhide HZ).symm, hb⟩
          · have hlt : (k : Int) < 12 := by omega
            have hix := base_at wr k (by omega)
            have hrb := unhide HR k (by omega)
            have CP := hide (passes_any n (bs k) wr (by omega) (by omega) hn ((unhide HT).next hb))
            cases hpass : pass n (bs k)
            · have HZ := hide (unhide H2 k hf.out (by omega) hpass)
              rw [hpass] at CP
              generalize bs k = b at *
              clear hpass hp
              go_wp2_with fail
              refine (unhide CP).mono ?_
              rintro e w6 ⟨rfl, b2⟩
              go_wp2
              go_ret
              exact ⟨ret_bool (unhide HZ).symm, bstep hb b2⟩
            · have HP := hide (unhide HA k hp.out hpass)
              rw [hpass] at CP
              generalize bs k = b at *
              clear hpass hp
              go_wp2_with fail
              refine (unhide CP).mono ?_
              rintro e w6 ⟨rfl, b2⟩
              go_wp2
              go_roundw
              case rel => exact ⟨k + 1, by omega, by go_num, HP, bstep hb b2⟩
              case measure => simp [intOf]; omega
      · have hlt : (k : Int) < 12 := by omega
        have hix := base_at wr k (by omega)
        have hrb := unhide HR k (by omega)
        have hm : (n : Int) % (bs k : Int) = ((n % bs k : Nat) : Int) := rfl
        by_cases h0 : n % bs k = 0
        · have hz := unhide H1 k (by omega) hf.out h0
          rw [← beq_dec] at hz
          have HZ := hide hz
          rw [h0] at hm
          have hnz : ¬ (bs k : Int) = 0 := by omega
          generalize bs k = b at *
          clear hf h0 hz
          go_wp2
          go_ret
          obtain rfl := hw.out
          exact ⟨ret_bool (unhide HZ).symm, Below.refl _ _⟩
        · have HF := hide (unhide HM k hf.out h0)
          have hnz : ¬ (bs k : Int) = 0 := by omega
          have hm0 : ¬ ((n % bs k : Nat) : Int) = 0 := by omega
          generalize n % bs k = r at *
          generalize bs k = b at *
          clear hf h0
          go_wp2
          go_roundw
          case rel => exact ⟨k + 1, by omega, by go_num, HF, hw⟩
          case measure => simp [intOf]; omega

end Go.Proofs.YtohgekhjaodehaaDoor
