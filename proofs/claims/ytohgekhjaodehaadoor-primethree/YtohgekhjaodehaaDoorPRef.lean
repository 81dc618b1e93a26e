/- The reference's Prime. -/
import Derived.Test.YtohgekhjaodehaaDoorPIs
namespace Go.Proofs.YtohgekhjaodehaaDoor
open Go.RowKit

theorem arr_at : ∀ j, j < 12 → (#[.int .u64 2, .int .u64 3, .int .u64 5, .int .u64 7, .int .u64 11, .int .u64 13, .int .u64 17, .int .u64 19, .int .u64 23, .int .u64 29, .int .u64 31, .int .u64 37] : Array Value)[j]? = some (.int .u64 (bs j : Int))
  | 0, _ => rfl
  | 1, _ => rfl
  | 2, _ => rfl
  | 3, _ => rfl
  | 4, _ => rfl
  | 5, _ => rfl
  | 6, _ => rfl
  | 7, _ => rfl
  | 8, _ => rfl
  | 9, _ => rfl
  | 10, _ => rfl
  | 11, _ => rfl
  | k + 12, h => absurd h (by omega)
/-- The bases lie in block g. -/
def BasesAt (w : World) (g : Nat) : Prop := ∀ j, j < 12 → w.cell? ⟨g, j, none⟩ = some (.int .u64 (bs j : Int))
theorem BasesAt.next {w w' : World} {g : Nat} (h : BasesAt w g) (hb : Below w.heap.size w w') : BasesAt w' g := fun j hj => (hb.cell (p := ⟨g, j, none⟩) (World.block_lt_of_cell? _ _ (h j hj))).trans (h j hj)

theorem bstepg {w w1 w2 : World} {g : Nat} (hg : w.heap.size = g) (h : Below g w w1) (k : Below w1.heap.size w1 w2) : Below g w w2 := by subst hg; exact bstep h k

set_option maxHeartbeats 1600000 in
theorem rPrime_any (n : Nat) (w : World) (hn : n < 18446744073709551616) :
    Calls Tryd.prog 11 #[.int .u64 (n : Int)] w fun e w' => e = .returned (.bool (isP n)) ∧ Below w.heap.size w w' := by
  by_cases h2 : n < 2
  · have HZ := hide (isP_low h2)
    generalize isP n = Z at *
    have hi : (n : Int) < 2 := by omega
    clear h2
    go_enter Tryd.func11, Tryd.ntmps11
    go_wp2
    go_ret
    exact ⟨ret_bool (unhide HZ).symm, (Below.refl _ _).alloc (Nat.le_refl _) _⟩
  · have hi : ¬ (n : Int) < 2 := by omega
    have H1 := hide (fun k => isP_hit (n := n) (k := k) (by omega))
    have H2 := hide (fun k hb hk => isP_fail (n := n) (k := k) hb hk)
    have H3 := hide (fun hb => isP_all (n := n) (by omega) hb)
    have H4 := hide (no_base (n := n) (by omega))
    have H5 := hide (fun d s => twos_end (n := n) (d := d) (s := s) (by omega) hn)
    have H6 := hide (twos_of (n := n) (by omega) hn).1
    have HW := hide (fun b w (ho : n % 2 = 1) => rWitness_any n b w (by omega) ho hn)
    have HM := hide (fun k => more_none (n := n) (k := k))
    have HA := hide (fun k => more_all (n := n) (k := k))
    have HR := hide bs_range
    generalize isP n = Z at *
    have HC := hide (fun j hj => (cell_of_row _ w.heap.size j _ 22 (0, 0) (heap_alloc_new w (.cells #[.int .u64 2, .int .u64 3, .int .u64 5, .int .u64 7, .int .u64 11, .int .u64 13, .int .u64 17, .int .u64 19, .int .u64 23, .int .u64 29, .int .u64 31, .int .u64 37] 22))).trans (arr_at j hj))
    have HB : Hid (Below w.heap.size w (w.alloc (.cells #[.int .u64 2, .int .u64 3, .int .u64 5, .int .u64 7, .int .u64 11, .int .u64 13, .int .u64 17, .int .u64 19, .int .u64 23, .int .u64 29, .int .u64 31, .int .u64 37] 22))) := (Below.refl _ _).alloc (Nat.le_refl _) _
    obtain ⟨W, hW⟩ : ∃ W, w.alloc (.cells #[.int .u64 2, .int .u64 3, .int .u64 5, .int .u64 7, .int .u64 11, .int .u64 13, .int .u64 17, .int .u64 19, .int .u64 23, .int .u64 29, .int .u64 31, .int .u64 37] 22) = W := ⟨_, rfl⟩
    rw [hW] at HC HB
    obtain ⟨g, hg⟩ : ∃ g, w.heap.size = g := ⟨_, rfl⟩
    rw [hg] at HC HB
    have HC : Hid (BasesAt W g) := HC
    go_enter Tryd.func11, Tryd.ntmps11
    rw [hg]
    have HG := hide hg
    go_wp2
    clear hW hg
    go_loopw [4] (fun iv wr => ∃ k : Nat, k ≤ 12 ∧ iv = .int .i64 (k : Int) ∧ Hid (∀ j, j < k → ¬ n % bs j = 0) ∧ Hid (wr = W)) (fun iv _ => 12 - (intOf iv).toNat)
    case atStart => exact ⟨0, by omega, rfl, fun j hj => absurd hj (by omega), rfl⟩
    case round =>
      obtain ⟨k, hk, rfl, hf, hw⟩ := hrel
      obtain rfl := hw.out.symm
      by_cases h12 : k = 12
      · subst h12
        obtain ⟨hodd, hbig⟩ := unhide H4 hf.out
        obtain ⟨N, hN⟩ : ∃ N, N = n - 1 := ⟨_, rfl⟩
        have eN : (n : Int) - 1 = (N : Int) := by omega
        have eNw : IntKind.u64.wrap (N : Int) = (N : Int) := by rw [IntKind.wrap_u64]; omega
        rw [← hN] at H5
        have hNp : 0 < N := by omega
        have hNl : N < 18446744073709551616 := by omega
        clear hN hw
        go_wp2
        go_loopw [5, 6] (fun dv sv wr => ∃ d s : Nat, 0 < d ∧ d ≤ N ∧ s + d ≤ N ∧ dv = .int .u64 (d : Int) ∧ sv = .int .i64 (s : Int) ∧ s < 64 ∧ Hid (d * 2 ^ s = N) ∧ Hid (wr = W)) (fun dv _ _ => (intOf dv).toNat)
        case atStart => exact ⟨N, 0, by omega, by omega, by omega, rfl, rfl, by omega, by show _ = _; rw [Nat.pow_zero, Nat.mul_one], rfl⟩
        case round =>
          obtain ⟨d, s, hd0, hdN, hsd, rfl, rfl, hs64, hds, hw⟩ := hrel
          obtain rfl := hw.out.symm
          have e1 : (d : Int).tmod 2 = ((d % 2 : Nat) : Int) := rfl
          have e4 : (d : Int) % 2 = ((d % 2 : Nat) : Int) := by omega
          by_cases hd : d % 2 = 1
          · obtain ⟨rfl, rfl⟩ := unhide H5 d s hd hds.out
            rw [hd] at e1 e4
            clear hds
            have HW := hide (fun b w => unhide HW b w hodd)
            go_wp2
            clear hw
            go_loopw [7] (fun iv wr => ∃ k : Nat, k ≤ 12 ∧ iv = .int .i64 (k : Int) ∧ Hid (∀ j, j < k → pass n (bs j) = true) ∧ Hid (BasesAt wr g) ∧ Below g w wr) (fun iv _ => 12 - (intOf iv).toNat)
            case atStart => exact ⟨0, by omega, rfl, fun j hj => absurd hj (by omega), HC, unhide HB⟩
            case round =>
              obtain ⟨k, hk, rfl, hp, hB, hb⟩ := hrel
              by_cases h12 : k = 12
              · subst h12
                have HZ := hide (unhide H3 hf.out hp.out)
                go_wp2
                go_ret
                exact ⟨ret_bool (unhide HZ).symm, hb⟩
              · have hlt : (k : Int) < 12 := by omega
                have hix := (unhide hB) k (by omega)
                have CP := hide (unhide HW (bs k) wr)
                cases hpass : pass n (bs k)
                · have HZ := hide (unhide H2 k hf.out (by omega) hpass)
                  rw [hpass] at CP
                  generalize bs k = b at *
                  clear hpass hp
                  go_wp2_with fail
                  refine (unhide CP).mono ?_
                  rintro e w6 ⟨rfl, b2⟩
                  go_wp2
                  go_ret
                  exact ⟨ret_bool (unhide HZ).symm, bstepg (unhide HG) hb b2⟩
                · have HP := hide (unhide HA k hp.out hpass)
                  rw [hpass] at CP
                  generalize bs k = b at *
                  clear hpass hp
                  go_wp2_with fail
                  refine (unhide CP).mono ?_
                  rintro e w6 ⟨rfl, b2⟩
                  go_wp2
                  go_roundw
                  case rel => exact ⟨k + 1, by omega, by go_num, HP, (unhide hB).next b2, bstepg (unhide HG) hb b2⟩
                  case measure => simp [intOf]; omega
          · have hd2 : d % 2 = 0 := by omega
            rw [hd2] at e1 e4
            have e2 : (d : Int).tdiv 2 = ((d / 2 : Nat) : Int) := rfl
            have e3 : (d : Int) / 2 = ((d / 2 : Nat) : Int) := by omega
            have hlt : Hid (d / 2 < d) := by show _ < _; omega
            have hds2 : Hid (d / 2 * 2 ^ (s + 1) = N) := by
              show _ = _
              have := hds.out
              rw [← this, Nat.pow_succ, Nat.mul_comm (2 ^ s) 2, ← Nat.mul_assoc]
              have : d / 2 * 2 = d := by omega
              rw [this]
            have hs2 : s + 1 < 64 := by
              apply Nat.lt_of_not_le
              intro hle
              have h1 : 2 ^ 64 ≤ 2 ^ (s + 1) := Nat.pow_le_pow_right (by omega) hle
              have h2 : 1 * 2 ^ (s + 1) ≤ d / 2 * 2 ^ (s + 1) := Nat.mul_le_mul_right _ (by omega)
              have := hds2.out
              omega
            have hd20 : 0 < d / 2 := by omega
            have hb2 : s + 1 + d / 2 ≤ N := by omega
            have hb3 : d / 2 ≤ N := by omega
            clear hds hd hd2
            generalize d / 2 = d2 at *
            go_wp2
            go_roundw
            case rel => exact ⟨d2, s + 1, hd20, hb3, hb2, by go_num, by go_num, hs2, hds2, trivial⟩
            case measure => simp [intOf]; exact unhide hlt
      · have hlt : (k : Int) < 12 := by omega
        have hix := (unhide HC) k (by omega)
        have hrb := unhide HR k (by omega)
        have hm : (n : Int) % (bs k : Int) = ((n % bs k : Nat) : Int) := rfl
        by_cases h0 : n % bs k = 0
        · have hz := unhide H1 k (by omega) hf.out h0
          rw [← beq_dec] at hz
          have HZ := hide hz
          rw [h0] at hm
          have hnz : ¬ (bs k : Int) = 0 := by omega
          generalize bs k = b at *
          clear hf h0 hz
          go_wp2
          go_ret
          exact ⟨ret_bool (unhide HZ).symm, unhide HB⟩
        · have HF := hide (unhide HM k hf.out h0)
          have hnz : ¬ (bs k : Int) = 0 := by omega
          have hm0 : ¬ ((n % bs k : Nat) : Int) = 0 := by omega
          generalize n % bs k = r at *
          generalize bs k = b at *
          clear hf h0
          go_wp2
          go_roundw
          case rel => exact ⟨k + 1, by omega, by go_num, HF, trivial⟩
          case measure => simp [intOf]; omega

end Go.Proofs.YtohgekhjaodehaaDoor
