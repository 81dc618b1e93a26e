/- Power of an engine of school; Pow of the reference. -/
import Derived.Test.YtdocljbmmaoenaaSSqr
namespace Go.Proofs.Ytdocljbmmaoenaa
open Go.RowKit

set_option maxRecDepth 100000 in
set_option maxHeartbeats 3200000 in
theorem refPow_any (w : World) (v : Value) (m k L : Nat) (hk : k ≤ 64) (hL : L ≤ 16384) (hm : m < 4294967296 ^ L) (hv : IsN w v m) :
    Calls Try.prog 19 #[v, .int .i64 (k : Int)] w fun e w' => ∃ r, e = .returned r ∧ IsN w' r (m ^ k) ∧ Below w.heap.size w w' := by
  have CS := hide (small_any 1 (by omega) (by omega) w)
  have HPW : Hid (∀ i, i ≤ 64 → m ^ i < 4294967296 ^ (64 * L + 1)) := fun i hi => by
    have h1 : m ^ i ≤ (4294967296 ^ L) ^ i := Nat.pow_le_pow_left (by omega) i
    rw [← Nat.pow_mul] at h1
    have h2 : 4294967296 ^ (L * i) < 4294967296 ^ (64 * L + 1) := Nat.pow_lt_pow_right (by omega) (by have : L * i ≤ L * 64 := Nat.mul_le_mul_left _ hi; omega)
    omega
  have HM : Hid (m < 4294967296 ^ (64 * L + 1)) := Nat.lt_of_lt_of_le hm (Nat.pow_le_pow_right (by omega) (by omega))
  have hki : (k : Int) ≤ 64 := by omega
  have HL : Hid (64 * L + 1 ≤ 1073741824) := by show _ ≤ _; omega
  generalize 64 * L + 1 = B at *
  clear hm hL
  go_enter Try.func19, Try.ntmps19
  go_wp2_with fail
  refine (unhide CS).mono ?_
  rintro e w1 ⟨r0, rfl, n0, b1⟩
  have hv := hv.next b1
  clear CS
  go_wp2
  go_loopw [5, 6] (fun r i wr => ∃ (q : Nat), q ≤ k ∧ i = .int .i64 (q : Int) ∧ IsN wr r (m ^ q) ∧ IsN wr v m ∧ Below w.heap.size w wr)
    (fun _ i _ => k - (intOf i).toNat)
  case atStart => exact ⟨0, Nat.zero_le _, rfl, by rw [Nat.pow_zero]; exact n0, hv, b1⟩
  case round =>
    obtain ⟨q, hq, rfl, hN, hv, hnx⟩ := hrel
    by_cases h1 : q < k
    · go_wp2_with fail
      refine (mul_any _ _ _ _ _ B (unhide HL) (unhide HPW q (by omega)) (unhide HM) hN hv).mono ?_
      rintro e w2 ⟨r2, rfl, n2, b2⟩
      have hb2 := bstep hnx b2
      rw [← Nat.pow_succ] at n2
      go_wp2
      exact ⟨⟨q + 1, by omega, by go_num, n2, hv.next b2, hb2⟩, by simp [intOf]; omega⟩
    · obtain rfl : q = k := by omega
      go_wp2
      go_ret
      exact ⟨_, rfl, hN, hnx⟩

theorem wpow_mul (m L i : Nat) (hm : m < 18446744073709551616 ^ L) (hi : i ≤ 64) : m ^ i < 18446744073709551616 ^ (64 * L + 1) := by
  have h1 : m ^ i ≤ (18446744073709551616 ^ L) ^ i := Nat.pow_le_pow_left (by omega) i
  rw [← Nat.pow_mul] at h1
  have h2 : 18446744073709551616 ^ (L * i) < 18446744073709551616 ^ (64 * L + 1) := Nat.pow_lt_pow_right (by omega) (by have : L * i ≤ L * 64 := Nat.mul_le_mul_left _ hi; omega)
  omega

set_option maxRecDepth 100000 in
set_option maxHeartbeats 3200000 in
theorem schoolPower_any {w : World} {ge g : Nat} {s : Int} (E : Eng w ge g s) (v : Value) (m la k : Nat) (z : Int) (hk : (k : Int) = min (max z 0) 64) (hv : InG g w v m la) (ha : la ≤ 8192) (hs0 : 0 ≤ s) (hs : s ≤ 1099511627776) :
    Calls Try.prog 20 #[.pointer (some ⟨ge, 0, none⟩), v, .int .i64 z] w fun e w' => ∃ r s', e = .returned r ∧ NewW w.heap.size w' r (m ^ k) ∧ Eng w' ge g s' ∧ w.grownBy w' (some g) := by
  have hm : m < 18446744073709551616 ^ la := by
    obtain ⟨ga, b, o, cap, xs, _, hl, _, hd, hw, _⟩ := hv
    rw [← hw, ← hl]; exact wval_lt_pow hd
  have HPW : Hid (∀ i, i ≤ 64 → m ^ i < 18446744073709551616 ^ (64 * la + 1)) := fun i hi => wpow_mul m la i hm hi
  have hgl := E.met.lt
  clear hm
  have CO := hide (one_w w 1 (by omega))
  go_enter Try.func20, Try.ntmps20
  go_wp2_with fail
  refine (unhide CO).mono ?_
  rintro e w1 ⟨r0, rfl, n0, b1⟩
  have hv := hv.next b1
  have E1 := E.next b1
  clear CO
  go_wp2
  rw [← hk]
  have hk64 : k ≤ 64 := by omega
  clear hk
  have hki : (k : Int) ≤ 64 := by omega
  have G1 : w.grownBy w1 (some g) := grown_below (grown_refl w (some g)) b1
  go_loopw [7, 12] (fun r i wr => ∃ (q : Nat) (s' : Int), q ≤ k ∧ i = .int .i64 (q : Int) ∧ NewW w.heap.size wr r (m ^ q) ∧ InG g wr v m la ∧ Eng wr ge g s' ∧ 0 ≤ s' ∧ s' ≤ s + (q : Int) * 8589934592 ∧ w.grownBy wr (some g))
    (fun _ i _ => k - (intOf i).toNat)
  case atStart => exact ⟨0, s, Nat.zero_le _, rfl, by rw [Nat.pow_zero]; exact n0, hv, E1, hs0, by omega, G1⟩
  case round =>
    obtain ⟨q, s', hq, rfl, hN, hv, E2, h0, hs2, G2⟩ := hrel
    by_cases h1 : q < k
    · obtain ⟨lr, hlr, ir⟩ := hN.toG hgl (unhide HPW q (by omega))
      have hspend : lr * la ≤ 524289 * 8192 := Nat.mul_le_mul (by omega) ha
      have CM := hide (schoolMul_any E2 _ _ _ _ lr la ir hv (by omega) (by omega) h0 (by omega))
      rw [← Nat.pow_succ] at CM
      have hs3 : s' + ((lr * la : Nat) : Int) ≤ s + ((q + 1 : Nat) : Int) * 8589934592 := by omega
      have h03 : 0 ≤ s' + ((lr * la : Nat) : Int) := by omega
      generalize s' + ((lr * la : Nat) : Int) = s3 at *
      have hsz := G2.size
      clear hN ir hspend hs2 hs E E1 n0
      go_wp2_with fail
      refine (unhide CM).mono ?_
      rintro e w2 ⟨r2, rfl, n2, E3, G3⟩
      go_wp2
      exact ⟨⟨q + 1, s3, by omega, by go_num, n2.mono hsz, hv.but G3, E3, h03, hs3, grown_trans G2 G3⟩, by simp [intOf]; omega⟩
    · obtain rfl : q = k := by omega
      go_wp2
      go_ret
      exact ⟨_, s', rfl, hN, E2, G2⟩

end Go.Proofs.Ytdocljbmmaoenaa
