/- squares of school. -/
import Derived.Test.YtdocljbmmaoenaaSCross
namespace Go.Proofs.Ytdocljbmmaoenaa
open Go.RowKit

set_option maxRecDepth 100000 in
set_option maxHeartbeats 3200000 in
theorem squares_any (w : World) (ga : Option Addr) (b o cap n : Nat) (xs : List Nat) (hl : xs.length = n) (hn : n ≤ 268435456) (hR : Rep w ga b o cap xs) (dx : WDig xs) :
    Calls Try.prog 32 #[.slice ga n cap] w fun e w' => ∃ zs, e = .returned (.slice (some ⟨w.heap.size, 0, none⟩) (2 * n) (2 * n)) ∧ QRow xs zs n n ∧ Blk w' w.heap.size zs ∧ Below w.heap.size w w' := by
  have hst := hide (q_start xs n)
  have hk0 := hide (blk_noughts w (2 * n))
  obtain ⟨N, hN⟩ : ∃ N, N = 2 * n := ⟨_, rfl⟩
  have hN' : 2 * (n : Int) = (N : Int) := by omega
  rw [← hN] at hst hk0 ⊢
  have hmk := make_nat N N (2 * (n : Int)) hN' rfl (by omega)
  have HB0 := hide ((Below.refl w.heap.size w).alloc (Nat.le_refl _) (.cells (zlist N).toArray 55))
  have hn2 : 2 * n ≤ 536870912 := by omega
  have HN := hide hN
  clear hN hN' hn
  go_enter Try.func32, Try.ntmps32
  go_wp2
  go_loopw [12] (fun i wr => ∃ (k : Nat) (zs : List Nat), k ≤ n ∧ i = .int .i64 (k : Int) ∧ Blk wr w.heap.size zs ∧ Hid (QRow xs zs n k) ∧ Below w.heap.size w wr)
    (fun i _ => n - (intOf i).toNat)
  case atStart => exact ⟨0, _, Nat.zero_le _, rfl, unhide hk0, hst, unhide HB0⟩
  case round =>
    obtain ⟨k, z0, hk, rfl, hBlk, hAt, hnx⟩ := hrel
    have hzl : z0.length = 2 * n := hAt.out.1
    by_cases h1 : k < n
    · obtain rfl := hR.head (by omega)
      obtain ⟨y, hy⟩ : ∃ y : Nat, y = xs.getD k 0 := ⟨_, rfl⟩
      have hy64 : y < 18446744073709551616 := by rw [hy]; exact dx k
      have hRw := hR.next hnx
      have cy : wr.cell? ⟨b, o + k, none⟩ = some (.int .u64 (y : Int)) := by rw [hy]; exact hRw.cell k (by omega)
      obtain ⟨p0, hp0⟩ : ∃ p0, p0 = 2 * k := ⟨_, rfl⟩
      obtain ⟨p, hp⟩ : ∃ p, p = 2 * k + 1 := ⟨_, rfl⟩
      have e1 : 2 * (k : Int) = (p0 : Int) := by omega
      have e2 : (p0 : Int) + 1 = (p : Int) := by omega
      have hw0 : IntKind.i64.wrap (p0 : Int) = (p0 : Int) := by rw [IntKind.wrap_i64]; omega
      have hw1 : IntKind.i64.wrap (p : Int) = (p : Int) := by rw [IntKind.wrap_i64]; omega
      have i1 : 0 ≤ (p : Int) ∧ (p : Int) < (N : Int) := by have := unhide HN; omega
      have i2 : 0 ≤ (p0 : Int) ∧ (p0 : Int) < (N : Int) := by have := unhide HN; omega
      have i3 : p < N := by omega
      have i4 : p0 < N := by omega
      have i5 : ¬ p = p0 := by omega
      have hzN : z0.length = N := by rw [hzl]; exact (unhide HN).symm
      have c1 := hBlk.cell p (by omega)
      have c0 := hBlk.cell p0 (by omega)
      have f1 := hBlk.frozen p
      have f0 := hBlk.frozen p0
      obtain ⟨hi, hh⟩ : ∃ hi, hi = y * y / 18446744073709551616 := ⟨_, rfl⟩
      obtain ⟨lo, hlo⟩ : ∃ lo, lo = y * y % 18446744073709551616 := ⟨_, rfl⟩
      have CM := hide (fun w => word_mul y y w hy64 hy64)
      rw [← hh, ← hlo] at CM
      have hp2 : 18446744073709551616 * hi + lo = y * y := by rw [hh, hlo]; exact Nat.div_add_mod _ _
      have hlo64 : lo < 18446744073709551616 := by rw [hlo]; exact Nat.mod_lt _ (by omega)
      have hhi64 : hi < 18446744073709551616 := by rw [hh]; exact Nat.div_lt_of_lt_mul (Nat.mul_lt_mul'' hy64 hy64)
      have HC : Hid (QRow xs ((z0.set p hi).set p0 lo) n (k + 1)) := by
        subst hp hp0
        exact q_step hAt.out hy h1 hhi64 hlo64 hp2
      clear hy hp0 hp hzN hzl hmk hk0 hst HB0 hRw hh hlo hp2
      go_wp2_with fail
      refine (unhide CM _).mono ?_
      rintro e w1 ⟨rfl, rfl⟩
      go_wp2
      exact ⟨⟨k + 1, (z0.set p hi).set p0 lo, by omega, by go_num, (hBlk.set p hi).set p0 lo, HC, (hnx.setCell (Nat.le_refl _) _).setCell (Nat.le_refl _) _⟩, by simp [intOf]; omega⟩
    · obtain rfl : k = n := by omega
      go_wp2
      go_ret
      exact ⟨z0, rfl, hAt.out, hBlk, hnx⟩

end Go.Proofs.Ytdocljbmmaoenaa
