/- NttBack: what the law's walk comes to. -/
import Derived.Test.YtmkcklgmdkkmdaaDoorM14
import Derived.Test.YtmkcklgmdkkmdaaDoorM6
namespace Go.Proofs.YtmkcklgmdkkmdaaDoor
open Go.RowKit

set_option maxRecDepth 100000 in
set_option maxHeartbeats 6400000 in
theorem nttBack_any (k log : Int) (ga : Option Addr) (ba oa ca la : Nat) (xs : List Nat) (w : World) (h1 : -9223372036854775808 ≤ k) (h2 : k ≤ 9223372036854775807) (h3 : -9223372036854775808 ≤ log) (h4 : log ≤ 9223372036854775807) (hx : xs.length = la) (hA : Rep w ga ba oa ca xs) (hT : TB w) :
    Calls Tryd.prog 5 #[.int .i64 k, .int .i64 log, .slice ga la ca] w fun e w' => e = .returned (.bool true) ∧ Below w.heap.size w w' := by
  have CP := hide (lawPlan_any k log w h1 h2 h3 h4 hT)
  have CW := hide (fun w' (b : Below w.heap.size w w') => nttWakes_any w' (hT.next b))
  clear h1 h2 h3 h4 hT
  go_enter Tryd.func5, Tryd.ntmps5
  go_wp2_with fail
  refine (unhide CP).mono ?_
  rintro e w1 ⟨gt, gm, go, gp, p, r, L, H, rfl, PA⟩
  have N1 := PA.live
  have hL := PA.low
  have hp1 := PA.lo
  have hp2 := PA.hi
  have hA1 := hA.next PA.old
  obtain ⟨N, hN⟩ : ∃ N, N = 2 ^ L := ⟨_, rfl⟩
  have hNb : N ≤ 32 := by rw [hN]; exact Nat.pow_le_pow_right (by decide) hL
  have hN0 : 1 ≤ N := by rw [hN]; exact one_le_two_pow L
  have e1 := shl_i hN
  have wN : IntKind.i64.wrap (N : Int) = (N : Int) := by rw [IntKind.wrap_i64]; omega
  have wL : IntKind.u64.wrap (L : Int) = (L : Int) := by rw [IntKind.wrap_u64]; omega
  have hH := N1.ps.half
  rw [← hN] at hH
  obtain ⟨K, hK⟩ : ∃ K, K = H * L := ⟨_, rfl⟩
  have hKb : K ≤ 160 := by rw [hK]; exact Nat.mul_le_mul (show H ≤ 32 by omega) hL
  have hrl := rowTo_length N xs
  have CA := hide (lawRow_any w1 ga ba oa ca la N xs hx (by omega) hA1)
  generalize rowTo N xs = ys at *
  have HIF : Hid (ivs p r L (fwd p r ys) = reds p ys) := ivs_fwd (by omega) N1.ps.rt PA.two (by rw [hrl, hN])
  have HFI : Hid (fwd p r (ivs p r L ys) = reds p ys) := fwd_ivs (by omega) N1.ps.rt PA.two (by rw [hrl, hN])
  have hrd : (reds p ys).length = N := by rw [reds_length, hrl]
  have hfl : (fwd p r ys).length = N := by rw [fwd_length, hrl]
  have hil : (ivs p r L ys).length = N := by rw [ivs_length, hN]
  -- the spent: N L + N in all
  obtain ⟨S1, hS1⟩ : ∃ S1, S1 = N * L := ⟨_, rfl⟩
  have hS1b : S1 ≤ 160 := by rw [hS1]; exact Nat.mul_le_mul hNb hL
  have eS1 : (N : Int) * (L : Int) = (S1 : Int) := by rw [hS1]; exact (Int.natCast_mul N L).symm
  have wS1 : IntKind.i64.wrap (S1 : Int) = (S1 : Int) := by rw [IntKind.wrap_i64]; omega
  obtain ⟨S2, hS2⟩ : ∃ S2, S2 = S1 + N := ⟨_, rfl⟩
  have eS2 : (S1 : Int) + (N : Int) = (S2 : Int) := by omega
  have wS2 : IntKind.i64.wrap (S2 : Int) = (S2 : Int) := by rw [IntKind.wrap_i64]; omega
  have hKS : 2 * K = S1 := by
    rw [hK, hS1]
    by_cases h0 : L = 0
    · rw [h0]; omega
    · have : 2 * H = N := by
        obtain ⟨m, hm⟩ : ∃ m, L = m + 1 := ⟨L - 1, by omega⟩
        rw [hm, Nat.pow_succ] at hN
        omega
      rw [← this, Nat.mul_assoc]
  have HN := hide hN
  have HK := hide hK
  have HS : Hid ((K : Int) + ((K + N : Nat) : Int) = (S2 : Int)) := by show _ = _; omega
  have wB := N1.own.old.size
  have lts := N1.lt
  have hs2b : S2 ≤ 200 := by omega
  clear PA hA hA1 CP hN hK hH hS1 hS2 hKS
  go_wp2_with fail
  refine (unhide CA).mono ?_
  rintro e w2 ⟨rfl, hB2, b2⟩
  have N2 := N1.next b2
  have s2 := hB2.lt
  have CF := hide (forward_any N2.ps N2.own.met N (unhide HN) _ w1.heap.size 0 N ys hrl (hB2.whole hrl) (by omega) (by omega))
  rw [← unhide HK, Int.zero_add] at CF
  have HREF := hide (fun w' (h : Rep w' (some ⟨w1.heap.size, 0, none⟩) w1.heap.size 0 N ys) => rReds_any p w' _ w1.heap.size 0 N N ys hrl (by omega) h (by omega))
  generalize reds p ys = Z at *
  clear CA N1 b2
  go_wp2_with fail
  refine (unhide CF).mono ?_
  rintro e w3 ⟨rfl, hF3, M3, T3⟩
  have N3 := N2.step M3 T3
  have hB3 := hB2.but T3.grown (by omega)
  have s3 := hF3.lt
  have CI := hide (inverse_any N3.ps N3.own.met N (unhide HN) _ w2.heap.size 0 N _ hfl (hF3.whole hfl) (by omega) (by omega))
  rw [unhide HIF, ← unhide HK, unhide HS] at CI
  clear CF N2 M3 T3 hB2 hF3
  go_wp2_with fail
  refine (unhide CI).mono ?_
  rintro e w4 ⟨rfl, hZ4, M4, T4⟩
  have N4 := N3.step M4 T4
  have hB4 := hB3.but T4.grown (by omega)
  have s4 := hZ4.lt
  have CR := hide (unhide HREF w4 (hB4.whole hrl))
  clear CI N3 M4 T4 hB3
  go_wp2_with fail
  refine (unhide CR).mono ?_
  rintro e w5 ⟨rfl, hR5, b5⟩
  have N5 := N4.next b5
  have hB5 := hB4.next b5
  have hZ5 := hZ4.next b5
  have CS := hide (keepSame_any w5 _ _ w3.heap.size 0 N w4.heap.size 0 N N Z hrd (by omega) (hZ5.whole hrd) (hR5.whole hrd))
  clear N4 hB4 hZ4 b5 CR hR5
  go_wp2_with fail
  refine (unhide CS).mono ?_
  rintro e w6 ⟨rfl, b6⟩
  have N6 := N5.next b6
  have hB6 := hB5.next b6
  have CM := hide (muls_any N6.own.met)
  clear N5 hB5 hZ5 b6 CS
  have q1 : ((S2 : Int) != (S2 : Int)) = false := by simp
  go_wp2_with fail
  refine (unhide CM).mono ?_
  rintro e w7 ⟨rfl, hw7⟩
  obtain rfl := hw7.symm
  clear hw7 CM
  have CI := hide (inverse_any N6.ps N6.own.met N (unhide HN) _ w1.heap.size 0 N ys hrl (hB6.whole hrl) (by omega) (by omega))
  rw [← unhide HK] at CI
  go_wp2_with fail
  refine (unhide CI).mono ?_
  rintro e w7 ⟨rfl, hI7, M7, T7⟩
  have N7 := N6.step M7 T7
  have hB7 := hB6.but T7.grown (by omega)
  have CF := hide (forward_any N7.ps N7.own.met N (unhide HN) _ w6.heap.size 0 N _ hil (hI7.whole hil) (by omega) (by omega))
  rw [unhide HFI] at CF
  have s7 := hI7.lt
  clear CI N6 M7 T7 hB6 hI7
  go_wp2_with fail
  refine (unhide CF).mono ?_
  rintro e w8 ⟨rfl, hZ8, M8, T8⟩
  have N8 := N7.step M8 T8
  have hB8 := hB7.but T8.grown (by omega)
  have CR := hide (unhide HREF w8 (hB8.whole hrl))
  clear CF N7 M8 T8 hB7
  go_wp2_with fail
  refine (unhide CR).mono ?_
  rintro e w9 ⟨rfl, hR9, b9⟩
  have N9 := N8.next b9
  have hZ9 := hZ8.next b9
  have CS := hide (keepSame_any w9 _ _ w7.heap.size 0 N w8.heap.size 0 N N Z hrd (by omega) (hZ9.whole hrd) (hR9.whole hrd))
  clear N8 hB8 hZ8 b9 CR hR9
  go_wp2_with fail
  refine (unhide CS).mono ?_
  rintro e w10 ⟨rfl, b10⟩
  have N10 := N9.next b10
  clear N9 hZ9 b10 CS
  go_wp2_with fail
  refine (unhide CW _ N10.own.old).mono ?_
  rintro e w11 ⟨rfl, b11⟩
  have b := bstep N10.own.old b11
  go_wp2
  go_ret
  exact ⟨rfl, b⟩

end Go.Proofs.YtmkcklgmdkkmdaaDoor
