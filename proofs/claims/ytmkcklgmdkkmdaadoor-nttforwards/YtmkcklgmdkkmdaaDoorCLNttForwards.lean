/- NttForwards: what the law's walk comes to. -/
import Derived.Test.YtmkcklgmdkkmdaaDoorM14
import Derived.Test.YtmkcklgmdkkmdaaDoorM6
namespace Go.Proofs.YtmkcklgmdkkmdaaDoor
open Go.RowKit

set_option maxRecDepth 100000 in
set_option maxHeartbeats 6400000 in
theorem nttForwards_any (k log : Int) (ga : Option Addr) (ba oa ca la : Nat) (xs : List Nat) (more : Int) (w : World) (h1 : -9223372036854775808 ≤ k) (h2 : k ≤ 9223372036854775807) (h3 : -9223372036854775808 ≤ log) (h4 : log ≤ 9223372036854775807) (h5 : -9223372036854775808 ≤ more) (h6 : more ≤ 9223372036854775807) (hx : xs.length = la) (hA : Rep w ga ba oa ca xs) (hT : TB w) :
    Calls Tryd.prog 4 #[.int .i64 k, .int .i64 log, .slice ga la ca, .int .i64 more] w fun e w' => e = .returned (.bool true) ∧ Below w.heap.size w w' := by
  have CP := hide (lawPlan_any k log w h1 h2 h3 h4 hT)
  have CK := hide (fun w => within_any more 40 w h5 h6 (by decide) (by decide))
  obtain ⟨c0, hc0⟩ : ∃ c0 : Nat, more % 40 = (c0 : Int) := ⟨(more % 40).toNat, by omega⟩
  have hc1 : c0 < 40 := by omega
  rw [hc0] at CK
  have CW := hide (fun w' (b : Below w.heap.size w w') => nttWakes_any w' (hT.next b))
  clear h1 h2 h3 h4 h5 h6 hT hc0
  go_enter Tryd.func4, Tryd.ntmps4
  go_wp2_with fail
  refine (unhide CP).mono ?_
  rintro e w1 ⟨gt, gm, go, gp, p, r, L, H, rfl, PA⟩
  have N1 := PA.live
  have hL := PA.low
  have hp1 := PA.lo
  have hp2 := PA.hi
  have CR := hide PA.ref
  have hA1 := hA.next PA.old
  obtain ⟨N, hN⟩ : ∃ N, N = 2 ^ L := ⟨_, rfl⟩
  have hNb : N ≤ 32 := by rw [hN]; exact Nat.pow_le_pow_right (by decide) hL
  have hN0 : 1 ≤ N := by rw [hN]; exact one_le_two_pow L
  have e1 := shl_i hN
  have wN : IntKind.i64.wrap (N : Int) = (N : Int) := by rw [IntKind.wrap_i64]; omega
  have wL : IntKind.u64.wrap (L : Int) = (L : Int) := by rw [IntKind.wrap_u64]; omega
  have hH := N1.ps.half
  rw [← hN] at hH
  have eH : (N : Int).tdiv 2 = (H : Int) := by rw [hH]; rfl
  have eH2 : (N : Int) / 2 = (H : Int) := by rw [hH]; rfl
  have wH : IntKind.i64.wrap (H : Int) = (H : Int) := by rw [IntKind.wrap_i64]; omega
  obtain ⟨K, hK⟩ : ∃ K, K = H * L := ⟨_, rfl⟩
  have hKb : K ≤ 160 := by rw [hK]; exact Nat.mul_le_mul (show H ≤ 32 by omega) hL
  have eK : (H : Int) * (L : Int) = (K : Int) := by rw [hK]; exact (Int.natCast_mul H L).symm
  have wK : IntKind.i64.wrap (K : Int) = (K : Int) := by rw [IntKind.wrap_i64]; omega
  have hll := lawRow_any w1 ga ba oa ca la N xs hx (by omega) hA1
  have hrl := rowTo_length N xs
  have CA := hide hll
  clear hll PA hA hA1 CP
  generalize rowTo N xs = ys at *
  have HN := hide hN
  have HK := hide hK
  have wB := N1.own.old.size
  have lts := N1.lt
  clear hN hK hH
  go_wp2_with fail
  refine (unhide CA).mono ?_
  rintro e w2 ⟨rfl, hB2, b2⟩
  have N2 := N1.next b2
  have s2 := hB2.lt
  obtain ⟨F, hF⟩ : ∃ F, F = 6148914691236517205 := ⟨_, rfl⟩
  have HF := hide hF
  have CL := hide (lend_any w2 _ w1.heap.size 0 N N ys hrl (by omega) (hB2.whole hrl) F hF)
  clear CA N1 b2 hF
  go_wp2_with fail
  refine (unhide CL).mono ?_
  rintro e w3 ⟨rfl, hO3, b3⟩
  have rX := (rep_of_owns hO3).2
  have hB3 := hB2.next b3
  have N3 := N2.next b3
  have s3 := rX.lt (by simp)
  have rX0 := rX.take N (by simp; omega)
  rw [List.take_left' hrl] at rX0
  have CF := hide (forward_any N3.ps N3.own.met N (unhide HN) _ w2.heap.size 0 (N + 4) ys hrl rX0 (by omega) (by omega))
  rw [← unhide HK, Int.zero_add] at CF
  have hfl : (fwd p r ys).length = N := by rw [fwd_length, hrl]
  have HREF := hide (fun w' (h : Rep w' (some ⟨w1.heap.size, 0, none⟩) w1.heap.size 0 N ys) => rForward_any p r w' _ w1.heap.size 0 N N ys hrl (by omega) h (by omega) (by omega))
  generalize fwd p r ys = Z at *
  clear CL hO3 hB2 N2 b3 rX0
  go_wp2_with fail
  refine (unhide CF).mono ?_
  rintro e w4 ⟨rfl, hZ4, M4, T4⟩
  have N4 := N3.step M4 T4
  have hB4 := hB3.but T4.grown (by omega)
  have rX4 := rX.but T4.grown (fun _ => by omega)
  have s4 := hZ4.lt
  clear CF N3 M4 T4 hB3 rX
  go_wp2_with fail
  refine (unhide CR _).mono ?_
  rintro e w5 ⟨rfl, b5⟩
  have N5 := N4.next b5
  have hB5 := hB4.next b5
  have rX5 := rX4.next b5
  have hZ5 := hZ4.next b5
  have CF := hide (unhide HREF w5 (hB5.whole hrl))
  clear N4 hB4 rX4 hZ4 b5 HREF CR
  go_wp2_with fail
  refine (unhide CF).mono ?_
  rintro e w6 ⟨rfl, hR6, b6⟩
  have N6 := N5.next b6
  have hB6 := hB5.next b6
  have rX6 := rX5.next b6
  have hZ6 := hZ5.next b6
  have CS := hide (keepSame_any w6 _ _ w3.heap.size 0 N w5.heap.size 0 N N Z hfl (by omega) (hZ6.whole hfl) (hR6.whole hfl))
  clear N5 hB5 rX5 hZ5 b6 CF hR6
  go_wp2_with fail
  refine (unhide CS).mono ?_
  rintro e w7 ⟨rfl, b7⟩
  have N7 := N6.next b7
  have hB7 := hB6.next b7
  have rX7 := rX6.next b7
  have hZ7 := hZ6.next b7
  have CM := hide (muls_any N7.own.met)
  clear N6 hB6 rX6 hZ6 b7 CS
  have q1 : ((K : Int) != (K : Int)) = false := by simp
  go_wp2_with fail
  refine (unhide CM).mono ?_
  rintro e w8 ⟨rfl, hw8⟩
  obtain rfl := hw8.symm
  clear hw8 CM
  have CI := hide (intact_any w7 _ w2.heap.size w1.heap.size 0 N N ys hrl (by omega) (hB7.whole hrl) F (unhide HF) rX7)
  go_wp2_with fail
  refine (unhide CI).mono ?_
  rintro e w8 ⟨rfl, b8⟩
  have N8 := N7.next b8
  have hB8 := hB7.next b8
  have rX8 := rX7.next b8
  have hZ8 := hZ7.next b8
  have CSp := hide (spoil_blk w8 w3.heap.size N N Z hfl (Nat.le_refl _) (by omega) hZ8)
  clear N7 hB7 rX7 hZ7 b8 CI
  go_wp2_with fail
  refine (unhide CSp).mono ?_
  rintro e w9 ⟨rfl, g9⟩
  have N9 := N8.other g9 (by omega) (by omega)
  have hB9 := hB8.but g9 (by omega)
  have rX9 := rX8.but g9 (fun _ => by omega)
  clear N8 hB8 rX8 hZ8 g9 CSp
  go_wp2_with fail
  refine (unhide CK _).mono ?_
  rintro e w10 ⟨rfl, hw10⟩
  obtain rfl := hw10.symm
  clear hw10 CK
  have CA := hide (lawRow_any w9 _ w1.heap.size 0 N N c0 ys hrl (by omega) (hB9.whole hrl))
  have hcl := rowTo_length c0 ys
  generalize rowTo c0 ys = cs at *
  go_wp2_with fail
  refine (unhide CA).mono ?_
  rintro e w10 ⟨rfl, hC, b10⟩
  have N10 := N9.next b10
  have hB10 := hB9.next b10
  have rX10 := rX9.next b10
  clear N9 hB9 rX9 b10 CA
  by_cases hc : c0 = N
  · subst hc
    have CF := hide (forward_any N10.ps N10.own.met c0 (unhide HN) _ w9.heap.size 0 c0 cs hcl (hC.whole hcl) (by omega) (by omega))
    generalize fwd p r cs = Z2 at *
    have q2 : ((c0 : Int) == (c0 : Int)) = true := by simp
    go_wp2_with fail
    refine (unhide CF).mono ?_
    rintro e w11 ⟨rfl, hZ11, M11, T11⟩
    have N11 := N10.step M11 T11
    have hB11 := hB10.but T11.grown (by omega)
    have rX11 := rX10.but T11.grown (fun _ => by omega)
    clear N10 hB10 rX10 M11 T11 hC CF hZ11
    have CI := hide (intact_any w11 _ w2.heap.size w1.heap.size 0 c0 c0 ys hrl (by omega) (hB11.whole hrl) F (unhide HF) rX11)
    go_wp2_with fail
    refine (unhide CI).mono ?_
    rintro e w12 ⟨rfl, b12⟩
    have N12 := N11.next b12
    clear N11 hB11 rX11 b12 CI
    go_wp2_with fail
    refine (unhide CW _ N12.own.old).mono ?_
    rintro e w13 ⟨rfl, b13⟩
    have b := bstep N12.own.old b13
    go_wp2
    go_ret
    exact ⟨rfl, b⟩
  · have CF := hide (forward_no N10.ps c0 (some ⟨w9.heap.size, 0, none⟩) c0 (by rw [← unhide HN]; exact hc))
    have q2 : ((c0 : Int) == (N : Int)) = false := by rw [beq_eq_false_iff_ne]; omega
    go_wp2_with fail
    refine (unhide CF).mono ?_
    rintro e w11 ⟨rfl, hw11⟩
    obtain rfl := hw11.symm
    clear hw11 CF hC
    have CI := hide (intact_any w10 _ w2.heap.size w1.heap.size 0 N N ys hrl (by omega) (hB10.whole hrl) F (unhide HF) rX10)
    go_wp2_with fail
    refine (unhide CI).mono ?_
    rintro e w12 ⟨rfl, b12⟩
    have N12 := N10.next b12
    clear N10 hB10 rX10 b12 CI
    go_wp2_with fail
    refine (unhide CW _ N12.own.old).mono ?_
    rintro e w13 ⟨rfl, b13⟩
    have b := bstep N12.own.old b13
    go_wp2
    go_ret
    exact ⟨rfl, b⟩

end Go.Proofs.YtmkcklgmdkkmdaaDoor
