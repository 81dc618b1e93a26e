/- NttConvs: what the law's walk comes to. -/
import Derived.Test.YtmkcklgmdkkmdaaDoorM14
import Derived.Test.YtmkcklgmdkkmdaaDoorM6
namespace Go.Proofs.YtmkcklgmdkkmdaaDoor
open Go.RowKit

set_option maxRecDepth 100000 in
set_option maxHeartbeats 6400000 in
theorem nttConvs_any (k log : Int) (ga : Option Addr) (ba oa ca la : Nat) (xs : List Nat) (gb : Option Addr) (bb ob cb lb : Nat) (us : List Nat) (w : World) (h1 : -9223372036854775808 ≤ k) (h2 : k ≤ 9223372036854775807) (h3 : -9223372036854775808 ≤ log) (h4 : log ≤ 9223372036854775807) (hx : xs.length = la) (hA : Rep w ga ba oa ca xs) (hu : us.length = lb) (hB : Rep w gb bb ob cb us) (hT : TB w) :
    Calls Tryd.prog 7 #[.int .i64 k, .int .i64 log, .slice ga la ca, .slice gb lb cb] w fun e w' => e = .returned (.bool true) ∧ Below w.heap.size w w' := by
  have CP := hide (lawPlan_any k log w h1 h2 h3 h4 hT)
  have CW := hide (fun w' (b : Below w.heap.size w w') => nttWakes_any w' (hT.next b))
  obtain ⟨m, hm⟩ : ∃ m, m = min la 40 := ⟨_, rfl⟩
  obtain ⟨n, hn⟩ : ∃ n, n = min lb 40 := ⟨_, rfl⟩
  have CCA := hide (fun w => cut_any w ga la ca 40 m (by have := hA.room; omega) (by decide) hm)
  have CCB := hide (fun w => cut_any w gb lb cb 40 n (by have := hB.room; omega) (by decide) hn)
  have hA := hA.take m (by omega)
  have hB := hB.take n (by omega)
  have hx : (xs.take m).length = m := by simp; omega
  have hu : (us.take n).length = n := by simp; omega
  have hm40 : m ≤ 40 := by omega
  have hn40 : n ≤ 40 := by omega
  generalize xs.take m = ys at *
  generalize us.take n = vs at *
  have hbA : Hid (0 < ys.length → ba < w.heap.size) := fun h => hA.lt h
  have hbB : Hid (0 < vs.length → bb < w.heap.size) := fun h => hB.lt h
  clear h1 h2 h3 h4 hT hm hn
  go_enter Tryd.func7, Tryd.ntmps7
  go_wp2_with fail
  refine (unhide CP).mono ?_
  rintro e w1 ⟨gt, gm, go, gp, p, r, L, H, rfl, PA⟩
  have N1 := PA.live
  have hL := PA.low
  have hp1 := PA.lo
  have hp2 := PA.hi
  have hA1 := hA.next PA.old
  have hB1 := hB.next PA.old
  obtain ⟨N, hN⟩ : ∃ N, N = 2 ^ L := ⟨_, rfl⟩
  have hNb : N ≤ 32 := by rw [hN]; exact Nat.pow_le_pow_right (by decide) hL
  have hN0 : 1 ≤ N := by rw [hN]; exact one_le_two_pow L
  have e1 := shl_i hN
  have wN : IntKind.i64.wrap (N : Int) = (N : Int) := by rw [IntKind.wrap_i64]; omega
  have wL : IntKind.u64.wrap (L : Int) = (L : Int) := by rw [IntKind.wrap_u64]; omega
  have hH := N1.ps.half
  rw [← hN] at hH
  have eH : (N : Int).tdiv 2 = (H : Int) := by rw [hH]; rfl
  have eH2 : (N : Int) / 2 = (H : Int) := by rw [hH]; rfl
  have wH : IntKind.i64.wrap (H : Int) = (H : Int) := by rw [IntKind.wrap_i64]; omega
  obtain ⟨H3, hH3⟩ : ∃ H3, H3 = 3 * H := ⟨_, rfl⟩
  have eH3 : 3 * (H : Int) = (H3 : Int) := by omega
  have wH3 : IntKind.i64.wrap (H3 : Int) = (H3 : Int) := by rw [IntKind.wrap_i64]; omega
  obtain ⟨K, hK⟩ : ∃ K, K = H3 * L := ⟨_, rfl⟩
  have hKb : K ≤ 480 := by rw [hK]; exact Nat.mul_le_mul (show H3 ≤ 96 by omega) hL
  have eK : (H3 : Int) * (L : Int) = (K : Int) := by rw [hK]; exact (Int.natCast_mul H3 L).symm
  have wK : IntKind.i64.wrap (K : Int) = (K : Int) := by rw [IntKind.wrap_i64]; omega
  obtain ⟨N2, hN2⟩ : ∃ N2, N2 = 2 * N := ⟨_, rfl⟩
  have eN2 : 2 * (N : Int) = (N2 : Int) := by omega
  have wN2 : IntKind.i64.wrap (N2 : Int) = (N2 : Int) := by rw [IntKind.wrap_i64]; omega
  obtain ⟨S, hS⟩ : ∃ S, S = K + N2 := ⟨_, rfl⟩
  have eS : (K : Int) + (N2 : Int) = (S : Int) := by omega
  have wS : IntKind.i64.wrap (S : Int) = (S : Int) := by rw [IntKind.wrap_i64]; omega
  have HS : Hid (((3 * (H * L) + 2 * N : Nat) : Int) = (S : Int)) := by
    show _ = _
    rw [hS, hK, hN2, hH3, Nat.mul_assoc]
  obtain ⟨t, ht⟩ : ∃ t, t = m + n := ⟨_, rfl⟩
  have et : (m : Int) + (n : Int) = (t : Int) := by omega
  have wt : IntKind.i64.wrap (t : Int) = (t : Int) := by rw [IntKind.wrap_i64]; omega
  obtain ⟨N9, hN9⟩ : ∃ N9, N9 = N + 1 := ⟨_, rfl⟩
  have eN9 : (N : Int) + 1 = (N9 : Int) := by omega
  have wN9 : IntKind.i64.wrap (N9 : Int) = (N9 : Int) := by rw [IntKind.wrap_i64]; omega
  have HCV : Hid (∀ q, q + 1 = m + n → 1 ≤ m → 1 ≤ n → q ≤ N → (cyv p r L (rowTo N ys) (rowTo N vs)).take q = convR p q ys vs) := fun q h h1 h2 h3 => by
    rw [hN] at h3 ⊢
    exact cyv_take (by omega) N1.ps.rt PA.two (by omega) (by omega) (by omega) h3
  have hcl : (cyv p r L (rowTo N ys) (rowTo N vs)).length = N := by rw [cyv_length, hN]
  have HN := hide hN
  have HT := hide ht
  have HN9 := hide hN9
  have wB := N1.own.old.size
  have lts := N1.lt
  have wgo := N1.own.out
  clear PA hA hB CP hN hK hH hS hN2 hH3 ht hN9
  obtain ⟨F, hF⟩ : ∃ F, F = 6148914691236517205 := ⟨_, rfl⟩
  have HF := hide hF
  clear hF
  go_wp2_with fail
  refine (unhide CCA _).mono ?_
  rintro e w0 ⟨rfl, hw0⟩
  obtain rfl := hw0.symm
  clear hw0 CCA
  go_wp2_with fail
  refine (unhide CCB _).mono ?_
  rintro e w0 ⟨rfl, hw0⟩
  obtain rfl := hw0.symm
  clear hw0 CCB
  have CL := hide (lend_any w1 ga ba oa ca m ys hx (by omega) hA1 F (unhide HF))
  go_wp2_with fail
  refine (unhide CL).mono ?_
  rintro e w2 ⟨rfl, hO2, b2⟩
  have rX2 := (rep_of_owns hO2).2
  have hA2 := hA1.next b2
  have hB2 := hB1.next b2
  have N2' := N1.next b2
  have s2 := rX2.lt (by simp)
  clear CL hO2 hA1 hB1 N1 b2
  have CL := hide (lend_any w2 gb bb ob cb n vs hu (by omega) hB2 F (unhide HF))
  go_wp2_with fail
  refine (unhide CL).mono ?_
  rintro e w3 ⟨rfl, hO3, b3⟩
  have rY3 := (rep_of_owns hO3).2
  have hA3 := hA2.next b3
  have hB3 := hB2.next b3
  have rX3 := rX2.next b3
  have N3 := N2'.next b3
  have s3 := rY3.lt (by simp)
  clear CL hO3 hA2 hB2 rX2 N2' b3
  by_cases hno : m = 0 ∨ n = 0 ∨ N + 1 < m + n
  · have CC := hide (conv_no N3.ps N (unhide HN) (some ⟨w1.heap.size, 0, none⟩) (some ⟨w2.heap.size, 0, none⟩) (m + 4) (n + 4) m n (by omega) (by omega) hno)
    have CM := hide (muls_any N3.own.met)
    go_wp2_with fail
    refine (unhide CC).mono ?_
    rintro e w4 ⟨rfl, hw4⟩
    obtain rfl := hw4.symm
    clear hw4 CC
    have end3 : ∀ (q : Prop), q → q := fun _ h => h
    clear end3
    by_cases c1 : m = 0
    · have q1 : ((m : Int) == 0) = true := by rw [beq_iff_eq]; omega
      clear hno c1
      go_wp2_with fail
      refine (unhide CM).mono ?_
      rintro e w4 ⟨rfl, hw4⟩
      obtain rfl := hw4.symm
      go_wp2_with fail
      refine (unhide CW _ N3.own.old).mono ?_
      rintro e w5 ⟨rfl, b5⟩
      have b := bstep N3.own.old b5
      go_wp2
      go_ret
      exact ⟨rfl, b⟩
    have q1 : ((m : Int) == 0) = false := by rw [beq_eq_false_iff_ne]; omega
    by_cases c2 : n = 0
    · have q2 : ((n : Int) == 0) = true := by rw [beq_iff_eq]; omega
      clear hno c1 c2
      go_wp2_with fail
      refine (unhide CM).mono ?_
      rintro e w4 ⟨rfl, hw4⟩
      obtain rfl := hw4.symm
      go_wp2_with fail
      refine (unhide CW _ N3.own.old).mono ?_
      rintro e w5 ⟨rfl, b5⟩
      have b := bstep N3.own.old b5
      go_wp2
      go_ret
      exact ⟨rfl, b⟩
    have q2 : ((n : Int) == 0) = false := by rw [beq_eq_false_iff_ne]; omega
    have q3 : (N9 : Int) < (t : Int) := by have := unhide HT; have := unhide HN9; omega
    clear hno c1 c2
    go_wp2_with fail
    refine (unhide CM).mono ?_
    rintro e w4 ⟨rfl, hw4⟩
    obtain rfl := hw4.symm
    go_wp2_with fail
    refine (unhide CW _ N3.own.old).mono ?_
    rintro e w5 ⟨rfl, b5⟩
    have b := bstep N3.own.old b5
    go_wp2
    go_ret
    exact ⟨rfl, b⟩
  · obtain ⟨q, hq⟩ : ∃ q, q = m + n - 1 := ⟨_, rfl⟩
    have hq1 : q + 1 = m + n := by omega
    have q1 : ((m : Int) == 0) = false := by rw [beq_eq_false_iff_ne]; omega
    have q2 : ((n : Int) == 0) = false := by rw [beq_eq_false_iff_ne]; omega
    have q3 : ¬ (N9 : Int) < (t : Int) := by have := unhide HT; have := unhide HN9; omega
    have q4 : decide ((N9 : Int) < (t : Int)) = false := by simp; omega
    have eq9 : (t : Int) - 1 = (q : Int) := by have := unhide HT; omega
    have wq : IntKind.i64.wrap (q : Int) = (q : Int) := by rw [IntKind.wrap_i64]; omega
    have hqN : q ≤ N := by omega
    have hq0 : 1 ≤ q := by omega
    have rX0 := rX3.take m (by simp; omega)
    have rY0 := rY3.take n (by simp; omega)
    rw [List.take_left' hx] at rX0
    rw [List.take_left' hu] at rY0
    have CC := hide (conv_any N3.ps N3.own.met N q (unhide HN) (some ⟨w1.heap.size, 0, none⟩) (some ⟨w2.heap.size, 0, none⟩) w1.heap.size 0 (m + 4) w2.heap.size 0 (n + 4) m n ys vs hx rX0 hu rY0 (by omega) (by omega) hq1 hqN (by omega) (by omega))
    rw [unhide HS, Int.zero_add] at CC
    have HE := hide (unhide HCV q hq1 (by omega) (by omega) hqN)
    have hcv := convR_length p q ys vs
    have hba := unhide hbA (by omega)
    have hbb := unhide hbB (by omega)
    have HREF := hide (fun w' (h : Rep w' ga ba oa ca ys) (h' : Rep w' gb bb ob cb vs) => rConv_any p q w' ga gb ba oa ca m bb ob cb n ys vs hx (by omega) h hu (by omega) h' hq0 (by omega) (by omega) (by omega))
    generalize cyv p r L (rowTo N ys) (rowTo N vs) = Z at *
    generalize convR p q ys vs = Y at *
    clear HCV rX0 rY0 hno hq hq1
    go_wp2_with fail
    refine (unhide CC).mono ?_
    rintro e w4 ⟨g, rfl, hg, hZ4, M4, T4⟩
    have N4 := N3.step M4 T4
    have hA4 := hA3.but T4.grown (fun _ => by omega)
    have hB4 := hB3.but T4.grown (fun _ => by omega)
    have rX4 := rX3.but T4.grown (fun _ => by omega)
    have rY4 := rY3.but T4.grown (fun _ => by omega)
    have CR := hide (unhide HREF w4 hA4 hB4)
    clear CC N3 M4 T4 hA3 hB3 rX3 rY3 HREF
    go_wp2_with fail
    refine (unhide CR).mono ?_
    rintro e w5 ⟨rfl, hR5, b5⟩
    have N5 := N4.next b5
    have hA5 := hA4.next b5
    have hB5 := hB4.next b5
    have rX5 := rX4.next b5
    have rY5 := rY4.next b5
    have hZ5 := hZ4.next b5
    have rZ := hZ5.rep 0 q N (by omega) hqN
    rw [List.drop_zero, unhide HE] at rZ
    have CS := hide (keepSame_any w5 _ _ g 0 N w4.heap.size 0 q q Y hcv (by omega) rZ (hR5.whole hcv))
    clear N4 hA4 hB4 rX4 rY4 hZ4 b5 CR hR5 rZ
    go_wp2_with fail
    refine (unhide CS).mono ?_
    rintro e w6 ⟨rfl, b6⟩
    have N6 := N5.next b6
    have hA6 := hA5.next b6
    have hB6 := hB5.next b6
    have rX6 := rX5.next b6
    have rY6 := rY5.next b6
    have hZ6 := hZ5.next b6
    have CM := hide (muls_any N6.own.met)
    clear N5 hA5 hB5 rX5 rY5 hZ5 b6 CS
    have q5 : ((S : Int) != (S : Int)) = false := by simp
    go_wp2_with fail
    refine (unhide CM).mono ?_
    rintro e w7 ⟨rfl, hw7⟩
    obtain rfl := hw7.symm
    clear hw7 CM
    have CSp := hide (spoil_blk w6 g q N Z hcl hqN (by omega) hZ6)
    go_wp2_with fail
    refine (unhide CSp).mono ?_
    rintro e w8 ⟨rfl, g8⟩
    have N8 := N6.other g8 (by omega) (by omega)
    have hA8 := hA6.but g8 (fun _ => by omega)
    have hB8 := hB6.but g8 (fun _ => by omega)
    have rX8 := rX6.but g8 (fun _ => by omega)
    have rY8 := rY6.but g8 (fun _ => by omega)
    clear N6 hA6 hB6 rX6 rY6 hZ6 g8 CSp
    have CI := hide (intact_any w8 ga w1.heap.size ba oa ca m ys hx (by omega) hA8 F (unhide HF) rX8)
    go_wp2_with fail
    refine (unhide CI).mono ?_
    rintro e w9 ⟨rfl, b9⟩
    have N9' := N8.next b9
    have hB9 := hB8.next b9
    have rY9 := rY8.next b9
    clear N8 hA8 hB8 rX8 rY8 b9 CI
    have CI := hide (intact_any w9 gb w2.heap.size bb ob cb n vs hu (by omega) hB9 F (unhide HF) rY9)
    go_wp2_with fail
    refine (unhide CI).mono ?_
    rintro e w10 ⟨rfl, b10⟩
    have N10 := N9'.next b10
    clear N9' hB9 rY9 b10 CI
    go_wp2_with fail
    refine (unhide CW _ N10.own.old).mono ?_
    rintro e w11 ⟨rfl, b11⟩
    have b := bstep N10.own.old b11
    go_wp2
    go_ret
    exact ⟨rfl, b⟩

end Go.Proofs.YtmkcklgmdkkmdaaDoor
