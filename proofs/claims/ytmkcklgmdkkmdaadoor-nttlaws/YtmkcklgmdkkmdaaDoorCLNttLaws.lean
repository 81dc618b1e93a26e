/- NttLaws: what the law's walk comes to. -/
import Derived.Test.YtmkcklgmdkkmdaaDoorM14
import Derived.Test.YtmkcklgmdkkmdaaDoorM6
namespace Go.Proofs.YtmkcklgmdkkmdaaDoor
open Go.RowKit

theorem blk_one (w : World) (a : Nat) : Blk (w.alloc (.cells #[.int .u64 (a : Int)] 22)) w.heap.size [a] := heap_alloc_new w _

set_option maxRecDepth 100000 in
set_option maxHeartbeats 6400000 in
theorem nttLaws_any (k log : Int) (ga : Option Addr) (ba oa ca la : Nat) (xs : List Nat) (gb : Option Addr) (bb ob cb lb : Nat) (us : List Nat) (w : World) (h1 : -9223372036854775808 ≤ k) (h2 : k ≤ 9223372036854775807) (h3 : -9223372036854775808 ≤ log) (h4 : log ≤ 9223372036854775807) (hx : xs.length = la) (hA : Rep w ga ba oa ca xs) (hu : us.length = lb) (hB : Rep w gb bb ob cb us) (hT : TB w) :
    Calls Tryd.prog 8 #[.int .i64 k, .int .i64 log, .slice ga la ca, .slice gb lb cb] w fun e w' => e = .returned (.bool true) ∧ Below w.heap.size w w' := by
  have CP := hide (lawPlan_any k log w h1 h2 h3 h4 hT)
  have CW := hide (fun w' (b : Below w.heap.size w w') => nttWakes_any w' (hT.next b))
  clear h1 h2 h3 h4 hT
  go_enter Tryd.func8, Tryd.ntmps8
  go_wp2_with fail
  refine (unhide CP).mono ?_
  rintro e w1 ⟨gt, gm, go, gp, p, r, L, H, rfl, PA⟩
  have N1 := PA.live
  have hL := PA.low
  have hp1 := PA.lo
  have hp2 := PA.hi
  have hA1 := hA.next PA.old
  have hB1 := hB.next PA.old
  obtain ⟨N, hN⟩ : ∃ N, N = 2 ^ L := ⟨_, rfl⟩
  have hNb : N ≤ 32 := by rw [hN]; exact Nat.pow_le_pow_right (by decide) hL
  have hN0 : 1 ≤ N := by rw [hN]; exact one_le_two_pow L
  have e1 := shl_i hN
  have wN : IntKind.i64.wrap (N : Int) = (N : Int) := by rw [IntKind.wrap_i64]; omega
  have wL : IntKind.u64.wrap (L : Int) = (L : Int) := by rw [IntKind.wrap_u64]; omega
  have hH := N1.ps.half
  rw [← hN] at hH
  obtain ⟨K, hK⟩ : ∃ K, K = H * L := ⟨_, rfl⟩
  have hKb : K ≤ 160 := by rw [hK]; exact Nat.mul_le_mul (show H ≤ 32 by omega) hL
  have hrl := rowTo_length N xs
  have hvl := rowTo_length N us
  have hol := rowTo_length N [1]
  have CA := hide (lawRow_any w1 ga ba oa ca la N xs hx (by omega) hA1)
  have CB := hide (fun w' (b : Below w1.heap.size w1 w') => lawRow_any w' gb bb ob cb lb N us hu (by omega) (hB1.next b))
  generalize rowTo N xs = ys at *
  generalize rowTo N us = vs at *
  have HADD : Hid (∀ k, k < N → (fwd p r (adds p ys vs)).getD k 0 = ad p ((fwd p r ys).getD k 0) ((fwd p r vs).getD k 0)) := fun k hk => fwd_adds (by omega) hrl hvl hk
  have HONE : Hid (∀ k, k < N → (fwd p r (rowTo N [1])).getD k 0 = 1) := fun k hk => fwd_one (by omega) hN0 hk
  have hfy : (fwd p r ys).length = N := by rw [fwd_length, hrl]
  have hfv : (fwd p r vs).length = N := by rw [fwd_length, hvl]
  have hal : (adds p ys vs).length = N := by rw [adds_length, hrl]
  have hfa : (fwd p r (adds p ys vs)).length = N := by rw [fwd_length, hal]
  have hfo : (fwd p r (rowTo N [1])).length = N := by rw [fwd_length, hol]
  have HAD : Hid (adds p ys vs = (List.range N).map fun i => ad p (ys.getD i 0) (vs.getD i 0)) := by show _ = _; unfold adds; rw [hrl]
  have CADD := hide (fun x y w => rAdd_any p x y w (by omega) (by omega))
  have HN := hide hN
  have HK := hide hK
  have wB := N1.own.old.size
  have lts := N1.lt
  clear PA hA hA1 hB hB1 CP hN hK hH
  go_wp2_with fail
  refine (unhide CA).mono ?_
  rintro e w2 ⟨rfl, hA2, b2⟩
  have N2 := N1.next b2
  have s2 := hA2.lt
  have CB := hide (unhide CB w2 b2)
  clear CA b2 N1
  go_wp2_with fail
  refine (unhide CB).mono ?_
  rintro e w3 ⟨rfl, hB3, b3⟩
  have N3 := N2.next b3
  have hA3 := hA2.next b3
  have s3 := hB3.lt
  have hmk := make_su N N (N : Int) rfl rfl (by omega)
  have bal : Below w3.heap.size w3 (w3.alloc (.cells (zlist N).toArray 22)) := (Below.refl _ _).alloc (Nat.le_refl _) _
  have Z0 := hide (blk_zeros w3 N)
  have A4 := hide (hA3.next bal)
  have B4 := hide (hB3.next bal)
  have N4 := hide (N3.next bal)
  clear CB N2 b3 hA2 hA3 hB3 N3 bal
  go_wp2
  clear hmk
  go_loopw [15] (fun iv wr => ∃ (k : Nat) (zs : List Nat), k ≤ N ∧ iv = .int .i64 (k : Int) ∧ Hid (MapRow (fun i => ad p (ys.getD i 0) (vs.getD i 0)) (List.replicate N 0) zs k) ∧ Blk wr w3.heap.size zs ∧ Blk wr w1.heap.size ys ∧ Blk wr w2.heap.size vs ∧ NL w wr gt gm go gp p r L H w1.heap.size 0) (fun iv _ => N - (intOf iv).toNat)
  case atStart => exact ⟨0, _, Nat.zero_le _, rfl, mapRow_start _ _, unhide Z0, unhide A4, unhide B4, unhide N4⟩
  case round =>
    clear Z0 A4 B4 N4
    obtain ⟨k, zs, hk, rfl, hV, hZ, hA, hB, hNL⟩ := hrel
    have hrep : (List.replicate N 0).length = N := by simp
    have hzl : zs.length = N := by rw [hV.out.1, hrep]
    by_cases h2 : k < N
    · have hk1 : (k : Int) < (N : Int) := by omega
      obtain ⟨x, hx⟩ : ∃ x, x = ys.getD k 0 := ⟨_, rfl⟩
      obtain ⟨y, hy⟩ : ∃ y, y = vs.getD k 0 := ⟨_, rfl⟩
      have cx : wr.cell? ⟨w1.heap.size, k, none⟩ = some (.int .u64 (x : Int)) := by rw [hx]; exact hA.cell k (by omega)
      have cy : wr.cell? ⟨w2.heap.size, k, none⟩ = some (.int .u64 (y : Int)) := by rw [hy]; exact hB.cell k (by omega)
      have yx := Old.cell cx
      have yy := Old.cell cy
      have inst := old_some wr
      have C1 := hide (fun w => unhide CADD x y w)
      have hstep : Hid (MapRow (fun i => ad p (ys.getD i 0) (vs.getD i 0)) (List.replicate N 0) (zs.set k (ad p x y)) (k + 1)) := by rw [hx, hy]; exact mapRow_step hV.out (by omega)
      have hmm : Hid (N - (k + 1) < N - k) := by show _ < _; omega
      clear hx hy hV hrep
      generalize ad p x y = v at *
      go_wp2_with fail
      refine region_last 13 (by kernel_rfl) (by kernel_rfl) (by kernel_rfl) (by kernel_rfl) (by kernel_rfl) (by kernel_rfl) ?_
      simp only [List.take_succ_cons, List.take_zero, List.drop_succ_cons, List.drop_zero]
      repeat (go_big_quiet_step (first | (go_at_call 30; exact Calls.old (unhide C1 _)) | fail))
      refine wpQuiet_nil ?_
      intro w6 hw6
      obtain ⟨u, rfl⟩ := hw6
      have hZ6 := hZ.next u.old
      have c6 := hZ6.cell k (by omega)
      have f6 := hZ6.frozen k
      have Z7 := hide (hZ6.set k v)
      have A7 := hide ((hA.next u.old).but (grown_set _ w3.heap.size k (.int .u64 (v : Int))) (by omega))
      have B7 := hide ((hB.next u.old).but (grown_set _ w3.heap.size k (.int .u64 (v : Int))) (by omega))
      have N7 := hide ((hNL.next u.old).other (grown_set _ w3.heap.size k (.int .u64 (v : Int))) (by omega) (by omega))
      generalize u.val = w6 at *
      clear u hZ6 yx yy inst
      go_wp2
      go_roundw
      case rel => exact ⟨k + 1, _, by omega, by go_num, hstep, unhide Z7, unhide A7, unhide B7, unhide N7⟩
      case measure => simp [intOf]; have := unhide hmm; omega
    · obtain rfl : k = N := by omega
      have hme := mapRow_end (f := fun i => ad p (ys.getD i 0) (vs.getD i 0)) (z0 := List.replicate k 0) (zs := zs) (by rw [hrep]; exact hV.out)
      rw [hrep, ← unhide HAD] at hme
      subst hme
      have s4 := hZ.lt
      have CF := hide (forward_any hNL.ps hNL.own.met k (unhide HN) _ w1.heap.size 0 k ys hrl (hA.whole hrl) (by omega) (by omega))
      rw [← unhide HK] at CF
      clear hV hrep hzl
      go_wp2_with fail
      refine (unhide CF).mono ?_
      rintro e w5 ⟨rfl, hX5, M5, T5⟩
      have N5 := hNL.step M5 T5
      have hB5 := hB.but T5.grown (by omega)
      have hZ5 := hZ.but T5.grown (by omega)
      have s5 := hX5.lt
      clear CF hNL M5 T5 hA hB hZ
      have CF := hide (forward_any N5.ps N5.own.met k (unhide HN) _ w2.heap.size 0 k vs hvl (hB5.whole hvl) (by omega) (by omega))
      rw [← unhide HK] at CF
      go_wp2_with fail
      refine (unhide CF).mono ?_
      rintro e w6 ⟨rfl, hY6, M6, T6⟩
      have N6 := N5.step M6 T6
      have hX6 := hX5.but T6.grown (by omega)
      have hZ6 := hZ5.but T6.grown (by omega)
      have s6 := hY6.lt
      clear CF N5 M6 T6 hB5 hZ5 hX5
      have CF := hide (forward_any N6.ps N6.own.met k (unhide HN) _ w3.heap.size 0 k _ hal (hZ6.whole hal) (by omega) (by omega))
      rw [← unhide HK] at CF
      go_wp2_with fail
      refine (unhide CF).mono ?_
      rintro e w7 ⟨rfl, hS7, M7, T7⟩
      have N7 := N6.step M7 T7
      have hX7 := hX6.but T7.grown (by omega)
      have hY7 := hY6.but T7.grown (by omega)
      have s7 := hS7.lt
      clear CF N6 M7 T7 hZ6 hX6 hY6
      have bal : Below w7.heap.size w7 (w7.alloc (.cells #[.int .u64 1] 22)) := (Below.refl _ _).alloc (Nat.le_refl _) _
      have N8 := hide (N7.next bal)
      have X8 := hide (hX7.next bal)
      have Y8 := hide (hY7.next bal)
      have S8 := hide (hS7.next bal)
      have CR : Hid (Calls Tryd.prog 16 #[.slice (some ⟨w7.heap.size, 0, none⟩) 1 1, .int .i64 (k : Int)] (w7.alloc (.cells #[.int .u64 1] 22)) fun e w' => e = .returned (.slice (some ⟨(w7.alloc (.cells #[.int .u64 1] 22)).heap.size, 0, none⟩) k k) ∧ Blk w' (w7.alloc (.cells #[.int .u64 1] 22)).heap.size (rowTo k [1]) ∧ Below (w7.alloc (.cells #[.int .u64 1] 22)).heap.size (w7.alloc (.cells #[.int .u64 1] 22)) w') := lawRow_any _ _ w7.heap.size 0 1 1 k [1] rfl (by omega) (Blk.whole (blk_one w7 1) rfl)
      clear N7 hX7 hY7 hS7 bal
      obtain ⟨W8, hW8⟩ : ∃ W8, w7.alloc (.cells #[.int .u64 1] 22) = W8 := ⟨_, rfl⟩
      rw [hW8] at N8 X8 Y8 S8 CR
      generalize rowTo k [1] = O at *
      go_wp2_with fail
      refine (unhide CR).mono ?_
      rintro e w9 ⟨rfl, hO9, b9⟩
      have N9 := (unhide N8).next b9
      have hX9 := (unhide X8).next b9
      have hY9 := (unhide Y8).next b9
      have hS9 := (unhide S8).next b9
      have s9 := hO9.lt
      clear CR N8 X8 Y8 S8 b9 hW8
      have CF := hide (forward_any N9.ps N9.own.met k (unhide HN) _ W8.heap.size 0 k O hol (hO9.whole hol) (by omega) (by omega))
      rw [← unhide HK] at CF
      generalize fwd p r ys = FX at *
      generalize fwd p r vs = FY at *
      generalize fwd p r (adds p ys vs) = Fs at *
      generalize fwd p r O = FO at *
      have q1 : ((k : Int) != (k : Int)) = false := by simp
      go_wp2_with fail
      refine (unhide CF).mono ?_
      rintro e w10 ⟨rfl, hO10, M10, T10⟩
      have N10 := hide (N9.step M10 T10)
      have X10 := hide (hX9.but T10.grown (by omega))
      have Y10 := hide (hY9.but T10.grown (by omega))
      have S10 := hide (hS9.but T10.grown (by omega))
      have O10 := hide hO10
      clear CF N9 M10 T10 hX9 hY9 hS9 hO9 hO10
      go_wp2
      go_loopw [24] (fun iv wr => ∃ j : Nat, j ≤ k ∧ iv = .int .i64 (j : Int) ∧ Below w10.heap.size w10 wr) (fun iv _ => k - (intOf iv).toNat)
      case atStart => exact ⟨0, Nat.zero_le _, rfl, Below.refl _ _⟩
      case round =>
        obtain ⟨j, hj, rfl, hb⟩ := hrel
        by_cases h3 : j < k
        · have hj1 : (j : Int) < (k : Int) := by omega
          obtain ⟨x, hx⟩ : ∃ x, x = FX.getD j 0 := ⟨_, rfl⟩
          obtain ⟨y, hy⟩ : ∃ y, y = FY.getD j 0 := ⟨_, rfl⟩
          have cx := ((unhide X10).next hb).cell j (by omega)
          have cy := ((unhide Y10).next hb).cell j (by omega)
          have cs := ((unhide S10).next hb).cell j (by omega)
          have co := ((unhide O10).next hb).cell j (by omega)
          rw [unhide HADD j h3, ← hx, ← hy] at cs
          rw [unhide HONE j h3] at co
          rw [← hx] at cx
          rw [← hy] at cy
          have co : wr.cell? ⟨w9.heap.size, j, none⟩ = some (.int .u64 1) := co
          have yx := Old.cell cx
          have yy := Old.cell cy
          have ys' := Old.cell cs
          have yo := Old.cell co
          have inst := old_some wr
          have C1 := hide (fun w => unhide CADD x y w)
          have hmm : Hid (k - (j + 1) < k - j) := by show _ < _; omega
          clear hx hy
          generalize ad p x y = v at *
          have q2 : ((v : Int) != (v : Int)) = false := by simp
          go_wp2_with fail
          refine region_old (by kernel_rfl) (by kernel_rfl) ?_
          repeat (go_big_quiet_step (first | (go_at_call 30; exact Calls.old (unhide C1 _)) | fail))
          refine wpQuiet_nil ?_
          intro w11 hw11
          obtain ⟨u, rfl⟩ := hw11
          have hb11 := hide (bstep hb u.old)
          generalize u.val = w11 at *
          clear u yx yy ys' yo inst
          go_wp2
          go_roundw
          case rel => exact ⟨j + 1, by omega, by go_num, unhide hb11⟩
          case measure => simp [intOf]; have := unhide hmm; omega
        · obtain rfl : j = k := by omega
          have N12 := (unhide N10).next hb
          have y0 := Old.cell N12.ps.c0
          have inst := old_some wr
          obtain ⟨R, hR⟩ : ∃ R, R = ml p 3 5 := ⟨_, rfl⟩
          have e15 : (15 : Int).tmod (p : Int) = (R : Int) := by rw [hR]; rfl
          have e15' : (15 : Int) % (p : Int) = (R : Int) := by rw [hR]; rfl
          have hpz : ¬ (p : Int) = 0 := by omega
          have CMl : Hid (∀ u : Old wr, Calls Tryd.prog 31 #[.pointer (some ⟨gm, 0, none⟩), .int .u64 3, .int .u64 5] u.val fun e w' => e = .returned (.int .u64 (R : Int)) ∧ Below u.val.heap.size u.val w') := fun u => by rw [hR]; exact mul_mod (N12.ps.mw.next u.old) 3 5
          have CSz : Hid (∀ u : Old wr, Calls Tryd.prog 11 #[.pointer (some ⟨gt, 0, none⟩)] u.val fun e w' => e = .returned (.int .i64 (j : Int)) ∧ w' = u.val) := fun u => size_any (N12.ps.next u.old) (unhide HN)
          have CWk : Hid (∀ u : Old wr, Calls Tryd.prog 14 #[] u.val fun e w' => e = .returned (.bool true) ∧ Below u.val.heap.size u.val w') := fun u => unhide CW _ (bstep N12.own.old u.old)
          have HO := hide N12.own.old
          have q3 : ((R : Int) == (R : Int)) = true := by simp
          have q4 : ((j : Int) == (j : Int)) = true := by simp
          clear hR N12
          go_wp2_with fail
          refine region_old (by kernel_rfl) (by kernel_rfl) ?_
          repeat (go_big_quiet_step (first | (go_at_call 31; exact Calls.old (unhide CMl _)) | (go_at_call 11; exact Calls.old_same (unhide CSz _)) | (go_at_call 14; exact Calls.old (unhide CWk _))))
          refine wpQuiet_nil ?_
          intro w11 hw11
          obtain ⟨u, rfl⟩ := hw11
          have b := hide (bstep (unhide HO) u.old)
          generalize u.val = w11 at *
          go_wp2
          go_ret
          exact ⟨rfl, unhide b⟩

end Go.Proofs.YtmkcklgmdkkmdaaDoor
