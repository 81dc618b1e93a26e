/- Join and Sum of limb. -/
import Derived.Test.YtpifgkhgnilpdaaJoin
import Derived.Deep.RegionWith
namespace Go.Proofs.Ytpifgkhgnilpdaa
open Go.RowKit

/-- trim of a row that came in, in every world whose cells are the same. -/
theorem trim_all {w : World} {v : Value} {n : Nat} (h : InW w v n) : ∃ ga b o cap us, Rep w ga b o cap us ∧ WCan us ∧ wval us = n ∧ us.length ≤ 1073741824 ∧ ∀ W : World, (∀ a : Addr, a.block < w.heap.size → W.cell? a = w.cell? a) → Calls Try.prog 41 #[v] W fun e w' => e = .returned (.slice ga us.length cap) ∧ w' = W := by
  obtain ⟨ga, b, o, cap, xs, rfl, hr, hd, hv, hl⟩ := h
  have hle := nlen_le xs xs.length
  exact ⟨ga, b, o, cap, nrm xs, hr.take _ hle, nrm_wcan hd, by rw [nrm_wval]; exact hv, by rw [nrm_length]; omega, fun W hW => trim_any W ga b o cap _ _ xs rfl (by omega) ⟨hr.head, hr.room, fun j hj => by rw [hW _ (hr.lt (by omega))]; exact hr.cell j hj⟩ (nrm_length xs)⟩

set_option maxRecDepth 100000 in
set_option maxHeartbeats 3200000 in
theorem join_k (w : World) (gp : Option Addr) (bp op cp np k : Nat) (z : Int) (vs : List Value) (ns : List Nat) (hvl : vs.length = np) (hnp : np ≤ 65536) (hz : (k : Int) = min (max z 0) 16384) (hP : Parts w gp bp op vs ns) :
    Calls Try.prog 25 #[.int .i64 z, .slice gp np cp] w fun e w' => ∃ r, e = .returned r ∧ NewW w.heap.size w' r (jsum k ns np) ∧ Below w.heap.size w w' := by
  have hk : k ≤ 16384 := by omega
  have CW := hide (fun w => within_lim z 16384 k w hz)
  have CF := hide (farthest_any w gp bp op cp np k vs ns hvl hnp hk hP)
  clear hz
  go_enter Try.func25, Try.ntmps25
  go_wp2_with fail
  refine (unhide CW _).mono ?_
  rintro e w1 ⟨rfl, rfl⟩
  go_wp2_with fail
  refine (unhide CF).mono ?_
  rintro e w2 ⟨E, rfl, hE, hF, rfl⟩
  clear CW CF
  have hroom := jsum_room hF (fun j hj => in_words (hP.each j (by omega))) hnp
  obtain ⟨N, hN⟩ : ∃ N, N = E + 1 := ⟨_, rfl⟩
  rw [← hN] at hroom
  have HR := hide hroom
  have HF := hide hF
  have hmk := make_nat N N ((E : Int) + 1) (by omega) rfl (by omega)
  have hk0 : Blk (w2.alloc (.cells (zlist N).toArray 22)) w2.heap.size (List.replicate N 0) := heap_alloc_new w2 _
  have hb0 : Below w2.heap.size w2 (w2.alloc (.cells (zlist N).toArray 22)) := (Below.refl _ _).alloc (Nat.le_refl _) _
  have HK0 := hide hk0
  have HB0 := hide hb0
  have HN := hide hN
  have hNb : N ≤ 4294967297 := by omega
  clear hroom hF hk0 hb0 hN
  go_wp2
  clear hmk
  go_loopw [17] (fun i wr => ∃ (q : Nat) (zs : List Nat), q ≤ np ∧ i = .int .i64 (q : Int) ∧ zs.length = N ∧ WDig zs ∧ Blk wr w2.heap.size zs ∧ Hid (wval zs = jsum k ns q) ∧ Below w2.heap.size w2 wr)
    (fun i _ => np - (intOf i).toNat)
  case atStart => exact ⟨0, List.replicate N 0, Nat.zero_le _, rfl, by simp, (wzeros N).1, unhide HK0, (wzeros N).2, unhide HB0⟩
  case round =>
    obtain ⟨q, zs, hq, rfl, hzl, dz, hBlk, hV, hnx⟩ := hrel
    clear HK0 HB0
    have hsz := hnx.size
    by_cases h1 : q < np
    · obtain rfl := hP.head (by omega)
      have cv := (hnx.cell (by exact hP.lt (by omega))).trans (hP.cell q (by omega))
      have hin := (hP.each q (by omega)).next hnx
      obtain ⟨v, hv⟩ : ∃ v, v = vs.getD q undef := ⟨_, rfl⟩
      obtain ⟨n, hn⟩ : ∃ n, n = ns.getD q 0 := ⟨_, rfl⟩
      rw [← hv] at cv hin
      rw [← hn] at hin
      have hj : jsum k ns (q + 1) = jsum k ns q + 18446744073709551616 ^ (k * q) * n := by rw [hn]; rfl
      by_cases h0 : n = 0
      · have CZ := hide (zero_in hin true (by simp [h0]))
        have H2 : Hid (wval zs = jsum k ns (q + 1)) := by show _ = _; rw [hj, h0, Nat.mul_zero, Nat.add_zero]; exact hV.out
        clear hv hn hin h0 hj
        go_wp2_with fail
        refine (unhide CZ).mono ?_
        rintro e w' ⟨rfl, rfl⟩
        clear CZ
        go_wp2
        exact ⟨⟨q + 1, zs, by omega, by go_num, hzl, dz, hBlk, H2, hnx⟩, by simp [intOf]; omega⟩
      · have CZ := hide (zero_in hin false (by simp [h0]))
        have hin2 := hP.each q (by omega)
        rw [← hv, ← hn] at hin2
        obtain ⟨gb, bb, ob, cb, us, rB, cB, vB, lB, CT⟩ := trim_all hin2
        obtain ⟨p, hp⟩ : ∃ p, p = k * q := ⟨_, rfl⟩
        have hpi : (k : Int) * (q : Int) = (p : Int) := by rw [hp]; exact (Int.natCast_mul k q).symm
        have hfar := unhide HF q h1 (by rw [← hn]; exact h0) us cB (by rw [vB, hn])
        rw [← hp] at hfar hj
        obtain ⟨lb, hlb⟩ : ∃ lb, lb = us.length := ⟨_, rfl⟩
        rw [← hlb] at CT lB hfar
        have hpN : p + lb + 1 ≤ N := by rw [unhide HN]; omega
        obtain ⟨M, hM⟩ : ∃ M, N = p + M := ⟨N - p, by omega⟩
        have hrm : wval zs + 18446744073709551616 ^ p * wval us < 18446744073709551616 ^ (p + M) := by
          rw [← hM, vB, hV.out, ← hj]; exact unhide HR (q + 1) (by omega)
        have hne : 0 < us.length → bb ≠ w2.heap.size := fun h => by have := rB.lt h; omega
        have CT := hide (fun W (hW : Below w2.heap.size w2 W) => CT W (fun a ha => hW.cell ha))
        have CA := hide (fun W (hB : Blk W w2.heap.size zs) (hW : Below w2.heap.size w2 W) => addTo_any W w2.heap.size p M M bb ob cb lb gb zs us (by rw [hzl, hM]) hlb.symm (by omega) (by omega) hB dz (rB.next hW) cB.1 hne hrm)
        have H2 : Hid (wval zs + 18446744073709551616 ^ p * wval us = jsum k ns (q + 1)) := by show _ = _; rw [vB, hV.out, hj]
        generalize wval zs + 18446744073709551616 ^ p * wval us = S at *
        have HM := hide hM
        have hpM : p ≤ N := by omega
        have hMs : N - p = M := by omega
        have hNp : ¬ N = p := by omega
        have hwp : IntKind.i64.wrap (p : Int) = (p : Int) := by rw [IntKind.wrap_i64]; omega
        have hpi2 : 0 ≤ (p : Int) ∧ (p : Int) ≤ (N : Int) := by omega
        have HLZ := hide hzl
        clear hv hn hin hin2 h0 hj hp hfar hlb hrm hne rB cB vB hM hzl
        go_wp2_with fail
        refine (unhide CZ).mono ?_
        rintro e w' ⟨rfl, rfl⟩
        clear CZ
        go_wp2
        go_region_with (first
          | (go_at_call 41; refine (unhide CT _ ?_).mono ?_; exact hnx.drew; rintro e w' ⟨rfl, rfl⟩)
          | (go_at_call 40; refine (unhide CA _ ?_ ?_).mono ?_; exact hBlk; exact hnx.drew; rintro e w4 ⟨rfl, zs', hl4, hd4, k4, hv4, g4⟩))
        all_goals
          go_wp2
          exact ⟨⟨q + 1, zs', by omega, by go_num, by rw [hl4, unhide HM], hd4, k4, by rw [hv4]; exact H2, below_grown hnx.drew g4 (Nat.le_refl _) hsz⟩, by simp [intOf]; omega⟩
    · obtain rfl : q = np := by omega
      have HV := hV
      go_wp2_with fail
      refine (trim_blk (B := w2.heap.size) hzl (by omega) (Nat.le_refl _) hBlk dz).mono ?_
      rintro e w5 ⟨r, rfl, hr, rfl⟩
      rw [hV.out] at hr
      go_wp2
      go_ret
      exact ⟨r, rfl, hr, hnx⟩

end Go.Proofs.Ytpifgkhgnilpdaa
