/- SubMul of limb. -/
import Derived.Test.YtmfpgpkheaofeabLMul
namespace Go.Proofs.Ytmfpgpkheaofeab
open Go.RowKit

set_option maxRecDepth 100000 in
set_option maxHeartbeats 3200000 in
theorem subMul_w (w : World) (u v : Value) (m n y : Nat) (hy : y < 18446744073709551616) (hu : InW w u m) (hv : InW w v n) :
    Calls Try.prog 27 #[u, v, .int .u64 (y : Int)] w (SubDone w m (n * y)) := by
  obtain ⟨ga, ba, oa, ca, us, rA, cA, vA, lA, CA⟩ := trim_in hu
  obtain ⟨gb, bb, ob, cb, vs, rB, cB, vB, lB, CB⟩ := trim_in hv
  obtain ⟨N, hN⟩ : ∃ N, N = max us.length vs.length + 1 := ⟨_, rfl⟩
  have hbN : vs.length + 1 ≤ N := by omega
  have hNb : N ≤ 1073741825 := by omega
  have CA := hide CA
  have CB := hide CB
  have HN := hide hN
  have hzl : (us ++ List.replicate (N - us.length) 0).length = N := by simp; omega
  have hz0 : wval (us ++ List.replicate (N - us.length) 0) = m := by rw [wval_pad, vA]
  have dz0 := wDig_pad cA.1 (N - us.length)
  obtain ⟨la, hla⟩ : ∃ la, la = us.length := ⟨_, rfl⟩
  obtain ⟨lb, hlb⟩ : ∃ lb, lb = vs.length := ⟨_, rfl⟩
  rw [← hla] at CA lA HN hzl hz0 dz0
  rw [← hlb] at CB lB HN hbN
  have HLA := hide hla
  have HLB := hide hlb
  have HVB := hide vB
  have hbb : 0 < vs.length → bb < w.heap.size := fun h => rB.lt h
  have HBB := hide hbb
  clear hu hv hN hla hlb vA vB hbb
  go_enter Try.func27, Try.ntmps27
  go_wp2_with fail
  refine (unhide CA).mono ?_
  rintro e w1 ⟨rfl, rfl⟩
  go_wp2_with fail
  refine (unhide CB).mono ?_
  rintro e w2 ⟨rfl, rfl⟩
  clear CA CB
  go_wp2_with fail
  refine (wider_any _ ga gb ba oa ca cb la lb N us (unhide HLA).symm (by omega) (by omega) rA (unhide HN)).mono ?_
  rintro e w3 ⟨rfl, k3, b3⟩
  generalize us ++ List.replicate (N - la) 0 = z0 at *
  have rB := rB.next b3
  have HZ0 := hide hz0
  have HZL := hide hzl
  clear hz0 hzl
  go_wp2
  go_loopw [9, 23] (fun c i wr => ∃ (k cy : Nat) (zs : List Nat), k ≤ lb ∧ c = .int .u64 (cy : Int) ∧ i = .int .i64 (k : Int) ∧ cy < 18446744073709551616 ∧ Blk wr w2.heap.size zs ∧ Hid (MSubAt z0 zs vs y k cy) ∧ Rep wr gb bb ob cb vs ∧ Below w2.heap.size w2 wr)
    (fun _ i _ => lb - (intOf i).toNat)
  case atStart => exact ⟨0, 0, z0, Nat.zero_le _, rfl, rfl, by omega, k3, msub_start dz0 vs y, rB, b3⟩
  case round =>
    obtain ⟨k, cy, zs, hk, rfl, rfl, hcy, hBlk, hAt, hRb, hnx⟩ := hrel
    have hzl : zs.length = N := by rw [hAt.out.1]; exact unhide HZL
    by_cases h1 : k < lb
    · obtain rfl := hRb.head (by rw [← unhide HLB]; omega)
      obtain ⟨b, hb⟩ : ∃ b : Nat, b = vs.getD k 0 := ⟨_, rfl⟩
      have hb64 : b < 18446744073709551616 := by rw [hb]; exact cB.1 k
      have cbk : wr.cell? ⟨bb, ob + k, none⟩ = some (.int .u64 (b : Int)) := by rw [hb]; exact hRb.cell k (by rw [← unhide HLB]; omega)
      obtain ⟨r, hr⟩ : ∃ r : Nat, r = zs.getD k 0 := ⟨_, rfl⟩
      have cr : wr.cell? ⟨w2.heap.size, k, none⟩ = some (.int .u64 (r : Int)) := by rw [hr]; exact hBlk.cell k (by omega)
      have fr := hBlk.frozen k
      obtain ⟨P, hP⟩ : ∃ P, P = b * y + cy := ⟨_, rfl⟩
      obtain ⟨hi, hh⟩ : ∃ hi, hi = P / 18446744073709551616 := ⟨_, rfl⟩
      obtain ⟨lo, hl⟩ : ∃ lo, lo = P % 18446744073709551616 := ⟨_, rfl⟩
      have CT := hide (fun w => timesPlus_any b y cy P hi lo w hb64 hy hcy hP hh hl)
      have H2 := hide (msub_step hAt.out (by omega) hr hb hb64 hy hP hh hl)
      have CA := hide (fun w => word_sub r lo 0 0 w (Or.inl ⟨rfl, rfl⟩))
      have hc2 := (unhide H2).2.2.1
      generalize (r + 18446744073709551616 - lo - 0) % 18446744073709551616 = d at *
      generalize (if r < lo + 0 then 1 else 0) = c1 at *
      obtain ⟨c2, hc2e⟩ : ∃ c2, c2 = c1 + hi := ⟨_, rfl⟩
      rw [← hc2e] at H2 hc2
      have ec : (c1 : Int) + (hi : Int) = (c2 : Int) := by omega
      have hne : 0 < vs.length → bb ≠ w2.heap.size := fun h => by have := unhide HBB h; omega
      have HNE := hide hne
      clear hr hb hP hh hl hc2e hne
      go_wp2_with fail
      refine (unhide CT _).mono ?_
      rintro e w4 ⟨rfl, rfl⟩
      go_wp2_with fail
      refine (unhide CA _).mono ?_
      rintro e w5 ⟨rfl, rfl⟩
      go_wp2
      exact ⟨⟨k + 1, c2, _, by omega, by first | rfl | exact congrArg (Value.int .u64) ec, by go_num, hc2, hBlk.set k d, H2, hRb.but (grown_set _ _ _ _) (unhide HNE), hnx.setCell (Nat.le_refl _) _⟩, by simp [intOf]; omega⟩
    · obtain rfl : k = lb := by omega
      obtain ⟨M, hM⟩ : ∃ M, N = k + M := ⟨N - k, by omega⟩
      have hM1 : 1 ≤ M := by omega
      have hMs : N - k = M := by omega
      have hNk : ¬ N = k := by omega
      have hki2 : 0 ≤ (k : Int) ∧ (k : Int) ≤ (N : Int) := by omega
      have htot : wval zs + y * n = m + 18446744073709551616 ^ k * cy := by
        have := hAt.out.2.2.2
        rw [wval_take_ge _ _ (by rw [← unhide HLB]; omega), unhide HZ0, unhide HVB] at this
        exact this
      have dz := hAt.out.2.1
      have hko : Blk (wr.alloc (.cells #[.int .u64 (cy : Int)] 45)) wr.heap.size [cy] := heap_alloc_new wr _
      have hro := hko.rep 0 1 1 (by simp) (by omega)
      have hbA : Below wr.heap.size wr (wr.alloc (.cells #[.int .u64 (cy : Int)] 45)) := (Below.refl _ _).alloc (Nat.le_refl _) _
      have hgl := hBlk.lt
      have CAT := hide (takeFrom_any _ w2.heap.size k M M wr.heap.size 0 1 1 (some ⟨wr.heap.size, 0, none⟩) zs [cy] (by rw [hzl, hM]) rfl hM1 (by omega) (hBlk.next hbA) dz hro (wDig_one hcy) (fun _ => by omega))
      have hb5 := hnx.trans (hbA.mono hnx.size)
      have HB5 := hide hb5
      have HT := hide htot
      have HM := hide hM
      clear hko hro hbA htot dz hM hb5 hAt
      go_wp2_with fail
      refine (unhide CAT).mono ?_
      rintro e w5 ⟨c, zs', rfl, hc1, hl5, hd5, k5, g5, hres⟩
      rw [wval_one] at hres
      have b5 := below_grown (unhide HB5) g5 (Nat.le_refl _) (unhide HB5).size
      clear CAT HB5 g5
      rcases hres with ⟨rfl, hv5⟩ | ⟨rfl, hv5⟩
      · have hle : n * y ≤ m := by have := unhide HT; rw [Nat.mul_comm y n] at this; omega
        have he : wval zs' = m - n * y := by have := unhide HT; rw [Nat.mul_comm y n] at this; omega
        have HE := hide he
        have HLE := hide hle
        clear he hle hv5
        go_wp2_with fail
        refine (trim_blk (B := w2.heap.size) (by rw [hl5, unhide HM]) (by omega) (Nat.le_refl _) k5 hd5).mono ?_
        rintro e w6 ⟨r, rfl, hr, rfl⟩
        rw [unhide HE] at hr
        go_wp2
        go_ret2
        exact sub_yes_mk b5 (unhide HLE) hr
      · have hlt : m < n * y := by have := unhide HT; rw [Nat.mul_comm y n] at this; omega
        have HLT := hide hlt
        clear hlt hv5
        go_wp2
        go_ret2
        exact sub_no_mk b5 (unhide HLT)

end Go.Proofs.Ytmfpgpkheaofeab
