/- timesPlus, AddMul, MulWord and SubMul of limb: by one word. -/
import Derived.Test.YtmfpgpkheaofeabLAdd
namespace Go.Proofs.Ytmfpgpkheaofeab
open Go.RowKit

theorem times_lt {x y c : Nat} (hx : x < 18446744073709551616) (hy : y < 18446744073709551616) (hc : c < 18446744073709551616) : x * y + c ≤ 18446744073709551616 * 18446744073709551615 := by
  have : x * y ≤ 18446744073709551615 * 18446744073709551615 := Nat.mul_le_mul (by omega) (by omega)
  omega

set_option maxHeartbeats 800000 in
theorem timesPlus_any (x y c P hi lo : Nat) (w : World) (hx : x < 18446744073709551616) (hy : y < 18446744073709551616) (hc : c < 18446744073709551616) (hP : P = x * y + c) (hh : hi = P / 18446744073709551616) (hl : lo = P % 18446744073709551616) :
    Calls Try.prog 49 #[.int .u64 (x : Int), .int .u64 (y : Int), .int .u64 (c : Int)] w fun e w' => e = .returned (.tuple #[.int .u64 (hi : Int), .int .u64 (lo : Int)]) ∧ w' = w := by
  have hb := times_lt hx hy hc
  have CM := hide (fun w => word_mul x y w hx hy)
  have hp2 : x * y / 18446744073709551616 * 18446744073709551616 + x * y % 18446744073709551616 = x * y := Nat.div_add_mod' _ _
  have hp3 : x * y % 18446744073709551616 < 18446744073709551616 := Nat.mod_lt _ (by omega)
  generalize x * y / 18446744073709551616 = h0 at *
  generalize x * y % 18446744073709551616 = l0 at *
  have CA := hide (fun w => word_add l0 c 0 0 w (Or.inl ⟨rfl, rfl⟩))
  have e1 : ((l0 + c + 0) % 18446744073709551616) = lo := by omega
  have e2 : h0 + (l0 + c + 0) / 18446744073709551616 = hi := by omega
  rw [e1] at CA
  have hlt : hi < 18446744073709551616 := by omega
  generalize (l0 + c + 0) / 18446744073709551616 = o at *
  have e3 : (h0 : Int) + (o : Int) = (hi : Int) := by omega
  clear hb hP hh hl hp2 e1 e2 hx hy hc hp3
  go_enter Try.func49, Try.ntmps49
  go_wp2_with fail
  refine (unhide CM _).mono ?_
  rintro e w1 ⟨rfl, rfl⟩
  go_wp2_with fail
  refine (unhide CA _).mono ?_
  rintro e w2 ⟨rfl, rfl⟩
  go_wp2
  go_ret2
  exact ⟨ret_two rfl rfl, rfl⟩

/-- k words of bs times y are added; c is carried. -/
def MAddAt (z0 zs bs : List Nat) (y k c : Nat) : Prop := zs.length = z0.length ∧ WDig zs ∧ c < 18446744073709551616 ∧ wval zs + 18446744073709551616 ^ k * c = wval z0 + y * wval (bs.take k)
theorem madd_start {z0 : List Nat} (h : WDig z0) (bs : List Nat) (y : Nat) : MAddAt z0 z0 bs y 0 0 := ⟨rfl, h, by omega, by simp [wval]⟩
theorem madd_step {z0 zs bs : List Nat} {y k c r b P hi lo : Nat} (h : MAddAt z0 zs bs y k c) (hk : k < zs.length) (hr : r = zs.getD k 0) (hb : b = bs.getD k 0) (hb64 : b < 18446744073709551616) (hy : y < 18446744073709551616) (hP : P = b * y + c) (hh : hi = P / 18446744073709551616) (hl : lo = P % 18446744073709551616) :
    MAddAt z0 (zs.set k ((r + lo + 0) % 18446744073709551616)) bs y (k + 1) ((r + lo + 0) / 18446744073709551616 + hi) := by
  obtain ⟨h1, h2, h3, h4⟩ := h
  have hr64 : r < 18446744073709551616 := by rw [hr]; exact h2 _
  have hb' := times_lt hb64 hy h3
  rw [← hP] at hb'
  refine ⟨by simpa using h1, wDig_set h2 hk (Nat.mod_lt _ (by omega)), by omega, ?_⟩
  have hs := wval_set zs k ((r + lo + 0) % 18446744073709551616) hk
  rw [← hr] at hs
  have hPe : 18446744073709551616 * hi + lo = P := by rw [hh, hl]; exact Nat.div_add_mod _ _
  rw [wval_take_succ, ← hb, Nat.mul_add y, Nat.pow_succ, Nat.mul_assoc, Nat.mul_left_comm y]
  have e : 18446744073709551616 ^ k * ((r + lo + 0) % 18446744073709551616) + 18446744073709551616 ^ k * (18446744073709551616 * ((r + lo + 0) / 18446744073709551616 + hi)) = 18446744073709551616 ^ k * r + (18446744073709551616 ^ k * (y * b) + 18446744073709551616 ^ k * c) := by
    rw [← Nat.mul_add, ← Nat.mul_add, ← Nat.mul_add]
    congr 1
    rw [Nat.mul_comm y b]
    omega
  omega
theorem mul_room {us vs : List Nat} {y N : Nat} (h1 : WDig us) (h2 : WDig vs) (hy : y < 18446744073709551616) (hN : N = max us.length vs.length + 1) : wval us + y * wval vs < 18446744073709551616 ^ N := by
  have a := pow_up (wval_lt_pow h1) (q := N - 1) (by omega)
  have b := pow_up (wval_lt_pow h2) (q := N - 1) (by omega)
  have c : y * wval vs ≤ 18446744073709551615 * (18446744073709551616 ^ (N - 1) - 1) := Nat.mul_le_mul (by omega) (by omega)
  rw [show N = N - 1 + 1 from by omega, Nat.pow_succ]
  omega

/-- k words of bs times y are taken; c is borrowed. -/
def MSubAt (z0 zs bs : List Nat) (y k c : Nat) : Prop := zs.length = z0.length ∧ WDig zs ∧ c < 18446744073709551616 ∧ wval zs + y * wval (bs.take k) = wval z0 + 18446744073709551616 ^ k * c
theorem msub_start {z0 : List Nat} (h : WDig z0) (bs : List Nat) (y : Nat) : MSubAt z0 z0 bs y 0 0 := ⟨rfl, h, by omega, by simp [wval]⟩
theorem msub_step {z0 zs bs : List Nat} {y k c r b P hi lo : Nat} (h : MSubAt z0 zs bs y k c) (hk : k < zs.length) (hr : r = zs.getD k 0) (hb : b = bs.getD k 0) (hb64 : b < 18446744073709551616) (hy : y < 18446744073709551616) (hP : P = b * y + c) (hh : hi = P / 18446744073709551616) (hl : lo = P % 18446744073709551616) :
    MSubAt z0 (zs.set k ((r + 18446744073709551616 - lo - 0) % 18446744073709551616)) bs y (k + 1) ((if r < lo + 0 then 1 else 0) + hi) := by
  obtain ⟨h1, h2, h3, h4⟩ := h
  have hr64 : r < 18446744073709551616 := by rw [hr]; exact h2 _
  have hb' := times_lt hb64 hy h3
  rw [← hP] at hb'
  refine ⟨by simpa using h1, wDig_set h2 hk (Nat.mod_lt _ (by omega)), by split <;> omega, ?_⟩
  have hs := wval_set zs k ((r + 18446744073709551616 - lo - 0) % 18446744073709551616) hk
  rw [← hr] at hs
  have hPe : 18446744073709551616 * hi + lo = P := by rw [hh, hl]; exact Nat.div_add_mod _ _
  rw [wval_take_succ, ← hb, Nat.mul_add y, Nat.pow_succ, Nat.mul_assoc, Nat.mul_left_comm y]
  have hd : (r + 18446744073709551616 - lo - 0) % 18446744073709551616 + (b * y + c) = r + 18446744073709551616 * ((if r < lo + 0 then 1 else 0) + hi) := by split <;> omega
  have e : 18446744073709551616 ^ k * ((r + 18446744073709551616 - lo - 0) % 18446744073709551616) + (18446744073709551616 ^ k * (y * b) + 18446744073709551616 ^ k * c) = 18446744073709551616 ^ k * r + 18446744073709551616 ^ k * (18446744073709551616 * ((if r < lo + 0 then 1 else 0) + hi)) := by
    rw [← Nat.mul_add, ← Nat.mul_add, ← Nat.mul_add, Nat.mul_comm y b, hd]
  omega

set_option maxRecDepth 100000 in
set_option maxHeartbeats 3200000 in
theorem addMul_w (w : World) (u v : Value) (m n y : Nat) (hy : y < 18446744073709551616) (hu : InW w u m) (hv : InW w v n) :
    Calls Try.prog 28 #[u, v, .int .u64 (y : Int)] w fun e w' => ∃ r, e = .returned r ∧ NewW w.heap.size w' r (m + n * y) ∧ Below w.heap.size w w' := by
  obtain ⟨ga, ba, oa, ca, us, rA, cA, vA, lA, CA⟩ := trim_in hu
  obtain ⟨gb, bb, ob, cb, vs, rB, cB, vB, lB, CB⟩ := trim_in hv
  obtain ⟨N, hN⟩ : ∃ N, N = max us.length vs.length + 1 := ⟨_, rfl⟩
  have hroom := mul_room cA.1 cB.1 hy hN
  have hbN : vs.length + 1 ≤ N := by omega
  have hNb : N ≤ 1073741825 := by omega
  have CA := hide CA
  have CB := hide CB
  have HN := hide hN
  have hzl : (us ++ List.replicate (N - us.length) 0).length = N := by simp; omega
  have hz0 : wval (us ++ List.replicate (N - us.length) 0) = m := by rw [wval_pad, vA]
  have dz0 := wDig_pad cA.1 (N - us.length)
  obtain ⟨la, hla⟩ : ∃ la, la = us.length := ⟨_, rfl⟩
  obtain ⟨lb, hlb⟩ : ∃ lb, lb = vs.length := ⟨_, rfl⟩
  rw [← hla] at CA lA HN hzl hz0 dz0
  rw [← hlb] at CB lB HN hbN
  have HLA := hide hla
  have HLB := hide hlb
  have HR : Hid (m + y * n < 18446744073709551616 ^ N) := by show _ < _; rw [← vA, ← vB]; exact hroom
  have HVB := hide vB
  have hbb : 0 < vs.length → bb < w.heap.size := fun h => rB.lt h
  have HBB := hide hbb
  clear hu hv hN hroom hla hlb vA vB hbb
  go_enter Try.func28, Try.ntmps28
  go_wp2_with fail
  refine (unhide CA).mono ?_
  rintro e w1 ⟨rfl, rfl⟩
  go_wp2_with fail
  refine (unhide CB).mono ?_
  rintro e w2 ⟨rfl, rfl⟩
  clear CA CB
  go_wp2_with fail
  refine (wider_any _ ga gb ba oa ca cb la lb N us (unhide HLA).symm (by omega) (by omega) rA (unhide HN)).mono ?_
  rintro e w3 ⟨rfl, k3, b3⟩
  generalize us ++ List.replicate (N - la) 0 = z0 at *
  have rB := rB.next b3
  have HZ0 := hide hz0
  have HZL := hide hzl
  clear hz0 hzl
  go_wp2
  go_loopw [8, 22] (fun c i wr => ∃ (k cy : Nat) (zs : List Nat), k ≤ lb ∧ c = .int .u64 (cy : Int) ∧ i = .int .i64 (k : Int) ∧ cy < 18446744073709551616 ∧ Blk wr w2.heap.size zs ∧ Hid (MAddAt z0 zs vs y k cy) ∧ Rep wr gb bb ob cb vs ∧ Below w2.heap.size w2 wr)
    (fun _ i _ => lb - (intOf i).toNat)
  case atStart => exact ⟨0, 0, z0, Nat.zero_le _, rfl, rfl, by omega, k3, madd_start dz0 vs y, rB, b3⟩
  case round =>
    obtain ⟨k, cy, zs, hk, rfl, rfl, hcy, hBlk, hAt, hRb, hnx⟩ := hrel
    have hzl : zs.length = N := by rw [hAt.out.1]; exact unhide HZL
    by_cases h1 : k < lb
    · obtain rfl := hRb.head (by rw [← unhide HLB]; omega)
      obtain ⟨b, hb⟩ : ∃ b : Nat, b = vs.getD k 0 := ⟨_, rfl⟩
      have hb64 : b < 18446744073709551616 := by rw [hb]; exact cB.1 k
      have cbk : wr.cell? ⟨bb, ob + k, none⟩ = some (.int .u64 (b : Int)) := by rw [hb]; exact hRb.cell k (by rw [← unhide HLB]; omega)
      obtain ⟨r, hr⟩ : ∃ r : Nat, r = zs.getD k 0 := ⟨_, rfl⟩
      have cr : wr.cell? ⟨w2.heap.size, k, none⟩ = some (.int .u64 (r : Int)) := by rw [hr]; exact hBlk.cell k (by omega)
      have fr := hBlk.frozen k
      obtain ⟨P, hP⟩ : ∃ P, P = b * y + cy := ⟨_, rfl⟩
      obtain ⟨hi, hh⟩ : ∃ hi, hi = P / 18446744073709551616 := ⟨_, rfl⟩
      obtain ⟨lo, hl⟩ : ∃ lo, lo = P % 18446744073709551616 := ⟨_, rfl⟩
      have CT := hide (fun w => timesPlus_any b y cy P hi lo w hb64 hy hcy hP hh hl)
      have H2 := hide (madd_step hAt.out (by omega) hr hb hb64 hy hP hh hl)
      have CA := hide (fun w => word_add r lo 0 0 w (Or.inl ⟨rfl, rfl⟩))
      have hc2 := (unhide H2).2.2.1
      generalize (r + lo + 0) % 18446744073709551616 = d at *
      generalize (r + lo + 0) / 18446744073709551616 = c1 at *
      obtain ⟨c2, hc2e⟩ : ∃ c2, c2 = c1 + hi := ⟨_, rfl⟩
      rw [← hc2e] at H2 hc2
      have ec : (c1 : Int) + (hi : Int) = (c2 : Int) := by omega
      have hne : 0 < vs.length → bb ≠ w2.heap.size := fun h => by have := unhide HBB h; omega
      have HNE := hide hne
      clear hr hb hP hh hl hc2e hne
      go_wp2_with fail
      refine (unhide CT _).mono ?_
      rintro e w4 ⟨rfl, rfl⟩
      go_wp2_with fail
      refine (unhide CA _).mono ?_
      rintro e w5 ⟨rfl, rfl⟩
      go_wp2
      exact ⟨⟨k + 1, c2, _, by omega, by first | rfl | exact congrArg (Value.int .u64) ec, by go_num, hc2, hBlk.set k d, H2, hRb.but (grown_set _ _ _ _) (unhide HNE), hnx.setCell (Nat.le_refl _) _⟩, by simp [intOf]; omega⟩
    · obtain rfl : k = lb := by omega
      obtain ⟨M, hM⟩ : ∃ M, N = k + M := ⟨N - k, by omega⟩
      have hM1 : 1 ≤ M := by omega
      have hMs : N - k = M := by omega
      have hNk : ¬ N = k := by omega
      have hki2 : 0 ≤ (k : Int) ∧ (k : Int) ≤ (N : Int) := by omega
      have htot : wval zs + 18446744073709551616 ^ k * cy = m + y * n := by
        have := hAt.out.2.2.2
        rw [wval_take_ge _ _ (by rw [← unhide HLB]; omega), unhide HZ0, unhide HVB] at this
        exact this
      have dz := hAt.out.2.1
      have hko : Blk (wr.alloc (.cells #[.int .u64 (cy : Int)] 45)) wr.heap.size [cy] := heap_alloc_new wr _
      have hro := hko.rep 0 1 1 (by simp) (by omega)
      have hbA : Below wr.heap.size wr (wr.alloc (.cells #[.int .u64 (cy : Int)] 45)) := (Below.refl _ _).alloc (Nat.le_refl _) _
      have hgl := hBlk.lt
      have CAT := hide (addTo_any _ w2.heap.size k M M wr.heap.size 0 1 1 (some ⟨wr.heap.size, 0, none⟩) zs [cy] (by rw [hzl, hM]) rfl hM1 (by omega) (hBlk.next hbA) dz hro (wDig_one hcy) (fun _ => by omega) (by rw [wval_one, htot, ← hM]; exact unhide HR))
      rw [wval_one, htot, ← hM] at CAT
      have hb5 := hnx.trans (hbA.mono hnx.size)
      have HB5 := hide hb5
      clear hko hro hbA htot dz hM hb5 hAt
      go_wp2_with fail
      refine (unhide CAT).mono ?_
      rintro e w5 ⟨rfl, zs', hl5, hd5, k5, hv5, g5⟩
      have b5 := below_grown (unhide HB5) g5 (Nat.le_refl _) (unhide HB5).size
      clear CAT HB5 g5
      go_wp2_with fail
      refine (trim_blk (B := w2.heap.size) hl5 (by omega) (Nat.le_refl _) k5 hd5).mono ?_
      rintro e w6 ⟨r, rfl, hr, rfl⟩
      rw [hv5, Nat.mul_comm y n] at hr
      go_wp2
      go_ret
      exact ⟨r, rfl, hr, b5⟩

end Go.Proofs.Ytmfpgpkheaofeab
