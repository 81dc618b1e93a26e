/- DivWord of limb: by one word. -/
import Derived.Test.YteinonbijiokmaaM8
import Derived.Test.YteinonbijiokmaaCLawDivs
import Derived.Test.YteinonbijiokmaaCD64Plain
namespace Go.Proofs.Yteinonbijiokmaa
open Go.RowKit

set_option maxRecDepth 100000 in
set_option maxHeartbeats 1600000 in
theorem norm_blk (w : World) (u : Value) (m : Nat) (hu : InW w u m) :
    Calls Try.prog 70 #[u] w fun e w' => ∃ us, WCan us ∧ wval us = m ∧ us.length ≤ 1073741824 ∧ e = .returned (.slice (some ⟨w.heap.size, 0, none⟩) us.length us.length) ∧ Blk w' w.heap.size us ∧ Below w.heap.size w w' := by
  obtain ⟨ga, ba, oa, ca, us, rA, cA, vA, lA, CA⟩ := trim_in hu
  have CA := hide CA
  obtain ⟨la, hla⟩ : ∃ la, la = us.length := ⟨_, rfl⟩
  rw [← hla] at CA lA
  have HLA := hide hla
  clear hu hla
  go_enter Try.func70, Try.ntmps70
  go_wp2_with fail
  refine (unhide CA).mono ?_
  rintro e w1 ⟨rfl, rfl⟩
  clear CA
  go_wp2_with fail
  refine (copyOf_any _ ga ba oa ca la us (unhide HLA).symm (by omega) rA).mono ?_
  rintro e w3 ⟨rfl, k3, b3⟩
  go_wp2
  go_ret
  exact ⟨us, cA, vA, by rw [← unhide HLA]; exact lA, by rw [← unhide HLA]; exact ret_slice rfl, k3, b3⟩

/-- From place k on the words are divided; r is left. -/
def WDivAt (us zs : List Nat) (y k r : Nat) : Prop := zs.length = us.length ∧ WDig zs ∧ r < y ∧ (∀ j, j < k → zs.getD j 0 = us.getD j 0) ∧ wval (us.drop k) = wval (zs.drop k) * y + r

theorem drop_cons (xs : List Nat) (j : Nat) (h : j < xs.length) : xs.drop j = xs.getD j 0 :: xs.drop (j + 1) := by
  rw [List.drop_eq_getElem_cons h, getD_lt h]
theorem wdiv_start {us : List Nat} {y : Nat} (h : WDig us) (hy : 0 < y) : WDivAt us us y us.length 0 := ⟨rfl, h, hy, fun _ _ => rfl, by simp [wval]⟩
theorem wdiv_step {us zs : List Nat} {y j r c Q R : Nat} (h : WDivAt us zs y (j + 1) r) (hj : j < us.length) (hy : y < 18446744073709551616) (hc : c = zs.getD j 0) (hQ : Q = (18446744073709551616 * r + c) / y) (hR : R = (18446744073709551616 * r + c) % y) :
    WDivAt us (zs.set j Q) y j R ∧ Q < 18446744073709551616 := by
  obtain ⟨h1, h2, h3, h4, h5⟩ := h
  have hc64 : c < 18446744073709551616 := by rw [hc]; exact h2 j
  have hQ64 : Q < 18446744073709551616 := by
    rw [hQ, Nat.div_lt_iff_lt_mul (by omega)]
    have : 18446744073709551616 * (r + 1) ≤ 18446744073709551616 * y := Nat.mul_le_mul_left _ h3
    omega
  refine ⟨⟨by simpa using h1, wDig_set h2 (by omega) hQ64, by rw [hR]; exact Nat.mod_lt _ (by omega), fun i hi => ?_, ?_⟩, hQ64⟩
  · rw [getD_set _ _ _ _ (by omega), if_neg (by omega)]
    exact h4 i (by omega)
  · have e1 : (zs.set j Q).drop j = Q :: zs.drop (j + 1) := by
      rw [drop_cons _ j (by simpa using (by omega : j < zs.length)), getD_set _ _ _ _ (by omega), if_pos rfl]
      congr 1
      rw [List.drop_set, if_pos (by omega)]
    have e2 : us.drop j = c :: us.drop (j + 1) := by rw [drop_cons us j hj, hc, h4 j (by omega)]
    have e3 : Q * y + R = 18446744073709551616 * r + c := by rw [hQ, hR]; exact Nat.div_add_mod' _ _
    rw [e1, e2]
    simp only [wval]
    rw [h5, Nat.add_mul, Nat.mul_assoc]
    generalize wval (zs.drop (j + 1)) * y = T at *
    generalize Q * y = U at *
    omega
theorem wdiv_end {us zs : List Nat} {y r : Nat} (h : WDivAt us zs y 0 r) : wval zs = wval us / y ∧ r = wval us % y := by
  obtain ⟨_, _, h3, _, h5⟩ := h
  rw [List.drop_zero, List.drop_zero] at h5
  rw [h5, Nat.mul_comm]
  constructor
  · rw [Nat.mul_add_div (by omega), Nat.div_eq_of_lt h3, Nat.add_zero]
  · rw [Nat.mul_add_mod, Nat.mod_eq_of_lt h3]

set_option maxHeartbeats 800000 in
theorem divWord_no (w : World) (u : Value) : Calls Try.prog 50 #[u, .int .u64 0] w fun e w' => e = .returned (.tuple #[.slice none 0 0, .int .u64 0, .int .i64 2]) ∧ w' = w := by
  go_enter Try.func50, Try.ntmps50
  go_wp2
  go_ret3
  exact ⟨rfl, rfl⟩

set_option maxRecDepth 100000 in
set_option maxHeartbeats 3200000 in
theorem divWord_w (w : World) (u : Value) (m y : Nat) (hy0 : 0 < y) (hy : y < 18446744073709551616) (hu : InW w u m) :
    Calls Try.prog 50 #[u, .int .u64 (y : Int)] w fun e w' => ∃ q, e = .returned (.tuple #[q, .int .u64 ((m % y : Nat) : Int), .int .i64 0]) ∧ NewW w.heap.size w' q (m / y) ∧ Below w.heap.size w w' := by
  obtain ⟨R, hR⟩ : ∃ R, R = m % y := ⟨_, rfl⟩
  obtain ⟨Q, hQ⟩ : ∃ Q, Q = m / y := ⟨_, rfl⟩
  rw [← hR, ← hQ]
  have HR := hide hR
  have HQ := hide hQ
  have hyz : ((y : Int) == 0) = false := by rw [beq_eq_false_iff_ne]; omega
  clear hR hQ
  go_enter Try.func50, Try.ntmps50
  go_wp2_with fail
  refine (norm_blk _ _ m hu).mono ?_
  rintro e w1 ⟨us, cU, vU, lU, rfl, k1, b1⟩
  obtain ⟨la, hla⟩ : ∃ la, la = us.length := ⟨_, rfl⟩
  rw [← hla] at lU ⊢
  have HLA := hide hla
  have HVU := hide vU
  clear hla hu vU
  go_wp2
  go_loopw [8, 9] (fun rv i wr => ∃ (k r : Nat) (zs : List Nat), k ≤ la ∧ rv = .int .u64 (r : Int) ∧ i = .int .i64 ((k : Int) - 1) ∧ zs.length = la ∧ r < y ∧ Blk wr w.heap.size zs ∧ Hid (WDivAt us zs y k r) ∧ Below w.heap.size w wr)
    (fun _ i _ => (intOf i + 1).toNat)
  case atStart => exact ⟨la, 0, us, Nat.le_refl _, rfl, rfl, (unhide HLA).symm, hy0, k1, by rw [unhide HLA]; exact wdiv_start cU.1 hy0, b1⟩
  case round =>
    obtain ⟨k, r, zs, hk, rfl, rfl, hzl, hr, hBlk, hAt, hnx⟩ := hrel
    by_cases h0 : k = 0
    · subst h0
      obtain ⟨e1, e2⟩ := wdiv_end hAt.out
      rw [unhide HVU] at e1 e2
      have hq : wval zs = Q := by rw [unhide HQ]; exact e1
      have hr2 : (r : Int) = (R : Int) := by rw [unhide HR, e2]
      have hd := hAt.out.2.1
      have HQ2 := hide hq
      have HR2 := hide hr2
      clear e1 e2 hq hr2 hAt
      go_wp2_with fail
      refine (trim_blk (B := w.heap.size) hzl (by omega) (Nat.le_refl _) hBlk hd).mono ?_
      rintro e w6 ⟨q, rfl, hq, rfl⟩
      rw [unhide HQ2] at hq
      go_wp2
      go_ret3
      exact ⟨q, by rw [← unhide HR2]; rfl, hq, hnx⟩
    · obtain ⟨j, rfl⟩ : ∃ j, k = j + 1 := ⟨k - 1, by omega⟩
      have ej : ((j + 1 : Nat) : Int) - 1 = (j : Int) := by omega
      rw [ej]
      obtain ⟨c, hc⟩ : ∃ c : Nat, c = zs.getD j 0 := ⟨_, rfl⟩
      have cr : wr.cell? ⟨w.heap.size, j, none⟩ = some (.int .u64 (c : Int)) := by rw [hc]; exact hBlk.cell j (by omega)
      have hc64 : c < 18446744073709551616 := by rw [hc]; exact hAt.out.2.1 j
      obtain ⟨Qd, hQd⟩ : ∃ Qd, Qd = (18446744073709551616 * r + c) / y := ⟨_, rfl⟩
      obtain ⟨Rd, hRd⟩ : ∃ Rd, Rd = (18446744073709551616 * r + c) % y := ⟨_, rfl⟩
      obtain ⟨H2, hq64⟩ := wdiv_step hAt.out (by rw [← unhide HLA]; omega) hy hc hQd hRd
      have hR2 := H2.2.2.1
      have H2 := hide H2
      have CD := hide (fun w => word_div r c y Qd Rd w hr hc64 hy hQd hRd)
      clear hc hQd hRd hAt
      go_wp2_with fail
      refine (unhide CD _).mono ?_
      rintro e w5 ⟨rfl, b5⟩
      have cr := hBlk.next b5
      have cr2 := cr.cell j (by omega)
      have fr := cr.frozen j
      have hnx := hnx.trans (b5.mono hnx.size)
      clear b5
      go_wp2
      exact ⟨⟨j, Rd, zs.set j Qd, by omega, rfl, by go_num, by simpa using hzl, hR2, cr.set j Qd, H2, hnx.setCell (Nat.le_refl _) _⟩, by simp [intOf]⟩

end Go.Proofs.Yteinonbijiokmaa

/- timesPlus, AddMul, MulWord and SubMul of limb: by one word. -/
namespace Go.Proofs.Yteinonbijiokmaa
open Go.RowKit

theorem times_lt {x y c : Nat} (hx : x < 18446744073709551616) (hy : y < 18446744073709551616) (hc : c < 18446744073709551616) : x * y + c ≤ 18446744073709551616 * 18446744073709551615 := by
  have : x * y ≤ 18446744073709551615 * 18446744073709551615 := Nat.mul_le_mul (by omega) (by omega)
  omega

set_option maxHeartbeats 800000 in
theorem timesPlus_any (x y c P hi lo : Nat) (w : World) (hx : x < 18446744073709551616) (hy : y < 18446744073709551616) (hc : c < 18446744073709551616) (hP : P = x * y + c) (hh : hi = P / 18446744073709551616) (hl : lo = P % 18446744073709551616) :
    Calls Try.prog 78 #[.int .u64 (x : Int), .int .u64 (y : Int), .int .u64 (c : Int)] w fun e w' => e = .returned (.tuple #[.int .u64 (hi : Int), .int .u64 (lo : Int)]) ∧ w' = w := by
  have hb := times_lt hx hy hc
  have CM := hide (fun w => word_mul x y w hx hy)
  have hp2 : x * y / 18446744073709551616 * 18446744073709551616 + x * y % 18446744073709551616 = x * y := Nat.div_add_mod' _ _
  have hp3 : x * y % 18446744073709551616 < 18446744073709551616 := Nat.mod_lt _ (by omega)
  generalize x * y / 18446744073709551616 = h0 at *
  generalize x * y % 18446744073709551616 = l0 at *
  have CA := hide (fun w => word_add l0 c 0 0 w (Or.inl ⟨rfl, rfl⟩))
  have e1 : ((l0 + c + 0) % 18446744073709551616) = lo := by omega
  have e2 : h0 + (l0 + c + 0) / 18446744073709551616 = hi := by omega
  rw [e1] at CA
  have hlt : hi < 18446744073709551616 := by omega
  generalize (l0 + c + 0) / 18446744073709551616 = o at *
  have e3 : (h0 : Int) + (o : Int) = (hi : Int) := by omega
  clear hb hP hh hl hp2 e1 e2 hx hy hc hp3
  go_enter Try.func78, Try.ntmps78
  go_wp2_with fail
  refine (unhide CM _).mono ?_
  rintro e w1 ⟨rfl, rfl⟩
  go_wp2_with fail
  refine (unhide CA _).mono ?_
  rintro e w2 ⟨rfl, rfl⟩
  go_wp2
  go_ret2
  exact ⟨ret_two rfl rfl, rfl⟩

/-- k words of bs times y are added; c is carried. -/
def MAddAt (z0 zs bs : List Nat) (y k c : Nat) : Prop := zs.length = z0.length ∧ WDig zs ∧ c < 18446744073709551616 ∧ wval zs + 18446744073709551616 ^ k * c = wval z0 + y * wval (bs.take k)
theorem madd_start {z0 : List Nat} (h : WDig z0) (bs : List Nat) (y : Nat) : MAddAt z0 z0 bs y 0 0 := ⟨rfl, h, by omega, by simp [wval]⟩
theorem madd_step {z0 zs bs : List Nat} {y k c r b P hi lo : Nat} (h : MAddAt z0 zs bs y k c) (hk : k < zs.length) (hr : r = zs.getD k 0) (hb : b = bs.getD k 0) (hb64 : b < 18446744073709551616) (hy : y < 18446744073709551616) (hP : P = b * y + c) (hh : hi = P / 18446744073709551616) (hl : lo = P % 18446744073709551616) :
    MAddAt z0 (zs.set k ((r + lo + 0) % 18446744073709551616)) bs y (k + 1) ((r + lo + 0) / 18446744073709551616 + hi) := by
  obtain ⟨h1, h2, h3, h4⟩ := h
  have hr64 : r < 18446744073709551616 := by rw [hr]; exact h2 _
  have hb' := times_lt hb64 hy h3
  rw [← hP] at hb'
  refine ⟨by simpa using h1, wDig_set h2 hk (Nat.mod_lt _ (by omega)), by omega, ?_⟩
  have hs := wval_set zs k ((r + lo + 0) % 18446744073709551616) hk
  rw [← hr] at hs
  have hPe : 18446744073709551616 * hi + lo = P := by rw [hh, hl]; exact Nat.div_add_mod _ _
  rw [wval_take_succ, ← hb, Nat.mul_add y, Nat.pow_succ, Nat.mul_assoc, Nat.mul_left_comm y]
  have e : 18446744073709551616 ^ k * ((r + lo + 0) % 18446744073709551616) + 18446744073709551616 ^ k * (18446744073709551616 * ((r + lo + 0) / 18446744073709551616 + hi)) = 18446744073709551616 ^ k * r + (18446744073709551616 ^ k * (y * b) + 18446744073709551616 ^ k * c) := by
    rw [← Nat.mul_add, ← Nat.mul_add, ← Nat.mul_add]
    congr 1
    rw [Nat.mul_comm y b]
    omega
  omega
theorem mul_room {us vs : List Nat} {y N : Nat} (h1 : WDig us) (h2 : WDig vs) (hy : y < 18446744073709551616) (hN : N = max us.length vs.length + 1) : wval us + y * wval vs < 18446744073709551616 ^ N := by
  have a := pow_up (wval_lt_pow h1) (q := N - 1) (by omega)
  have b := pow_up (wval_lt_pow h2) (q := N - 1) (by omega)
  have c : y * wval vs ≤ 18446744073709551615 * (18446744073709551616 ^ (N - 1) - 1) := Nat.mul_le_mul (by omega) (by omega)
  rw [show N = N - 1 + 1 from by omega, Nat.pow_succ]
  omega

/-- k words of bs times y are taken; c is borrowed. -/
def MSubAt (z0 zs bs : List Nat) (y k c : Nat) : Prop := zs.length = z0.length ∧ WDig zs ∧ c < 18446744073709551616 ∧ wval zs + y * wval (bs.take k) = wval z0 + 18446744073709551616 ^ k * c
theorem msub_start {z0 : List Nat} (h : WDig z0) (bs : List Nat) (y : Nat) : MSubAt z0 z0 bs y 0 0 := ⟨rfl, h, by omega, by simp [wval]⟩
theorem msub_step {z0 zs bs : List Nat} {y k c r b P hi lo : Nat} (h : MSubAt z0 zs bs y k c) (hk : k < zs.length) (hr : r = zs.getD k 0) (hb : b = bs.getD k 0) (hb64 : b < 18446744073709551616) (hy : y < 18446744073709551616) (hP : P = b * y + c) (hh : hi = P / 18446744073709551616) (hl : lo = P % 18446744073709551616) :
    MSubAt z0 (zs.set k ((r + 18446744073709551616 - lo - 0) % 18446744073709551616)) bs y (k + 1) ((if r < lo + 0 then 1 else 0) + hi) := by
  obtain ⟨h1, h2, h3, h4⟩ := h
  have hr64 : r < 18446744073709551616 := by rw [hr]; exact h2 _
  have hb' := times_lt hb64 hy h3
  rw [← hP] at hb'
  refine ⟨by simpa using h1, wDig_set h2 hk (Nat.mod_lt _ (by omega)), by split <;> omega, ?_⟩
  have hs := wval_set zs k ((r + 18446744073709551616 - lo - 0) % 18446744073709551616) hk
  rw [← hr] at hs
  have hPe : 18446744073709551616 * hi + lo = P := by rw [hh, hl]; exact Nat.div_add_mod _ _
  rw [wval_take_succ, ← hb, Nat.mul_add y, Nat.pow_succ, Nat.mul_assoc, Nat.mul_left_comm y]
  have hd : (r + 18446744073709551616 - lo - 0) % 18446744073709551616 + (b * y + c) = r + 18446744073709551616 * ((if r < lo + 0 then 1 else 0) + hi) := by split <;> omega
  have e : 18446744073709551616 ^ k * ((r + 18446744073709551616 - lo - 0) % 18446744073709551616) + (18446744073709551616 ^ k * (y * b) + 18446744073709551616 ^ k * c) = 18446744073709551616 ^ k * r + 18446744073709551616 ^ k * (18446744073709551616 * ((if r < lo + 0 then 1 else 0) + hi)) := by
    rw [← Nat.mul_add, ← Nat.mul_add, ← Nat.mul_add, Nat.mul_comm y b, hd]
  omega

set_option maxRecDepth 100000 in
set_option maxHeartbeats 3200000 in
theorem addMul_w (w : World) (u v : Value) (m n y : Nat) (hy : y < 18446744073709551616) (hu : InW w u m) (hv : InW w v n) :
    Calls Try.prog 55 #[u, v, .int .u64 (y : Int)] w fun e w' => ∃ r, e = .returned r ∧ NewW w.heap.size w' r (m + n * y) ∧ Below w.heap.size w w' := by
  obtain ⟨ga, ba, oa, ca, us, rA, cA, vA, lA, CA⟩ := trim_in hu
  obtain ⟨gb, bb, ob, cb, vs, rB, cB, vB, lB, CB⟩ := trim_in hv
  obtain ⟨N, hN⟩ : ∃ N, N = max us.length vs.length + 1 := ⟨_, rfl⟩
  have hroom := mul_room cA.1 cB.1 hy hN
  have hbN : vs.length + 1 ≤ N := by omega
  have hNb : N ≤ 1073741825 := by omega
  have CA := hide CA
  have CB := hide CB
  have HN := hide hN
  have hzl : (us ++ List.replicate (N - us.length) 0).length = N := by simp; omega
  have hz0 : wval (us ++ List.replicate (N - us.length) 0) = m := by rw [wval_pad, vA]
  have dz0 := wDig_pad cA.1 (N - us.length)
  obtain ⟨la, hla⟩ : ∃ la, la = us.length := ⟨_, rfl⟩
  obtain ⟨lb, hlb⟩ : ∃ lb, lb = vs.length := ⟨_, rfl⟩
  rw [← hla] at CA lA HN hzl hz0 dz0
  rw [← hlb] at CB lB HN hbN
  have HLA := hide hla
  have HLB := hide hlb
  have HR : Hid (m + y * n < 18446744073709551616 ^ N) := by show _ < _; rw [← vA, ← vB]; exact hroom
  have HVB := hide vB
  have hbb : 0 < vs.length → bb < w.heap.size := fun h => rB.lt h
  have HBB := hide hbb
  clear hu hv hN hroom hla hlb vA vB hbb
  go_enter Try.func55, Try.ntmps55
  go_wp2_with fail
  refine (unhide CA).mono ?_
  rintro e w1 ⟨rfl, rfl⟩
  go_wp2_with fail
  refine (unhide CB).mono ?_
  rintro e w2 ⟨rfl, rfl⟩
  clear CA CB
  go_wp2_with fail
  refine (wider_any _ ga gb ba oa ca cb la lb N us (unhide HLA).symm (by omega) (by omega) rA (unhide HN)).mono ?_
  rintro e w3 ⟨rfl, k3, b3⟩
  generalize us ++ List.replicate (N - la) 0 = z0 at *
  have rB := rB.next b3
  have HZ0 := hide hz0
  have HZL := hide hzl
  clear hz0 hzl
  go_wp2
  go_loopw [8, 22] (fun c i wr => ∃ (k cy : Nat) (zs : List Nat), k ≤ lb ∧ c = .int .u64 (cy : Int) ∧ i = .int .i64 (k : Int) ∧ cy < 18446744073709551616 ∧ Blk wr w2.heap.size zs ∧ Hid (MAddAt z0 zs vs y k cy) ∧ Rep wr gb bb ob cb vs ∧ Below w2.heap.size w2 wr)
    (fun _ i _ => lb - (intOf i).toNat)
  case atStart => exact ⟨0, 0, z0, Nat.zero_le _, rfl, rfl, by omega, k3, madd_start dz0 vs y, rB, b3⟩
  case round =>
    obtain ⟨k, cy, zs, hk, rfl, rfl, hcy, hBlk, hAt, hRb, hnx⟩ := hrel
    have hzl : zs.length = N := by rw [hAt.out.1]; exact unhide HZL
    by_cases h1 : k < lb
    · obtain rfl := hRb.head (by rw [← unhide HLB]; omega)
      obtain ⟨b, hb⟩ : ∃ b : Nat, b = vs.getD k 0 := ⟨_, rfl⟩
      have hb64 : b < 18446744073709551616 := by rw [hb]; exact cB.1 k
      have cbk : wr.cell? ⟨bb, ob + k, none⟩ = some (.int .u64 (b : Int)) := by rw [hb]; exact hRb.cell k (by rw [← unhide HLB]; omega)
      obtain ⟨r, hr⟩ : ∃ r : Nat, r = zs.getD k 0 := ⟨_, rfl⟩
      have cr : wr.cell? ⟨w2.heap.size, k, none⟩ = some (.int .u64 (r : Int)) := by rw [hr]; exact hBlk.cell k (by omega)
      have fr := hBlk.frozen k
      obtain ⟨P, hP⟩ : ∃ P, P = b * y + cy := ⟨_, rfl⟩
      obtain ⟨hi, hh⟩ : ∃ hi, hi = P / 18446744073709551616 := ⟨_, rfl⟩
      obtain ⟨lo, hl⟩ : ∃ lo, lo = P % 18446744073709551616 := ⟨_, rfl⟩
      have CT := hide (fun w => timesPlus_any b y cy P hi lo w hb64 hy hcy hP hh hl)
      have H2 := hide (madd_step hAt.out (by omega) hr hb hb64 hy hP hh hl)
      have CA := hide (fun w => word_add r lo 0 0 w (Or.inl ⟨rfl, rfl⟩))
      have hc2 := (unhide H2).2.2.1
      generalize (r + lo + 0) % 18446744073709551616 = d at *
      generalize (r + lo + 0) / 18446744073709551616 = c1 at *
      obtain ⟨c2, hc2e⟩ : ∃ c2, c2 = c1 + hi := ⟨_, rfl⟩
      rw [← hc2e] at H2 hc2
      have ec : (c1 : Int) + (hi : Int) = (c2 : Int) := by omega
      have hne : 0 < vs.length → bb ≠ w2.heap.size := fun h => by have := unhide HBB h; omega
      have HNE := hide hne
      clear hr hb hP hh hl hc2e hne
      go_wp2_with fail
      refine (unhide CT _).mono ?_
      rintro e w4 ⟨rfl, rfl⟩
      go_wp2_with fail
      refine (unhide CA _).mono ?_
      rintro e w5 ⟨rfl, rfl⟩
      go_wp2
      exact ⟨⟨k + 1, c2, _, by omega, by first | rfl | exact congrArg (Value.int .u64) ec, by go_num, hc2, hBlk.set k d, H2, hRb.but (grown_set _ _ _ _) (unhide HNE), hnx.setCell (Nat.le_refl _) _⟩, by simp [intOf]; omega⟩
    · obtain rfl : k = lb := by omega
      obtain ⟨M, hM⟩ : ∃ M, N = k + M := ⟨N - k, by omega⟩
      have hM1 : 1 ≤ M := by omega
      have hMs : N - k = M := by omega
      have hNk : ¬ N = k := by omega
      have hki2 : 0 ≤ (k : Int) ∧ (k : Int) ≤ (N : Int) := by omega
      have htot : wval zs + 18446744073709551616 ^ k * cy = m + y * n := by
        have := hAt.out.2.2.2
        rw [wval_take_ge _ _ (by rw [← unhide HLB]; omega), unhide HZ0, unhide HVB] at this
        exact this
      have dz := hAt.out.2.1
      have hko : Blk (wr.alloc (.cells #[.int .u64 (cy : Int)] 28)) wr.heap.size [cy] := heap_alloc_new wr _
      have hro := hko.rep 0 1 1 (by simp) (by omega)
      have hbA : Below wr.heap.size wr (wr.alloc (.cells #[.int .u64 (cy : Int)] 28)) := (Below.refl _ _).alloc (Nat.le_refl _) _
      have hgl := hBlk.lt
      have CAT := hide (addTo_any _ w2.heap.size k M M wr.heap.size 0 1 1 (some ⟨wr.heap.size, 0, none⟩) zs [cy] (by rw [hzl, hM]) rfl hM1 (by omega) (hBlk.next hbA) dz hro (wDig_one hcy) (fun _ => by omega) (by rw [wval_one, htot, ← hM]; exact unhide HR))
      rw [wval_one, htot, ← hM] at CAT
      have hb5 := hnx.trans (hbA.mono hnx.size)
      have HB5 := hide hb5
      clear hko hro hbA htot dz hM hb5 hAt
      go_wp2_with fail
      refine (unhide CAT).mono ?_
      rintro e w5 ⟨rfl, zs', hl5, hd5, k5, hv5, g5⟩
      have b5 := below_grown (unhide HB5) g5 (Nat.le_refl _) (unhide HB5).size
      clear CAT HB5 g5
      go_wp2_with fail
      refine (trim_blk (B := w2.heap.size) hl5 (by omega) (Nat.le_refl _) k5 hd5).mono ?_
      rintro e w6 ⟨r, rfl, hr, rfl⟩
      rw [hv5, Nat.mul_comm y n] at hr
      go_wp2
      go_ret
      exact ⟨r, rfl, hr, b5⟩

end Go.Proofs.Yteinonbijiokmaa

/- wordsAndPlaces and Shl of limb. -/
namespace Go.Proofs.Yteinonbijiokmaa
open Go.RowKit

theorem ret_ii {a b c d : Int} (h : a = b) (h' : c = d) : Ending.returned (.tuple #[.int .i64 a, .int .i64 c]) = .returned (.tuple #[.int .i64 b, .int .i64 d]) := by rw [h, h']

set_option maxHeartbeats 400000 in
theorem wp_any (z : Int) (k s t : Nat) (w : World) (hk : (k : Int) = min (max z 0) 1048576) (hs : s = k / 64) (ht : t = k % 64) :
    Calls Try.prog 98 #[.int .i64 z] w fun e w' => e = .returned (.tuple #[.int .i64 (s : Int), .int .i64 (t : Int)]) ∧ w' = w := by
  have CW := hide (fun w => within_lim z 1048576 k w hk)
  have es : (k : Int) / 64 = (s : Int) := by omega
  have et : (k : Int) % 64 = (t : Int) := by omega
  have hkb : k ≤ 1048576 := by omega
  have ES := hide es
  have ET := hide et
  clear hk hs ht
  go_enter Try.func98, Try.ntmps98
  go_wp2_with fail
  refine (unhide CW _).mono ?_
  rintro e w1 ⟨rfl, rfl⟩
  go_wp2
  go_ret2
  exact ⟨ret_ii (by first | rfl | exact unhide ES) (by first | rfl | exact unhide ET), rfl⟩

/-- A word moved up by t places: what stays in it, what goes out. -/
theorem up_word {x t c : Nat} (hx : x < 18446744073709551616) (ht : t < 64) (hc : c < 2 ^ t) :
    ((x * 2 ^ t) % 18446744073709551616) ||| c = (x * 2 ^ t) % 18446744073709551616 + c ∧ (x * 2 ^ t) % 18446744073709551616 + c < 18446744073709551616 ∧ x / 2 ^ (64 - t) < 2 ^ t ∧
      (x * 2 ^ t) % 18446744073709551616 + 18446744073709551616 * (x / 2 ^ (64 - t)) = x * 2 ^ t := by
  have hp := pow_split t (by omega)
  have hpos : 0 < 2 ^ t := Nat.pow_pos (by omega)
  have hpos2 : 0 < 2 ^ (64 - t) := Nat.pow_pos (by omega)
  have e1 : x * 2 ^ t % 18446744073709551616 = x % 2 ^ (64 - t) * 2 ^ t := by
    rw [← hp, Nat.mul_mod_mul_right]
  have e2 : x / 2 ^ (64 - t) < 2 ^ t := by rw [Nat.div_lt_iff_lt_mul hpos2, Nat.mul_comm, hp]; exact hx
  have hm := Nat.mod_lt x hpos2
  have hd := Nat.div_add_mod x (2 ^ (64 - t))
  refine ⟨?_, ?_, e2, ?_⟩
  · rw [e1]; exact or_add _ _ _ hc
  · rw [e1]
    have h2 : (x % 2 ^ (64 - t) + 1) * 2 ^ t ≤ 2 ^ (64 - t) * 2 ^ t := Nat.mul_le_mul_right _ hm
    rw [Nat.add_mul, Nat.one_mul, hp] at h2
    omega
  · rw [e1, ← hp]
    have : x * 2 ^ t = (2 ^ (64 - t) * (x / 2 ^ (64 - t)) + x % 2 ^ (64 - t)) * 2 ^ t := by rw [hd]
    rw [this, Nat.add_mul, Nat.mul_right_comm]
    omega

/-- k words are moved up by s words and t places; c is carried. -/
def WShlAt (us zs : List Nat) (N s t k c : Nat) : Prop := zs.length = N ∧ WDig zs ∧ c < 2 ^ t ∧ (∀ j, s + k ≤ j → zs.getD j 0 = 0) ∧ wval zs + 18446744073709551616 ^ (s + k) * c = 18446744073709551616 ^ s * (2 ^ t * wval (us.take k))
theorem wshl_start (us : List Nat) (N s t : Nat) : WShlAt us (List.replicate N 0) N s t 0 0 := by
  refine ⟨by simp, (wzeros N).1, Nat.pow_pos (by omega), fun j _ => ?_, by rw [(wzeros N).2]; simp [wval]⟩
  simp only [List.getD_eq_getElem?_getD, List.getElem?_replicate]; split <;> rfl
theorem wshl_step {us zs : List Nat} {N s t k c x d c2 : Nat} (h : WShlAt us zs N s t k c) (hk : s + k < N) (hx : x = us.getD k 0) (hx64 : x < 18446744073709551616) (ht : t < 64) (hd : d = (x * 2 ^ t) % 18446744073709551616 + c) (hc2 : c2 = x / 2 ^ (64 - t)) :
    WShlAt us (zs.set (s + k) d) N s t (k + 1) c2 := by
  obtain ⟨h1, h2, h3, h4, h5⟩ := h
  obtain ⟨e1, e2, e3, e4⟩ := up_word hx64 ht h3
  refine ⟨by simpa using h1, wDig_set h2 (by omega) (by rw [hd]; exact e2), by rw [hc2]; exact e3, fun j hj => ?_, ?_⟩
  · rw [getD_set _ _ _ _ (by omega), if_neg (by omega)]; exact h4 j (by omega)
  · have hs := wval_set zs (s + k) d (by omega)
    rw [h4 _ (Nat.le_refl _), Nat.mul_zero, Nat.add_zero] at hs
    rw [hs, wval_take_succ, ← hx, ← Nat.add_assoc s k 1, Nat.pow_succ, Nat.mul_assoc]
    have e5 : 18446744073709551616 ^ (s + k) * d + 18446744073709551616 ^ (s + k) * (18446744073709551616 * c2) = 18446744073709551616 ^ (s + k) * c + 18446744073709551616 ^ (s + k) * (x * 2 ^ t) := by
      rw [← Nat.mul_add, ← Nat.mul_add, hd, hc2]
      congr 1
      omega
    have e6 : 18446744073709551616 ^ s * (2 ^ t * (wval (us.take k) + 18446744073709551616 ^ k * x)) = 18446744073709551616 ^ s * (2 ^ t * wval (us.take k)) + 18446744073709551616 ^ (s + k) * (x * 2 ^ t) := by
      rw [Nat.mul_add, Nat.mul_add, Nat.pow_add, Nat.mul_left_comm (2 ^ t), Nat.mul_comm (2 ^ t) x, Nat.mul_assoc]
    omega
theorem wshl_end {us zs : List Nat} {N s t k c : Nat} (h : WShlAt us zs N s t k c) (hk : us.length ≤ k) (hN : s + k < N) (ht : t < 64) : WDig (zs.set (s + k) c) ∧ wval (zs.set (s + k) c) = wval us * 2 ^ (64 * s + t) := by
  obtain ⟨h1, h2, h3, h4, h5⟩ := h
  have hc : c < 18446744073709551616 := Nat.lt_of_lt_of_le h3 (by have := Nat.pow_le_pow_right (n := 2) (by omega) (by omega : t ≤ 64); omega)
  have hs := wval_set zs (s + k) c (by omega)
  rw [h4 _ (Nat.le_refl _), Nat.mul_zero, Nat.add_zero] at hs
  refine ⟨wDig_set h2 (by omega) hc, ?_⟩
  rw [hs, h5, wval_take_ge _ _ hk, Nat.pow_add, Nat.pow_mul, ← Nat.mul_assoc, Nat.mul_comm (wval us)]

set_option maxRecDepth 100000 in
set_option maxHeartbeats 3200000 in
theorem shl_w (w : World) (u : Value) (z : Int) (m k : Nat) (hz : (k : Int) = min (max z 0) 1048576) (hu : InW w u m) :
    Calls Try.prog 85 #[u, .int .i64 z] w fun e w' => ∃ r, e = .returned r ∧ NewW w.heap.size w' r (m * 2 ^ k) ∧ Below w.heap.size w w' := by
  obtain ⟨ga, ba, oa, ca, us, rA, cA, vA, lA, CA⟩ := trim_in hu
  have CA := hide CA
  obtain ⟨la, hla⟩ : ∃ la, la = us.length := ⟨_, rfl⟩
  have hzero := wval_zero cA
  rw [vA] at hzero
  rw [← hla] at CA lA hzero
  obtain ⟨s, hs⟩ : ∃ s, s = k / 64 := ⟨_, rfl⟩
  obtain ⟨t, ht⟩ : ∃ t, t = k % 64 := ⟨_, rfl⟩
  have CW := hide (fun w => wp_any z k s t w hz hs ht)
  have hkb : k ≤ 1048576 := by omega
  have hsb : s ≤ 16384 := by omega
  have ht64 : t < 64 := by omega
  have hke : k = 64 * s + t := by omega
  have HKE := hide hke
  have HLA := hide hla
  have HVA := hide vA
  by_cases h0 : la = 0
  · have hm0 : m = 0 := hzero.1 h0
    subst hm0 h0
    clear hu hla hzero hs ht hke hz
    go_enter Try.func85, Try.ntmps85
    go_wp2_with fail
    refine (unhide CA).mono ?_
    rintro e w1 ⟨rfl, rfl⟩
    clear CA
    go_wp2
    go_ret
    exact ⟨_, rfl, by rw [Nat.zero_mul]; exact newW_nil _ _, Below.refl _ _⟩
  · have hnz : ((la : Int) == 0) = false := by rw [beq_eq_false_iff_ne]; omega
    obtain ⟨N, hN⟩ : ∃ N, N = s + la + 1 := ⟨_, rfl⟩
    have hmk := make_nat N N ((s : Int) + (la : Int) + 1) (by omega) rfl (by omega)
    have hNb : N ≤ 1073758209 := by omega
    have hNl : s + la + 1 ≤ N := by omega
    obtain ⟨t2, ht2⟩ : ∃ t2, t2 = 64 - t := ⟨_, rfl⟩
    have et2 : (64 : Int) - (t : Int) = (t2 : Int) := by omega
    have HT2 := hide ht2
    have hk0 : Blk (w.alloc (.cells (zlist N).toArray 28)) w.heap.size (List.replicate N 0) := heap_alloc_new w _
    have hb0 : Below w.heap.size w (w.alloc (.cells (zlist N).toArray 28)) := (Below.refl _ _).alloc (Nat.le_refl _) _
    have HK0 := hide hk0
    have HB0 := hide hb0
    clear hu hla hzero hs ht hke hz h0 hN ht2 hk0 hb0
    go_enter Try.func85, Try.ntmps85
    go_wp2_with fail
    refine (unhide CA).mono ?_
    rintro e w1 ⟨rfl, rfl⟩
    clear CA
    go_wp2_with fail
    refine (unhide CW _).mono ?_
    rintro e w2 ⟨rfl, rfl⟩
    clear CW
    go_wp2
    clear hmk
    go_loopw [8, 29] (fun c i wr => ∃ (q cy : Nat) (zs : List Nat), q ≤ la ∧ c = .int .u64 (cy : Int) ∧ i = .int .i64 (q : Int) ∧ cy < 18446744073709551616 ∧ zs.length = N ∧ Blk wr w2.heap.size zs ∧ Hid (WShlAt us zs N s t q cy) ∧ Below w2.heap.size w2 wr)
      (fun _ i _ => la - (intOf i).toNat)
    case atStart => exact ⟨0, 0, List.replicate N 0, Nat.zero_le _, rfl, rfl, by omega, by simp, unhide HK0, wshl_start us N s t, unhide HB0⟩
    case round =>
      obtain ⟨q, cy, zs, hq, rfl, rfl, hcy, hzl, hBlk, hAt, hnx⟩ := hrel
      clear HK0 HB0
      by_cases h1 : q < la
      · obtain rfl := rA.head (by rw [← unhide HLA]; omega)
        obtain ⟨x, hx⟩ : ∃ x : Nat, x = us.getD q 0 := ⟨_, rfl⟩
        have hx64 : x < 18446744073709551616 := by rw [hx]; exact cA.1 q
        have cx : wr.cell? ⟨ba, oa + q, none⟩ = some (.int .u64 (x : Int)) := by rw [hx]; exact (hnx.cell (by exact rA.lt (by rw [← unhide HLA]; omega))).trans (rA.cell q (by rw [← unhide HLA]; omega))
        have cr : wr.cell? ⟨w2.heap.size, s + q, none⟩ = some (.int .u64 (((zs.getD (s + q) 0 : Nat)) : Int)) := hBlk.cell (s + q) (by omega)
        have fr := hBlk.frozen (s + q)
        have hc3 := hAt.out.2.2.1
        obtain ⟨e1, e2, e3, e4⟩ := up_word hx64 ht64 hc3
        obtain ⟨l, hl⟩ : ∃ l, l = x * 2 ^ t % 18446744073709551616 := ⟨_, rfl⟩
        have el := shl_mod x t
        rw [← hl] at el e1 e2
        obtain ⟨d, hd⟩ : ∃ d, d = l + cy := ⟨_, rfl⟩
        have hl64 : l < 18446744073709551616 := by omega
        have eo := bits_or_u64_nat l cy hl64 hcy
        rw [e1, ← hd] at eo
        obtain ⟨c2, hc2⟩ : ∃ c2, c2 = x / 2 ^ t2 := ⟨_, rfl⟩
        have es2 := shr_eq x t2
        rw [← hc2] at es2
        have H2 := hide (wshl_step (d := d) (c2 := c2) hAt.out (by omega) hx hx64 ht64 (by rw [hd, hl]) (by rw [hc2, unhide HT2]))
        have hc64 : c2 < 18446744073709551616 := by rw [hc2]; exact Nat.lt_of_le_of_lt (Nat.div_le_self _ _) hx64
        clear hx hl hd hc2 e1 e2 e3 e4 hc3 hAt
        go_wp2
        exact ⟨⟨q + 1, c2, zs.set (s + q) d, by omega, rfl, by go_num, hc64, by simpa using hzl, hBlk.set (s + q) d, H2, hnx.setCell (Nat.le_refl _) _⟩, by simp [intOf]; omega⟩
      · obtain rfl : q = la := by omega
        have cr : wr.cell? ⟨w2.heap.size, s + q, none⟩ = some (.int .u64 (((zs.getD (s + q) 0 : Nat)) : Int)) := hBlk.cell (s + q) (by omega)
        have fr := hBlk.frozen (s + q)
        obtain ⟨hd, hv⟩ := wshl_end hAt.out (by rw [← unhide HLA]; omega) (by omega) ht64
        rw [unhide HVA, ← unhide HKE] at hv
        have k5 := hBlk.set (s + q) cy
        have HV := hide hv
        have HK5 := hide k5
        have HB5 := hide (hnx.setCell (p := ⟨w2.heap.size, s + q, none⟩) (Nat.le_refl _) (.int .u64 (cy : Int)))
        have HL5 : Hid ((zs.set (s + q) cy).length = N) := by show _ = _; simpa using hzl
        clear hv k5 hAt
        go_wp2_with fail
        refine (trim_blk (B := w2.heap.size) (unhide HL5) (by omega) (Nat.le_refl _) (unhide HK5) hd).mono ?_
        rintro e w6 ⟨r, rfl, hr, rfl⟩
        rw [unhide HV] at hr
        go_wp2
        go_ret
        exact ⟨r, rfl, hr, unhide HB5⟩

end Go.Proofs.Yteinonbijiokmaa

/- Shr of limb. -/
namespace Go.Proofs.Yteinonbijiokmaa
open Go.RowKit

theorem Rep.dropS {w : World} {b o cap s : Nat} {xs : List Nat} (h : Rep w (some ⟨b, o, none⟩) b o cap xs) (hs : s ≤ xs.length) : Rep w (some ⟨b, o + s, none⟩) b (o + s) (cap - s) (xs.drop s) := by
  have hl : (xs.drop s).length = xs.length - s := by simp
  refine ⟨fun _ => rfl, by have := h.room; omega, fun j hj => ?_⟩
  have e : (xs.drop s).getD j 0 = xs.getD (s + j) 0 := by simp [List.getD_eq_getElem?_getD]
  rw [e, Nat.add_assoc]
  exact h.cell (s + j) (by omega)

/-- A word moved down by t places: r comes in from above. -/
theorem down_word {c r t : Nat} (hc : c < 18446744073709551616) (ht : t < 64) (hr : r < 2 ^ t) :
    (c / 2 ^ t) ||| (r * 2 ^ (64 - t)) = (18446744073709551616 * r + c) / 2 ^ t ∧ r * 2 ^ (64 - t) < 18446744073709551616 ∧ c * 2 ^ (64 - t) % 18446744073709551616 = ((18446744073709551616 * r + c) % 2 ^ t) * 2 ^ (64 - t) := by
  have hp := pow_split t (by omega)
  have hpos : 0 < 2 ^ t := Nat.pow_pos (by omega)
  have h1 : c / 2 ^ t < 2 ^ (64 - t) := by rw [Nat.div_lt_iff_lt_mul hpos, hp]; exact hc
  have h2 : (r + 1) * 2 ^ (64 - t) ≤ 2 ^ t * 2 ^ (64 - t) := Nat.mul_le_mul_right _ hr
  have e0 : 18446744073709551616 * r = 2 ^ t * (r * 2 ^ (64 - t)) := by
    rw [← hp, Nat.mul_comm (2 ^ (64 - t)), Nat.mul_assoc, Nat.mul_comm r]
  have hpos2 : 0 < 2 ^ (64 - t) := Nat.pow_pos (by omega)
  rw [Nat.add_mul, Nat.one_mul, Nat.mul_comm (2 ^ t), hp] at h2
  refine ⟨?_, by omega, ?_⟩
  · rw [Nat.or_comm, or_add r (c / 2 ^ t) (64 - t) h1, e0, Nat.mul_add_div hpos]
  · rw [e0, Nat.mul_add_mod, ← hp, Nat.mul_comm (2 ^ (64 - t)) (2 ^ t), Nat.mul_mod_mul_right]

theorem wval_shr {xs : List Nat} (h : WDig xs) (s t : Nat) : wval (xs.drop s) / 2 ^ t = wval xs / 2 ^ (64 * s + t) := by
  rw [Nat.pow_add, ← Nat.div_div_eq_div_mul, Nat.pow_mul]
  congr 1
  have hv := wval_drop xs s
  have hl := wval_lt h s
  rw [hv, show (2 : Nat) ^ 64 = 18446744073709551616 from rfl, Nat.add_mul_div_left _ _ (wpow_pos s), Nat.div_eq_of_lt hl, Nat.zero_add]

set_option maxRecDepth 100000 in
set_option maxHeartbeats 3200000 in
theorem shr_w (w : World) (u : Value) (z : Int) (m k : Nat) (hz : (k : Int) = min (max z 0) 1048576) (hu : InW w u m) :
    Calls Try.prog 83 #[u, .int .i64 z] w fun e w' => ∃ r, e = .returned r ∧ NewW w.heap.size w' r (m / 2 ^ k) ∧ Below w.heap.size w w' := by
  obtain ⟨ga, ba, oa, ca, xs, rfl, rA, dA, vA, lA⟩ := hu
  obtain ⟨la, hla⟩ : ∃ la, la = xs.length := ⟨_, rfl⟩
  have hroom := rA.room
  rw [← hla] at lA hroom ⊢
  obtain ⟨s, hs⟩ : ∃ s, s = k / 64 := ⟨_, rfl⟩
  obtain ⟨t, ht⟩ : ∃ t, t = k % 64 := ⟨_, rfl⟩
  have CW := hide (fun w => wp_any z k s t w hz hs ht)
  have ht64 : t < 64 := by omega
  have hke : k = 64 * s + t := by omega
  have hval : wval (xs.drop s) / 2 ^ t = m / 2 ^ k := by rw [wval_shr dA, ← hke, vA]
  have HVL := hide hval
  have HLA := hide hla
  by_cases h0 : la ≤ s
  · have h0i : (la : Int) ≤ (s : Int) := by omega
    have hz0 : Hid (m / 2 ^ k = 0) := by
      show _ = _
      rw [← hval, List.drop_eq_nil_of_le (by omega), show wval [] = 0 from rfl, Nat.zero_div]
    clear hla hs ht hke hz hval vA
    go_enter Try.func83, Try.ntmps83
    go_wp2_with fail
    refine (unhide CW _).mono ?_
    rintro e w2 ⟨rfl, rfl⟩
    clear CW
    go_wp2
    go_ret
    exact ⟨_, rfl, by rw [unhide hz0]; exact newW_nil _ _, Below.refl _ _⟩
  · have h0i : ¬ (la : Int) ≤ (s : Int) := by omega
    obtain rfl := rA.head (by omega)
    obtain ⟨M, hM⟩ : ∃ M, la = s + M := ⟨la - s, by omega⟩
    have hMs : la - s = M := by omega
    have hcs : ¬ ca = s := by omega
    have hsi : 0 ≤ (s : Int) ∧ (s : Int) ≤ (la : Int) := by omega
    obtain ⟨cc, hcc⟩ : ∃ cc, cc = ca - s := ⟨_, rfl⟩
    have rD := rA.dropS (s := s) (by omega)
    rw [← hcc] at rD
    have hcc2 : ca - s = cc := hcc.symm
    have dD := wDig_drop dA s
    have hdl : (xs.drop s).length = M := by simp; omega
    obtain ⟨t2, ht2⟩ : ∃ t2, t2 = 64 - t := ⟨_, rfl⟩
    have et2 : (64 : Int) - (t : Int) = (t2 : Int) := by omega
    have HT2 := hide ht2
    have hp0 : 0 < 2 ^ t := Nat.pow_pos (by omega)
    have hp64 : 2 ^ t < 18446744073709551616 := by
      have := Nat.pow_le_pow_right (n := 2) (by omega) (by omega : t ≤ 63)
      omega
    have HP64 := hide hp64
    have hMb : M ≤ 1073741824 := by omega
    clear hla hs ht hke hz hval vA ht2 hM hcc hp64 rA hroom dA
    generalize xs.drop s = os at *
    have HDL := hide hdl
    clear hdl
    go_enter Try.func83, Try.ntmps83
    go_wp2_with fail
    refine (unhide CW _).mono ?_
    rintro e w2 ⟨rfl, rfl⟩
    clear CW
    go_wp2_with fail
    refine (copyOf_any _ _ ba (oa + s) cc M os (unhide HDL) (by omega) rD).mono ?_
    rintro e w3 ⟨rfl, k3, b3⟩
    go_wp2
    go_loopw [8, 9] (fun c i wr => ∃ (q r cy : Nat) (zs : List Nat), q ≤ M ∧ c = .int .u64 (cy : Int) ∧ i = .int .i64 ((q : Int) - 1) ∧ cy < 18446744073709551616 ∧ zs.length = M ∧ Blk wr w2.heap.size zs ∧ Hid (cy = r * 2 ^ t2) ∧ Hid (WDivAt os zs (2 ^ t) q r) ∧ Below w2.heap.size w2 wr)
      (fun _ i _ => (intOf i + 1).toNat)
    case atStart => exact ⟨M, 0, 0, os, Nat.le_refl _, rfl, rfl, by omega, unhide HDL, k3, by show 0 = 0 * _; rw [Nat.zero_mul], by rw [← unhide HDL]; exact wdiv_start dD hp0, b3⟩
    case round =>
      obtain ⟨q, r, cy, zs, hq, rfl, rfl, hcy, hzl, hBlk, hCy, hAt, hnx⟩ := hrel
      by_cases h1 : q = 0
      · subst h1
        obtain ⟨e1, _⟩ := wdiv_end hAt.out
        rw [unhide HVL] at e1
        have hd := hAt.out.2.1
        have HE := hide e1
        clear e1 hAt hCy
        go_wp2_with fail
        refine (trim_blk (B := w2.heap.size) hzl (by omega) (Nat.le_refl _) hBlk hd).mono ?_
        rintro e w6 ⟨v, rfl, hv, rfl⟩
        rw [unhide HE] at hv
        go_wp2
        go_ret
        exact ⟨v, rfl, hv, hnx⟩
      · obtain ⟨j, rfl⟩ : ∃ j, q = j + 1 := ⟨q - 1, by omega⟩
        have ej : ((j + 1 : Nat) : Int) - 1 = (j : Int) := by omega
        rw [ej]
        obtain ⟨c, hc⟩ : ∃ c : Nat, c = zs.getD j 0 := ⟨_, rfl⟩
        have cr : wr.cell? ⟨w2.heap.size, j, none⟩ = some (.int .u64 (c : Int)) := by rw [hc]; exact hBlk.cell j (by omega)
        have fr := hBlk.frozen j
        have hc64 : c < 18446744073709551616 := by rw [hc]; exact hAt.out.2.1 j
        obtain ⟨Q, hQ⟩ : ∃ Q, Q = (18446744073709551616 * r + c) / 2 ^ t := ⟨_, rfl⟩
        obtain ⟨R, hR⟩ : ∃ R, R = (18446744073709551616 * r + c) % 2 ^ t := ⟨_, rfl⟩
        obtain ⟨H2, hq64⟩ := wdiv_step hAt.out (by rw [unhide HDL]; omega) (unhide HP64) hc hQ hR
        obtain ⟨f1, f2, f3⟩ := down_word hc64 ht64 hAt.out.2.2.1
        rw [← unhide HT2, ← hCy.out, ← hQ] at f1
        rw [← unhide HT2, ← hR] at f3
        have H2 := hide H2
        obtain ⟨a, ha⟩ : ∃ a, a = c / 2 ^ t := ⟨_, rfl⟩
        have es := shr_eq c t
        rw [← ha] at es f1
        have ha64 : a < 18446744073709551616 := by rw [ha]; exact Nat.lt_of_le_of_lt (Nat.div_le_self _ _) hc64
        have eo := bits_or_u64_nat a cy ha64 hcy
        rw [f1] at eo
        have el := shl_mod c t2
        obtain ⟨c2, hc2⟩ : ∃ c2, c2 = c * 2 ^ t2 % 18446744073709551616 := ⟨_, rfl⟩
        rw [← hc2] at el f3
        have hc2b : c2 < 18446744073709551616 := by rw [hc2]; exact Nat.mod_lt _ (by omega)
        have HF3 := hide f3
        clear hc hQ hR f1 f2 f3 ha hc2 hAt hCy
        go_wp2
        exact ⟨⟨j, R, c2, zs.set j Q, by omega, rfl, by go_num, hc2b, by simpa using hzl, hBlk.set j Q, HF3, H2, hnx.setCell (Nat.le_refl _) _⟩, by simp [intOf]⟩

end Go.Proofs.Yteinonbijiokmaa
