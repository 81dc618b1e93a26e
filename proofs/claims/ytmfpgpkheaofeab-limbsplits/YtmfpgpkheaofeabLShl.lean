/- wordsAndPlaces and Shl of limb. -/
import Derived.Test.YtmfpgpkheaofeabJoin
import Derived.Test.YtmfpgpkheaofeabD64Plain
namespace Go.Proofs.Ytmfpgpkheaofeab
open Go.RowKit

theorem ret_ii {a b c d : Int} (h : a = b) (h' : c = d) : Ending.returned (.tuple #[.int .i64 a, .int .i64 c]) = .returned (.tuple #[.int .i64 b, .int .i64 d]) := by rw [h, h']

set_option maxHeartbeats 400000 in
theorem wp_any (z : Int) (k s t : Nat) (w : World) (hk : (k : Int) = min (max z 0) 1048576) (hs : s = k / 64) (ht : t = k % 64) :
    Calls Try.prog 52 #[.int .i64 z] w fun e w' => e = .returned (.tuple #[.int .i64 (s : Int), .int .i64 (t : Int)]) ∧ w' = w := by
  have CW := hide (fun w => within_lim z 1048576 k w hk)
  have es : (k : Int) / 64 = (s : Int) := by omega
  have et : (k : Int) % 64 = (t : Int) := by omega
  have hkb : k ≤ 1048576 := by omega
  have ES := hide es
  have ET := hide et
  clear hk hs ht
  go_enter Try.func52, Try.ntmps52
  go_wp2_with fail
  refine (unhide CW _).mono ?_
  rintro e w1 ⟨rfl, rfl⟩
  go_wp2
  go_ret2
  exact ⟨ret_ii (by first | rfl | exact unhide ES) (by first | rfl | exact unhide ET), rfl⟩

/-- A word moved up by t places: what stays in it, what goes out. -/
theorem up_word {x t c : Nat} (hx : x < 18446744073709551616) (ht : t < 64) (hc : c < 2 ^ t) :
    ((x * 2 ^ t) % 18446744073709551616) ||| c = (x * 2 ^ t) % 18446744073709551616 + c ∧ (x * 2 ^ t) % 18446744073709551616 + c < 18446744073709551616 ∧ x / 2 ^ (64 - t) < 2 ^ t ∧
      (x * 2 ^ t) % 18446744073709551616 + 18446744073709551616 * (x / 2 ^ (64 - t)) = x * 2 ^ t := by
  have hp := pow_split t (by omega)
  have hpos : 0 < 2 ^ t := Nat.pow_pos (by omega)
  have hpos2 : 0 < 2 ^ (64 - t) := Nat.pow_pos (by omega)
  have e1 : x * 2 ^ t % 18446744073709551616 = x % 2 ^ (64 - t) * 2 ^ t := by
    rw [← hp, Nat.mul_mod_mul_right]
  have e2 : x / 2 ^ (64 - t) < 2 ^ t := by rw [Nat.div_lt_iff_lt_mul hpos2, Nat.mul_comm, hp]; exact hx
  have hm := Nat.mod_lt x hpos2
  have hd := Nat.div_add_mod x (2 ^ (64 - t))
  refine ⟨?_, ?_, e2, ?_⟩
  · rw [e1]; exact or_add _ _ _ hc
  · rw [e1]
    have h2 : (x % 2 ^ (64 - t) + 1) * 2 ^ t ≤ 2 ^ (64 - t) * 2 ^ t := Nat.mul_le_mul_right _ hm
    rw [Nat.add_mul, Nat.one_mul, hp] at h2
    omega
  · rw [e1, ← hp]
    have : x * 2 ^ t = (2 ^ (64 - t) * (x / 2 ^ (64 - t)) + x % 2 ^ (64 - t)) * 2 ^ t := by rw [hd]
    rw [this, Nat.add_mul, Nat.mul_right_comm]
    omega

/-- k words are moved up by s words and t places; c is carried. -/
def WShlAt (us zs : List Nat) (N s t k c : Nat) : Prop := zs.length = N ∧ WDig zs ∧ c < 2 ^ t ∧ (∀ j, s + k ≤ j → zs.getD j 0 = 0) ∧ wval zs + 18446744073709551616 ^ (s + k) * c = 18446744073709551616 ^ s * (2 ^ t * wval (us.take k))
theorem wshl_start (us : List Nat) (N s t : Nat) : WShlAt us (List.replicate N 0) N s t 0 0 := by
  refine ⟨by simp, (wzeros N).1, Nat.pow_pos (by omega), fun j _ => ?_, by rw [(wzeros N).2]; simp [wval]⟩
  simp only [List.getD_eq_getElem?_getD, List.getElem?_replicate]; split <;> rfl
theorem wshl_step {us zs : List Nat} {N s t k c x d c2 : Nat} (h : WShlAt us zs N s t k c) (hk : s + k < N) (hx : x = us.getD k 0) (hx64 : x < 18446744073709551616) (ht : t < 64) (hd : d = (x * 2 ^ t) % 18446744073709551616 + c) (hc2 : c2 = x / 2 ^ (64 - t)) :
    WShlAt us (zs.set (s + k) d) N s t (k + 1) c2 := by
  obtain ⟨h1, h2, h3, h4, h5⟩ := h
  obtain ⟨e1, e2, e3, e4⟩ := up_word hx64 ht h3
  refine ⟨by simpa using h1, wDig_set h2 (by omega) (by rw [hd]; exact e2), by rw [hc2]; exact e3, fun j hj => ?_, ?_⟩
  · rw [getD_set _ _ _ _ (by omega), if_neg (by omega)]; exact h4 j (by omega)
  · have hs := wval_set zs (s + k) d (by omega)
    rw [h4 _ (Nat.le_refl _), Nat.mul_zero, Nat.add_zero] at hs
    rw [hs, wval_take_succ, ← hx, ← Nat.add_assoc s k 1, Nat.pow_succ, Nat.mul_assoc]
    have e5 : 18446744073709551616 ^ (s + k) * d + 18446744073709551616 ^ (s + k) * (18446744073709551616 * c2) = 18446744073709551616 ^ (s + k) * c + 18446744073709551616 ^ (s + k) * (x * 2 ^ t) := by
      rw [← Nat.mul_add, ← Nat.mul_add, hd, hc2]
      congr 1
      omega
    have e6 : 18446744073709551616 ^ s * (2 ^ t * (wval (us.take k) + 18446744073709551616 ^ k * x)) = 18446744073709551616 ^ s * (2 ^ t * wval (us.take k)) + 18446744073709551616 ^ (s + k) * (x * 2 ^ t) := by
      rw [Nat.mul_add, Nat.mul_add, Nat.pow_add, Nat.mul_left_comm (2 ^ t), Nat.mul_comm (2 ^ t) x, Nat.mul_assoc]
    omega
theorem wshl_end {us zs : List Nat} {N s t k c : Nat} (h : WShlAt us zs N s t k c) (hk : us.length ≤ k) (hN : s + k < N) (ht : t < 64) : WDig (zs.set (s + k) c) ∧ wval (zs.set (s + k) c) = wval us * 2 ^ (64 * s + t) := by
  obtain ⟨h1, h2, h3, h4, h5⟩ := h
  have hc : c < 18446744073709551616 := Nat.lt_of_lt_of_le h3 (by have := Nat.pow_le_pow_right (n := 2) (by omega) (by omega : t ≤ 64); omega)
  have hs := wval_set zs (s + k) c (by omega)
  rw [h4 _ (Nat.le_refl _), Nat.mul_zero, Nat.add_zero] at hs
  refine ⟨wDig_set h2 (by omega) hc, ?_⟩
  rw [hs, h5, wval_take_ge _ _ hk, Nat.pow_add, Nat.pow_mul, ← Nat.mul_assoc, Nat.mul_comm (wval us)]

set_option maxRecDepth 100000 in
set_option maxHeartbeats 3200000 in
theorem shl_w (w : World) (u : Value) (z : Int) (m k : Nat) (hz : (k : Int) = min (max z 0) 1048576) (hu : InW w u m) :
    Calls Try.prog 30 #[u, .int .i64 z] w fun e w' => ∃ r, e = .returned r ∧ NewW w.heap.size w' r (m * 2 ^ k) ∧ Below w.heap.size w w' := by
  obtain ⟨ga, ba, oa, ca, us, rA, cA, vA, lA, CA⟩ := trim_in hu
  have CA := hide CA
  obtain ⟨la, hla⟩ : ∃ la, la = us.length := ⟨_, rfl⟩
  have hzero := wval_zero cA
  rw [vA] at hzero
  rw [← hla] at CA lA hzero
  obtain ⟨s, hs⟩ : ∃ s, s = k / 64 := ⟨_, rfl⟩
  obtain ⟨t, ht⟩ : ∃ t, t = k % 64 := ⟨_, rfl⟩
  have CW := hide (fun w => wp_any z k s t w hz hs ht)
  have hkb : k ≤ 1048576 := by omega
  have hsb : s ≤ 16384 := by omega
  have ht64 : t < 64 := by omega
  have hke : k = 64 * s + t := by omega
  have HKE := hide hke
  have HLA := hide hla
  have HVA := hide vA
  by_cases h0 : la = 0
  · have hm0 : m = 0 := hzero.1 h0
    subst hm0 h0
    clear hu hla hzero hs ht hke hz
    go_enter Try.func30, Try.ntmps30
    go_wp2_with fail
    refine (unhide CA).mono ?_
    rintro e w1 ⟨rfl, rfl⟩
    clear CA
    go_wp2
    go_ret
    exact ⟨_, rfl, by rw [Nat.zero_mul]; exact newW_nil _ _, Below.refl _ _⟩
  · have hnz : ((la : Int) == 0) = false := by rw [beq_eq_false_iff_ne]; omega
    obtain ⟨N, hN⟩ : ∃ N, N = s + la + 1 := ⟨_, rfl⟩
    have hmk := make_nat N N ((s : Int) + (la : Int) + 1) (by omega) rfl (by omega)
    have hNb : N ≤ 1073758209 := by omega
    have hNl : s + la + 1 ≤ N := by omega
    obtain ⟨t2, ht2⟩ : ∃ t2, t2 = 64 - t := ⟨_, rfl⟩
    have et2 : (64 : Int) - (t : Int) = (t2 : Int) := by omega
    have HT2 := hide ht2
    have hk0 : Blk (w.alloc (.cells (zlist N).toArray 45)) w.heap.size (List.replicate N 0) := heap_alloc_new w _
    have hb0 : Below w.heap.size w (w.alloc (.cells (zlist N).toArray 45)) := (Below.refl _ _).alloc (Nat.le_refl _) _
    have HK0 := hide hk0
    have HB0 := hide hb0
    clear hu hla hzero hs ht hke hz h0 hN ht2 hk0 hb0
    go_enter Try.func30, Try.ntmps30
    go_wp2_with fail
    refine (unhide CA).mono ?_
    rintro e w1 ⟨rfl, rfl⟩
    clear CA
    go_wp2_with fail
    refine (unhide CW _).mono ?_
    rintro e w2 ⟨rfl, rfl⟩
    clear CW
    go_wp2
    clear hmk
    go_loopw [8, 29] (fun c i wr => ∃ (q cy : Nat) (zs : List Nat), q ≤ la ∧ c = .int .u64 (cy : Int) ∧ i = .int .i64 (q : Int) ∧ cy < 18446744073709551616 ∧ zs.length = N ∧ Blk wr w2.heap.size zs ∧ Hid (WShlAt us zs N s t q cy) ∧ Below w2.heap.size w2 wr)
      (fun _ i _ => la - (intOf i).toNat)
    case atStart => exact ⟨0, 0, List.replicate N 0, Nat.zero_le _, rfl, rfl, by omega, by simp, unhide HK0, wshl_start us N s t, unhide HB0⟩
    case round =>
      obtain ⟨q, cy, zs, hq, rfl, rfl, hcy, hzl, hBlk, hAt, hnx⟩ := hrel
      clear HK0 HB0
      by_cases h1 : q < la
      · obtain rfl := rA.head (by rw [← unhide HLA]; omega)
        obtain ⟨x, hx⟩ : ∃ x : Nat, x = us.getD q 0 := ⟨_, rfl⟩
        have hx64 : x < 18446744073709551616 := by rw [hx]; exact cA.1 q
        have cx : wr.cell? ⟨ba, oa + q, none⟩ = some (.int .u64 (x : Int)) := by rw [hx]; exact (hnx.cell (by exact rA.lt (by rw [← unhide HLA]; omega))).trans (rA.cell q (by rw [← unhide HLA]; omega))
        have cr : wr.cell? ⟨w2.heap.size, s + q, none⟩ = some (.int .u64 (((zs.getD (s + q) 0 : Nat)) : Int)) := hBlk.cell (s + q) (by omega)
        have fr := hBlk.frozen (s + q)
        have hc3 := hAt.out.2.2.1
        obtain ⟨e1, e2, e3, e4⟩ := up_word hx64 ht64 hc3
        obtain ⟨l, hl⟩ : ∃ l, l = x * 2 ^ t % 18446744073709551616 := ⟨_, rfl⟩
        have el := shl_mod x t
        rw [← hl] at el e1 e2
        obtain ⟨d, hd⟩ : ∃ d, d = l + cy := ⟨_, rfl⟩
        have hl64 : l < 18446744073709551616 := by omega
        have eo := bits_or_u64_nat l cy hl64 hcy
        rw [e1, ← hd] at eo
        obtain ⟨c2, hc2⟩ : ∃ c2, c2 = x / 2 ^ t2 := ⟨_, rfl⟩
        have es2 := shr_eq x t2
        rw [← hc2] at es2
        have H2 := hide (wshl_step (d := d) (c2 := c2) hAt.out (by omega) hx hx64 ht64 (by rw [hd, hl]) (by rw [hc2, unhide HT2]))
        have hc64 : c2 < 18446744073709551616 := by rw [hc2]; exact Nat.lt_of_le_of_lt (Nat.div_le_self _ _) hx64
        clear hx hl hd hc2 e1 e2 e3 e4 hc3 hAt
        go_wp2
        exact ⟨⟨q + 1, c2, zs.set (s + q) d, by omega, rfl, by go_num, hc64, by simpa using hzl, hBlk.set (s + q) d, H2, hnx.setCell (Nat.le_refl _) _⟩, by simp [intOf]; omega⟩
      · obtain rfl : q = la := by omega
        have cr : wr.cell? ⟨w2.heap.size, s + q, none⟩ = some (.int .u64 (((zs.getD (s + q) 0 : Nat)) : Int)) := hBlk.cell (s + q) (by omega)
        have fr := hBlk.frozen (s + q)
        obtain ⟨hd, hv⟩ := wshl_end hAt.out (by rw [← unhide HLA]; omega) (by omega) ht64
        rw [unhide HVA, ← unhide HKE] at hv
        have k5 := hBlk.set (s + q) cy
        have HV := hide hv
        have HK5 := hide k5
        have HB5 := hide (hnx.setCell (p := ⟨w2.heap.size, s + q, none⟩) (Nat.le_refl _) (.int .u64 (cy : Int)))
        have HL5 : Hid ((zs.set (s + q) cy).length = N) := by show _ = _; simpa using hzl
        clear hv k5 hAt
        go_wp2_with fail
        refine (trim_blk (B := w2.heap.size) (unhide HL5) (by omega) (Nat.le_refl _) (unhide HK5) hd).mono ?_
        rintro e w6 ⟨r, rfl, hr, rfl⟩
        rw [unhide HV] at hr
        go_wp2
        go_ret
        exact ⟨r, rfl, hr, unhide HB5⟩

end Go.Proofs.Ytmfpgpkheaofeab
