/- WordSums: what the law's walk comes to. -/
import Derived.Test.YtahmnjpnokhbpaaKeep
import Derived.Test.YtahmnjpnokhbpaaSumDot
import Derived.Test.YtahmnjpnokhbpaaLow
import Derived.Test.YtahmnjpnokhbpaaSmall
import Derived.Test.YtahmnjpnokhbpaaCmp
import Derived.Test.YtahmnjpnokhbpaaAdd
import Derived.Deep.RegionWith
namespace Go.Proofs.Ytahmnjpnokhbpaa
open Go.RowKit

theorem cut_rep {w : World} {ga : Option Addr} {b o cap : Nat} {xs : List Nat} (h : Rep w ga b o cap xs) (m k : Nat) (hk : k = min xs.length m) : (xs.take k).length = k ∧ Rep w ga b o cap (xs.take k) := by
  have hl : k ≤ xs.length := by omega
  exact ⟨by simp; omega, h.take k hl⟩

theorem take_words {xs : List Nat} (h : ∀ j, xs.getD j 0 < 18446744073709551616) (k : Nat) : ∀ j, (xs.take k).getD j 0 < 18446744073709551616 := by
  intro j
  simp only [List.getD_eq_getElem?_getD, List.getElem?_take]
  split
  · have := h j; simpa [List.getD_eq_getElem?_getD] using this
  · simp

theorem lent_rep {w : World} {base t g n : Nat} {xs : List Nat} {F : Nat} (h : w.ownsRow base t 1 (.slice (some ⟨g, 0, none⟩) (n + 4) (n + 4)) (n + 4) (cellsOf (xs ++ List.replicate 4 F))) (hl : xs.length = n) : Rep w (some ⟨g, 0, none⟩) g 0 (n + 4) xs ∧ Rep w (some ⟨g, 0, none⟩) g 0 (n + 4) (xs ++ List.replicate 4 F) := by
  have h1 := (rep_of_owns h).2
  refine ⟨?_, h1⟩
  have h2 := h1.take n (by simp; omega)
  rw [List.take_append_of_le_length (by omega), List.take_of_length_le (by omega)] at h2
  exact h2

theorem Rep.next {w w' : World} {ga : Option Addr} {b o cap : Nat} {xs : List Nat} (h : Rep w ga b o cap xs) (hb : Below w.heap.size w w') : Rep w' ga b o cap xs := h.below hb (Nat.le_refl _)

theorem Rep.drew {w : World} {ga : Option Addr} {b o cap : Nat} {xs : List Nat} (h : Rep w ga b o cap xs) : Rep w.drew ga b o cap xs := ⟨h.head, h.room, h.cell⟩
theorem IsN.drew {w : World} {n : Nat} {v : Value} (h : IsN w v n) : IsN w.drew v n := by
  obtain ⟨ga, b, o, cap, xs, hv, hr, hc, hn⟩ := h
  exact ⟨ga, b, o, cap, xs, hv, hr.drew, hc, hn⟩

theorem low128 (w : World) (u : Value) (m : Nat) (hm : m < 4294967296 ^ 4) (hu : IsN w u m) : Calls Try.prog 30 #[u, .int .i64 128] w fun e w' => ∃ r, e = .returned r ∧ IsN w' r m ∧ Below w.heap.size w w' := by
  have h := low_small w u m 4 (by omega) hm hu
  rw [show (32 * ((4 : Nat) : Int)) = 128 from by decide] at h
  exact h
theorem low192 (w : World) (u : Value) (m : Nat) (hm : m < 4294967296 ^ 6) (hu : IsN w u m) : Calls Try.prog 30 #[u, .int .i64 192] w fun e w' => ∃ r, e = .returned r ∧ IsN w' r m ∧ Below w.heap.size w w' := by
  have h := low_small w u m 6 (by omega) hm hu
  rw [show (32 * ((6 : Nat) : Int)) = 192 from by decide] at h
  exact h

theorem dsum_stop (us vs : List Nat) (m : Nat) (h : vs.length ≤ m) : ∀ j, dsum us vs (m + j) = dsum us vs m
  | 0 => rfl
  | j + 1 => by
    rw [← Nat.add_assoc]
    simp only [dsum]
    rw [dsum_stop us vs m h j, getD_ge (xs := vs) (by omega), Nat.mul_zero, Nat.add_zero]

set_option maxRecDepth 100000 in
set_option maxHeartbeats 6400000 in
theorem wordSums_any (ga gb : Option Addr) (ba oa bb ob ca cb la lb : Nat) (xs ys : List Nat) (w : World) (hx : xs.length = la) (hy : ys.length = lb)
    (hA : Rep w ga ba oa ca xs) (hB : Rep w gb bb ob cb ys) (wx : ∀ j, xs.getD j 0 < 18446744073709551616) (wy : ∀ j, ys.getD j 0 < 18446744073709551616) :
    Calls Try.prog 8 #[.slice ga la ca, .slice gb lb cb] w fun e w' => e = .returned (.bool true) ∧ Below w.heap.size w w' := by
  obtain ⟨n, hn⟩ : ∃ n, n = min la 60 := ⟨_, rfl⟩
  obtain ⟨m, hm⟩ : ∃ m, m = min lb 60 := ⟨_, rfl⟩
  have C1 : Hid (∀ w, Calls Try.prog 26 #[.slice ga la ca, .int .i64 60] w fun e w' => e = .returned (.slice ga n ca) ∧ w' = w) := fun w => cut_any w ga la ca 60 n (by have := hA.room; omega) (by omega) hn
  have C2 : Hid (∀ w, Calls Try.prog 26 #[.slice gb lb cb, .int .i64 60] w fun e w' => e = .returned (.slice gb m cb) ∧ w' = w) := fun w => cut_any w gb lb cb 60 m (by have := hB.room; omega) (by omega) hm
  obtain ⟨hxl, hA'⟩ := cut_rep hA 60 n (by rw [hx]; exact hn)
  obtain ⟨hyl, hB'⟩ := cut_rep hB 60 m (by rw [hy]; exact hm)
  have wx' := take_words wx n
  have wy' := take_words wy m
  have hn60 : n ≤ 60 := by omega
  have hm60 : m ≤ 60 := by omega
  clear hn hm hA hB wx wy hx hy
  generalize xs.take n = us at *
  generalize ys.take m = vs at *
  obtain ⟨F, hF⟩ : ∃ F, F = 6148914691236517205 := ⟨_, rfl⟩
  have HF := hide hF
  clear hF
  -- the sums
  obtain ⟨S, hS⟩ : ∃ S, S = wsum us := ⟨_, rfl⟩
  have hSb : S ≤ 60 * 18446744073709551616 := by
    have := wsum_le us wx' n
    rw [List.take_of_length_le (by omega), ← hS] at this
    exact Nat.le_trans this (Nat.mul_le_mul_right _ hn60)
  obtain ⟨mn, hmn⟩ : ∃ mn, mn = min n m := ⟨_, rfl⟩
  obtain ⟨T, hT⟩ : ∃ T, T = dsum us vs mn := ⟨_, rfl⟩
  have hTb : T ≤ 60 * 340282366920938463463374607431768211456 := by
    rw [hT]; exact Nat.le_trans (dsum_le us vs wx' wy' mn) (Nat.mul_le_mul_right _ (by omega))
  have HS := hide hS
  have HT := hide hT
  have HM := hide hmn
  clear hS hT hmn
  go_enter Try.func8, Try.ntmps8
  go_wp2_with fail
  refine (unhide C1 _).mono ?_
  rintro e w1 ⟨rfl, rfl⟩
  go_wp2_with fail
  refine (unhide C2 _).mono ?_
  rintro e w2 ⟨rfl, rfl⟩
  go_wp2_with fail
  refine (lend_any _ ga ba oa ca n us hxl (by omega) hA' F (unhide HF)).mono ?_
  rintro e w3 ⟨rfl, o3, b3⟩
  obtain ⟨r3, t3⟩ := lent_rep o3 hxl
  go_wp2_with fail
  refine (lend_any _ gb bb ob cb m vs hyl (by omega) (hB'.next b3) F (unhide HF)).mono ?_
  rintro e w4 ⟨rfl, o4, b4⟩
  obtain ⟨r4, t4⟩ := lent_rep o4 hyl
  have r3 := r3.next b4
  have t3 := t3.next b4
  have b4 := bstep b3 b4
  clear o3 o4
  obtain ⟨g1, hg1⟩ : ∃ g1, g1 = w2.heap.size := ⟨_, rfl⟩
  obtain ⟨g2, hg2⟩ : ∃ g2, g2 = w3.heap.size := ⟨_, rfl⟩
  rw [← hg1] at r3 t3 ⊢
  rw [← hg2] at r4 t4 ⊢
  clear hg1 hg2
  go_wp2_with fail
  refine (sum_any _ _ g1 0 (n + 4) n us hxl (by omega) r3 wx' _ rfl).mono ?_
  rintro e w5 ⟨rfl, rfl⟩
  rw [← unhide HS, Nat.mod_eq_of_lt (by omega)]
  obtain ⟨S1, hS1⟩ : ∃ S1, S1 = S / 18446744073709551616 := ⟨_, rfl⟩
  obtain ⟨S0, hS0⟩ : ∃ S0, S0 = S % 18446744073709551616 := ⟨_, rfl⟩
  rw [← hS1, ← hS0]
  have hSS : 18446744073709551616 * S1 + S0 = S := by rw [hS1, hS0]; exact Nat.div_add_mod _ _
  have hS1b : S1 < 18446744073709551616 := by omega
  have hS0b : S0 < 18446744073709551616 := by omega
  have HSS := hide hSS
  clear hS1 hS0 hSS
  go_wp2_with fail
  refine (dot_any _ _ _ g1 0 g2 0 (n + 4) (m + 4) n m us vs hxl hyl (by omega) (by omega) r3 r4 wx' wy' mn _ (unhide HM) rfl).mono ?_
  rintro e w6 ⟨p2, p1, p0, rfl, hp2, hp1, hp0, hdot, b6⟩
  rw [← unhide HT, Nat.mod_eq_of_lt (by omega)] at hdot
  have HD : Hid (18446744073709551616 * (18446744073709551616 * p2 + p1) + p0 = T) := by show _ = _; omega
  have t3 := t3.next b6
  have t4 := t4.next b6
  have rA := (hA'.next b4).next b6
  have rB := (hB'.next b4).next b6
  have b6 := bstep b4 b6
  clear hdot r3 r4 hA' hB' b4 b3 C1 C2
  go_wp2
  go_loopw [12, 13, 14] (fun sv dv iv wr => ∃ k : Nat, k ≤ n ∧ iv = .int .i64 (k : Int) ∧ IsN wr sv (wsum (us.take k)) ∧ IsN wr dv (dsum us vs k) ∧ Below w6.heap.size w6 wr) (fun _ _ iv _ => n - (intOf iv).toNat)
  case atStart => exact ⟨0, Nat.zero_le _, rfl, isN_none _, isN_none _, Below.refl _ _⟩
  case round =>
    obtain ⟨k, hk, rfl, ns, nd, hnx⟩ := hrel
    by_cases h1 : k < n
    · obtain rfl := rA.head (by omega)
      obtain ⟨x, hx⟩ : ∃ x : Nat, x = us.getD k 0 := ⟨_, rfl⟩
      have hx64 : x < 18446744073709551616 := by rw [hx]; exact wx' k
      have hba : ba < w6.heap.size := rA.lt (by omega)
      have cx : wr.cell? ⟨ba, oa + k, none⟩ = some (.int .u64 (x : Int)) := by rw [hx]; exact (hnx.cell (by exact hba)).trans (rA.cell k (by omega))
      have hsk : wsum (us.take (k + 1)) = wsum (us.take k) + x := by rw [take_snoc us k (by omega), wsum_snoc, ← hx]
      have hsb : wsum (us.take k) ≤ k * 18446744073709551616 := wsum_le us wx' k
      have HX := hide hx
      have HSK := hide hsk
      clear hx hsk
      generalize wsum (us.take k) = A at *
      go_wp2_with fail
      refine (small_any (x : Int) (by omega) (by omega) _).mono ?_
      rintro e w7 ⟨v7, rfl, n7, b7⟩
      rw [Int.toNat_natCast] at n7
      have nd := nd.next b7
      go_wp2_with fail
      refine (add_any _ _ v7 A x 6 (by omega) (by omega) (by omega) (ns.next b7) n7).mono ?_
      rintro e w8 ⟨v8, rfl, n8, b8⟩
      have nd := nd.next b8
      have hb8 := (hnx.trans ((bstep b7 b8).mono hnx.size))
      clear ns n7 cx b7 b8
      by_cases h2 : k < m
      · obtain rfl := rB.head (by omega)
        obtain ⟨y, hy⟩ : ∃ y : Nat, y = vs.getD k 0 := ⟨_, rfl⟩
        have hy64 : y < 18446744073709551616 := by rw [hy]; exact wy' k
        have hbb : bb < w6.heap.size := rB.lt (by omega)
        have RA : Hid (w6.cell? ⟨ba, oa + k, none⟩ = some (.int .u64 (x : Int))) := by show _ = _; rw [HX.out]; exact rA.cell k (by omega)
        have RB : Hid (w6.cell? ⟨bb, ob + k, none⟩ = some (.int .u64 (y : Int))) := by show _ = _; rw [hy]; exact rB.cell k (by omega)
        have HDK : Hid (dsum us vs (k + 1) = dsum us vs k + x * y) := by show _ = _; rw [HX.out, hy]; rfl
        have hDb : dsum us vs k ≤ k * 340282366920938463463374607431768211456 := dsum_le us vs wx' wy' k
        have hxy : x * y < 4294967296 ^ 6 := by
          have : x * y ≤ 18446744073709551615 * 18446744073709551615 := Nat.mul_le_mul (by omega) (by omega)
          omega
        have hDk : dsum us vs k < 4294967296 ^ 6 := by omega
        have HXY := hide hxy
        have HDk := hide hDk
        have cx : w8.cell? ⟨ba, oa + k, none⟩ = some (.int .u64 (x : Int)) := (hb8.cell (p := ⟨ba, oa + k, none⟩) hba).trans (unhide RA)
        have cy : w8.cell? ⟨bb, ob + k, none⟩ = some (.int .u64 (y : Int)) := (hb8.cell (p := ⟨bb, ob + k, none⟩) hbb).trans (unhide RB)
        have bl : Below w6.heap.size w6 w8.drew := hb8.drew
        have nd := nd.drew
        have n8 := n8.drew
        clear hy hDb hxy hDk hb8
        generalize dsum us vs k = Dk at *
        go_wp2
        go_region_with (first
          | (go_at_call_of 9 (x : Int); refine (small_any (x : Int) (by omega) (by omega) _).mono ?_; rintro e wA ⟨vA, rfl, nA, bA⟩; rw [Int.toNat_natCast] at nA; have bl := bl.trans (bA.mono bl.size); have cy := (bl.cell (p := ⟨bb, ob + k, none⟩) hbb).trans (unhide RB); have nd := nd.next bA; have n8 := n8.next bA; try have nB := nB.next bA)
          | (go_at_call_of 9 (y : Int); refine (small_any (y : Int) (by omega) (by omega) _).mono ?_; rintro e wB ⟨vB, rfl, nB, bB⟩; rw [Int.toNat_natCast] at nB; have bl := bl.trans (bB.mono bl.size); have cx := (bl.cell (p := ⟨ba, oa + k, none⟩) hba).trans (unhide RA); have nd := nd.next bB; have n8 := n8.next bB; try have nA := nA.next bB)
          | (go_at_call 17; refine (mul_any _ vA vB x y 2 (by omega) (by omega) (by omega) nA nB).mono ?_; rintro e wM ⟨vM, rfl, nM, bM⟩; have bl := bl.trans (bM.mono bl.size); have nd := nd.next bM; have n8 := n8.next bM)
          | (go_at_call 10; refine (add_any _ _ vM Dk (x * y) 6 (by omega) (unhide HDk) (unhide HXY) nd nM).mono ?_; rintro e wD ⟨vD, rfl, nD, bD⟩; have bl := bl.trans (bD.mono bl.size); have n8 := n8.next bD))
        all_goals
          go_wp2
          exact ⟨⟨k + 1, by omega, by go_num, by rw [unhide HSK]; exact n8, by rw [unhide HDK]; exact nD, bl⟩, by simp [intOf]; omega⟩
      · have hdk : dsum us vs (k + 1) = dsum us vs k := by
          simp only [dsum]
          rw [getD_ge (xs := vs) (by omega), Nat.mul_zero, Nat.add_zero]
        have HDK := hide hdk
        clear hdk
        go_wp2
        exact ⟨⟨k + 1, by omega, by go_num, by rw [unhide HSK]; exact n8, by rw [unhide HDK]; exact nd, hb8⟩, by simp [intOf]; omega⟩
    · obtain rfl : k = n := by omega
      have hTn : dsum us vs k = T := by
        rw [unhide HT]
        have hmn := unhide HM
        by_cases h : m < k
        · obtain ⟨j, hj⟩ : ∃ j, k = m + j := ⟨k - m, by omega⟩
          rw [show mn = m from by omega, hj, dsum_stop us vs m (by omega) j]
        · rw [show mn = k from by omega]
      have hSn : wsum (us.take k) = S := by rw [List.take_of_length_le (by omega), unhide HS]
      rw [hSn] at ns
      rw [hTn] at nd
      have t3 := t3.next hnx
      have t4 := t4.next hnx
      have rA := rA.next hnx
      have rB := rB.next hnx
      have bl := bstep b6 hnx
      clear hTn hSn HM HT HS b6 hnx
      go_wp2_with fail
      refine (two_any (S1 : Int) (S0 : Int) (by omega) (by omega) (by omega) (by omega) _).mono ?_
      rintro e x1 ⟨v1, rfl, n1, c1⟩
      rw [Int.toNat_natCast, Int.toNat_natCast, unhide HSS] at n1
      have ns := ns.next c1
      have nd := nd.next c1
      have t3 := t3.next c1
      have t4 := t4.next c1
      have rA := rA.next c1
      have rB := rB.next c1
      have bl := bstep bl c1
      go_wp2_with fail
      refine (low128 _ _ S (by omega) ns).mono ?_
      rintro e x2 ⟨v2, rfl, n2, c2⟩
      have n1 := n1.next c2
      have nd := nd.next c2
      have t3 := t3.next c2
      have t4 := t4.next c2
      have rA := rA.next c2
      have rB := rB.next c2
      have bl := bstep bl c2
      clear ns
      go_wp2_with fail
      refine (cmp_any _ v1 v2 S S 6 (by omega) (by omega) (by omega) n1 n2).mono ?_
      rintro e x3 ⟨rfl, c3⟩
      rw [cmpN_eq rfl]
      have nd := nd.next c3
      have t3 := t3.next c3
      have t4 := t4.next c3
      have rA := rA.next c3
      have rB := rB.next c3
      have bl := bstep bl c3
      clear n1 n2
      go_wp2_with fail
      refine (three_any (p2 : Int) (p1 : Int) (p0 : Int) (by omega) (by omega) (by omega) (by omega) (by omega) (by omega) _).mono ?_
      rintro e x4 ⟨v4, rfl, n4, c4⟩
      rw [Int.toNat_natCast, Int.toNat_natCast, Int.toNat_natCast, unhide HD] at n4
      have nd := nd.next c4
      have t3 := t3.next c4
      have t4 := t4.next c4
      have rA := rA.next c4
      have rB := rB.next c4
      have bl := bstep bl c4
      go_wp2_with fail
      refine (low192 _ _ T (by omega) nd).mono ?_
      rintro e x5 ⟨v5, rfl, n5, c5⟩
      have n4 := n4.next c5
      have t3 := t3.next c5
      have t4 := t4.next c5
      have rA := rA.next c5
      have rB := rB.next c5
      have bl := bstep bl c5
      clear nd
      go_wp2_with fail
      refine (cmp_any _ v4 v5 T T 6 (by omega) (by omega) (by omega) n4 n5).mono ?_
      rintro e x6 ⟨rfl, c6⟩
      rw [cmpN_eq rfl]
      have t3 := t3.next c6
      have t4 := t4.next c6
      have rA := rA.next c6
      have rB := rB.next c6
      have bl := bstep bl c6
      clear n4 n5
      go_wp2_with fail
      refine (intact_any _ ga g1 ba oa ca k us hxl (by omega) rA F (unhide HF) t3).mono ?_
      rintro e x7 ⟨rfl, c7⟩
      have t4 := t4.next c7
      have rB := rB.next c7
      have bl := bstep bl c7
      go_wp2_with fail
      refine (intact_any _ gb g2 bb ob cb m vs hyl (by omega) rB F (unhide HF) t4).mono ?_
      rintro e x8 ⟨rfl, c8⟩
      have bl := bstep bl c8
      go_wp2_with fail
      refine (wakes_any _).mono ?_
      rintro e x9 ⟨rfl, c9⟩
      have bl := bstep bl c9
      go_wp2
      go_ret
      exact ⟨rfl, bl⟩

end Go.Proofs.Ytahmnjpnokhbpaa
