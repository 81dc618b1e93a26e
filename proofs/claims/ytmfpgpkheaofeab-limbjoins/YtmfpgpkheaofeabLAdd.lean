/- Norm, One, Add, Sub of limb. -/
import Derived.Test.YtmfpgpkheaofeabAddTo
namespace Go.Proofs.Ytmfpgpkheaofeab
open Go.RowKit

/-- trim of a row that came in. -/
theorem trim_in {w : World} {v : Value} {n : Nat} (h : InW w v n) : ∃ ga b o cap us, Rep w ga b o cap us ∧ WCan us ∧ wval us = n ∧ us.length ≤ 1073741824 ∧ Calls Try.prog 41 #[v] w fun e w' => e = .returned (.slice ga us.length cap) ∧ w' = w := by
  obtain ⟨ga, b, o, cap, xs, rfl, hr, hd, hv, hl⟩ := h
  have hle := nlen_le xs xs.length
  exact ⟨ga, b, o, cap, nrm xs, hr.take _ hle, nrm_wcan hd, by rw [nrm_wval]; exact hv, by rw [nrm_length]; omega, trim_any w ga b o cap _ _ xs rfl (by omega) hr (nrm_length xs)⟩

theorem wval_pad (us : List Nat) (j : Nat) : wval (us ++ List.replicate j 0) = wval us := by rw [wval_append, (wzeros j).2, Nat.mul_zero, Nat.add_zero]
theorem wDig_pad {us : List Nat} (h : WDig us) (j : Nat) : WDig (us ++ List.replicate j 0) := wDig_append h (wzeros j).1
theorem add_room {us vs : List Nat} {N : Nat} (h1 : WDig us) (h2 : WDig vs) (hN : N = max us.length vs.length + 1) : wval us + wval vs < 18446744073709551616 ^ N := by
  have a := pow_up (wval_lt_pow h1) (q := N - 1) (by omega)
  have b := pow_up (wval_lt_pow h2) (q := N - 1) (by omega)
  have := pow_sum a b
  rwa [show N - 1 + 1 = N from by omega] at this

/-- trim of a row in a block of its own. -/
theorem trim_blk {B : Nat} {w : World} {g N : Nat} {zs : List Nat} (hl : zs.length = N) (hN : N ≤ 1099511627776) (hg : B ≤ g) (hk : Blk w g zs) (hd : WDig zs) :
    Calls Try.prog 41 #[.slice (some ⟨g, 0, none⟩) N N] w fun e w' => ∃ v, e = .returned v ∧ NewW B w v (wval zs) ∧ w' = w := by
  subst hl
  have hr := hk.rep 0 zs.length zs.length (by omega) (Nat.le_refl _)
  rw [List.drop_zero, List.take_length] at hr
  refine (trim_any w _ g 0 _ _ _ zs rfl hN hr rfl).mono ?_
  rintro e w' ⟨rfl, rfl⟩
  exact ⟨_, rfl, newW_blk hg hk hd hN, rfl⟩

set_option maxRecDepth 100000 in
set_option maxHeartbeats 1600000 in
theorem add_w (w : World) (u v : Value) (m n : Nat) (hu : InW w u m) (hv : InW w v n) :
    Calls Try.prog 24 #[u, v] w fun e w' => ∃ r, e = .returned r ∧ NewW w.heap.size w' r (m + n) ∧ Below w.heap.size w w' := by
  obtain ⟨ga, ba, oa, ca, us, rA, cA, vA, lA, CA⟩ := trim_in hu
  obtain ⟨gb, bb, ob, cb, vs, rB, cB, vB, lB, CB⟩ := trim_in hv
  obtain ⟨N, hN⟩ : ∃ N, N = max us.length vs.length + 1 := ⟨_, rfl⟩
  have hroom := add_room cA.1 cB.1 hN
  have hbN : vs.length ≤ N := by omega
  have hNb : N ≤ 1073741825 := by omega
  have CA := hide CA
  have CB := hide CB
  have HN := hide hN
  have hzl : (us ++ List.replicate (N - us.length) 0).length = 0 + N := by simp; omega
  obtain ⟨la, hla⟩ : ∃ la, la = us.length := ⟨_, rfl⟩
  obtain ⟨lb, hlb⟩ : ∃ lb, lb = vs.length := ⟨_, rfl⟩
  rw [← hla] at CA lA HN hzl
  rw [← hlb] at CB lB HN hbN
  have HLA := hide hla
  have HLB := hide hlb
  have HR := hide hroom
  clear hu hv hN hroom hla hlb
  go_enter Try.func24, Try.ntmps24
  go_wp2_with fail
  refine (unhide CA).mono ?_
  rintro e w1 ⟨rfl, rfl⟩
  go_wp2_with fail
  refine (unhide CB).mono ?_
  rintro e w2 ⟨rfl, rfl⟩
  clear CA CB
  go_wp2_with fail
  refine (wider_any _ ga gb ba oa ca cb la lb N us (unhide HLA).symm (by omega) (by omega) rA (unhide HN)).mono ?_
  rintro e w3 ⟨rfl, k3, b3⟩
  go_wp2_with fail
  refine (addTo_any _ w2.heap.size 0 N N bb ob cb lb gb _ vs hzl (unhide HLB).symm hbN (by omega) k3 (wDig_pad cA.1 _) (rB.next b3) cB.1 (fun h => by have := rB.lt h; omega) (by rw [wval_pad, Nat.pow_zero, Nat.one_mul, Nat.zero_add]; exact unhide HR)).mono ?_
  rintro e w4 ⟨rfl, zs, hl, hd, k4, hv4, g4⟩
  rw [wval_pad, Nat.pow_zero, Nat.one_mul, vA, vB] at hv4
  have b4 := below_grown b3 g4 (Nat.le_refl _) b3.size
  have HV := hide hv4
  clear hv4 g4 k3
  go_wp2_with fail
  refine (trim_blk (B := w2.heap.size) (by omega) (by omega) (Nat.le_refl _) k4 hd).mono ?_
  rintro e w5 ⟨r, rfl, hr, rfl⟩
  rw [unhide HV] at hr
  go_wp2
  go_ret
  exact ⟨r, rfl, hr, b4⟩

/-- What Sub and SubMul leave. -/
def SubDone (w : World) (m n : Nat) (e : Ending) (w' : World) : Prop := Below w.heap.size w w' ∧ ((n ≤ m ∧ ∃ r, e = .returned (.tuple #[r, .bool true]) ∧ NewW w.heap.size w' r (m - n)) ∨ (m < n ∧ e = .returned (.tuple #[.slice none 0 0, .bool false])))
theorem sub_no_mk {w w' : World} {m n : Nat} (hb : Below w.heap.size w w') (h : m < n) : SubDone w m n (.returned (.tuple #[.slice none 0 0, .bool false])) w' := ⟨hb, Or.inr ⟨h, rfl⟩⟩
theorem sub_yes_mk {w w' : World} {m n : Nat} {r : Value} (hb : Below w.heap.size w w') (h : n ≤ m) (hr : NewW w.heap.size w' r (m - n)) : SubDone w m n (.returned (.tuple #[r, .bool true])) w' := ⟨hb, Or.inl ⟨h, r, rfl, hr⟩⟩

set_option maxRecDepth 100000 in
set_option maxHeartbeats 1600000 in
theorem sub_w (w : World) (u v : Value) (m n : Nat) (hu : InW w u m) (hv : InW w v n) :
    Calls Try.prog 25 #[u, v] w (SubDone w m n) := by
  obtain ⟨ga, ba, oa, ca, us, rA, cA, vA, lA, CA⟩ := trim_in hu
  obtain ⟨gb, bb, ob, cb, vs, rB, cB, vB, lB, CB⟩ := trim_in hv
  have hlt : us.length < vs.length → m < n := fun h => by have := wlen_lt cA.1 cB h; omega
  have CA := hide CA
  have CB := hide CB
  have HLT := hide hlt
  obtain ⟨la, hla⟩ : ∃ la, la = us.length := ⟨_, rfl⟩
  obtain ⟨lb, hlb⟩ : ∃ lb, lb = vs.length := ⟨_, rfl⟩
  rw [← hla] at CA lA HLT
  rw [← hlb] at CB lB HLT
  have HLA := hide hla
  have HLB := hide hlb
  clear hu hv hlt hla hlb
  go_enter Try.func25, Try.ntmps25
  go_wp2_with fail
  refine (unhide CA).mono ?_
  rintro e w1 ⟨rfl, rfl⟩
  go_wp2_with fail
  refine (unhide CB).mono ?_
  rintro e w2 ⟨rfl, rfl⟩
  clear CA CB
  by_cases h1 : la < lb
  · go_wp2
    go_ret2
    exact sub_no_mk (Below.refl _ _) (unhide HLT h1)
  · go_wp2_with fail
    refine (copyOf_any _ ga ba oa ca la us (unhide HLA).symm (by omega) rA).mono ?_
    rintro e w3 ⟨rfl, k3, b3⟩
    go_wp2_with fail
    refine (takeFrom_any _ w2.heap.size 0 la la bb ob cb lb gb us vs (by rw [← unhide HLA]; omega) (unhide HLB).symm (by omega) (by omega) k3 cA.1 (rB.next b3) cB.1 (fun h => by have := rB.lt h; omega)).mono ?_
    rintro e w4 ⟨c, zs, rfl, hc1, hl, hd, k4, g4, hres⟩
    rw [Nat.pow_zero, Nat.one_mul, vA, vB] at hres
    have b4 := below_grown b3 g4 (Nat.le_refl _) b3.size
    clear g4 k3
    rcases hres with ⟨rfl, hv4⟩ | ⟨rfl, hv4⟩
    · have HV := hide hv4
      clear hv4
      go_wp2_with fail
      refine (trim_blk (B := w2.heap.size) (by omega) (by omega) (Nat.le_refl _) k4 hd).mono ?_
      rintro e w5 ⟨r, rfl, hr, rfl⟩
      have hle : n ≤ m := by have := unhide HV; omega
      have he : wval zs = m - n := by have := unhide HV; omega
      rw [he] at hr
      clear he
      go_wp2
      go_ret2
      exact sub_yes_mk b4 hle hr
    · go_wp2
      go_ret2
      exact sub_no_mk b4 hv4

set_option maxRecDepth 100000 in
set_option maxHeartbeats 1600000 in
theorem norm_w (w : World) (u : Value) (m : Nat) (hu : InW w u m) :
    Calls Try.prog 33 #[u] w fun e w' => ∃ r, e = .returned r ∧ NewW w.heap.size w' r m ∧ Below w.heap.size w w' := by
  obtain ⟨ga, ba, oa, ca, us, rA, cA, vA, lA, CA⟩ := trim_in hu
  have CA := hide CA
  obtain ⟨la, hla⟩ : ∃ la, la = us.length := ⟨_, rfl⟩
  rw [← hla] at CA lA
  have HLA := hide hla
  clear hu hla
  go_enter Try.func33, Try.ntmps33
  go_wp2_with fail
  refine (unhide CA).mono ?_
  rintro e w1 ⟨rfl, rfl⟩
  clear CA
  go_wp2_with fail
  refine (copyOf_any _ ga ba oa ca la us (unhide HLA).symm (by omega) rA).mono ?_
  rintro e w3 ⟨rfl, k3, b3⟩
  go_wp2
  go_ret
  refine ⟨_, rfl, ⟨us, cA, vA, Or.inr ⟨w1.heap.size, [], Nat.le_refl _, ?_, by rw [List.append_nil]; exact k3, by rw [← unhide HLA]; simp; omega⟩⟩, b3⟩
  rw [List.append_nil, ← unhide HLA]
  rfl

set_option maxRecDepth 100000 in
set_option maxHeartbeats 1600000 in
theorem one_w (w : World) (x : Nat) (hx : x < 18446744073709551616) :
    Calls Try.prog 45 #[.int .u64 (x : Int)] w fun e w' => ∃ r, e = .returned r ∧ NewW w.heap.size w' r x ∧ Below w.heap.size w w' := by
  have hk : Blk (w.alloc (.cells #[.int .u64 (x : Int)] 45)) w.heap.size [x] := heap_alloc_new w _
  have hb : Below w.heap.size w (w.alloc (.cells #[.int .u64 (x : Int)] 45)) := (Below.refl _ _).alloc (Nat.le_refl _) _
  have CT := hide (trim_blk (N := 1) rfl (by omega) (Nat.le_refl _) hk (wDig_one hx))
  have HB := hide hb
  rw [wval_one] at CT
  clear hk hb
  go_enter Try.func45, Try.ntmps45
  go_wp2_with fail
  refine (unhide CT).mono ?_
  rintro e w3 ⟨r, rfl, hr, rfl⟩
  go_wp2
  go_ret
  exact ⟨r, rfl, hr, unhide HB⟩

end Go.Proofs.Ytmfpgpkheaofeab
