/- Shr of limb. -/
import Derived.Test.YtmfpgpkheaofeabLShl
import Derived.Test.YtmfpgpkheaofeabLDiv
namespace Go.Proofs.Ytmfpgpkheaofeab
open Go.RowKit

theorem Rep.drop {w : World} {b o cap s : Nat} {xs : List Nat} (h : Rep w (some ⟨b, o, none⟩) b o cap xs) (hs : s ≤ xs.length) : Rep w (some ⟨b, o + s, none⟩) b (o + s) (cap - s) (xs.drop s) := by
  have hl : (xs.drop s).length = xs.length - s := by simp
  refine ⟨fun _ => rfl, by have := h.room; omega, fun j hj => ?_⟩
  have e : (xs.drop s).getD j 0 = xs.getD (s + j) 0 := by simp [List.getD_eq_getElem?_getD]
  rw [e, Nat.add_assoc]
  exact h.cell (s + j) (by omega)

/-- A word moved down by t places: r comes in from above. -/
theorem down_word {c r t : Nat} (hc : c < 18446744073709551616) (ht : t < 64) (hr : r < 2 ^ t) :
    (c / 2 ^ t) ||| (r * 2 ^ (64 - t)) = (18446744073709551616 * r + c) / 2 ^ t ∧ r * 2 ^ (64 - t) < 18446744073709551616 ∧ c * 2 ^ (64 - t) % 18446744073709551616 = ((18446744073709551616 * r + c) % 2 ^ t) * 2 ^ (64 - t) := by
  have hp := pow_split t (by omega)
  have hpos : 0 < 2 ^ t := Nat.pow_pos (by omega)
  have h1 : c / 2 ^ t < 2 ^ (64 - t) := by rw [Nat.div_lt_iff_lt_mul hpos, hp]; exact hc
  have h2 : (r + 1) * 2 ^ (64 - t) ≤ 2 ^ t * 2 ^ (64 - t) := Nat.mul_le_mul_right _ hr
  have e0 : 18446744073709551616 * r = 2 ^ t * (r * 2 ^ (64 - t)) := by
    rw [← hp, Nat.mul_comm (2 ^ (64 - t)), Nat.mul_assoc, Nat.mul_comm r]
  have hpos2 : 0 < 2 ^ (64 - t) := Nat.pow_pos (by omega)
  rw [Nat.add_mul, Nat.one_mul, Nat.mul_comm (2 ^ t), hp] at h2
  refine ⟨?_, by omega, ?_⟩
  · rw [Nat.or_comm, or_add r (c / 2 ^ t) (64 - t) h1, e0, Nat.mul_add_div hpos]
  · rw [e0, Nat.mul_add_mod, ← hp, Nat.mul_comm (2 ^ (64 - t)) (2 ^ t), Nat.mul_mod_mul_right]

theorem wval_shr {xs : List Nat} (h : WDig xs) (s t : Nat) : wval (xs.drop s) / 2 ^ t = wval xs / 2 ^ (64 * s + t) := by
  rw [Nat.pow_add, ← Nat.div_div_eq_div_mul, Nat.pow_mul]
  congr 1
  have hv := wval_drop xs s
  have hl := wval_lt h s
  rw [hv, show (2 : Nat) ^ 64 = 18446744073709551616 from rfl, Nat.add_mul_div_left _ _ (wpow_pos s), Nat.div_eq_of_lt hl, Nat.zero_add]

set_option maxRecDepth 100000 in
set_option maxHeartbeats 3200000 in
theorem shr_w (w : World) (u : Value) (z : Int) (m k : Nat) (hz : (k : Int) = min (max z 0) 1048576) (hu : InW w u m) :
    Calls Try.prog 29 #[u, .int .i64 z] w fun e w' => ∃ r, e = .returned r ∧ NewW w.heap.size w' r (m / 2 ^ k) ∧ Below w.heap.size w w' := by
  obtain ⟨ga, ba, oa, ca, xs, rfl, rA, dA, vA, lA⟩ := hu
  obtain ⟨la, hla⟩ : ∃ la, la = xs.length := ⟨_, rfl⟩
  have hroom := rA.room
  rw [← hla] at lA hroom ⊢
  obtain ⟨s, hs⟩ : ∃ s, s = k / 64 := ⟨_, rfl⟩
  obtain ⟨t, ht⟩ : ∃ t, t = k % 64 := ⟨_, rfl⟩
  have CW := hide (fun w => wp_any z k s t w hz hs ht)
  have ht64 : t < 64 := by omega
  have hke : k = 64 * s + t := by omega
  have hval : wval (xs.drop s) / 2 ^ t = m / 2 ^ k := by rw [wval_shr dA, ← hke, vA]
  have HVL := hide hval
  have HLA := hide hla
  by_cases h0 : la ≤ s
  · have h0i : (la : Int) ≤ (s : Int) := by omega
    have hz0 : Hid (m / 2 ^ k = 0) := by
      show _ = _
      rw [← hval, List.drop_eq_nil_of_le (by omega), show wval [] = 0 from rfl, Nat.zero_div]
    clear hla hs ht hke hz hval vA
    go_enter Try.func29, Try.ntmps29
    go_wp2_with fail
    refine (unhide CW _).mono ?_
    rintro e w2 ⟨rfl, rfl⟩
    clear CW
    go_wp2
    go_ret
    exact ⟨_, rfl, by rw [unhide hz0]; exact newW_nil _ _, Below.refl _ _⟩
  · have h0i : ¬ (la : Int) ≤ (s : Int) := by omega
    obtain rfl := rA.head (by omega)
    obtain ⟨M, hM⟩ : ∃ M, la = s + M := ⟨la - s, by omega⟩
    have hMs : la - s = M := by omega
    have hcs : ¬ ca = s := by omega
    have hsi : 0 ≤ (s : Int) ∧ (s : Int) ≤ (la : Int) := by omega
    obtain ⟨cc, hcc⟩ : ∃ cc, cc = ca - s := ⟨_, rfl⟩
    have rD := rA.drop (s := s) (by omega)
    rw [← hcc] at rD
    have hcc2 : ca - s = cc := hcc.symm
    have dD := wDig_drop dA s
    have hdl : (xs.drop s).length = M := by simp; omega
    obtain ⟨t2, ht2⟩ : ∃ t2, t2 = 64 - t := ⟨_, rfl⟩
    have et2 : (64 : Int) - (t : Int) = (t2 : Int) := by omega
    have HT2 := hide ht2
    have hp0 : 0 < 2 ^ t := Nat.pow_pos (by omega)
    have hp64 : 2 ^ t < 18446744073709551616 := by
      have := Nat.pow_le_pow_right (n := 2) (by omega) (by omega : t ≤ 63)
      omega
    have HP64 := hide hp64
    have hMb : M ≤ 1073741824 := by omega
    clear hla hs ht hke hz hval vA ht2 hM hcc hp64 rA hroom dA
    generalize xs.drop s = os at *
    have HDL := hide hdl
    clear hdl
    go_enter Try.func29, Try.ntmps29
    go_wp2_with fail
    refine (unhide CW _).mono ?_
    rintro e w2 ⟨rfl, rfl⟩
    clear CW
    go_wp2_with fail
    refine (copyOf_any _ _ ba (oa + s) cc M os (unhide HDL) (by omega) rD).mono ?_
    rintro e w3 ⟨rfl, k3, b3⟩
    go_wp2
    go_loopw [8, 9] (fun c i wr => ∃ (q r cy : Nat) (zs : List Nat), q ≤ M ∧ c = .int .u64 (cy : Int) ∧ i = .int .i64 ((q : Int) - 1) ∧ cy < 18446744073709551616 ∧ zs.length = M ∧ Blk wr w2.heap.size zs ∧ Hid (cy = r * 2 ^ t2) ∧ Hid (WDivAt os zs (2 ^ t) q r) ∧ Below w2.heap.size w2 wr)
      (fun _ i _ => (intOf i + 1).toNat)
    case atStart => exact ⟨M, 0, 0, os, Nat.le_refl _, rfl, rfl, by omega, unhide HDL, k3, by show 0 = 0 * _; rw [Nat.zero_mul], by rw [← unhide HDL]; exact wdiv_start dD hp0, b3⟩
    case round =>
      obtain ⟨q, r, cy, zs, hq, rfl, rfl, hcy, hzl, hBlk, hCy, hAt, hnx⟩ := hrel
      by_cases h1 : q = 0
      · subst h1
        obtain ⟨e1, _⟩ := wdiv_end hAt.out
        rw [unhide HVL] at e1
        have hd := hAt.out.2.1
        have HE := hide e1
        clear e1 hAt hCy
        go_wp2_with fail
        refine (trim_blk (B := w2.heap.size) hzl (by omega) (Nat.le_refl _) hBlk hd).mono ?_
        rintro e w6 ⟨v, rfl, hv, rfl⟩
        rw [unhide HE] at hv
        go_wp2
        go_ret
        exact ⟨v, rfl, hv, hnx⟩
      · obtain ⟨j, rfl⟩ : ∃ j, q = j + 1 := ⟨q - 1, by omega⟩
        have ej : ((j + 1 : Nat) : Int) - 1 = (j : Int) := by omega
        rw [ej]
        obtain ⟨c, hc⟩ : ∃ c : Nat, c = zs.getD j 0 := ⟨_, rfl⟩
        have cr : wr.cell? ⟨w2.heap.size, j, none⟩ = some (.int .u64 (c : Int)) := by rw [hc]; exact hBlk.cell j (by omega)
        have fr := hBlk.frozen j
        have hc64 : c < 18446744073709551616 := by rw [hc]; exact hAt.out.2.1 j
        obtain ⟨Q, hQ⟩ : ∃ Q, Q = (18446744073709551616 * r + c) / 2 ^ t := ⟨_, rfl⟩
        obtain ⟨R, hR⟩ : ∃ R, R = (18446744073709551616 * r + c) % 2 ^ t := ⟨_, rfl⟩
        obtain ⟨H2, hq64⟩ := wdiv_step hAt.out (by rw [unhide HDL]; omega) (unhide HP64) hc hQ hR
        obtain ⟨f1, f2, f3⟩ := down_word hc64 ht64 hAt.out.2.2.1
        rw [← unhide HT2, ← hCy.out, ← hQ] at f1
        rw [← unhide HT2, ← hR] at f3
        have H2 := hide H2
        obtain ⟨a, ha⟩ : ∃ a, a = c / 2 ^ t := ⟨_, rfl⟩
        have es := shr_eq c t
        rw [← ha] at es f1
        have ha64 : a < 18446744073709551616 := by rw [ha]; exact Nat.lt_of_le_of_lt (Nat.div_le_self _ _) hc64
        have eo := bits_or_u64_nat a cy ha64 hcy
        rw [f1] at eo
        have el := shl_mod c t2
        obtain ⟨c2, hc2⟩ : ∃ c2, c2 = c * 2 ^ t2 % 18446744073709551616 := ⟨_, rfl⟩
        rw [← hc2] at el f3
        have hc2b : c2 < 18446744073709551616 := by rw [hc2]; exact Nat.mod_lt _ (by omega)
        have HF3 := hide f3
        clear hc hQ hR f1 f2 f3 ha hc2 hAt hCy
        go_wp2
        exact ⟨⟨j, R, c2, zs.set j Q, by omega, rfl, by go_num, hc2b, by simpa using hzl, hBlk.set j Q, HF3, H2, hnx.setCell (Nat.le_refl _) _⟩, by simp [intOf]⟩

end Go.Proofs.Ytmfpgpkheaofeab
