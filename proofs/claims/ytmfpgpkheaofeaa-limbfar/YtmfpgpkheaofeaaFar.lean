/- Bits of api's Nat. -/
import Derived.Test.YtmfpgpkheaofeaaJoin2
import Derived.Test.YtmfpgpkheaofeaaLen
namespace Go.Proofs.Ytmfpgpkheaofeaa
open Go.RowKit

/-- L is how many binary digits n has. -/
def HasBits (n L : Nat) : Prop := (n = 0 ∧ L = 0) ∨ (0 < n ∧ 1 ≤ L ∧ 2 ^ (L - 1) ≤ n ∧ n < 2 ^ L)
theorem hasBits_unique {n L M : Nat} (h : HasBits n L) (k : HasBits n M) : L = M := by
  rcases h with ⟨h1, h2⟩ | ⟨h1, h2, h3, h4⟩ <;> rcases k with ⟨k1, k2⟩ | ⟨k1, k2, k3, k4⟩ <;> try omega
  have a : L - 1 < M := (Nat.pow_lt_pow_iff_right (a := 2) (by omega)).1 (by omega)
  have b : M - 1 < L := (Nat.pow_lt_pow_iff_right (a := 2) (by omega)).1 (by omega)
  omega
theorem hasBits_shl {n L k : Nat} (h : HasBits n L) (hn : 0 < n) : HasBits (n * 2 ^ k) (L + k) := by
  rcases h with ⟨h1, _⟩ | ⟨_, h2, h3, h4⟩
  · omega
  · refine Or.inr ⟨Nat.mul_pos hn (Nat.pow_pos (by omega)), by omega, ?_, ?_⟩
    · rw [show L + k - 1 = L - 1 + k from by omega, Nat.pow_add]; exact Nat.mul_le_mul_right _ h3
    · rw [Nat.pow_add]; exact Nat.mul_lt_mul_of_pos_right h4 (Nat.pow_pos (by omega))
theorem bitLen_has : ∀ f x, f ≤ 64 → x < 2 ^ f → HasBits x (Lib.bitLen x)
  | 0, x, _, h => by
    obtain rfl : x = 0 := by simpa using h
    exact Or.inl ⟨rfl, by decide⟩
  | f + 1, x, hf, h => by
    by_cases h0 : x = 0
    · subst h0; exact Or.inl ⟨rfl, by decide⟩
    · have hx64 : x < 2 ^ 64 := Nat.lt_of_lt_of_le h (Nat.pow_le_pow_right (by omega) hf)
      have ih := bitLen_has f (x / 2) (by omega) (by rw [Nat.pow_succ] at h; omega)
      rw [Lib.bitLen_half x h0 hx64]
      rcases ih with ⟨i1, i2⟩ | ⟨i1, i2, i3, i4⟩
      · rw [i2]; exact Or.inr ⟨by omega, by omega, by simp; omega, by omega⟩
      · generalize Lib.bitLen (x / 2) = L at *
        refine Or.inr ⟨by omega, by omega, ?_, ?_⟩
        · obtain ⟨l, rfl⟩ : ∃ l, L = l + 1 := ⟨L - 1, by omega⟩
          rw [show 1 + (l + 1) - 1 = l + 1 from by omega, Nat.pow_succ]
          rw [Nat.add_sub_cancel] at i3
          omega
        · rw [Nat.add_comm, Nat.pow_succ]; omega

/-- A top word and the words below it. -/
theorem hasBits_top {lo x L k : Nat} (hlo : lo < 18446744073709551616 ^ k) (hx : 0 < x) (h : HasBits x L) : HasBits (lo + 18446744073709551616 ^ k * x) (64 * k + L) := by
  rcases h with ⟨h1, _⟩ | ⟨_, h2, h3, h4⟩
  · omega
  · have e : 18446744073709551616 ^ k = 2 ^ (64 * k) := by rw [Nat.pow_mul]
    have hp := wpow_pos k
    have hm : 18446744073709551616 ^ k * 1 ≤ 18446744073709551616 ^ k * x := Nat.mul_le_mul_left _ hx
    refine Or.inr ⟨by omega, by omega, ?_, ?_⟩
    · rw [show 64 * k + L - 1 = 64 * k + (L - 1) from by omega, Nat.pow_add, ← e]
      have := Nat.mul_le_mul_left (18446744073709551616 ^ k) h3
      omega
    · rw [Nat.pow_add, ← e]
      have := Nat.mul_le_mul_left (18446744073709551616 ^ k) (show x + 1 ≤ 2 ^ L from h4)
      rw [Nat.mul_add, Nat.mul_one] at this
      omega

set_option maxRecDepth 100000 in
set_option maxHeartbeats 1600000 in
theorem natBits_in {w : World} {v : Value} {n : Nat} (h : InW w v n) : ∃ L, L ≤ 68719476736 ∧ HasBits n L ∧ Calls Try.prog 38 #[v] w fun e w' => e = .returned (.int .i64 (L : Int)) ∧ w' = w := by
  obtain ⟨ga, b, o, cap, xs, rfl, hr, hd, hv, hl⟩ := h
  obtain ⟨la, hla⟩ : ∃ la, la = xs.length := ⟨_, rfl⟩
  have CL := hide (len_any w ga b o cap la xs hla.symm (by omega) hr)
  rw [← hla] at hl ⊢
  have hv2 := nlen_wval xs la
  have htop := nlen_top xs la
  have hle := nlen_le xs la
  rw [hla, List.take_length, ← hla, hv] at hv2
  obtain ⟨l, hle2⟩ : ∃ l, l = nlen xs la := ⟨_, rfl⟩
  rw [← hle2] at CL hv2 htop hle
  by_cases h0 : l = 0
  · subst h0
    refine ⟨0, by omega, Or.inl ⟨by rw [← hv2]; rfl, rfl⟩, ?_⟩
    clear htop hv2 hv hd hla hle2
    go_enter Try.func38, Try.ntmps38
    go_wp2_with fail
    refine (unhide CL).mono ?_
    rintro e w1 ⟨rfl, rfl⟩
    clear CL
    go_wp2
    go_ret
    exact ⟨rfl, rfl⟩
  · obtain ⟨k, rfl⟩ : ∃ k, l = k + 1 := ⟨l - 1, by omega⟩
    have htop := htop (by omega)
    rw [Nat.add_sub_cancel] at htop
    obtain ⟨x, hx⟩ : ∃ x, x = xs.getD k 0 := ⟨_, rfl⟩
    have hx64 : x < 18446744073709551616 := by rw [hx]; exact hd k
    rw [wval_take_succ, ← hx] at hv2
    rw [← hx] at htop
    have hB := bitLen_has 64 x (by omega) hx64
    have CB := hide (fun w => len64_any (x : Int) w (by omega) (by omega))
    rw [Int.toNat_natCast] at CB
    have hLb : Lib.bitLen x ≤ 64 := by
      rcases hB with ⟨_, h2⟩ | ⟨_, h2, h3, _⟩
      · omega
      · have : Lib.bitLen x - 1 < 64 := (Nat.pow_lt_pow_iff_right (a := 2) (by omega)).1 (by omega)
        omega
    generalize Lib.bitLen x = L at *
    have hH := hasBits_top (wval_lt hd k) htop hB
    rw [hv2] at hH
    refine ⟨64 * k + L, by omega, hH, ?_⟩
    obtain rfl := hr.head (by omega)
    have cx : w.cell? ⟨b, o + k, none⟩ = some (.int .u64 (x : Int)) := by rw [hx]; exact hr.cell k (by omega)
    have hnz : (((k + 1 : Nat) : Int) == 0) = false := by rw [beq_eq_false_iff_ne]; omega
    have ek : ((k + 1 : Nat) : Int) - 1 = (k : Int) := by omega
    have eL : (64 : Int) * (k : Int) + (L : Int) = ((64 * k + L : Nat) : Int) := by omega
    have HEL := hide eL
    clear htop hv2 hv hd hx hB hH eL hla hle2
    go_enter Try.func38, Try.ntmps38
    go_wp2_with fail
    refine (unhide CL).mono ?_
    rintro e w1 ⟨rfl, rfl⟩
    clear CL
    go_wp2_with fail
    refine (unhide CB _).mono ?_
    rintro e w2 ⟨rfl, rfl⟩
    clear CB
    go_wp2
    go_ret
    exact ⟨ret_int (unhide HEL), rfl⟩

end Go.Proofs.Ytmfpgpkheaofeaa
