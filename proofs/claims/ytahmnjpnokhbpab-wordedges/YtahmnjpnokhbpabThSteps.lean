/- Plain mathematics of three words over two: the two steps that mend the guess. -/
import Derived.Test.YtahmnjpnokhbpabThPlain
namespace Go.Proofs.Ytahmnjpnokhbpab

theorem mul_top2 {T D a : Nat} (h : T + a = 18446744073709551616) : T * D + a * D = 18446744073709551616 * D := by rw [← Nat.add_mul, h]

theorem mod_chain {u2 u1 u0 D p1 p0 x1 y c : Nat} {rt : Int} (hp0b : p0 < 340282366920938463463374607431768211456) (hp1b : p1 < 340282366920938463463374607431768211456) (hDb : D < 340282366920938463463374607431768211456) (hx1 : x1 = (u1 + 340282366920938463463374607431768211456 - p1) % 18446744073709551616) (hy : y = (x1 * 18446744073709551616 + u0 + 340282366920938463463374607431768211456 - p0) % 340282366920938463463374607431768211456) (hc : c = (y + 340282366920938463463374607431768211456 - D) % 340282366920938463463374607431768211456)
    (hrt : rt = (u2 : Int) * 340282366920938463463374607431768211456 + (u1 : Int) * 18446744073709551616 + (u0 : Int) - ((p1 * 18446744073709551616 + p0 : Nat) : Int) - (D : Int)) : c < 340282366920938463463374607431768211456 ∧ ∃ z : Int, rt = (c : Int) + 340282366920938463463374607431768211456 * z := by
  have h1 := Nat.div_add_mod (u1 + 340282366920938463463374607431768211456 - p1) 18446744073709551616
  rw [← hx1] at h1
  have h2 := Nat.div_add_mod (x1 * 18446744073709551616 + u0 + 340282366920938463463374607431768211456 - p0) 340282366920938463463374607431768211456
  rw [← hy] at h2
  have h3 := Nat.div_add_mod (y + 340282366920938463463374607431768211456 - D) 340282366920938463463374607431768211456
  rw [← hc] at h3
  have hcb : c < 340282366920938463463374607431768211456 := by rw [hc]; exact Nat.mod_lt _ (by omega)
  clear hx1 hy hc
  generalize (u1 + 340282366920938463463374607431768211456 - p1) / 18446744073709551616 = a at *
  generalize (x1 * 18446744073709551616 + u0 + 340282366920938463463374607431768211456 - p0) / 340282366920938463463374607431768211456 = b at *
  generalize (y + 340282366920938463463374607431768211456 - D) / 340282366920938463463374607431768211456 = e at *
  exact ⟨hcb, (u2 : Int) - 18446744073709551616 + (a : Int) - 1 + (b : Int) - 1 + (e : Int), by omega⟩
theorem mod_of {c : Nat} {rt z : Int} (hc : c < 340282366920938463463374607431768211456) (h : rt = (c : Int) + 340282366920938463463374607431768211456 * z) (h1 : -340282366920938463463374607431768211456 ≤ rt) (h2 : rt < 340282366920938463463374607431768211456) : (rt < 0 ∧ (c : Int) = rt + 340282366920938463463374607431768211456) ∨ (0 ≤ rt ∧ (c : Int) = rt) := by omega

/-- The guess and its remainder modulo two words, as the code reckons them, and what its two steps make of them. -/
theorem three_steps (u2 u1 u0 d1 d0 D m k V T L : Nat) (h63 : 9223372036854775808 ≤ d1) (hd1 : d1 < 18446744073709551616) (hd0 : d0 < 18446744073709551616) (hD : D = d1 * 18446744073709551616 + d0) (hm : m + D = 340282366920938463463374607431768211456) (hu1 : u1 < 18446744073709551616) (hu0 : u0 < 18446744073709551616)
    (hlt : u2 < d1 ∨ (u2 = d1 ∧ u1 < d0)) (hV : 18446744073709551616 ≤ V) (hk : V * D + k = 340282366920938463463374607431768211456 * 18446744073709551616) (hkD : k ≤ D) (hTL : T * 18446744073709551616 + L = V * u2 + u1) (hL : L < 18446744073709551616) (hT : T < 18446744073709551616)
    (p1 p0 x1 y c N : Nat) (hp1 : p1 = T * d1) (hp0 : p0 = T * d0) (hp0b : p0 < 340282366920938463463374607431768211456) (hp1b : p1 < 340282366920938463463374607431768211456) (hx1 : x1 = (u1 + 340282366920938463463374607431768211456 - p1) % 18446744073709551616) (hy : y = (x1 * 18446744073709551616 + u0 + 340282366920938463463374607431768211456 - p0) % 340282366920938463463374607431768211456) (hc : c = (y + 340282366920938463463374607431768211456 - D) % 340282366920938463463374607431768211456)
    (hN : N = u2 * 340282366920938463463374607431768211456 + u1 * 18446744073709551616 + u0) :
    ∃ qc : Nat, qc < 18446744073709551616 ∧ IntKind.u64.wrap ((T : Int) + 1) = (qc : Int) ∧
      ((L ≤ c / 18446744073709551616 ∧ IntKind.u64.wrap ((qc : Int) - 1) = (T : Int) ∧ ∃ R : Nat, R = (c + D) % 340282366920938463463374607431768211456 ∧ R < D ∧ T * D + R = N) ∨
       (L ≤ c / 18446744073709551616 ∧ IntKind.u64.wrap ((qc : Int) - 1) = (T : Int) ∧ c + D < 340282366920938463463374607431768211456 ∧ c < D ∧ qc * D + c = N) ∨
       (¬ L ≤ c / 18446744073709551616 ∧ ∃ Q R : Nat, IntKind.u64.wrap ((qc : Int) + 1) = (Q : Int) ∧ c = R + D ∧ R < D ∧ Q * D + R = N) ∨
       (¬ L ≤ c / 18446744073709551616 ∧ c < D ∧ qc * D + c = N)) := by
  obtain ⟨rt, hrt, b1, b2, b3⟩ := three_core u2 u1 u0 d1 d0 D m k V T L hd1 hd0 hD hm hu1 hu0 hlt hV hk hkD hTL hL
  have hTD : T * D = p1 * 18446744073709551616 + p0 := by rw [hD, Nat.mul_add, ← Nat.mul_assoc, ← hp1, ← hp0]
  have hND : N < 18446744073709551616 * D := by clear hx1 hy hc hTL hk b1 b2 b3 hrt hTD; rw [hN, hD]; omega
  have hD2 : 170141183460469231731687303715884105728 ≤ D := by clear hx1 hy hc hTL hk b1 b2 b3 hrt hTD hlt; omega
  have hDb : D < 340282366920938463463374607431768211456 := by clear hx1 hy hc hTL hk b1 b2 b3 hrt hTD hlt; omega
  have hrt' := hrt
  rw [hTD] at hrt'
  obtain ⟨hcb, z, hz⟩ := mod_chain (rt := rt) hp0b hp1b hDb hx1 hy hc hrt'
  clear hrt'
  clear hx1 hy hc hTL hk
  have hLm : (L : Int) * 18446744073709551616 < 340282366920938463463374607431768211456 := by clear hrt hlt hz hTD b1 b2 b3; omega
  have hrt1 : -340282366920938463463374607431768211456 ≤ rt := by clear hrt hlt hz hTD b2 b3; omega
  have hrt2 : rt < 340282366920938463463374607431768211456 := by clear hrt hlt hz hTD b1 b2; omega
  have hcr := mod_of hcb hz hrt1 hrt2
  have hrN : rt = (N : Int) - ((T * D : Nat) : Int) - (D : Int) := by clear hcr hz b1 b2 b3 hlt hTD hrt1 hrt2; rw [hrt, hN]; omega
  clear hlt hkD hV hp1 hp0 hrt hTD hp0b hp1b hD hz hN hu0 hu1 hd0 hd1
  have hm1 : (T + 1) * D = T * D + D := by rw [Nat.add_mul, Nat.one_mul]
  have hm2 : (T + 2) * D = T * D + 2 * D := by rw [Nat.add_mul]
  by_cases hneg : rt < 0
  · have hce : (c : Int) = rt + 340282366920938463463374607431768211456 := by
      rcases hcr with h | h
      · exact h.2
      · omega
    clear hcr b3
    by_cases htop : T + 1 = 18446744073709551616
    · refine ⟨0, by omega, by rw [IntKind.wrap_u64]; omega, Or.inl ⟨by omega, by rw [IntKind.wrap_u64]; omega, (rt + D).toNat, by omega, by omega, ?_⟩⟩
      generalize T * D = TD at *
      omega
    · refine ⟨T + 1, by omega, by rw [IntKind.wrap_u64]; omega, Or.inl ⟨by omega, by rw [IntKind.wrap_u64]; omega, (rt + D).toNat, by omega, by omega, ?_⟩⟩
      generalize T * D = TD at *
      omega
  · have htop : T + 1 ≠ 18446744073709551616 := fun h => by
      clear hcr b1 b2 b3 hm1 hm2
      have hmt := mul_top2 (D := D) h
      rw [Nat.one_mul] at hmt
      generalize T * D = TD at *
      omega
    have htop2 : (D : Int) ≤ rt → T + 2 ≠ 18446744073709551616 := fun hr h => by
      clear hcr b1 b2 b3 hm1 hm2
      have hmt := mul_top2 (D := D) h
      generalize T * D = TD at *
      omega
    have hce : (c : Int) = rt := by
      rcases hcr with h | h
      · omega
      · exact h.2
    clear hcr
    refine ⟨T + 1, by omega, by rw [IntKind.wrap_u64]; omega, Or.inr ?_⟩
    rw [hm1]
    by_cases hl : L ≤ c / 18446744073709551616
    · refine Or.inl ⟨hl, by rw [IntKind.wrap_u64]; omega, by omega, by omega, ?_⟩
      generalize T * D = TD at *
      omega
    · by_cases hd : (D : Int) ≤ rt
      · have ht2 := htop2 hd
        refine Or.inr (Or.inl ⟨hl, T + 2, c - D, by rw [IntKind.wrap_u64]; omega, by omega, by omega, ?_⟩)
        rw [hm2]
        generalize T * D = TD at *
        omega
      · refine Or.inr (Or.inr ⟨hl, by omega, ?_⟩)
        generalize T * D = TD at *
        omega

end Go.Proofs.Ytahmnjpnokhbpab
