/- No number below 200000 that has a divisor answers as a prime does: plain mathematics, reckoned by the kernel. Nothing of any program here. -/
import Derived.Test.YtohgekhjaodehaaDoorPFermat
namespace Go.Proofs.YtohgekhjaodehaaDoor

/-- A step of a power, and a power whose exponent is below 2 to the 18, in the kernel's own steps. -/
def stepK (p : Nat → Nat → Nat → Nat → Nat) (n o s k : Nat) : Nat :=
  bif Nat.beq k 0 then o else bif Nat.beq (k % 2) 1 then p n (o * s % n) (s * s % n) (k / 2) else p n o (s * s % n) (k / 2)
def pk (n o s k : Nat) : Nat := (stepK (stepK (stepK (stepK (stepK (stepK (stepK (stepK (stepK (stepK (stepK (stepK (stepK (stepK (stepK (stepK (stepK (stepK (fun _ o _ _ => o))))))))))))))))))) n o s k
theorem stepK_eq {p : Nat → Nat → Nat → Nat → Nat} {f : Nat} (h : ∀ n o s k, p n o s k = pm n f o s k) (n o s k : Nat) : stepK p n o s k = pm n (f + 1) o s k := by
  unfold stepK pm
  by_cases h0 : k = 0
  · rw [if_pos h0, h0]; rfl
  · rw [if_neg h0]
    have b0 : Nat.beq k 0 = false := by
      cases hb : Nat.beq k 0
      · rfl
      · exact absurd (Nat.eq_of_beq_eq_true hb) h0
    rw [b0]
    by_cases h1 : k % 2 = 1
    · rw [if_pos h1, h1]
      exact h _ _ _ _
    · rw [if_neg h1]
      have b1 : Nat.beq (k % 2) 1 = false := by
        cases hb : Nat.beq (k % 2) 1
        · rfl
        · exact absurd (Nat.eq_of_beq_eq_true hb) h1
      rw [b1]
      exact h _ _ _ _
theorem pk_eq (n o s k : Nat) : pk n o s k = pm n 18 o s k := by
  unfold pk
  repeat (refine stepK_eq (fun n o s k => ?_) n o s k)
  rfl

/-- Does n look like a prime to Fermat, by the base b? -/
def fm (n b : Nat) : Bool := Nat.beq (pk n 1 b (n - 1)) 1
theorem fm_no {n b : Nat} (h1 : 1 < n) (hb : b < n) (hn : n < 200001) (h : fm n b = false) : pass n b = false := by
  cases hp : pass n b
  · rfl
  · have e := pass_fermat (by omega) (by omega) hp
    rw [pw_is (f := 18) h1 hb (by omega), ← pk_eq] at e
    unfold fm at h
    rw [e] at h
    exact absurd h (by decide)

def anyBase (m : Nat) : Bool :=
  Nat.beq (m % 2) 0 || (Nat.beq (m % 3) 0 || (Nat.beq (m % 5) 0 || (Nat.beq (m % 7) 0 || (Nat.beq (m % 11) 0 || (Nat.beq (m % 13) 0 || (Nat.beq (m % 17) 0 || (Nat.beq (m % 19) 0 || (Nat.beq (m % 23) 0 || (Nat.beq (m % 29) 0 || (Nat.beq (m % 31) 0 || Nat.beq (m % 37) 0))))))))))
theorem anyBase_of {m : Nat} (h : anyBase m = true) : ∃ j, j < 12 ∧ m % bs j = 0 := by
  unfold anyBase at h
  simp only [Bool.or_eq_true_iff] at h
  rcases h with h | h | h | h | h | h | h | h | h | h | h | h
  · exact ⟨0, by decide, Nat.eq_of_beq_eq_true h⟩
  · exact ⟨1, by decide, Nat.eq_of_beq_eq_true h⟩
  · exact ⟨2, by decide, Nat.eq_of_beq_eq_true h⟩
  · exact ⟨3, by decide, Nat.eq_of_beq_eq_true h⟩
  · exact ⟨4, by decide, Nat.eq_of_beq_eq_true h⟩
  · exact ⟨5, by decide, Nat.eq_of_beq_eq_true h⟩
  · exact ⟨6, by decide, Nat.eq_of_beq_eq_true h⟩
  · exact ⟨7, by decide, Nat.eq_of_beq_eq_true h⟩
  · exact ⟨8, by decide, Nat.eq_of_beq_eq_true h⟩
  · exact ⟨9, by decide, Nat.eq_of_beq_eq_true h⟩
  · exact ⟨10, by decide, Nat.eq_of_beq_eq_true h⟩
  · exact ⟨11, by decide, Nat.eq_of_beq_eq_true h⟩

/-- q m is no prime, and is seen to be none. -/
def seen (q m : Nat) : Bool := anyBase m || (!fm (q * m) 2 || (!fm (q * m) 3 || !fm (q * m) 5))
/-- The same for the k numbers up to T that are not below q; for B times 256. -/
def seenTo (q T : Nat) : Nat → Bool
  | 0 => true
  | j + 1 => bif Nat.blt (T - j) q || seen q (T - j) then seenTo q T j else false
def seenBy (q T : Nat) : Nat → Bool
  | 0 => true
  | j + 1 => bif seenTo q (T - 256 * j) 256 then seenBy q T j else false
theorem seenTo_at {q T : Nat} : ∀ k, seenTo q T k = true → ∀ j, j < k → q ≤ T - j → seen q (T - j) = true
  | 0, _, j, hj, _ => absurd hj (by omega)
  | k + 1, h, j, hj, hq => by
    have e : seenTo q T (k + 1) = bif Nat.blt (T - k) q || seen q (T - k) then seenTo q T k else false := rfl
    rw [e] at h
    cases hs : (Nat.blt (T - k) q || seen q (T - k))
    · rw [hs] at h; cases h
    · rw [hs] at h
      by_cases h0 : j = k
      · rw [h0] at hq ⊢
        rcases Bool.or_eq_true_iff.1 hs with h1 | h1
        · have : T - k + 1 ≤ q := Nat.le_of_ble_eq_true h1
          omega
        · exact h1
      · exact seenTo_at k h j (by omega) hq
theorem seenBy_at {q T : Nat} : ∀ B, seenBy q T B = true → ∀ j, j < 256 * B → q ≤ T - j → seen q (T - j) = true
  | 0, _, j, hj, _ => absurd hj (by omega)
  | B + 1, h, j, hj, hq => by
    have e : seenBy q T (B + 1) = bif seenTo q (T - 256 * B) 256 then seenBy q T B else false := rfl
    rw [e] at h
    cases hs : seenTo q (T - 256 * B) 256
    · rw [hs] at h; cases h
    · rw [hs] at h
      by_cases h0 : j < 256 * B
      · exact seenBy_at B h j h0 hq
      · have e2 : T - 256 * B - (j - 256 * B) = T - j := by omega
        have := seenTo_at 256 hs (j - 256 * B) (by omega) (by rw [e2]; exact hq)
        rwa [e2] at this

def greatPrimes : List Nat := [41, 43, 47, 53, 59, 61, 67, 71, 73, 79, 83, 89, 97, 101, 103, 107, 109, 113, 127, 131, 137, 139, 149, 151, 157, 163, 167, 173, 179, 181, 191, 193, 197, 199, 211, 223, 227, 229, 233, 239, 241, 251, 257, 263, 269, 271, 277, 281, 283, 293, 307, 311, 313, 317, 331, 337, 347, 349, 353, 359, 367, 373, 379, 383, 389, 397, 401, 409, 419, 421, 431, 433, 439, 443]
theorem some_factor : ∀ d, d < 448 → 2 ≤ d → (∃ j, j < 12 ∧ d % bs j = 0) ∨ ∃ q, q ∈ greatPrimes ∧ d % q = 0 := by decide +kernel

end Go.Proofs.YtohgekhjaodehaaDoor
