/- Shl, Shr and Low of the reference, in general. -/
import Derived.Test.YtofgbmfaehnmnaaGreatDoorB15
import Derived.Test.YtofgbmfaehnmnaaGreatDoorB3
import Derived.Test.YtofgbmfaehnmnaaGreatDoorB14
namespace Go.Proofs.YtofgbmfaehnmnaaGreatDoor
open Go.RowKit

/-- k digits are moved down: what is above stays to be moved. -/
def ShrAt (xs os : List Nat) (s t k : Nat) : Prop := os.length = k ∧ Dig os ∧ val os + 4294967296 ^ k * (val (xs.drop (s + k)) / 2 ^ t) = val (xs.drop s) / 2 ^ t

theorem val_drop_succ (xs : List Nat) (i : Nat) : val (xs.drop i) = xs.getD i 0 + 4294967296 * val (xs.drop (i + 1)) := by
  by_cases h : i < xs.length
  · rw [List.drop_eq_getElem_cons h, getD_lt h]; rfl
  · rw [List.drop_eq_nil_of_le (by omega), List.drop_eq_nil_of_le (by omega), getD_ge (by omega)]; rfl

theorem pow_split32 (t : Nat) (ht : t < 32) : 2 ^ (32 - t) * 2 ^ t = 4294967296 := by
  rw [← Nat.pow_add, show 32 - t + t = 32 from by omega]

/-- One digit moved down. -/
theorem shr_digit {x y D t : Nat} (hx : x < 4294967296) (hy : y = D % 4294967296) (ht : t < 32) :
    (y * 2 ^ (32 - t)) % 4294967296 = (D % 2 ^ t) * 2 ^ (32 - t) ∧ x / 2 ^ t + (D % 2 ^ t) * 2 ^ (32 - t) < 4294967296 ∧ (x + 4294967296 * D) / 2 ^ t = (x / 2 ^ t + (D % 2 ^ t) * 2 ^ (32 - t)) + 4294967296 * (D / 2 ^ t) := by
  have hp := pow_split32 t ht
  have hpos : 0 < 2 ^ t := Nat.pow_pos (by omega)
  have hpos2 : 0 < 2 ^ (32 - t) := Nat.pow_pos (by omega)
  have hd := Nat.div_add_mod D (2 ^ t)
  have hm := Nat.mod_lt D hpos
  generalize hq : 2 ^ (32 - t) = q at *
  generalize hP : 2 ^ t = p at *
  have e1 : D * q % 4294967296 = D % p * q := by
    rw [← hp, Nat.mul_comm q p, Nat.mul_mod_mul_right]
  refine ⟨?_, ?_, ?_⟩
  · rw [hy, Nat.mod_mul_mod]; exact e1
  · have h1 : x / p < q := by rw [Nat.div_lt_iff_lt_mul hpos, hp]; exact hx
    have h2 : (D % p + 1) * q ≤ p * q := Nat.mul_le_mul_right _ hm
    rw [Nat.add_mul, Nat.one_mul, Nat.mul_comm p q, hp] at h2
    omega
  · have e2 : x + 4294967296 * D = x + p * (q * D) := by rw [← hp, Nat.mul_comm q p, Nat.mul_assoc]
    rw [e2, Nat.add_mul_div_left _ _ hpos]
    have e3 : q * D = D % p * q + 4294967296 * (D / p) := by
      rw [← hp]
      have : q * D = q * (p * (D / p) + D % p) := by rw [hd]
      rw [this, Nat.mul_add, Nat.mul_comm q (D % p), ← Nat.mul_assoc]
      omega
    omega

theorem shr_start (xs : List Nat) (s t : Nat) : ShrAt xs [] s t 0 := ⟨rfl, dig_nil, by simp [val]⟩
theorem drop_mod (xs : List Nat) (h : Dig xs) (i : Nat) : val (xs.drop i) % 4294967296 = xs.getD i 0 := by
  rw [val_drop_succ]; have := h i; omega
theorem shr_step {xs os : List Nat} {s t k x d : Nat} (h : ShrAt xs os s t k) (dx : Dig xs) (ht : t < 32) (hx : x = xs.getD (s + k) 0) (hd : d = x / 2 ^ t + (val (xs.drop (s + k + 1)) % 2 ^ t) * 2 ^ (32 - t)) : ShrAt xs (os ++ [d]) s t (k + 1) := by
  obtain ⟨h1, h2, h3⟩ := h
  have hx32 : x < 4294967296 := by rw [hx]; exact dx _
  obtain ⟨_, e2, e3⟩ := shr_digit (y := val (xs.drop (s + k + 1)) % 4294967296) hx32 rfl ht
  refine ⟨by simp [h1], dig_snoc h2 (by rw [hd]; exact e2), ?_⟩
  rw [val_snoc, h1, ← h3, val_drop_succ xs (s + k), ← hx, e3, ← hd, Nat.pow_succ, Nat.mul_add, Nat.mul_assoc, Nat.add_assoc, ← Nat.add_assoc s k 1]
theorem shr_end {xs os : List Nat} {s t k : Nat} (h : ShrAt xs os s t k) (hk : xs.length ≤ s + k) (dx : Dig xs) : val os = val xs / 2 ^ (32 * s + t) := by
  obtain ⟨_, _, h3⟩ := h
  rw [List.drop_eq_nil_of_le hk, show val [] = 0 from rfl, Nat.zero_div, Nat.mul_zero, Nat.add_zero] at h3
  rw [h3, Nat.pow_add, ← Nat.div_div_eq_div_mul, Nat.pow_mul]
  congr 1
  have hv := val_drop xs s
  have hl := val_lt dx s
  rw [hv, show (2 : Nat) ^ 32 = 4294967296 from rfl, Nat.add_mul_div_left _ _ (Nat.pow_pos (by omega)), Nat.div_eq_of_lt hl, Nat.zero_add]

end Go.Proofs.YtofgbmfaehnmnaaGreatDoor

/- ConvCarries: what the law's walk comes to, once the code's Carry is what the document asks. -/
namespace Go.Proofs.YtofgbmfaehnmnaaGreatDoor
open Go.RowKit

/-- A row of numbers of three words that is handed in: none, or in a block of its own. -/
def TriS (w : World) (v : Value) (q : Nat) (T : Nat → Nat) : Prop := (q = 0 ∧ v = .slice none 0 0) ∨ ∃ g C, v = .slice (some ⟨g, 0, none⟩) q C ∧ q ≤ C ∧ TriAt w g q T
def SpecCarry : Prop := ∀ (w : World) (v : Value) (q : Nat) (T : Nat → Nat), q ≤ 1000 → TriS w v q T →
  Calls Tryz.prog 79 #[v] w fun e w' => ∃ r, e = .returned r ∧ NewW w.heap.size w' r (sN q fun k => T k * 18446744073709551616 ^ k) ∧ Below w.heap.size w w'

theorem Tryz.info3 : (Tryz.prog.info? 155).map (fun i => (i.zero, i.size, i.bytes)) = some (some (.agg #[.int .u64 0, .int .u64 0, .int .u64 0]), 3, 24) := by kernel_rfl
theorem info_three : ∃ i : TypeInfo, Tryz.prog.info? 155 = some i ∧ i.zero = some (.agg #[.int .u64 0, .int .u64 0, .int .u64 0]) ∧ i.size = 3 ∧ i.bytes = 24 := by
  have h := Tryz.info3
  cases hi : Tryz.prog.info? 155 with
  | none => rw [hi] at h; cases h
  | some i =>
    rw [hi] at h
    simp at h
    exact ⟨i, rfl, h.1, h.2.1, h.2.2⟩
/-- The words of all numbers so far, three each. -/
def flat (us vs ts : List Nat) : Nat → List Nat
  | 0 => []
  | k + 1 => flat us vs ts k ++ [us.getD k 0, vs.getD k 0, ts.getD k 0]
theorem flat_length (us vs ts : List Nat) : ∀ k, (flat us vs ts k).length = k * 3
  | 0 => rfl
  | k + 1 => by simp [flat, flat_length us vs ts k]; omega

theorem flat_get (us vs ts : List Nat) : ∀ n k, k < n → (flat us vs ts n)[k * 3]? = some (us.getD k 0) ∧ (flat us vs ts n)[k * 3 + 1]? = some (vs.getD k 0) ∧ (flat us vs ts n)[k * 3 + 2]? = some (ts.getD k 0)
  | 0, k, h => absurd h (by omega)
  | n + 1, k, h => by
    have hl := flat_length us vs ts n
    unfold flat
    by_cases hk : k < n
    · obtain ⟨a, b, c⟩ := flat_get us vs ts n k hk
      rw [List.getElem?_append_left (by omega), List.getElem?_append_left (by omega), List.getElem?_append_left (by omega)]
      exact ⟨a, b, c⟩
    · obtain rfl : k = n := by omega
      rw [List.getElem?_append_right (by omega), List.getElem?_append_right (by omega), List.getElem?_append_right (by omega), hl, Nat.sub_self, show k * 3 + 1 - k * 3 = 1 by omega, show k * 3 + 2 - k * 3 = 2 by omega]
      exact ⟨rfl, rfl, rfl⟩
theorem tri_of {w : World} {base n cw : Nat} {gw : Option Addr} {us vs ts ls : List Nat} (h : w.ownsRow base 155 3 (.slice gw n cw) n (cellsOf ls)) (hl : ls = flat us vs ts n) (dx : WDig us) (dy : WDig vs) (dz : WDig ts) : TriS w (.slice gw n cw) n (fun k => v3 (us.getD k 0) (vs.getD k 0) (ts.getD k 0)) := by
  rcases h.2 with ⟨hv, hn⟩ | ⟨g, cap, cur, hv, _, hg, hnc, _, _, htake⟩
  · exact .inl ⟨hn, hv⟩
  · refine .inr ⟨g, cap, hv, hnc, fun k hk => ?_⟩
    have key : ∀ j x, ls[j]? = some x → w.cell? ⟨g, j, none⟩ = some (.int .u64 ((x : Nat) : Int)) := fun j x hj => by
      rw [cell_of_row w g j _ _ (0, 0) hg, ← Array.getElem?_toList]
      have h1 : (cellsOf ls)[j]? = some (.int .u64 ((x : Nat) : Int)) := by simp [cellsOf, hj]
      rw [← htake, List.getElem?_take] at h1
      split at h1
      · exact h1
      · cases h1
    rw [hl] at key
    obtain ⟨a, b, c⟩ := flat_get us vs ts n k hk
    exact ⟨_, _, _, dx k, dy k, dz k, rfl, key _ _ a, key _ _ b, key _ _ c⟩
theorem wpow50 : (4294967296 : Nat) ^ 100 = 18446744073709551616 ^ 50 := by rw [wpow]
theorem TriS.next {w w' : World} {v : Value} {q : Nat} {T : Nat → Nat} (h : TriS w v q T) (b : Below w.heap.size w w') : TriS w' v q T := by
  rcases h with h | ⟨g, C, hv, hc, ht⟩
  · exact .inl h
  · exact .inr ⟨g, C, hv, hc, ht.next b⟩
/-- Horner's sums, from the top on. -/
def hv (T : Nat → Nat) (n : Nat) : Nat → Nat
  | 0 => 0
  | c + 1 => hv T n c * 2 ^ 64 + T (n - 1 - c)
theorem hv_lt {T : Nat → Nat} (h : ∀ k, T k < 18446744073709551616 ^ 3) (n : Nat) : ∀ c, hv T n c < 18446744073709551616 ^ (2 * c + 3)
  | 0 => Nat.pow_pos (by decide)
  | c + 1 => by
    have ih := hv_lt h n c
    have hT := h (n - 1 - c)
    have e : (2 : Nat) ^ 64 = 18446744073709551616 := by decide
    have h3 : 18446744073709551616 ^ 3 ≤ 18446744073709551616 ^ (2 * c + 3) := Nat.pow_le_pow_right (by decide) (by omega)
    show hv T n c * 2 ^ 64 + T (n - 1 - c) < _
    rw [e, show 2 * (c + 1) + 3 = (2 * c + 3) + 1 + 1 by omega, Nat.pow_succ, Nat.pow_succ]
    generalize 18446744073709551616 ^ (2 * c + 3) = P at *
    omega
theorem hv_sum (T : Nat → Nat) (n : Nat) : ∀ c, c ≤ n → hv T n c * 18446744073709551616 ^ (n - c) + (sN (n - c) fun k => T k * 18446744073709551616 ^ k) = sN n fun k => T k * 18446744073709551616 ^ k
  | 0, _ => by show 0 * _ + _ = _; rw [Nat.zero_mul, Nat.zero_add, Nat.sub_zero]
  | c + 1, h => by
    have ih := hv_sum T n c (by omega)
    have e : (2 : Nat) ^ 64 = 18446744073709551616 := by decide
    obtain ⟨d, hd⟩ : ∃ d, n - c = d + 1 := ⟨n - c - 1, by omega⟩
    rw [hd] at ih
    rw [← ih, show n - (c + 1) = d by omega]
    show (hv T n c * 2 ^ 64 + T (n - 1 - c)) * _ + _ = hv T n c * 18446744073709551616 ^ (d + 1) + (sN d (fun k => T k * 18446744073709551616 ^ k) + T d * 18446744073709551616 ^ d)
    rw [e, show n - 1 - c = d by omega, Nat.add_mul, Nat.pow_succ, Nat.mul_assoc, Nat.mul_comm 18446744073709551616 (18446744073709551616 ^ d)]
    omega
theorem hv_end (T : Nat → Nat) (n : Nat) : hv T n n = sN n fun k => T k * 18446744073709551616 ^ k := by
  have := hv_sum T n n (Nat.le_refl _)
  rw [Nat.sub_self, Nat.pow_zero, Nat.mul_one] at this
  exact this
theorem v3_lt {a b c : Nat} (h0 : a < 18446744073709551616) (h1 : b < 18446744073709551616) (h2 : c < 18446744073709551616) : v3 a b c < 18446744073709551616 ^ 3 := by
  unfold v3
  omega

end Go.Proofs.YtofgbmfaehnmnaaGreatDoor
