/- Fermat's theorem, and that a prime answers every base as a prime does: plain mathematics. Nothing of any program here. -/
import Derived.Test.YtohgekhjaodehaaDoorPPlain
namespace Go.Proofs.YtohgekhjaodehaaDoor

/-- n is a prime: by trying all divisors. -/
def Pr (n : Nat) : Prop := 2 ≤ n ∧ ∀ d, 2 ≤ d → d * d ≤ n → ¬ n % d = 0

theorem Pr.div {n d : Nat} (h : Pr n) (hd : d ∣ n) : d = 1 ∨ d = n := by
  obtain ⟨m, rfl⟩ := hd
  have h2 := h.1
  by_cases h1 : d ≤ 1
  · have : d ≠ 0 := by intro e; subst e; omega
    exact .inl (by omega)
  · by_cases hm : m ≤ 1
    · have : m ≠ 0 := by intro e; subst e; omega
      have : m = 1 := by omega
      subst this
      exact .inr (Nat.mul_one d).symm
    · exfalso
      by_cases hle : d ≤ m
      · exact h.2 d (by omega) (Nat.mul_le_mul_left d hle) (Nat.mul_mod_right d m)
      · exact h.2 m (by omega) (Nat.mul_le_mul_right m (by omega)) (Nat.mul_mod_left d m)
theorem Pr.euclid {p a b : Nat} (h : Pr p) (hd : p ∣ a * b) : p ∣ a ∨ p ∣ b := by
  rcases h.div (Nat.gcd_dvd_left p a) with h1 | h1
  · exact .inr (Nat.Coprime.dvd_of_dvd_mul_left h1 hd)
  · exact .inl (by rw [← h1]; exact Nat.gcd_dvd_right p a)

theorem perm_of : ∀ (l1 l2 : List Nat), l1.Nodup → (∀ x, x ∈ l1 → x ∈ l2) → l2.length ≤ l1.length → l1.Perm l2
  | [], l2, _, _, hl => by
    obtain rfl : l2 = [] := List.length_eq_zero_iff.1 (by simpa using hl)
    exact List.Perm.refl _
  | x :: l1, l2, hn, hs, hl => by
    have hx : x ∈ l2 := hs x (by simp)
    have hn' := List.nodup_cons.1 hn
    have hp := List.perm_cons_erase hx
    have hlen : (l2.erase x).length = l2.length - 1 := List.length_erase_of_mem hx
    refine (List.Perm.cons x (perm_of l1 (l2.erase x) hn'.2 (fun y hy => ?_) ?_)).trans hp.symm
    · have hne : y ≠ x := fun e => hn'.1 (e ▸ hy)
      exact (List.mem_erase_of_ne hne).2 (hs y (by simp [hy]))
    · rw [hlen]
      simp at hl
      omega

def prodL (l : List Nat) : Nat := l.foldr (fun x y => x * y) 1
theorem prodL_perm {l1 l2 : List Nat} (h : l1.Perm l2) : prodL l1 = prodL l2 := by
  induction h with
  | nil => rfl
  | cons x _ ih => show x * prodL _ = x * prodL _; rw [ih]
  | swap x y l => show y * (x * prodL l) = x * (y * prodL l); rw [Nat.mul_left_comm]
  | trans _ _ h1 h2 => exact h1.trans h2
theorem prodL_times (p a : Nat) : ∀ l : List Nat, prodL (l.map fun i => a * i % p) % p = a ^ l.length * prodL l % p
  | [] => rfl
  | x :: l => by
    show (a * x % p) * prodL (l.map fun i => a * i % p) % p = a ^ (l.length + 1) * (x * prodL l) % p
    rw [Nat.mod_mul_mod, Nat.mul_mod, prodL_times p a l, ← Nat.mul_mod, Nat.pow_succ]
    congr 1
    grind
theorem prodL_not {p : Nat} (h : Pr p) : ∀ l : List Nat, (∀ x, x ∈ l → ¬ p ∣ x) → ¬ p ∣ prodL l
  | [], _ => fun hd => by have := Nat.le_of_dvd (by decide) hd; have := h.1; have e : prodL [] = 1 := rfl; omega
  | x :: l, hx => fun hd => by
    rcases h.euclid (show p ∣ x * prodL l from hd) with h1 | h1
    · exact hx x (by simp) h1
    · exact prodL_not h l (fun y hy => hx y (by simp [hy])) h1

theorem fermat {p a : Nat} (h : Pr p) (ha : ¬ p ∣ a) : a ^ (p - 1) % p = 1 := by
  have h2 := h.1
  have hrange : ∀ x, x ∈ List.range' 1 (p - 1) → 1 ≤ x ∧ x < p := fun x hx => by
    have := List.mem_range'_1.1 hx
    omega
  have hnd : ∀ x, 1 ≤ x → x < p → ¬ p ∣ x := fun x h1 h2 hd => by have := Nat.le_of_dvd (by omega) hd; omega
  have hP : ((List.range' 1 (p - 1)).map fun i => a * i % p).Perm (List.range' 1 (p - 1)) := by
    refine perm_of _ _ ?_ ?_ (by simp)
    · show List.Pairwise _ _
      rw [List.pairwise_map]
      refine List.Pairwise.imp_of_mem (R := fun x y => x < y) ?_ List.pairwise_lt_range'
      intro x y hx hy hlt he
      have h1 := hrange x hx
      have h3 := hrange y hy
      have hc := Cg.of_mod (p := p) (a := a * y) (b := a * x) he.symm
      have hd : p ∣ a * (y - x) := by
        have e : ((a * y : Nat) : Int) - ((a * x : Nat) : Int) = ((a * (y - x) : Nat) : Int) := by
          rw [Nat.mul_sub, Int.natCast_sub (Nat.mul_le_mul_left a (Nat.le_of_lt hlt))]
        unfold Cg at hc
        rw [e] at hc
        exact Int.natCast_dvd_natCast.1 hc
      rcases h.euclid hd with h4 | h4
      · exact ha h4
      · exact hnd (y - x) (by omega) (by omega) h4
    · intro x hx
      obtain ⟨i, hi, rfl⟩ := List.mem_map.1 hx
      have h1 := hrange i hi
      refine List.mem_range'_1.2 ⟨?_, ?_⟩
      · apply Nat.pos_of_ne_zero
        intro e
        rcases h.euclid (Nat.dvd_of_mod_eq_zero e) with h4 | h4
        · exact ha h4
        · exact hnd i h1.1 h1.2 h4
      · have := Nat.mod_lt (a * i) (show 0 < p by omega)
        omega
  have e1 := prodL_times p a (List.range' 1 (p - 1))
  rw [prodL_perm hP, List.length_range'] at e1
  have hF := prodL_not h (List.range' 1 (p - 1)) (fun x hx => hnd x (hrange x hx).1 (hrange x hx).2)
  generalize prodL (List.range' 1 (p - 1)) = F at *
  have ha0 : 0 < a := Nat.pos_of_ne_zero fun e => ha (e ▸ Nat.dvd_zero p)
  have hpos : 0 < a ^ (p - 1) := Nat.pow_pos ha0
  generalize a ^ (p - 1) = A at *
  have hc := Cg.of_mod (p := p) (a := A * F) (b := F) e1.symm
  have hd : p ∣ (A - 1) * F := by
    have e : ((A * F : Nat) : Int) - (F : Int) = (((A - 1) * F : Nat) : Int) := by
      obtain ⟨B, rfl⟩ : ∃ B, A = B + 1 := ⟨A - 1, by omega⟩
      rw [Nat.add_sub_cancel, Nat.add_mul, Nat.one_mul, Int.natCast_add]
      omega
    unfold Cg at hc
    rw [e] at hc
    exact Int.natCast_dvd_natCast.1 hc
  rcases h.euclid hd with h4 | h4
  · obtain ⟨k, hk⟩ := h4
    have : A = 1 + p * k := by omega
    rw [this, Nat.add_mul_mod_self_left, Nat.mod_eq_of_lt (by omega)]
  · exact absurd h4 hF

theorem root_of_one {p x : Nat} (h : Pr p) (hx : x < p) (he : x * x % p = 1) : x = 1 ∨ x = p - 1 := by
  have h2 := h.1
  have hx0 : x ≠ 0 := by intro e; subst e; simp at he
  have hd : p ∣ (x - 1) * (x + 1) := by
    have h3 := Nat.div_add_mod (x * x) p
    rw [he] at h3
    refine ⟨x * x / p, ?_⟩
    obtain ⟨y, rfl⟩ : ∃ y, x = y + 1 := ⟨x - 1, by omega⟩
    have e : (y + 1 - 1) * (y + 1 + 1) + 1 = (y + 1) * (y + 1) := by rw [Nat.add_sub_cancel]; grind
    omega
  rcases h.euclid hd with h4 | h4
  · by_cases h1 : x = 1
    · exact .inl h1
    · have := Nat.le_of_dvd (by omega) h4; omega
  · have := Nat.le_of_dvd (by omega) h4
    exact .inr (by omega)

theorem ml_pow (p x k : Nat) : ml p x x ^ (2 ^ k) % p = x ^ (2 ^ (k + 1)) % p := by
  unfold ml
  rw [← Nat.pow_mod, sq_pow, Nat.pow_succ, Nat.mul_comm (2 ^ k) 2]
theorem sp_prime {p : Nat} (h : Pr p) : ∀ (k x : Nat), x < p → x ^ (2 ^ k) % p = 1 → x = 1 ∨ sp p k x = true
  | 0, x, hx, he => by rw [Nat.pow_zero, Nat.pow_one, Nat.mod_eq_of_lt hx] at he; exact .inl he
  | k + 1, x, hx, he => by
    by_cases h1 : x = p - 1
    · exact .inr (by unfold sp; rw [decide_eq_true h1]; rfl)
    · rw [← ml_pow] at he
      rcases sp_prime h k (ml p x x) (Nat.mod_lt _ (by omega)) he with h2 | h2
      · rcases root_of_one h hx h2 with h3 | h3
        · exact .inl h3
        · exact absurd h3 h1
      · exact .inr (by unfold sp; rw [h2, Bool.or_true])
theorem pass_prime {p b : Nat} (h : Pr p) (hp : p < 18446744073709551616) (hb : ¬ p ∣ b) : pass p b = true := by
  have h2 := h.1
  obtain ⟨_, _, h3⟩ := twos_of (n := p) (by omega) hp
  have hf := fermat h hb
  rw [← h3, Nat.pow_mul, Nat.pow_mod] at hf
  unfold pass
  rcases sp_prime h (tw p) (pw p b (od p)) (Nat.mod_lt _ (by omega)) hf with h4 | h4
  · rw [decide_eq_true h4]; rfl
  · rw [h4, Bool.or_true]

theorem sp_one {n : Nat} (h : 2 ≤ n) : ∀ (k x : Nat), sp n k x = true → x ^ (2 ^ k) % n = 1
  | 0, _, he => by cases he
  | k + 1, x, he => by
    by_cases h1 : x = n - 1
    · rw [← ml_pow]
      have e : ml n x x = 1 := by
        unfold ml
        subst h1
        obtain ⟨m, rfl⟩ : ∃ m, n = m + 2 := ⟨n - 2, by omega⟩
        have : (m + 2 - 1) * (m + 2 - 1) = 1 + (m + 2) * m := by
          rw [show m + 2 - 1 = m + 1 by omega]; grind
        rw [this, Nat.add_mul_mod_self_left, Nat.mod_eq_of_lt (by omega)]
      rw [e, Nat.one_pow, Nat.mod_eq_of_lt (by omega)]
    · unfold sp at he
      rw [decide_eq_false h1, Bool.false_or] at he
      rw [← ml_pow]
      exact sp_one h k _ he
/-- What passes by b is a prime or looks like one to Fermat. -/
theorem pass_fermat {n b : Nat} (h : 2 ≤ n) (hn : n < 18446744073709551616) (hp : pass n b = true) : pw n b (n - 1) = 1 := by
  obtain ⟨_, _, h3⟩ := twos_of (n := n) (by omega) hn
  unfold pass at hp
  have hx : pw n b (od n) ^ (2 ^ tw n) % n = 1 := by
    rcases Bool.or_eq_true_iff.1 hp with h1 | h1
    · rw [of_decide_eq_true h1, Nat.one_pow, Nat.mod_eq_of_lt (by omega)]
    · exact sp_one h _ _ h1
  unfold pw at hx ⊢
  rw [← Nat.pow_mod, ← Nat.pow_mul, h3] at hx
  exact hx

theorem least_of {P : Nat → Prop} : ∀ N, (∀ j, j < N → ¬ P j) ∨ ∃ k, k < N ∧ P k ∧ ∀ j, j < k → ¬ P j
  | 0 => .inl fun j hj => absurd hj (by omega)
  | N + 1 => by
    rcases least_of (P := P) N with h | ⟨k, h1, h2, h3⟩
    · by_cases hN : P N
      · exact .inr ⟨N, by omega, hN, h⟩
      · refine .inl fun j hj => ?_
        by_cases e : j = N
        · rw [e]; exact hN
        · exact h j (by omega)
    · exact .inr ⟨k, by omega, h2, h3⟩

theorem isP_prime {p : Nat} (h : Pr p) (hp : p < 18446744073709551616) : isP p = true := by
  rcases least_of (P := fun j => p % bs j = 0) 12 with hn | ⟨k, hk, h1, h2⟩
  · refine isP_all h.1 hn fun j hj => pass_prime h hp fun hd => ?_
    have := (no_base h.1 hn).2
    have hb := bs_range j hj
    have := Nat.le_of_dvd (by omega) hd
    omega
  · rw [isP_hit h.1 hk h2 h1]
    have hb := bs_range k hk
    rcases h.div (Nat.dvd_of_mod_eq_zero h1) with e | e
    · omega
    · exact decide_eq_true e.symm

end Go.Proofs.YtohgekhjaodehaaDoor
