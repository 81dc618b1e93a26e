/- What the laws of limb share: rows that are spoilt, 'from'. -/
import Derived.Test.YtdocljbmmaoenaaWakes
import Derived.Test.YtdocljbmmaoenaaToSame
import Derived.Test.YtdocljbmmaoenaaSmall
import Derived.Test.YtdocljbmmaoenaaCmp
import Derived.Test.YtdocljbmmaoenaaAdd
import Derived.Test.YtdocljbmmaoenaaSub
namespace Go.Proofs.Ytdocljbmmaoenaa
open Go.RowKit

theorem pow_two_le (k q : Nat) (h : k ≤ 64 * q) : 2 ^ k ≤ 18446744073709551616 ^ q := by
  rw [show (18446744073709551616 : Nat) = 2 ^ 64 from rfl, ← Nat.pow_mul]
  exact Nat.pow_le_pow_right (by omega) h
theorem shl_bound {A k p q : Nat} (hA : A < 18446744073709551616 ^ p) (h : k ≤ 64 * q) : A * 2 ^ k < 18446744073709551616 ^ (p + q) := by
  have h2 := Nat.mul_lt_mul_of_lt_of_le hA (pow_two_le k q h) (wpow_pos q)
  rwa [← Nat.pow_add] at h2

/-- A natural as limb answers it, in a block from B on, below M. -/
def NewB (B M : Nat) (w : World) (v : Value) (n : Nat) : Prop :=
  ∃ xs, WCan xs ∧ wval xs = n ∧ ((v = .slice none 0 0 ∧ xs = []) ∨ ∃ g ys, B ≤ g ∧ g < M ∧ v = .slice (some ⟨g, 0, none⟩) xs.length (xs ++ ys).length ∧ Blk w g (xs ++ ys) ∧ xs.length + ys.length ≤ 1099511627776)
theorem NewW.born {B : Nat} {w : World} {v : Value} {n : Nat} (h : NewW B w v n) : NewB B w.heap.size w v n := by
  obtain ⟨xs, hc, hv, h | ⟨g, ys, hg, rfl, hk, hl⟩⟩ := h
  · exact ⟨xs, hc, hv, Or.inl h⟩
  · exact ⟨xs, hc, hv, Or.inr ⟨g, ys, hg, hk.lt, rfl, hk, hl⟩⟩
theorem NewB.toW {B M : Nat} {w : World} {v : Value} {n : Nat} (h : NewB B M w v n) : NewW B w v n := by
  obtain ⟨xs, hc, hv, h | ⟨g, ys, hg, _, rfl, hk, hl⟩⟩ := h
  · exact ⟨xs, hc, hv, Or.inl h⟩
  · exact ⟨xs, hc, hv, Or.inr ⟨g, ys, hg, rfl, hk, hl⟩⟩
theorem NewB.next {B M : Nat} {w w' : World} {v : Value} {n : Nat} (h : NewB B M w v n) (hb : Below w.heap.size w w') : NewB B M w' v n := by
  obtain ⟨xs, hc, hv, h | ⟨g, ys, hg, hm, rfl, hk, hl⟩⟩ := h
  · exact ⟨xs, hc, hv, Or.inl h⟩
  · exact ⟨xs, hc, hv, Or.inr ⟨g, ys, hg, hm, rfl, hk.next hb, hl⟩⟩
theorem newB_nil (B M : Nat) (w : World) : NewB B M w (.slice none 0 0) 0 := ⟨[], wCan_nil, rfl, Or.inl ⟨rfl, rfl⟩⟩

/-- At most a block from B on, below M, is turned. -/
def Spoilt (B M : Nat) (w w' : World) : Prop := w' = w ∨ ∃ g, B ≤ g ∧ g < M ∧ w.grownBy w' (some g)
theorem Rep.spoilt {B M : Nat} {w w' : World} {ga : Option Addr} {b o cap : Nat} {xs : List Nat} (h : Rep w ga b o cap xs) (hs : Spoilt B M w w') (hb : 0 < xs.length → b < B ∨ M ≤ b) : Rep w' ga b o cap xs := by
  rcases hs with rfl | ⟨g, h1, h2, hg⟩
  · exact h
  · exact h.but hg (fun h0 => by have := hb h0; omega)
theorem NewB.spoilt {B M B' M' : Nat} {w w' : World} {v : Value} {n : Nat} (h : NewB B' M' w v n) (hs : Spoilt B M w w') (hd : M ≤ B' ∨ M' ≤ B) : NewB B' M' w' v n := by
  rcases hs with rfl | ⟨g, h1, h2, hg⟩
  · exact h
  · obtain ⟨xs, hc, hv, h | ⟨k, ys, hk1, hk2, rfl, hk, hl⟩⟩ := h
    · exact ⟨xs, hc, hv, Or.inl h⟩
    · exact ⟨xs, hc, hv, Or.inr ⟨k, ys, hk1, hk2, rfl, hk.but hg (by omega), hl⟩⟩
theorem below_spoilt {B M C : Nat} {w0 w w' : World} (h : Below C w0 w) (hs : Spoilt B M w w') (hC : C ≤ B) (hw : C ≤ w.heap.size) : Below C w0 w' := by
  rcases hs with rfl | ⟨g, h1, h2, hg⟩
  · exact h
  · exact below_grown h hg (by omega) hw
theorem spoilt_size {B M : Nat} {w w' : World} (hs : Spoilt B M w w') : w.heap.size ≤ w'.heap.size := by
  rcases hs with rfl | ⟨g, h1, h2, hg⟩
  · exact Nat.le_refl _
  · exact hg.size

theorem spoil_any (w : World) (v : Value) (n B M : Nat) (h : NewB B M w v n) : Calls Try.prog 15 #[v] w fun e w' => e = .returned (.tuple #[]) ∧ Spoilt B M w w' := by
  obtain ⟨xs, hc, hv, ⟨rfl, rfl⟩ | ⟨g, ys, hg, hm, rfl, hk, hl⟩⟩ := h
  · refine (spoil_nil w).mono ?_
    rintro e w' ⟨rfl, rfl⟩
    exact ⟨rfl, Or.inl rfl⟩
  · refine (spoil_blk w g _ _ _ rfl (by simp) (by simpa using hl) hk).mono ?_
    rintro e w' ⟨rfl, hG⟩
    exact ⟨rfl, Or.inr ⟨g, hg, hm, hG⟩⟩

theorem lent_in {w : World} {g n : Nat} {us : List Nat} (h : Rep w (some ⟨g, 0, none⟩) g 0 (n + 4) us) (hl : us.length = n) (hn : n ≤ 1073741824) (hd : WDig us) (A : Nat) (hA : A = wval us) : InW w (.slice (some ⟨g, 0, none⟩) n (n + 4)) A :=
  ⟨_, _, _, _, us, by rw [hl], h, hd, hA.symm, by omega⟩

end Go.Proofs.Ytdocljbmmaoenaa
