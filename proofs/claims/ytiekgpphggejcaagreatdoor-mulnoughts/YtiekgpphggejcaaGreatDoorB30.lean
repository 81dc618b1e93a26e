/- The reference's transform, by its definition. -/
import Derived.Test.YtiekgpphggejcaaGreatDoorB14
import Derived.Test.YtiekgpphggejcaaGreatDoorB29
import Derived.Test.YtiekgpphggejcaaGreatDoorB23
namespace Go.Proofs.YtiekgpphggejcaaGreatDoor
open Go.RowKit

theorem old_below {W : World} (u : Old W) : Below W.heap.size W u.val := u.old

end Go.Proofs.YtiekgpphggejcaaGreatDoor

/- The reference's Reds and Conv. -/
namespace Go.Proofs.YtiekgpphggejcaaGreatDoor
open Go.RowKit

/-- Numbers modulo p. -/
def reds (p : Nat) (xs : List Nat) : List Nat := xs.map fun x => x % p
def RRow (p : Nat) (xs zs : List Nat) (k : Nat) : Prop := zs.length = xs.length ∧ ∀ i, i < k → zs.getD i 0 = xs.getD i 0 % p
theorem rrow_step {p : Nat} {xs zs : List Nat} {k : Nat} (h : RRow p xs zs k) (hk : k < xs.length) : RRow p xs (zs.set k (xs.getD k 0 % p)) (k + 1) := by
  refine ⟨by simpa using h.1, fun i hi => ?_⟩
  have hl : k < zs.length := by rw [h.1]; exact hk
  by_cases e : i = k
  · subst e; simp [hl]
  · have : (zs.set k (xs.getD k 0 % p)).getD i 0 = zs.getD i 0 := by simp [List.getElem?_set_ne (Ne.symm e)]
    rw [this]
    exact h.2 i (by omega)
theorem rrow_end {p : Nat} {xs zs : List Nat} (h : RRow p xs zs xs.length) : zs = reds p xs := by
  refine list_of (by rw [h.1]; simp [reds]) fun k hk => ?_
  have hk2 : k < xs.length := by simpa [reds] using hk
  rw [h.2 k hk2]
  simp [reds, hk2]

/-- Sums of products x b[j] from the place i on, going round; then of all. -/
def cvIn (p m x : Nat) (ys : List Nat) (i : Nat) (zs : List Nat) : Nat → List Nat
  | 0 => zs
  | j + 1 => (cvIn p m x ys i zs j).set ((i + j) % m) (ad p ((cvIn p m x ys i zs j).getD ((i + j) % m) 0) (ml p x (ys.getD j 0)))
def cvOut (p m : Nat) (xs ys : List Nat) : Nat → List Nat
  | 0 => List.replicate m 0
  | i + 1 => cvIn p m (xs.getD i 0) ys i (cvOut p m xs ys i) ys.length
def convR (p m : Nat) (xs ys : List Nat) : List Nat := cvOut p m xs ys xs.length
theorem cvIn_length (p m x : Nat) (ys : List Nat) (i : Nat) (zs : List Nat) : ∀ j, (cvIn p m x ys i zs j).length = zs.length
  | 0 => rfl
  | j + 1 => by unfold cvIn; rw [List.length_set, cvIn_length p m x ys i zs j]
theorem cvOut_length (p m : Nat) (xs ys : List Nat) : ∀ i, (cvOut p m xs ys i).length = m
  | 0 => by simp [cvOut]
  | i + 1 => by unfold cvOut; rw [cvIn_length, cvOut_length p m xs ys i]
theorem cvIn_cg {p m x : Nat} {ys zs : List Nat} {i : Nat} (hm : 0 < m) (hl : zs.length = m) (k : Nat) (hk : k < m) : ∀ j, Cg p ((cvIn p m x ys i zs j).getD k 0 : Int) ((zs.getD k 0 : Int) + sI j fun t => if (i + t) % m = k then (x : Int) * rowI ys t else 0)
  | 0 => Cg.of_eq (by show _ = (zs.getD k 0 : Int) + 0; rw [Int.add_zero]; rfl)
  | j + 1 => by
    have ih := cvIn_cg (p := p) (x := x) (ys := ys) (i := i) hm hl k hk j
    have hlen : (cvIn p m x ys i zs j).length = m := by rw [cvIn_length, hl]
    have hq : (i + j) % m < m := Nat.mod_lt _ hm
    show Cg p (((cvIn p m x ys i zs j).set ((i + j) % m) (ad p ((cvIn p m x ys i zs j).getD ((i + j) % m) 0) (ml p x (ys.getD j 0)))).getD k 0 : Int) ((zs.getD k 0 : Int) + ((sI j fun t => if (i + t) % m = k then (x : Int) * rowI ys t else 0) + if (i + j) % m = k then (x : Int) * rowI ys j else 0))
    by_cases e : (i + j) % m = k
    · rw [if_pos e, e]
      have : ((cvIn p m x ys i zs j).set k (ad p ((cvIn p m x ys i zs j).getD k 0) (ml p x (ys.getD j 0)))).getD k 0 = ad p ((cvIn p m x ys i zs j).getD k 0) (ml p x (ys.getD j 0)) := by
        simp [hlen, hk]
      rw [this]
      refine (ad_cg p _ _).trans (((ih.add (ml_cg p _ _))).trans (Cg.of_eq ?_))
      show _ + _ + (x : Int) * ((ys.getD j 0 : Nat) : Int) = _
      unfold rowI
      omega
    · rw [if_neg e]
      have : ((cvIn p m x ys i zs j).set ((i + j) % m) (ad p ((cvIn p m x ys i zs j).getD ((i + j) % m) 0) (ml p x (ys.getD j 0)))).getD k 0 = (cvIn p m x ys i zs j).getD k 0 := by
        simp [List.getElem?_set_ne e]
      rw [this, Int.add_zero]
      exact ih
theorem cvOut_cg {p m : Nat} {xs ys : List Nat} (hm : 0 < m) (k : Nat) (hk : k < m) : ∀ i, Cg p ((cvOut p m xs ys i).getD k 0 : Int) (sI i fun s => sI ys.length fun t => if (s + t) % m = k then rowI xs s * rowI ys t else 0)
  | 0 => Cg.of_eq (by show (((List.replicate m 0).getD k 0 : Nat) : Int) = 0; simp [hk])
  | i + 1 => by
    refine (cvIn_cg hm (cvOut_length p m xs ys i) k hk ys.length).trans ?_
    exact (cvOut_cg hm k hk i).add (Cg.refl _ _)
theorem cvIn_lt {p m x : Nat} {ys zs : List Nat} {i : Nat} (hp : 0 < p) (hz : ∀ k, zs.getD k 0 < p) : ∀ j k, (cvIn p m x ys i zs j).getD k 0 < p
  | 0, k => hz k
  | j + 1, k => by
    unfold cvIn
    have ih := cvIn_lt (m := m) (x := x) (ys := ys) (i := i) hp hz j
    generalize (i + j) % m = q
    rw [List.getD_eq_getElem?_getD, List.getElem?_set]
    split
    · split
      · exact Nat.mod_lt _ hp
      · exact hp
    · have := ih k
      rwa [List.getD_eq_getElem?_getD] at this
theorem cvOut_lt {p m : Nat} {xs ys : List Nat} (hp : 0 < p) : ∀ i k, (cvOut p m xs ys i).getD k 0 < p
  | 0, k => by
    show (List.replicate m 0).getD k 0 < p
    rw [List.getD_eq_getElem?_getD, List.getElem?_replicate]
    split <;> exact hp
  | i + 1, k => cvIn_lt hp (cvOut_lt hp i) ys.length k

end Go.Proofs.YtiekgpphggejcaaGreatDoor
