/- What the statements on package mul ask of its calls: as propositions, for whatever code. -/
import Derived.Test.YtiekgpphggejcaaGreatDoorB33
import Derived.Test.YtiekgpphggejcaaGreatDoorB25
import Derived.Test.YtiekgpphggejcaaGreatDoorB13
import Derived.Test.YtiekgpphggejcaaGreatDoorB35
namespace Go.Proofs.YtiekgpphggejcaaGreatDoor
open Go.RowKit

/-- At block gm lies an engine of mul, whose engine of toom lies at gt. -/
structure MEng (w : World) (gm gt gk ge g : Nat) (s l m : Int) (T : Tab) : Prop where
  ptr : w.cell? ⟨gm, 0, none⟩ = some (.pointer (some ⟨gt, 0, none⟩))
  toom : TEng w gt gk ge g s l m T
  nm : gm ≠ g
theorem MEng.lt {w : World} {gm gt gk ge g : Nat} {s l m : Int} {T : Tab} (h : MEng w gm gt gk ge g s l m T) : gm < w.heap.size := World.block_lt_of_cell? _ _ h.ptr
theorem MEng.met {w : World} {gm gt gk ge g : Nat} {s l m : Int} {T : Tab} (h : MEng w gm gt gk ge g s l m T) : Met w g 0 s l m := h.toom.kara.eng.met
theorem MEng.eng {w : World} {gm gt gk ge g : Nat} {s l m : Int} {T : Tab} (h : MEng w gm gt gk ge g s l m T) : Eng w ge g s l m := h.toom.kara.eng
/-- The way to the meter. -/
theorem MEng.way {w : World} {gm gt gk ge g : Nat} {s l m : Int} {T : Tab} (h : MEng w gm gt gk ge g s l m T) : w.cell? ⟨gm, 0, none⟩ = some (.pointer (some ⟨gt, 0, none⟩)) ∧ w.cell? ⟨gt, 0, none⟩ = some (.pointer (some ⟨gk, 0, none⟩)) ∧ w.cell? ⟨gk, 0, none⟩ = some (.pointer (some ⟨ge, 0, none⟩)) ∧ w.cell? ⟨ge, 0, none⟩ = some (.pointer (some ⟨g, 0, none⟩)) :=
  ⟨h.ptr, h.toom.ptr, h.toom.kara.ptr, h.toom.kara.eng.ptr⟩
theorem MEng.next {w w' : World} {gm gt gk ge g : Nat} {s l m : Int} {T : Tab} (h : MEng w gm gt gk ge g s l m T) (b : Below w.heap.size w w') : MEng w' gm gt gk ge g s l m T :=
  ⟨(b.cell (p := ⟨gm, 0, none⟩) h.lt).trans h.ptr, h.toom.next b, h.nm⟩
theorem MEng.step {w w' : World} {gm gt gk ge g : Nat} {s l m s' l' m' : Int} {T : Tab} (h : MEng w gm gt gk ge g s l m T) (M : Met w' g 0 s' l' m') (t : Touch g 0 3 w w') : MEng w' gm gt gk ge g s' l' m' T :=
  ⟨t.grown.cell h.ptr (by simpa using h.nm), h.toom.step M t, h.nm⟩
theorem MEng.kept {w w' : World} {gm gt gk ge g : Nat} {s l m s' l' m' : Int} {T : Tab} (h : MEng w gm gt gk ge g s l m T) (o : Out (· = g) w w') (K : TEng w' gt gk ge g s' l' m' T) : MEng w' gm gt gk ge g s' l' m' T :=
  ⟨o.cell h.ptr h.nm, K, h.nm⟩
theorem MEng.out {D : Nat → Prop} {w w' : World} {gm gt gk ge g : Nat} {s l m : Int} {T : Tab} (h : MEng w gm gt gk ge g s l m T) (o : Out D w w') (h4 : ¬ D gm) (h3 : ¬ D gt) (h0 : ¬ D gk) (h1 : ¬ D ge) (h2 : ¬ D g) : MEng w' gm gt gk ge g s l m T :=
  ⟨o.cell h.ptr h4, h.toom.out o h3 h0 h1 h2, h.nm⟩
/-- What an engine does leaves all rows of words, all naturals, the tables, and what limb answered. -/
theorem MEng.rep {w w' : World} {gm gt gk ge g : Nat} {s l m : Int} {T : Tab} (h : MEng w gm gt gk ge g s l m T) (o : Out (· = g) w w') {ga : Option Addr} {b oo cap : Nat} {xs : List Nat} (r : Rep w ga b oo cap xs) : Rep w' ga b oo cap xs := h.eng.rep o.grown r
theorem MEng.isN {w w' : World} {gm gt gk ge g : Nat} {s l m : Int} {T : Tab} (h : MEng w gm gt gk ge g s l m T) (o : Out (· = g) w w') {v : Value} {n : Nat} (r : IsN w v n) : IsN w' v n := h.eng.isN o.grown r
theorem MEng.cell {w w' : World} {gm gt gk ge g : Nat} {s l m : Int} {T : Tab} (h : MEng w gm gt gk ge g s l m T) (o : Out (· = g) w w') {p : Addr} {v : Value} (hc : w.cell? p = some v) (hs : p.spot = none) (hv : ∀ z, v ≠ .int .i64 z) : w'.cell? p = some v := o.cell hc (fun e => by
  obtain ⟨b, f, sp⟩ := p
  simp only at e hs
  subst e hs
  obtain ⟨z, hz⟩ := h.eng.ints _ _ hc
  exact hv z hz)
theorem MEng.tb {w w' : World} {gm gt gk ge g : Nat} {s l m : Int} {T : Tab} (h : MEng w gm gt gk ge g s l m T) (o : Out (· = g) w w') (t : TB w) : TB w' :=
  ⟨fun j hj => h.cell o (t.b j hj) rfl (fun x e => by cases e), fun j hj => h.cell o (t.d j hj) rfl (fun x e => by cases e)⟩
/-- .. and another engine. -/
theorem MEng.other {w w' : World} {gm gt gk ge g : Nat} {s l m : Int} {T : Tab} {gm' gt' gk' ge' g' : Nat} {s' l' m' : Int} {T' : Tab} (h : MEng w gm gt gk ge g s l m T) (o : Out (· = g) w w') (k : MEng w gm' gt' gk' ge' g' s' l' m' T') (hg : g' ≠ g) : MEng w' gm' gt' gk' ge' g' s' l' m' T' := by
  have e : ∀ (p : Nat) (q : Option Addr), w.cell? ⟨p, 0, none⟩ = some (.pointer q) → p ≠ g := fun p q hc e => by
    subst e
    obtain ⟨z, hz⟩ := h.eng.ints _ _ hc
    cases hz
  exact k.out o (e _ _ k.ptr) (e _ _ k.toom.ptr) (e _ _ k.toom.kara.ptr) (e _ _ k.toom.kara.eng.ptr) hg

/-- A row that is handed in, of at most MaxWords words. -/
def InM (w : World) (v : Value) (n : Nat) : Prop := ∃ ga b o cap xs, v = .slice ga xs.length cap ∧ Rep w ga b o cap xs ∧ WDig xs ∧ wval xs = n ∧ xs.length ≤ 16384
theorem InM.inW {w : World} {v : Value} {n : Nat} (h : InM w v n) : InW w v n := by
  obtain ⟨ga, b, o, cap, xs, rfl, hr, hd, hv, hl⟩ := h
  exact ⟨ga, b, o, cap, xs, rfl, hr, hd, hv, by omega⟩
theorem InM.next {w w' : World} {v : Value} {n : Nat} (h : InM w v n) (hb : Below w.heap.size w w') : InM w' v n := by
  obtain ⟨ga, b, o, cap, xs, rfl, hr, hd, hv, hl⟩ := h
  exact ⟨ga, b, o, cap, xs, rfl, hr.next hb, hd, hv, hl⟩
theorem inM_rep {w : World} {ga : Option Addr} {b o cap l : Nat} {xs : List Nat} {A : Nat} (hr : Rep w ga b o cap xs) (hd : WDig xs) (hl : xs.length = l) (hA : A = wval xs) (h : l ≤ 16384) : InM w (.slice ga l cap) A := by
  subst hl hA
  exact ⟨_, _, _, _, _, rfl, hr, hd, rfl, h⟩
theorem NewW.toM {B : Nat} {w : World} {v : Value} {n p : Nat} (h : NewW B w v n) (hn : n < 18446744073709551616 ^ p) (hp : p ≤ 16384) : InM w v n := by
  obtain ⟨ga, b, cap, xs, rfl, hr, hc, hv, _⟩ := h.rep
  exact ⟨ga, b, 0, cap, xs, rfl, hr, hc.1, hv, by have := wlen_le hc (L := p) (by rw [hv]; exact hn); omega⟩

def SpecMNew : Prop := ∀ (T : Tab) (w : World), Calls Tryz.prog 10 #[T.val] w fun e w' => ∃ gm gt gk ge g, e = .returned (.pointer (some ⟨gm, 0, none⟩)) ∧ MEng w' gm gt gk ge g 0 0 0 T ∧ (w.heap.size ≤ gm ∧ w.heap.size ≤ gt ∧ w.heap.size ≤ gk ∧ w.heap.size ≤ ge ∧ w.heap.size ≤ g) ∧ Below w.heap.size w w'
theorem mNew_box (SN : SpecMNew) (T : Tab) (w : World) (ob : Obj) :
    Calls Tryz.prog 10 #[T.val] (w.alloc ob) fun e w' => ∃ gm gt gk ge g, e = .returned (.pointer (some ⟨gm, 0, none⟩)) ∧ MEng w' gm gt gk ge g 0 0 0 T ∧ (w.heap.size ≤ gm ∧ w.heap.size ≤ gt ∧ w.heap.size ≤ gk ∧ w.heap.size ≤ ge ∧ w.heap.size ≤ g) ∧ Below w.heap.size w w' := by
  refine (SN T _).mono ?_
  rintro e w' ⟨gm, gt, gk, ge, g, h1, h2, h3, b⟩
  have hs : w.heap.size ≤ (w.alloc ob).heap.size := by simp
  exact ⟨gm, gt, gk, ge, g, h1, h2, by omega, bstep ((Below.refl _ _).alloc (Nat.le_refl _) _) b⟩

def SpecMMul : Prop := ∀ (w : World) (gm gt gk ge g : Nat) (s l m : Int) (T : Tab) (u v : Value) (A C : Nat),
  MEng w gm gt gk ge g s l m T → TB w → 0 ≤ s → s ≤ 1152921504606846976 → 0 ≤ l → l ≤ 1000 → InM w u A → InM w v C →
  Calls Tryz.prog 12 #[.pointer (some ⟨gm, 0, none⟩), u, v] w fun e w' => ∃ r m', e = .returned r ∧ NewW w.heap.size w' r (A * C) ∧ MEng w' gm gt gk ge g (s + costT T (wl A : Int) (wl C : Int)) l m' T ∧ m ≤ m' ∧ m' ≤ max m (l + (dpt (max (wl A) (wl C)) : Int)) ∧ Out (· = g) w w'
def SpecMSqr : Prop := ∀ (w : World) (gm gt gk ge g : Nat) (s l m : Int) (T : Tab) (u : Value) (A : Nat),
  MEng w gm gt gk ge g s l m T → TB w → 0 ≤ s → s ≤ 1152921504606846976 → 0 ≤ l → l ≤ 1000 → InM w u A →
  Calls Tryz.prog 25 #[.pointer (some ⟨gm, 0, none⟩), u] w fun e w' => ∃ r m', e = .returned r ∧ NewW w.heap.size w' r (A * A) ∧ MEng w' gm gt gk ge g (s + sqT T (wl A : Int)) l m' T ∧ m ≤ m' ∧ m' ≤ max m (l + (dpt (wl A) : Int)) ∧ Out (· = g) w w'
/-- The product of all. -/
def prN (ns : List Nat) : Nat := ns.foldl (· * ·) 1
def SpecMProd : Prop := ∀ (w : World) (gm gt gk ge g : Nat) (s l m : Int) (T : Tab) (gp : Option Addr) (bp op cp np c : Nat) (vs : List Value) (ns : List Nat),
  MEng w gm gt gk ge g s l m T → TB w → 0 ≤ s → s ≤ 1152921504606846976 → 0 ≤ l → l ≤ 1000 → vs.length = np → Parts w gp bp op vs ns → (∀ j, j < np → ns.getD j 0 < 18446744073709551616 ^ c) → np * c ≤ 8000 → c ≤ 8000 → np ≤ cp → np ≤ 1000 → (∀ j, j < np → InM w (vs.getD j undef) (ns.getD j 0)) →
  Calls Tryz.prog 30 #[.pointer (some ⟨gm, 0, none⟩), .slice gp np cp] w fun e w' => ∃ r s' m', e = .returned r ∧ NewW w.heap.size w' r (prN ns) ∧ MEng w' gm gt gk ge g s' l m' T ∧ 0 ≤ s' ∧ s' ≤ s + 1125899906842624 ∧ Out (· = g) w w'
/-- Whether a route can be gone with n by m words, n not below m. -/
def may (r : Int) (n m : Nat) : Bool := if r = 1 ∨ r = 2 ∨ r = 5 then decide (0 < m) else if r = 3 then decide (0 < m ∧ (n + 1) / 2 < m) else if r = 4 then decide (0 < m ∧ 2 * ((n + 2) / 3) < m) else false
def SpecMBy : Prop := ∀ (w : World) (gm gt gk ge g : Nat) (s l m : Int) (T : Tab) (u v : Value) (A C : Nat) (r : Int),
  MEng w gm gt gk ge g s l m T → TB w → 0 ≤ s → s ≤ 1152921504606846976 → 0 ≤ l → l ≤ 1000 → InM w u A → InM w v C → may r (max (wl A) (wl C)) (min (wl A) (wl C)) = true → -9223372036854775808 ≤ r → r ≤ 9223372036854775807 →
  Calls Tryz.prog 33 #[.pointer (some ⟨gm, 0, none⟩), .int .i64 r, u, v] w fun e w' => ∃ q s' m', e = .returned (.tuple #[q, .bool true]) ∧ NewW w.heap.size w' q (A * C) ∧ MEng w' gm gt gk ge g s' l m' T ∧ 0 ≤ s' ∧ s' ≤ s + 1125899906842624 ∧ Out (· = g) w w'
def SpecMByNo : Prop := ∀ (w : World) (gm gt gk ge g : Nat) (s l m : Int) (T : Tab) (u v : Value) (A C : Nat) (r : Int),
  MEng w gm gt gk ge g s l m T → TB w → 0 ≤ s → s ≤ 1152921504606846976 → 0 ≤ l → l ≤ 1000 → InM w u A → InM w v C → may r (max (wl A) (wl C)) (min (wl A) (wl C)) = false → -9223372036854775808 ≤ r → r ≤ 9223372036854775807 →
  Calls Tryz.prog 33 #[.pointer (some ⟨gm, 0, none⟩), .int .i64 r, u, v] w fun e w' => ∃ gv c s' m', e = .returned (.tuple #[.slice gv 0 c, .bool false]) ∧ MEng w' gm gt gk ge g s' l m' T ∧ 0 ≤ s' ∧ s' ≤ s + 1125899906842624 ∧ Out (· = g) w w'

end Go.Proofs.YtiekgpphggejcaaGreatDoor
