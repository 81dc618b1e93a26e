/- A bill: a clamped table, whether it is of squares, and the costs that are known already. -/
import Derived.Test.YtpaeihaiaegoeabParts
import Derived.Test.YtpaeihaiaegoeabMapKey
namespace Go.Proofs.Ytpaeihaiaegoeab
open Go.RowKit Go.Maps

/-- What a map of costs holds is right. -/
def Known (T : Tab) (q : Bool) (D : DataW Unit) : Prop :=
  ∀ n m : Nat, n ≤ 16384 → m ≤ 16384 → (q = true → n = m) → ∀ kl, keyOf Try.prog 44 (.agg #[.int .i64 (n : Int), .int .i64 (m : Int)]) = some kl → Maps.has D kl = true → D.atKey kl (.lit (.int .i64 0)) = .lit (.int .i64 (vq q T.B T.D T.N n m : Int))

theorem known_new (T : Tab) (q : Bool) : Known T q (.map []) := fun n m _ _ _ kl _ h => by simp [Maps.has] at h
theorem known_put {T : Tab} {q : Bool} {D : DataW Unit} (h : Known T q D) (hD : IsMap D) {n m : Nat} {kl : Lit} (hk : keyOf Try.prog 44 (.agg #[.int .i64 (n : Int), .int .i64 (m : Int)]) = some kl) :
    Known T q (D.put kl (.lit (.int .i64 (vq q T.B T.D T.N n m : Int)))) := fun n' m' h1 h2 h3 kl' hk' hh => by
  by_cases e : kl' = kl
  · subst e
    have := keyed.inj hk hk'
    simp at this
    obtain ⟨rfl, rfl⟩ : n = n' ∧ m = m' := by omega
    exact atKey_put_same hD (keyed.key hk) _ _
  · rw [has_put_other e] at hh
    rw [atKey_put_other e]
    exact h n' m' h1 h2 h3 kl' hk' hh

/-- At block g lies a bill of the clamped table T, its map at block mb, of at most c entries. -/
structure Bill (w : World) (g mb : Nat) (T : Tab) (q : Bool) (c : Nat) : Prop where
  row : w.heap[g]? = some (.cells #[.int .i64 T.clamp.b, .int .i64 T.clamp.t, .int .i64 T.clamp.n, .int .i64 T.clamp.d, .int .i64 T.clamp.r, .int .i64 T.clamp.l, .int .i64 T.clamp.x, .int .i64 T.clamp.p, .int .i64 T.clamp.k, .int .i64 T.clamp.s, .int .i64 T.clamp.e, .bool q, .map (some mb)] 37 (0, 0))
  ne : g ≠ mb
  map : ∃ D : DataW Unit, w.ownsMap Try.prog 44 (plainElem Try.prog 3) mb c D ∧ Known T q D

theorem Bill.gt {w : World} {g mb : Nat} {T : Tab} {q : Bool} {c : Nat} (h : Bill w g mb T q c) : g < w.heap.size := by
  obtain ⟨i, _⟩ := Array.getElem?_eq_some_iff.1 h.row; exact i
theorem Bill.mt {w : World} {g mb : Nat} {T : Tab} {q : Bool} {c : Nat} (h : Bill w g mb T q c) : mb < w.heap.size := by
  obtain ⟨D, hD, _⟩ := h.map; exact hD.lt
theorem Bill.mono {w : World} {g mb : Nat} {T : Tab} {q : Bool} {c d : Nat} (h : Bill w g mb T q c) (hd : c ≤ d) : Bill w g mb T q d := by
  obtain ⟨D, hD, hK⟩ := h.map
  exact ⟨h.row, h.ne, D, hD.mono hd, hK⟩
theorem Bill.next {w w' : World} {g mb : Nat} {T : Tab} {q : Bool} {c : Nat} (h : Bill w g mb T q c) (b : Below w.heap.size w w') : Bill w' g mb T q c := by
  obtain ⟨D, hD, hK⟩ := h.map
  refine ⟨(b.block g h.gt).trans h.row, h.ne, D, ?_, hK⟩
  obtain ⟨es, clock, hb, r⟩ := hD
  exact ⟨es, clock, (b.block mb h.mt).trans hb, r⟩
theorem Bill.store {w w' : World} {g mb : Nat} {T : Tab} {q : Bool} {c d : Nat} {D : DataW Unit} (h : Bill w g mb T q c) (b : w.grownBy w' (some mb)) (hD : w'.ownsMap Try.prog 44 (plainElem Try.prog 3) mb d D) (hK : Known T q D) : Bill w' g mb T q d :=
  ⟨(b.block g h.gt (fun e => h.ne (Option.some.inj e))).trans h.row, h.ne, D, hD, hK⟩
theorem Bill.cell {w : World} {g mb : Nat} {T : Tab} {q : Bool} {c : Nat} (h : Bill w g mb T q c) :
    w.cell? ⟨g, 0, none⟩ = some (.int .i64 T.clamp.b) ∧ w.cell? ⟨g, 1, none⟩ = some (.int .i64 T.clamp.t) ∧ w.cell? ⟨g, 2, none⟩ = some (.int .i64 T.clamp.n) ∧ w.cell? ⟨g, 3, none⟩ = some (.int .i64 T.clamp.d) ∧
    w.cell? ⟨g, 4, none⟩ = some (.int .i64 T.clamp.r) ∧ w.cell? ⟨g, 5, none⟩ = some (.int .i64 T.clamp.l) ∧ w.cell? ⟨g, 6, none⟩ = some (.int .i64 T.clamp.x) ∧ w.cell? ⟨g, 7, none⟩ = some (.int .i64 T.clamp.p) ∧
    w.cell? ⟨g, 8, none⟩ = some (.int .i64 T.clamp.k) ∧ w.cell? ⟨g, 9, none⟩ = some (.int .i64 T.clamp.s) ∧ w.cell? ⟨g, 10, none⟩ = some (.int .i64 T.clamp.e) :=
  ⟨cell_of_row _ g 0 _ _ _ h.row, cell_of_row _ g 1 _ _ _ h.row, cell_of_row _ g 2 _ _ _ h.row, cell_of_row _ g 3 _ _ _ h.row, cell_of_row _ g 4 _ _ _ h.row, cell_of_row _ g 5 _ _ _ h.row, cell_of_row _ g 6 _ _ _ h.row, cell_of_row _ g 7 _ _ _ h.row, cell_of_row _ g 8 _ _ _ h.row, cell_of_row _ g 9 _ _ _ h.row, cell_of_row _ g 10 _ _ _ h.row⟩
theorem Bill.sqr {w : World} {g mb : Nat} {T : Tab} {q : Bool} {c : Nat} (h : Bill w g mb T q c) : w.cell? ⟨g, 11, none⟩ = some (.bool q) := cell_of_row _ g 11 _ _ _ h.row
theorem Bill.known {w : World} {g mb : Nat} {T : Tab} {q : Bool} {c : Nat} (h : Bill w g mb T q c) : w.cell? ⟨g, 12, none⟩ = some (.map (some mb)) := cell_of_row _ g 12 _ _ _ h.row

set_option maxHeartbeats 800000 in
theorem byHand_any {w : World} {g : Nat} (q : Bool) (n m : Nat) (c : w.cell? ⟨g, 11, none⟩ = some (.bool q)) (hn : n ≤ 16384) (hm : m ≤ 16384) :
    Calls Try.prog 19 #[.pointer (some ⟨g, 0, none⟩), .int .i64 (n : Int), .int .i64 (m : Int)] w fun e w' => e = .returned (.int .i64 ((if q then n * (n + 1) / 2 else n * m : Nat) : Int)) ∧ w' = w := by
  cases q
  · rw [if_neg (by simp)]
    obtain ⟨p, hp⟩ : ∃ p : Nat, n * m = p := ⟨_, rfl⟩
    have b : p ≤ 268435456 := by rw [← hp]; exact Nat.mul_le_mul hn hm
    have e : (n : Int) * (m : Int) = (p : Int) := by rw [← hp]; simp
    rw [hp]
    clear hp
    go_enter Try.func19, Try.ntmps19
    go_wp2
    go_ret
    exact ⟨rfl, rfl⟩
  · rw [if_pos rfl]
    obtain ⟨p, hp⟩ : ∃ p : Nat, n * (n + 1) = p := ⟨_, rfl⟩
    have b : p ≤ 268500000 := by rw [← hp]; exact Nat.le_trans (Nat.mul_le_mul hn (show n + 1 ≤ 16385 by omega)) (by omega)
    have e : (n : Int) * ((n : Int) + 1) = (p : Int) := by rw [← hp]; simp
    rw [hp]
    clear hp
    go_enter Try.func19, Try.ntmps19
    go_wp2
    go_ret
    exact ⟨ret_int (by omega), rfl⟩

set_option maxHeartbeats 800000 in
theorem byTransforms_any {w : World} {g : Nat} (q : Bool) (n m : Nat) (c : w.cell? ⟨g, 11, none⟩ = some (.bool q)) (h1 : 1 ≤ n) (h2 : n ≤ 16384) (h3 : 1 ≤ m) (h4 : m ≤ 16384) :
    Calls Try.prog 20 #[.pointer (some ⟨g, 0, none⟩), .int .i64 (n : Int), .int .i64 (m : Int)] w fun e w' => e = .returned (.int .i64 ((if q then tf n m 2 else tf n m 3 : Nat) : Int)) ∧ w' = w := by
  have C2 := hide (fun w => tTransform_yes n m 2 w h1 h2 h3 h4 (by omega))
  have C3 := hide (fun w => tTransform_yes n m 3 w h1 h2 h3 h4 (by omega))
  generalize tf n m 2 = x at *
  generalize tf n m 3 = y at *
  cases q
  · go_enter Try.func20, Try.ntmps20
    go_wp2_with (go_at_call 6; refine (unhide C3 _).mono ?_; rintro e w' ⟨rfl, rfl⟩)
    go_ret
    exact ⟨rfl, rfl⟩
  · go_enter Try.func20, Try.ntmps20
    go_wp2_with (go_at_call 6; refine (unhide C2 _).mono ?_; rintro e w' ⟨rfl, rfl⟩)
    go_ret
    exact ⟨rfl, rfl⟩

end Go.Proofs.Ytpaeihaiaegoeab
