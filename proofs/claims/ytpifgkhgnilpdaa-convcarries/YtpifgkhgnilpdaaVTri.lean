/- Numbers of three words, the lowest first; rows of them in memory. -/
import Derived.Test.YtpifgkhgnilpdaaKeepS
import Derived.Test.YtpifgkhgnilpdaaVNum
namespace Go.Proofs.Ytpifgkhgnilpdaa
open Go.RowKit

/-- The number of three words, the lowest first. -/
def v3 (a b c : Nat) : Nat := a + 18446744073709551616 * (b + 18446744073709551616 * c)
/-- Block g holds three words for each of q numbers T k. -/
def TriAt (w : World) (g q : Nat) (T : Nat → Nat) : Prop :=
  ∀ k, k < q → ∃ t0 t1 t2 : Nat, t0 < 18446744073709551616 ∧ t1 < 18446744073709551616 ∧ t2 < 18446744073709551616 ∧ v3 t0 t1 t2 = T k ∧ w.cell? ⟨g, k * 3, none⟩ = some (.int .u64 (t0 : Int)) ∧ w.cell? ⟨g, k * 3 + 1, none⟩ = some (.int .u64 (t1 : Int)) ∧ w.cell? ⟨g, k * 3 + 2, none⟩ = some (.int .u64 (t2 : Int))
theorem TriAt.next {w w' : World} {g q : Nat} {T : Nat → Nat} (h : TriAt w g q T) (b : Below w.heap.size w w') : TriAt w' g q T := fun k hk => by
  obtain ⟨t0, t1, t2, a, a1, a2, e, c0, c1, c2⟩ := h k hk
  have hg := World.block_lt_of_cell? _ _ c0
  exact ⟨t0, t1, t2, a, a1, a2, e, (b.cell (p := ⟨g, k * 3, none⟩) hg).trans c0, (b.cell (p := ⟨g, k * 3 + 1, none⟩) hg).trans c1, (b.cell (p := ⟨g, k * 3 + 2, none⟩) hg).trans c2⟩
theorem TriAt.but {w w' : World} {g q k : Nat} {T : Nat → Nat} (h : TriAt w g q T) (b : w.grownBy w' (some k)) (hk : g ≠ k) : TriAt w' g q T := fun i hi => by
  obtain ⟨t0, t1, t2, a, a1, a2, e, c0, c1, c2⟩ := h i hi
  exact ⟨t0, t1, t2, a, a1, a2, e, b.cell c0 (by simpa using hk), b.cell c1 (by simpa using hk), b.cell c2 (by simpa using hk)⟩

def SpecWakes : Prop := ∀ w : World, Calls Try.prog 12 #[] w fun e w' => e = .returned (.bool true) ∧ Below w.heap.size w w'
theorem v3_val (a b c : Nat) : wval [a, b, c] = v3 a b c := by simp [wval, v3]
theorem v3_dig {a b c : Nat} (h0 : a < 18446744073709551616) (h1 : b < 18446744073709551616) (h2 : c < 18446744073709551616) : ∀ x ∈ [a, b, c], x < 18446744073709551616 := by
  intro x hx
  simp at hx
  rcases hx with rfl | rfl | rfl <;> assumption
theorem blk_three (w : World) (a b c : Nat) : Blk (w.alloc (.cells #[.int .u64 (a : Int), .int .u64 (b : Int), .int .u64 (c : Int)] 22)) w.heap.size [a, b, c] := heap_alloc_new w _

set_option maxRecDepth 100000 in
set_option maxHeartbeats 1600000 in
theorem lawThree_any (a b c : Nat) (w : World) (h0 : a < 18446744073709551616) (h1 : b < 18446744073709551616) (h2 : c < 18446744073709551616) :
    Calls Try.prog 5 #[.agg #[.int .u64 (a : Int), .int .u64 (b : Int), .int .u64 (c : Int)]] w fun e w' => ∃ v, e = .returned v ∧ IsN w' v (v3 a b c) ∧ Below w.heap.size w w' := by
  have CF := hide (fun W G (h : Blk W G [a, b, c]) => from_any W (some ⟨G, 0, none⟩) G 0 3 [a, b, c] (by simp) (Blk.whole h rfl) (v3_dig h0 h1 h2))
  rw [v3_val] at CF
  clear h0 h1 h2
  go_enter Try.func5, Try.ntmps5
  have hB := blk_three (w.alloc (.cells #[.int .u64 (a : Int), .int .u64 (b : Int), .int .u64 (c : Int)] 26)) a b c
  have e : (w.alloc (.cells #[.int .u64 (a : Int), .int .u64 (b : Int), .int .u64 (c : Int)] 26)).heap.size = w.heap.size + 1 := by simp
  rw [e] at hB
  have b2 : Below w.heap.size w ((w.alloc (.cells #[.int .u64 (a : Int), .int .u64 (b : Int), .int .u64 (c : Int)] 26)).alloc (.cells #[.int .u64 (a : Int), .int .u64 (b : Int), .int .u64 (c : Int)] 22)) := ((Below.refl w.heap.size w).alloc (Nat.le_refl _) _).alloc (by simp) _
  have C := hide (unhide CF _ _ hB)
  have B2 := hide b2
  clear CF hB e b2
  go_wp2_with fail
  refine (unhide C).mono ?_
  rintro e w' ⟨v, rfl, hN, hb⟩
  have bl := bstep (unhide B2) hb
  go_wp2
  go_ret
  exact ⟨v, rfl, hN, bl⟩

/-- What turns an elder block leaves what is new. -/
theorem NewW.off {B k : Nat} {w w' : World} {v : Value} {n : Nat} (h : NewW B w v n) (hb : w.grownBy w' (some k)) (hk : k < B) : NewW B w' v n := by
  obtain ⟨xs, hc, hv, h | ⟨g, ys, hg, rfl, hkk, hl⟩⟩ := h
  · exact ⟨xs, hc, hv, Or.inl h⟩
  · exact ⟨xs, hc, hv, Or.inr ⟨g, ys, hg, rfl, hkk.but hb (by omega), hl⟩⟩
theorem prodw_lt {A D p q : Nat} (hA : A < 18446744073709551616 ^ p) (hD : D < 18446744073709551616 ^ q) : A * D < 18446744073709551616 ^ (p + q) := by
  have := Nat.mul_lt_mul'' hA hD
  rwa [← Nat.pow_add] at this
theorem from_row (w : World) (ga : Option Addr) (b o cap n A : Nat) (us : List Nat) (hl : us.length = n) (hn : n ≤ 1073741824) (hR : Rep w ga b o cap us) (hd : WDig us) (hA : A = wval us) :
    Calls Try.prog 18 #[.slice ga n cap] w fun e w' => ∃ v, e = .returned v ∧ IsN w' v A ∧ Below w.heap.size w w' := by
  subst hl hA
  exact from_any w ga b o cap us (by omega) hR (wDig_mem hd)

end Go.Proofs.Ytpifgkhgnilpdaa
