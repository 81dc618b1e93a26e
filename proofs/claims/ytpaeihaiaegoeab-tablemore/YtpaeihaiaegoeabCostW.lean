/- What a product costs, by a bill: the walk. -/
import Derived.Test.YtpaeihaiaegoeabBill
namespace Go.Proofs.Ytpaeihaiaegoeab
open Go.RowKit Go.Maps

set_option maxRecDepth 100000 in
set_option maxHeartbeats 1600000 in
theorem cost_low {w : World} {g mb : Nat} {T : Tab} {q : Bool} {c : Nat} (n m : Nat) (hm : m ≤ n) (hn : n ≤ 16384) (h : Bill w g mb T q c) (hq : q = true → n = m) (r : rt T.B T.D T.N n m = 0 ∨ rt T.B T.D T.N n m = 1 ∨ rt T.B T.D T.N n m = 5) (r5 : rt T.B T.D T.N n m = 5 → 0 < m) :
    Calls Try.prog 14 #[.pointer (some ⟨g, 0, none⟩), .int .i64 (n : Int), .int .i64 (m : Int)] w fun e w' => e = .returned (.int .i64 (vq q T.B T.D T.N n m : Int)) ∧ Below w.heap.size w w' := by
  have CR := hide (fun w => route_any T.clamp T.B T.D T.N n m T.hB T.hD T.hN (by omega) (by omega) w)
  have BI := hide h
  have CE := hide h.cell
  obtain ⟨c0, c1, c2, c3, c4, c5, c6, c7, c8, c9, c10⟩ := h.cell
  clear h
  unfold Tab.val at CR
  generalize T.clamp.b = t0 at CR c0
  generalize T.clamp.t = t1 at CR c1
  generalize T.clamp.n = t2 at CR c2
  generalize T.clamp.d = t3 at CR c3
  generalize T.clamp.r = t4 at CR c4
  generalize T.clamp.l = t5 at CR c5
  generalize T.clamp.x = t6 at CR c6
  generalize T.clamp.p = t7 at CR c7
  generalize T.clamp.k = t8 at CR c8
  generalize T.clamp.s = t9 at CR c9
  generalize T.clamp.e = t10 at CR c10
  rcases r with r | r | r
  · have V : vq q T.B T.D T.N n m = 0 := by
      unfold vq
      cases q
      · exact cst_zero r
      · obtain rfl := hq rfl
        exact sqt_zero (Or.inl r)
    rw [V]
    rw [r] at CR
    clear r5 V r
    go_enter Try.func14, Try.ntmps14
    go_wp2_with fail
    refine (unhide CR _).mono ?_
    rintro e w1 ⟨rfl, b1⟩
    go_wp2
    go_ret
    exact ⟨rfl, b1⟩
  · have V : vq q T.B T.D T.N n m = if q then n * (n + 1) / 2 else n * m := by
      unfold vq
      cases q
      · exact cst_one r
      · obtain rfl := hq rfl
        exact sqt_one r
    rw [V]
    rw [r] at CR
    clear r5 V r
    have CH := hide (fun w c => byHand_any (w := w) (g := g) q n m c hn (by omega))
    generalize (if q then n * (n + 1) / 2 else n * m) = X at *
    go_enter Try.func14, Try.ntmps14
    go_wp2_with fail
    refine (unhide CR _).mono ?_
    rintro e w1 ⟨rfl, b1⟩
    go_wp2_with fail
    refine (unhide CH _ (((unhide BI).next b1).sqr)).mono ?_
    rintro e w2 ⟨rfl, rfl⟩
    go_wp2
    go_ret
    exact ⟨rfl, b1⟩
  · have r5 := r5 r
    have V : vq q T.B T.D T.N n m = if q then tf n m 2 else tf n m 3 := by
      unfold vq
      cases q
      · exact cst_five r
      · obtain rfl := hq rfl
        exact sqt_five r
    rw [V]
    rw [r] at CR
    clear V r
    have CH := hide (fun w c => byTransforms_any (w := w) (g := g) q n m c (by omega) hn (by omega) (by omega))
    generalize (if q then tf n m 2 else tf n m 3) = X at *
    go_enter Try.func14, Try.ntmps14
    go_wp2_with fail
    refine (unhide CR _).mono ?_
    rintro e w1 ⟨rfl, b1⟩
    go_wp2_with fail
    refine (unhide CH _ (((unhide BI).next b1).sqr)).mono ?_
    rintro e w2 ⟨rfl, rfl⟩
    go_wp2
    go_ret
    exact ⟨rfl, b1⟩

end Go.Proofs.Ytpaeihaiaegoeab
