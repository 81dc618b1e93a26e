/- TableClamps: what the law's walk comes to. -/
import Derived.Test.YtpaeihaiaegoeaaTLaw
namespace Go.Proofs.Ytpaeihaiaegoeaa
open Go.RowKit

set_option maxRecDepth 100000 in
set_option maxHeartbeats 6400000 in
theorem tableClamps_any (T : Tab) (w : World) (ga : Option Addr) (b o len cap : Nat) (zs : Nat → Int) (hl : len ≤ 9223372036854775807) (hr : IRow w ga b o len zs) :
    Calls Try.prog 3 #[T.val, .slice ga len cap] w fun e w' => e = .returned (.bool true) ∧ Below w.heap.size w w' := by
  have bel := hide (fun o => (Below.refl w.heap.size w).alloc (Nat.le_refl _) o)
  have TA := hide (tabAt_new w T 23)
  have C1 := hide (fun w => clamp_any T w)
  have C2 := hide (fun w => clamp_any T.clamp w)
  rw [T.clamp_clamp] at C2
  have C3 := hide (fun w => rclamp_any T w)
  have CN := hide (fun w => new_any T w)
  have HR : Hid (∀ W, Below w.heap.size w W → IRow W ga b o len zs) := fun W hb => ⟨hr.head, fun j hj => (hb.cell (p := ⟨b, o + j, none⟩) (hr.lt (by omega))).trans (hr.cell j hj), hr.low, hr.high⟩
  have C4 := hide (fun W (h : Below w.heap.size w W) => tLeast_any W ga b o len cap zs (unhide HR W h))
  have C5 := hide (fun W (h : Below w.heap.size w W) => rLeast_any W ga b o len cap zs (unhide HR W h) hl)
  clear hr HR hl
  obtain ⟨V, hV⟩ : ∃ V, T.clamp = V := ⟨_, rfl⟩
  have HV := hide hV
  rw [hV] at C1 C2 C3
  obtain ⟨y0, y1, y2, y3, y4, y5, y6, y7, y8, y9, y10, hL⟩ : ∃ y0 y1 y2 y3 y4 y5 y6 y7 y8 y9 y10 : Int, (leastT len zs).val = .agg #[.int .i64 y0, .int .i64 y1, .int .i64 y2, .int .i64 y3, .int .i64 y4, .int .i64 y5, .int .i64 y6, .int .i64 y7, .int .i64 y8, .int .i64 y9, .int .i64 y10] := ⟨_, _, _, _, _, _, _, _, _, _, _, rfl⟩
  rw [hL] at C4 C5
  clear hL hV
  unfold Tab.val at *
  go_enter Try.func3, Try.ntmps3
  go_wp2_with fail
  refine (unhide C1 _).mono ?_
  rintro e w1 ⟨rfl, b1⟩
  obtain ⟨W3, hW3⟩ : ∃ W, w1.alloc (.cells #[.int .i64 V.b, .int .i64 V.t, .int .i64 V.n, .int .i64 V.d, .int .i64 V.r, .int .i64 V.l, .int .i64 V.x, .int .i64 V.p, .int .i64 V.k, .int .i64 V.s, .int .i64 V.e] 23) = W := ⟨_, rfl⟩
  obtain ⟨g3, hg3⟩ : ∃ g, w1.heap.size = g := ⟨_, rfl⟩
  have TV := tabAt_new w1 V 23
  rw [hW3, hg3] at TV
  have b3 : Below w1.heap.size w1 W3 := by rw [← hW3]; exact (Below.refl _ _).alloc (Nat.le_refl _) _
  have b0 := hide (bstep (bstep (unhide bel _) b1) b3)
  have TA1 := ((unhide TA).next b1).next b3
  obtain ⟨g0, hg0⟩ : ∃ g, w.heap.size = g := ⟨_, rfl⟩
  have HG0 := hide hg0
  rw [hg0] at TA1
  obtain ⟨c0, c1, c2, c3, c4, c5, c6, c7, c8, c9, c10⟩ := TA1
  have TA1 : Hid (TabAt W3 g0 T) := ⟨c0, c1, c2, c3, c4, c5, c6, c7, c8, c9, c10⟩
  have TV := hide TV
  clear b3 b1 TA bel
  go_wp2_with fail
  refine (unhide CN _).mono ?_
  rintro e w4 ⟨g, rfl, TU, hgle, b4⟩
  clear c0 c1 c2 c3 c4 c5 c6 c7 c8 c9 c10
  obtain ⟨c0, c1, c2, c3, c4, c5, c6, c7, c8, c9, c10⟩ := (unhide TA1).next b4
  obtain ⟨d0, d1, d2, d3, d4, d5, d6, d7, d8, d9, d10⟩ := (unhide TV).next b4
  have t0 : w4.cell? ⟨g, 3, none⟩ = some (.int .i64 V.b) := by rw [← unhide HV]; exact cell_of_row _ g 3 _ _ _ TU.row
  have t1 : w4.cell? ⟨g, 4, none⟩ = some (.int .i64 V.t) := by rw [← unhide HV]; exact cell_of_row _ g 4 _ _ _ TU.row
  have t2 : w4.cell? ⟨g, 5, none⟩ = some (.int .i64 V.n) := by rw [← unhide HV]; exact cell_of_row _ g 5 _ _ _ TU.row
  have t3 : w4.cell? ⟨g, 6, none⟩ = some (.int .i64 V.d) := by rw [← unhide HV]; exact cell_of_row _ g 6 _ _ _ TU.row
  have t4 : w4.cell? ⟨g, 7, none⟩ = some (.int .i64 V.r) := by rw [← unhide HV]; exact cell_of_row _ g 7 _ _ _ TU.row
  have t5 : w4.cell? ⟨g, 8, none⟩ = some (.int .i64 V.l) := by rw [← unhide HV]; exact cell_of_row _ g 8 _ _ _ TU.row
  have t6 : w4.cell? ⟨g, 9, none⟩ = some (.int .i64 V.x) := by rw [← unhide HV]; exact cell_of_row _ g 9 _ _ _ TU.row
  have t7 : w4.cell? ⟨g, 10, none⟩ = some (.int .i64 V.p) := by rw [← unhide HV]; exact cell_of_row _ g 10 _ _ _ TU.row
  have t8 : w4.cell? ⟨g, 11, none⟩ = some (.int .i64 V.k) := by rw [← unhide HV]; exact cell_of_row _ g 11 _ _ _ TU.row
  have t9 : w4.cell? ⟨g, 12, none⟩ = some (.int .i64 V.s) := by rw [← unhide HV]; exact cell_of_row _ g 12 _ _ _ TU.row
  have t10 : w4.cell? ⟨g, 13, none⟩ = some (.int .i64 V.e) := by rw [← unhide HV]; exact cell_of_row _ g 13 _ _ _ TU.row
  have o0 := Old.cell c0
  have o1 := Old.cell c1
  have o2 := Old.cell c2
  have o3 := Old.cell c3
  have o4 := Old.cell c4
  have o5 := Old.cell c5
  have o6 := Old.cell c6
  have o7 := Old.cell c7
  have o8 := Old.cell c8
  have o9 := Old.cell c9
  have o10 := Old.cell c10
  have p0 := Old.cell d0
  have p1 := Old.cell d1
  have p2 := Old.cell d2
  have p3 := Old.cell d3
  have p4 := Old.cell d4
  have p5 := Old.cell d5
  have p6 := Old.cell d6
  have p7 := Old.cell d7
  have p8 := Old.cell d8
  have p9 := Old.cell d9
  have p10 := Old.cell d10
  have q0 := Old.cell t0
  have q1 := Old.cell t1
  have q2 := Old.cell t2
  have q3 := Old.cell t3
  have q4 := Old.cell t4
  have q5 := Old.cell t5
  have q6 := Old.cell t6
  have q7 := Old.cell t7
  have q8 := Old.cell t8
  have q9 := Old.cell t9
  have q10 := Old.cell t10
  have HTU := hide TU
  have bb := hide (bstep (unhide b0) b4)
  clear b4 TU hgle c0 c1 c2 c3 c4 c5 c6 c7 c8 c9 c10 d0 d1 d2 d3 d4 d5 d6 d7 d8 d9 d10 t0 t1 t2 t3 t4 t5 t6 t7 t8 t9 t10
  go_wp2_with fail
  clear hg0 hW3 hg3
  have inst := old_some w4
  refine region_old (by kernel_rfl) (by kernel_rfl) ?_
  repeat (go_big_quiet_step ((first | (go_at_call 9; exact Calls.old (unhide C2 _)) | (go_at_call 11; exact Calls.old (unhide C3 _)) | (go_at_call 12; exact Calls.old_same (muls_any (((unhide HTU).next (Old.old _)).met))) | (go_at_call 13; exact Calls.old (unhide C4 _ (bstep (unhide bb) (Old.old _)))) | (go_at_call 14; exact Calls.old (unhide C5 _ (bstep (unhide bb) (Old.old _)))) | (go_at_call 15; exact Calls.old (tabWakes_any _)))))
  refine wpQuiet_nil ?_
  intro w5 hw5
  obtain ⟨u, rfl⟩ := hw5
  go_wp2_with fail
  go_ret
  have b9 := bstep (unhide bb) u.old
  exact ⟨rfl, by first | exact b9 | (rw [← unhide HG0]; exact b9)⟩

end Go.Proofs.Ytpaeihaiaegoeaa
