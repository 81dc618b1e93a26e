/- TablePieces, in blocks. -/
import Derived.Test.YtpaeihaiaegoeaaLPieces
namespace Go.Proofs.Ytpaeihaiaegoeaa
open Go.RowKit

set_option maxRecDepth 100000 in
set_option maxHeartbeats 6400000 in
theorem pieces_two (T : Tab) (n m : Int) (a b x y X : Nat) (w : World) (_ha : a ≤ 400) (_hba : b ≤ a) (hxy : (a = x ∧ b = y) ∨ (b = x ∧ a = y ∧ b < a)) (_hX : X ≤ 2147483648)
    (L1 : Hid (∀ w, Calls Try.prog 16 #[.int .i64 n] w fun e w' => e = .returned (.int .i64 (x : Int)) ∧ w' = w)) (L2 : Hid (∀ w, Calls Try.prog 16 #[.int .i64 m] w fun e w' => e = .returned (.int .i64 (y : Int)) ∧ w' = w))
    (CT : Hid (∀ w, Calls Try.prog 20 #[T.val, .int .i64 (a : Int), .int .i64 (b : Int)] w fun e w' => e = .returned (.int .i64 (X : Int)) ∧ Below w.heap.size w w'))
    (CR : Hid (∀ w, Calls Try.prog 18 #[T.val, .int .i64 (a : Int), .int .i64 (b : Int)] w fun e w' => e = .returned (.int .i64 2) ∧ Below w.heap.size w w')) (h1 : 4 ≤ b) (F : Nat → Nat) (xm : Nat) (F1 : Hid (F a = X)) (F2 : Hid (F 0 = 0)) (F3 : Hid (∀ j, b ≤ j → F j = xm + F (j - b))) (F4 : Hid (∀ j, 0 < j → j < b → costT T (j : Int) (b : Int) = (F j : Int))) (hm : costT T (b : Int) (b : Int) = (xm : Int)) :
    Calls Try.prog 8 #[T.val, .int .i64 n, .int .i64 m] w fun e w' => e = .returned (.bool true) ∧ Below w.heap.size w w' := by
  have CM := hide (fun w => tCost_any T (b : Int) (b : Int) w (by omega) (by omega) (by omega) (by omega))
  rw [hm] at CM
  have CJ : Hid (∀ (j : Nat) (w : World), 0 < j → j < b → Calls Try.prog 20 #[T.val, .int .i64 (j : Int), .int .i64 (b : Int)] w fun e w' => e = .returned (.int .i64 (F j : Int)) ∧ Below w.heap.size w w') := fun j w h0 hj => by
    have := tCost_any T (j : Int) (b : Int) w (by omega) (by omega) (by omega) (by omega)
    rwa [unhide F4 j h0 hj] at this
  clear hm F4
  have bel := hide (fun o => (Below.refl w.heap.size w).alloc (Nat.le_refl _) o)
  have TA := hide (tabAt_new w T 23)
  unfold Tab.val
  rcases hxy with ⟨rfl, rfl⟩ | ⟨rfl, rfl, hlt⟩
  all_goals
    go_enter Try.func8, Try.ntmps8
    go_wp2_with fail
    refine (unhide L1 _).mono ?_
    rintro e w0 ⟨rfl, rfl⟩
    go_wp2_with fail
    refine (unhide L2 _).mono ?_
    rintro e w0 ⟨rfl, rfl⟩
    go_wp2_with fail
    refine (unhide CT _).mono ?_
    rintro e w1 ⟨rfl, b1⟩
    have TA1 := (unhide TA).next b1
    have b0 := hide (bstep (unhide bel _) b1)
    obtain ⟨g0, hg0⟩ : ∃ g, w.heap.size = g := ⟨_, rfl⟩
    have HG := hide hg0
    rw [hg0] at TA1
    have TB := hide TA1
    obtain ⟨c0, c1, c2, c3, c4, c5, c6, c7, c8, c9, c10⟩ := TA1
    clear b1 TA bel L1 L2 CT
    go_wp2_with fail
    refine (unhide CR _).mono ?_
    rintro e w2 ⟨rfl, b2⟩
    have bb := hide (bstep (unhide b0) b2)
    have TA := (unhide TB).next b2
    clear b2 c0 c1 c2 c3 c4 c5 c6 c7 c8 c9 c10 TB CR b0
    obtain ⟨c0, c1, c2, c3, c4, c5, c6, c7, c8, c9, c10⟩ := TA
    have TW : Hid (TabAt w2 g0 T) := ⟨c0, c1, c2, c3, c4, c5, c6, c7, c8, c9, c10⟩
    go_wp2_with fail
    clear hg0 c0 c1 c2 c3 c4 c5 c6 c7 c8 c9 c10
    go_loopw [10, 11] (fun s k wr => ∃ (sv : Nat) (kv : Int), s = .int .i64 (sv : Int) ∧ k = .int .i64 kv ∧ ((∃ j : Nat, kv = (j : Int) ∧ j ≤ a ∧ sv + F j = X) ∨ (kv < 0 ∧ -400 ≤ kv ∧ sv = X)) ∧ TabAt wr g0 T ∧ Below w.heap.size w wr) (fun _ k _ => (intOf k).toNat)
    case atStart => exact ⟨0, _, rfl, rfl, Or.inl ⟨a, rfl, Nat.le_refl _, by rw [Nat.zero_add]; exact unhide F1⟩, unhide TW, unhide bb⟩
    case round =>
      clear TW bb
      obtain ⟨sv, kv, rfl, rfl, hr, TR, bR⟩ := hrel
      by_cases hk : (0 : Int) < kv
      · obtain ⟨j, rfl, hj, hs⟩ : ∃ j : Nat, kv = (j : Int) ∧ j ≤ a ∧ sv + F j = X := by
          rcases hr with h | ⟨h, _⟩
          · exact h
          · omega
        obtain ⟨c0, c1, c2, c3, c4, c5, c6, c7, c8, c9, c10⟩ := TR
        have TR : Hid (TabAt wr g0 T) := ⟨c0, c1, c2, c3, c4, c5, c6, c7, c8, c9, c10⟩
        have bR := hide bR
        have HS := hide hs
        clear hr hs
        by_cases hb : b ≤ j
        · have CK : Hid (∀ w, Calls Try.prog 20 #[T.val, .int .i64 (min (j : Int) (b : Int)), .int .i64 (b : Int)] w fun e w' => e = .returned (.int .i64 (xm : Int)) ∧ Below w.heap.size w w') := by
            rw [show min (j : Int) (b : Int) = (b : Int) from by omega]; exact CM
          have NS : Hid (sv + xm + F (j - b) = X) := by have h1 := unhide HS; have h2 := unhide F3 j hb; show _ = _; omega
          have hsx : sv + xm ≤ X := by have := unhide NS; omega
          clear F3 CM CJ
          go_wp2_with fail
          refine (unhide CK _).mono ?_
          rintro e w3 ⟨rfl, b3⟩
          clear c0 c1 c2 c3 c4 c5 c6 c7 c8 c9 c10
          go_wp2_with fail
          go_roundw
          case rel => exact ⟨sv + xm, ((j - b : Nat) : Int), by go_num, by rw [show ((j - b : Nat) : Int) = (j : Int) - (b : Int) from by omega], Or.inl ⟨j - b, rfl, by omega, unhide NS⟩, (unhide TR).next b3, bstep (unhide bR) b3⟩
          case measure => simp [intOf]; omega
        · have CK : Hid (∀ w, Calls Try.prog 20 #[T.val, .int .i64 (min (j : Int) (b : Int)), .int .i64 (b : Int)] w fun e w' => e = .returned (.int .i64 (F j : Int)) ∧ Below w.heap.size w w') := by
            rw [show min (j : Int) (b : Int) = (j : Int) from by omega]; exact fun w => unhide CJ j w (by omega) (by omega)
          obtain ⟨y, hy⟩ : ∃ y, F j = y := ⟨_, rfl⟩
          rw [hy] at CK HS
          have hsx := unhide HS
          have hsx2 : sv + y ≤ X := by omega
          clear F3 CM CJ hy hsx
          go_wp2_with fail
          refine (unhide CK _).mono ?_
          rintro e w3 ⟨rfl, b3⟩
          clear c0 c1 c2 c3 c4 c5 c6 c7 c8 c9 c10
          go_wp2_with fail
          go_roundw
          case rel => exact ⟨sv + y, (j : Int) - (b : Int), by go_num, rfl, Or.inr ⟨by omega, by omega, unhide HS⟩, (unhide TR).next b3, bstep (unhide bR) b3⟩
          case measure => simp [intOf]; omega
      · have hsX : sv = X := by
          rcases hr with ⟨j, h1, _, h2⟩ | ⟨_, _, h⟩
          · obtain rfl : j = 0 := by omega
            rw [unhide F2] at h2; exact h2
          · exact h
        subst hsX
        clear hr TR
        go_wp2_with (go_at_call 15; refine (tabWakes_any _).mono ?_; rintro e w3 ⟨rfl, b3⟩)
        go_ret
        have b9 := bstep bR b3
        exact ⟨rfl, by first | exact b9 | (rw [← unhide HG]; exact b9)⟩

end Go.Proofs.Ytpaeihaiaegoeaa
