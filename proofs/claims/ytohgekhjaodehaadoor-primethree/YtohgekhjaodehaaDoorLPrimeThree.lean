/- PrimeThree: what the law's walk comes to. -/
import Derived.Test.YtohgekhjaodehaaDoorPRef
import Derived.Test.YtohgekhjaodehaaDoorPMod
import Derived.Test.YtohgekhjaodehaaDoorWithinK
import Derived.Test.YtohgekhjaodehaaDoorPThree
import Derived.Test.YtohgekhjaodehaaDoorPTail
namespace Go.Proofs.YtohgekhjaodehaaDoor
open Go.RowKit

/-- What the law keeps: the three primes at block a, the reference's at b, rows of divisors at c0, c1, c2, named at e, the odd factors at o. -/
structure ThreeAt (w : World) (a b c0 c1 c2 e o : Nat) : Prop where
  l0 : w.cell? ⟨a, 0, none⟩ = some (.int .u64 180143985094819841)
  l1 : w.cell? ⟨a, 1, none⟩ = some (.int .i64 55)
  l2 : w.cell? ⟨a, 2, none⟩ = some (.int .u64 6)
  l3 : w.cell? ⟨a, 3, none⟩ = some (.int .u64 1945555039024054273)
  l4 : w.cell? ⟨a, 4, none⟩ = some (.int .i64 56)
  l5 : w.cell? ⟨a, 5, none⟩ = some (.int .u64 5)
  l6 : w.cell? ⟨a, 6, none⟩ = some (.int .u64 4179340454199820289)
  l7 : w.cell? ⟨a, 7, none⟩ = some (.int .i64 57)
  l8 : w.cell? ⟨a, 8, none⟩ = some (.int .u64 3)
  t0 : w.cell? ⟨b, 0, none⟩ = some (.int .u64 180143985094819841)
  t1 : w.cell? ⟨b, 1, none⟩ = some (.int .u64 1945555039024054273)
  t2 : w.cell? ⟨b, 2, none⟩ = some (.int .u64 4179340454199820289)
  d00 : w.cell? ⟨c0, 0, none⟩ = some (.int .u64 2)
  d01 : w.cell? ⟨c0, 1, none⟩ = some (.int .u64 5)
  d10 : w.cell? ⟨c1, 0, none⟩ = some (.int .u64 2)
  d11 : w.cell? ⟨c1, 1, none⟩ = some (.int .u64 3)
  d20 : w.cell? ⟨c2, 0, none⟩ = some (.int .u64 2)
  d21 : w.cell? ⟨c2, 1, none⟩ = some (.int .u64 29)
  e0 : w.cell? ⟨e, 0, none⟩ = some (.slice (some ⟨c0, 0, none⟩) 2 2)
  e1 : w.cell? ⟨e, 1, none⟩ = some (.slice (some ⟨c1, 0, none⟩) 2 2)
  e2 : w.cell? ⟨e, 2, none⟩ = some (.slice (some ⟨c2, 0, none⟩) 2 2)
  o0 : w.cell? ⟨o, 0, none⟩ = some (.int .u64 5)
  o1 : w.cell? ⟨o, 1, none⟩ = some (.int .u64 27)
  o2 : w.cell? ⟨o, 2, none⟩ = some (.int .u64 29)
theorem three_next {w w' : World} {p : Addr} {v : Value} (hb : Below w.heap.size w w') (h : w.cell? p = some v) : w'.cell? p = some v := (hb.cell (p := p) (World.block_lt_of_cell? _ _ h)).trans h
theorem ThreeAt.next {w w' : World} {a b c0 c1 c2 e o : Nat} (h : ThreeAt w a b c0 c1 c2 e o) (hb : Below w.heap.size w w') : ThreeAt w' a b c0 c1 c2 e o :=
  ⟨three_next hb h.l0, three_next hb h.l1, three_next hb h.l2, three_next hb h.l3, three_next hb h.l4, three_next hb h.l5, three_next hb h.l6, three_next hb h.l7, three_next hb h.l8, three_next hb h.t0, three_next hb h.t1, three_next hb h.t2, three_next hb h.d00, three_next hb h.d01, three_next hb h.d10, three_next hb h.d11, three_next hb h.d20, three_next hb h.d21, three_next hb h.e0, three_next hb h.e1, three_next hb h.e2, three_next hb h.o0, three_next hb h.o1, three_next hb h.o2⟩
theorem below_of_drew {w w' : World} (h : Below w.drew.heap.size w.drew w') : Below w.heap.size w w' := ⟨h.os, h.tape, h.output, h.size, h.block⟩
/-- A new block, under a name. -/
theorem new_block {w W : World} {g : Nat} {cs : Array Value} {t : Nat} (hW : w.alloc (.cells cs t) = W) (hg : w.heap.size = g) : (∀ j v, cs[j]? = some v → W.cell? ⟨g, j, none⟩ = some v) ∧ Below w.heap.size w W := by
  subst hW hg
  exact ⟨fun j v h => (cell_of_row _ w.heap.size j cs t (0, 0) (heap_alloc_new w (.cells cs t))).trans h, (Below.refl _ _).alloc (Nat.le_refl _) _⟩

theorem isP_three0 : isP 180143985094819841 = true := by
  refine isP_all (by decide) (by decide +kernel) fun j hj => ?_
  have e : od 180143985094819841 = 5 := by decide +kernel
  have e2 : tw 180143985094819841 = 55 := by decide +kernel
  have hb := bs_range j hj
  unfold pass
  rw [e, e2, pw_is (f := 8) (by decide) (by omega) (by decide)]
  revert j
  decide +kernel
theorem isP_three1 : isP 1945555039024054273 = true := by
  refine isP_all (by decide) (by decide +kernel) fun j hj => ?_
  have e : od 1945555039024054273 = 27 := by decide +kernel
  have e2 : tw 1945555039024054273 = 56 := by decide +kernel
  have hb := bs_range j hj
  unfold pass
  rw [e, e2, pw_is (f := 8) (by decide) (by omega) (by decide)]
  revert j
  decide +kernel
theorem isP_three2 : isP 4179340454199820289 = true := by
  refine isP_all (by decide) (by decide +kernel) fun j hj => ?_
  have e : od 4179340454199820289 = 29 := by decide +kernel
  have e2 : tw 4179340454199820289 = 57 := by decide +kernel
  have hb := bs_range j hj
  unfold pass
  rw [e, e2, pw_is (f := 8) (by decide) (by omega) (by decide)]
  revert j
  decide +kernel
theorem pow_three00 : pw 180143985094819841 6 90071992547409920 = 180143985094819840 := by rw [pw_is (f := 62) (by decide) (by decide) (by decide)]; decide +kernel
theorem pow_three01 : pw 180143985094819841 6 36028797018963968 = 55393705663794749 := by rw [pw_is (f := 62) (by decide) (by decide) (by decide)]; decide +kernel
theorem pow_three10 : pw 1945555039024054273 5 972777519512027136 = 1945555039024054272 := by rw [pw_is (f := 62) (by decide) (by decide) (by decide)]; decide +kernel
theorem pow_three11 : pw 1945555039024054273 5 648518346341351424 = 972777520719986688 := by rw [pw_is (f := 62) (by decide) (by decide) (by decide)]; decide +kernel
theorem pow_three20 : pw 4179340454199820289 3 2089670227099910144 = 4179340454199820288 := by rw [pw_is (f := 62) (by decide) (by decide) (by decide)]; decide +kernel
theorem pow_three21 : pw 4179340454199820289 3 144115188075855872 = 4085804930199681271 := by rw [pw_is (f := 62) (by decide) (by decide) (by decide)]; decide +kernel

set_option maxRecDepth 100000 in
set_option maxHeartbeats 6400000 in
theorem primeThree_any (k : Int) (w : World) (h1 : -9223372036854775808 ≤ k) (h2 : k ≤ 9223372036854775807) (hT : TB w) :
    Calls Tryd.prog 8 #[.int .i64 k] w fun e w' => e = .returned (.bool true) ∧ Below w.heap.size w w' := by
  have CW := hide (fun w' (b : Below w.heap.size w w') => primeWakes_any w' (hT.next b))
  have CT := hide (fun w' (b : Below w.heap.size w w') => hT.next b)
  have CK := hide (fun w => within_any k 3 w h1 h2 (by decide) (by decide))
  clear hT h1 h2
  go_enter Tryd.func8, Tryd.ntmps8
  go_wp2_with fail
  refine (three_any _).mono ?_
  rintro e w1 ⟨rfl, hb⟩
  obtain ⟨W1, hW1⟩ : ∃ W, w1.alloc (.cells #[.int .u64 180143985094819841, .int .i64 55, .int .u64 6, .int .u64 1945555039024054273, .int .i64 56, .int .u64 5, .int .u64 4179340454199820289, .int .i64 57, .int .u64 3] 35) = W := ⟨_, rfl⟩
  obtain ⟨a, ha⟩ : ∃ a, w1.heap.size = a := ⟨_, rfl⟩
  obtain ⟨HA, k1⟩ := new_block hW1 ha
  have hb := bstep hb k1
  have HA := hide HA
  clear k1
  go_wp2_with fail
  clear hW1 ha
  refine (rThree_any _).mono ?_
  rintro e w2 ⟨rfl, b2⟩
  have HA := hide (fun j v h => three_next b2 (unhide HA j v h))
  have hb := bstep hb b2
  clear b2
  obtain ⟨W2, hW2⟩ : ∃ W, w2.alloc (.cells #[.int .u64 180143985094819841, .int .u64 1945555039024054273, .int .u64 4179340454199820289] 37) = W := ⟨_, rfl⟩
  obtain ⟨b, hb2⟩ : ∃ b, w2.heap.size = b := ⟨_, rfl⟩
  obtain ⟨W3, hW3⟩ : ∃ W, W2.alloc (.cells #[.int .u64 2, .int .u64 5] 22) = W := ⟨_, rfl⟩
  obtain ⟨c0, hc0⟩ : ∃ c, W2.heap.size = c := ⟨_, rfl⟩
  obtain ⟨W4, hW4⟩ : ∃ W, W3.alloc (.cells #[.int .u64 2, .int .u64 3] 22) = W := ⟨_, rfl⟩
  obtain ⟨c1, hc1⟩ : ∃ c, W3.heap.size = c := ⟨_, rfl⟩
  obtain ⟨W5, hW5⟩ : ∃ W, W4.alloc (.cells #[.int .u64 2, .int .u64 29] 22) = W := ⟨_, rfl⟩
  obtain ⟨c2, hc2⟩ : ∃ c, W4.heap.size = c := ⟨_, rfl⟩
  obtain ⟨W6, hW6⟩ : ∃ W, W5.alloc (.cells #[.slice (some ⟨c0, 0, none⟩) 2 2, .slice (some ⟨c1, 0, none⟩) 2 2, .slice (some ⟨c2, 0, none⟩) 2 2] 40) = W := ⟨_, rfl⟩
  obtain ⟨e, he⟩ : ∃ c, W5.heap.size = c := ⟨_, rfl⟩
  obtain ⟨W7, hW7⟩ : ∃ W, W6.alloc (.cells #[.int .u64 5, .int .u64 27, .int .u64 29] 37) = W := ⟨_, rfl⟩
  obtain ⟨o, ho⟩ : ∃ c, W6.heap.size = c := ⟨_, rfl⟩
  obtain ⟨HB, k2⟩ := new_block hW2 hb2
  obtain ⟨HC0, k3⟩ := new_block hW3 hc0
  obtain ⟨HC1, k4⟩ := new_block hW4 hc1
  obtain ⟨HC2, k5⟩ := new_block hW5 hc2
  obtain ⟨HE, k6⟩ := new_block hW6 he
  obtain ⟨HO, k7⟩ := new_block hW7 ho
  have m6 := bstep k6 k7
  have m5 := bstep k5 m6
  have m4 := bstep k4 m5
  have m3 := bstep k3 m4
  have m2 := bstep k2 m3
  have HX : Hid (ThreeAt W7 a b c0 c1 c2 e o) := ⟨three_next m2 (unhide HA 0 _ rfl), three_next m2 (unhide HA 1 _ rfl), three_next m2 (unhide HA 2 _ rfl), three_next m2 (unhide HA 3 _ rfl), three_next m2 (unhide HA 4 _ rfl), three_next m2 (unhide HA 5 _ rfl), three_next m2 (unhide HA 6 _ rfl), three_next m2 (unhide HA 7 _ rfl), three_next m2 (unhide HA 8 _ rfl), three_next m3 (HB 0 _ rfl), three_next m3 (HB 1 _ rfl), three_next m3 (HB 2 _ rfl), three_next m4 (HC0 0 _ rfl), three_next m4 (HC0 1 _ rfl), three_next m5 (HC1 0 _ rfl), three_next m5 (HC1 1 _ rfl), three_next m6 (HC2 0 _ rfl), three_next m6 (HC2 1 _ rfl), three_next k7 (HE 0 _ rfl), three_next k7 (HE 1 _ rfl), three_next k7 (HE 2 _ rfl), HO 0 _ rfl, HO 1 _ rfl, HO 2 _ rfl⟩
  have hb := bstep hb m2
  clear HA HB HC0 HC1 HC2 HE HO k2 k3 k4 k5 k6 k7 m2 m3 m4 m5 m6
  go_wp2
  clear hW2 hb2 hW3 hc0 hW4 hc1 hW5 hc2 hW6 he hW7 ho
  go_loopw [7] (fun iv wr => ∃ i : Int, (i = 0 ∨ i = 1 ∨ i = 2 ∨ i = 3) ∧ iv = .int .i64 i ∧ Hid (ThreeAt wr a b c0 c1 c2 e o) ∧ Below w.heap.size w wr) (fun iv _ => 3 - (intOf iv).toNat)
  case atStart => exact ⟨0, by omega, rfl, HX, hb⟩
  case round =>
    clear HX hb
    obtain ⟨i, hi, rfl, hX, hb⟩ := hrel
    rcases hi with rfl | rfl | rfl | rfl
    · have CP : Hid (∀ w, Calls Tryd.prog 11 #[.int .u64 180143985094819841] w fun e w' => e = .returned (.bool true) ∧ Below w.heap.size w w') := fun w => by
        have := rPrime_any 180143985094819841 w (by decide)
        rw [isP_three0] at this
        exact this
      have x_l0 : wr.cell? ⟨a, 0, none⟩ = some (.int .u64 180143985094819841) := (unhide hX).l0
      have x_l1 : wr.cell? ⟨a, 1, none⟩ = some (.int .i64 55) := (unhide hX).l1
      have x_l2 : wr.cell? ⟨a, 2, none⟩ = some (.int .u64 6) := (unhide hX).l2
      have x_t0 : wr.cell? ⟨b, 0, none⟩ = some (.int .u64 180143985094819841) := (unhide hX).t0
      have x_o0 : wr.cell? ⟨o, 0, none⟩ = some (.int .u64 5) := (unhide hX).o0
      have inst := old_some wr
      have y_l0 := Old.cell x_l0
      have y_l1 := Old.cell x_l1
      have y_l2 := Old.cell x_l2
      have y_t0 := Old.cell x_t0
      have y_o0 := Old.cell x_o0
      go_wp2
      refine region_cut 34 (by kernel_rfl) (by kernel_rfl) (by kernel_rfl) ?_
      simp only [List.take_succ_cons, List.take_zero]
      repeat (go_big_quiet_step ((go_at_call 11; exact Calls.old (unhide CP _))))
      refine wpQuiet_nil ?_
      intro w5 hw5
      obtain ⟨u, rfl⟩ := hw5
      change wpAny _ _ _ _ 10 (canon 34 10) _ _
      obtain ⟨V, hV⟩ : ∃ V, V = u.val := ⟨_, rfl⟩
      have hX2 := hide ((unhide hX).next u.old)
      have hb2 := bstep hb u.old
      rw [← hV] at hX2 hb2 ⊢
      clear y_l0 y_l1 y_l2 y_t0 y_o0 x_l0 x_l1 x_l2 x_t0 x_o0 inst hX hb hV u CP
      obtain ⟨W2, hW2⟩ : ∃ W, V.alloc (.cells #[.int .u64 6, .int .u64 5, .int .u64 3] 22) = W := ⟨_, rfl⟩
      obtain ⟨g, hg⟩ : ∃ g, V.heap.size = g := ⟨_, rfl⟩
      obtain ⟨HG, kG⟩ := new_block hW2 hg
      have hX3 := hide ((unhide hX2).next kG)
      have hb3 := bstep hb2 kG
      have z1 : V.cell? ⟨a, 2, none⟩ = some (.int .u64 6) := (unhide hX2).l2
      have z2 : W2.cell? ⟨a, 2, none⟩ = some (.int .u64 6) := (unhide hX3).l2
      have z3 : W2.cell? ⟨g, 0, none⟩ = some (.int .u64 6) := HG 0 _ rfl
      clear HG kG hb2 hX2
      refine tail9_0 (a := a) (g := g) (W2 := W2) rfl rfl rfl rfl rfl rfl rfl rfl rfl rfl rfl (by kernel_rfl) (fun _ _ _ _ _ h => h) (by kernel_rfl) (by kernel_rfl) (by kernel_rfl) (by kernel_rfl) (by kernel_rfl) (by kernel_rfl) (by kernel_rfl) (by kernel_rfl) (by kernel_rfl) (by kernel_rfl) (by kernel_rfl) (by kernel_rfl) (by kernel_rfl) (by kernel_rfl) (by kernel_rfl) (by kernel_rfl) (by kernel_rfl) (by kernel_rfl) (by kernel_rfl) (by kernel_rfl) rfl rfl rfl rfl rfl hW2 hg z1 z2 z3 ?_
      clear hW2 hg z1 z2 z3
      simp only [Act.put, List.setIfInBounds_toArray, List.set_cons_succ, List.set_cons_zero]
      go_wp2
      go_loopw [9] (fun jv wr => ∃ j : Int, (j = 0 ∨ j = 1 ∨ j = 2) ∧ jv = .int .i64 j ∧ Hid (ThreeAt wr a b c0 c1 c2 e o) ∧ Below w.heap.size w wr) (fun jv _ => 2 - (intOf jv).toNat)
      case atStart => exact ⟨0, by omega, rfl, hX3, hb3⟩
      case round =>
        clear hX3 hb3
        obtain ⟨j, hj, rfl, hX, hb⟩ := hrel
        rcases hj with rfl | rfl | rfl
        · have CQ : Hid (∀ w, Calls Tryd.prog 18 #[.int .u64 6, .int .u64 90071992547409920, .int .u64 180143985094819841] w fun e w' => e = .returned (.int .u64 180143985094819840) ∧ Below w.heap.size w w') := fun w => by
            have := rPow_any 180143985094819841 6 90071992547409920 w (by decide) (by decide) (by decide)
            rw [pow_three00] at this
            exact this
          have x_e : wr.cell? ⟨e, 0, none⟩ = some (.slice (some ⟨c0, 0, none⟩) 2 2) := (unhide hX).e0
          have y_e := Old.cell x_e
          have y_d := Old.cell (unhide hX).d00
          have y_l := Old.cell (unhide hX).l2
          have inst := old_some wr
          go_wp2
          refine region_old (by kernel_rfl) (by kernel_rfl) ?_
          repeat (go_big_quiet_step ((go_at_call 18; exact Calls.old (unhide CQ _))))
          refine wpQuiet_nil ?_
          intro w5 hw5
          obtain ⟨u, rfl⟩ := hw5
          have hX4 := hide ((unhide hX).next u.old)
          have hb4 := bstep hb u.old
          go_wp2
          go_roundw
          case rel => exact ⟨1, by omega, rfl, hX4, hb4⟩
          case measure => simp [intOf]
        · have CQ : Hid (∀ w, Calls Tryd.prog 18 #[.int .u64 6, .int .u64 36028797018963968, .int .u64 180143985094819841] w fun e w' => e = .returned (.int .u64 55393705663794749) ∧ Below w.heap.size w w') := fun w => by
            have := rPow_any 180143985094819841 6 36028797018963968 w (by decide) (by decide) (by decide)
            rw [pow_three01] at this
            exact this
          have x_e : wr.cell? ⟨e, 0, none⟩ = some (.slice (some ⟨c0, 0, none⟩) 2 2) := (unhide hX).e0
          have y_e := Old.cell x_e
          have y_d := Old.cell (unhide hX).d01
          have y_l := Old.cell (unhide hX).l2
          have inst := old_some wr
          go_wp2
          refine region_old (by kernel_rfl) (by kernel_rfl) ?_
          repeat (go_big_quiet_step ((go_at_call 18; exact Calls.old (unhide CQ _))))
          refine wpQuiet_nil ?_
          intro w5 hw5
          obtain ⟨u, rfl⟩ := hw5
          have hX4 := hide ((unhide hX).next u.old)
          have hb4 := bstep hb u.old
          go_wp2
          go_roundw
          case rel => exact ⟨2, by omega, rfl, hX4, hb4⟩
          case measure => simp [intOf]
        · have x_e : wr.cell? ⟨e, 0, none⟩ = some (.slice (some ⟨c0, 0, none⟩) 2 2) := (unhide hX).e0
          go_wp2
          go_roundw
          case rel => exact ⟨1, by omega, rfl, hX, hb⟩
          case measure => simp [intOf]
    · have CP : Hid (∀ w, Calls Tryd.prog 11 #[.int .u64 1945555039024054273] w fun e w' => e = .returned (.bool true) ∧ Below w.heap.size w w') := fun w => by
        have := rPrime_any 1945555039024054273 w (by decide)
        rw [isP_three1] at this
        exact this
      have x_l3 : wr.cell? ⟨a, 3, none⟩ = some (.int .u64 1945555039024054273) := (unhide hX).l3
      have x_l4 : wr.cell? ⟨a, 4, none⟩ = some (.int .i64 56) := (unhide hX).l4
      have x_l5 : wr.cell? ⟨a, 5, none⟩ = some (.int .u64 5) := (unhide hX).l5
      have x_t1 : wr.cell? ⟨b, 1, none⟩ = some (.int .u64 1945555039024054273) := (unhide hX).t1
      have x_o1 : wr.cell? ⟨o, 1, none⟩ = some (.int .u64 27) := (unhide hX).o1
      have inst := old_some wr
      have y_l3 := Old.cell x_l3
      have y_l4 := Old.cell x_l4
      have y_l5 := Old.cell x_l5
      have y_t1 := Old.cell x_t1
      have y_o1 := Old.cell x_o1
      go_wp2
      refine region_cut 34 (by kernel_rfl) (by kernel_rfl) (by kernel_rfl) ?_
      simp only [List.take_succ_cons, List.take_zero]
      repeat (go_big_quiet_step ((go_at_call 11; exact Calls.old (unhide CP _))))
      refine wpQuiet_nil ?_
      intro w5 hw5
      obtain ⟨u, rfl⟩ := hw5
      change wpAny _ _ _ _ 10 (canon 34 10) _ _
      obtain ⟨V, hV⟩ : ∃ V, V = u.val := ⟨_, rfl⟩
      have hX2 := hide ((unhide hX).next u.old)
      have hb2 := bstep hb u.old
      rw [← hV] at hX2 hb2 ⊢
      clear y_l3 y_l4 y_l5 y_t1 y_o1 x_l3 x_l4 x_l5 x_t1 x_o1 inst hX hb hV u CP
      obtain ⟨W2, hW2⟩ : ∃ W, V.alloc (.cells #[.int .u64 6, .int .u64 5, .int .u64 3] 22) = W := ⟨_, rfl⟩
      obtain ⟨g, hg⟩ : ∃ g, V.heap.size = g := ⟨_, rfl⟩
      obtain ⟨HG, kG⟩ := new_block hW2 hg
      have hX3 := hide ((unhide hX2).next kG)
      have hb3 := bstep hb2 kG
      have z1 : V.cell? ⟨a, 5, none⟩ = some (.int .u64 5) := (unhide hX2).l5
      have z2 : W2.cell? ⟨a, 5, none⟩ = some (.int .u64 5) := (unhide hX3).l5
      have z3 : W2.cell? ⟨g, 1, none⟩ = some (.int .u64 5) := HG 1 _ rfl
      clear HG kG hb2 hX2
      refine tail9_1 (a := a) (g := g) (W2 := W2) rfl rfl rfl rfl rfl rfl rfl rfl rfl rfl rfl (by kernel_rfl) (fun _ _ _ _ _ h => h) (by kernel_rfl) (by kernel_rfl) (by kernel_rfl) (by kernel_rfl) (by kernel_rfl) (by kernel_rfl) (by kernel_rfl) (by kernel_rfl) (by kernel_rfl) (by kernel_rfl) (by kernel_rfl) (by kernel_rfl) (by kernel_rfl) (by kernel_rfl) (by kernel_rfl) (by kernel_rfl) (by kernel_rfl) (by kernel_rfl) (by kernel_rfl) (by kernel_rfl) rfl rfl rfl rfl rfl hW2 hg z1 z2 z3 ?_
      clear hW2 hg z1 z2 z3
      simp only [Act.put, List.setIfInBounds_toArray, List.set_cons_succ, List.set_cons_zero]
      go_wp2
      go_loopw [9] (fun jv wr => ∃ j : Int, (j = 0 ∨ j = 1 ∨ j = 2) ∧ jv = .int .i64 j ∧ Hid (ThreeAt wr a b c0 c1 c2 e o) ∧ Below w.heap.size w wr) (fun jv _ => 2 - (intOf jv).toNat)
      case atStart => exact ⟨0, by omega, rfl, hX3, hb3⟩
      case round =>
        clear hX3 hb3
        obtain ⟨j, hj, rfl, hX, hb⟩ := hrel
        rcases hj with rfl | rfl | rfl
        · have CQ : Hid (∀ w, Calls Tryd.prog 18 #[.int .u64 5, .int .u64 972777519512027136, .int .u64 1945555039024054273] w fun e w' => e = .returned (.int .u64 1945555039024054272) ∧ Below w.heap.size w w') := fun w => by
            have := rPow_any 1945555039024054273 5 972777519512027136 w (by decide) (by decide) (by decide)
            rw [pow_three10] at this
            exact this
          have x_e : wr.cell? ⟨e, 1, none⟩ = some (.slice (some ⟨c1, 0, none⟩) 2 2) := (unhide hX).e1
          have y_e := Old.cell x_e
          have y_d := Old.cell (unhide hX).d10
          have y_l := Old.cell (unhide hX).l5
          have inst := old_some wr
          go_wp2
          refine region_old (by kernel_rfl) (by kernel_rfl) ?_
          repeat (go_big_quiet_step ((go_at_call 18; exact Calls.old (unhide CQ _))))
          refine wpQuiet_nil ?_
          intro w5 hw5
          obtain ⟨u, rfl⟩ := hw5
          have hX4 := hide ((unhide hX).next u.old)
          have hb4 := bstep hb u.old
          go_wp2
          go_roundw
          case rel => exact ⟨1, by omega, rfl, hX4, hb4⟩
          case measure => simp [intOf]
        · have CQ : Hid (∀ w, Calls Tryd.prog 18 #[.int .u64 5, .int .u64 648518346341351424, .int .u64 1945555039024054273] w fun e w' => e = .returned (.int .u64 972777520719986688) ∧ Below w.heap.size w w') := fun w => by
            have := rPow_any 1945555039024054273 5 648518346341351424 w (by decide) (by decide) (by decide)
            rw [pow_three11] at this
            exact this
          have x_e : wr.cell? ⟨e, 1, none⟩ = some (.slice (some ⟨c1, 0, none⟩) 2 2) := (unhide hX).e1
          have y_e := Old.cell x_e
          have y_d := Old.cell (unhide hX).d11
          have y_l := Old.cell (unhide hX).l5
          have inst := old_some wr
          go_wp2
          refine region_old (by kernel_rfl) (by kernel_rfl) ?_
          repeat (go_big_quiet_step ((go_at_call 18; exact Calls.old (unhide CQ _))))
          refine wpQuiet_nil ?_
          intro w5 hw5
          obtain ⟨u, rfl⟩ := hw5
          have hX4 := hide ((unhide hX).next u.old)
          have hb4 := bstep hb u.old
          go_wp2
          go_roundw
          case rel => exact ⟨2, by omega, rfl, hX4, hb4⟩
          case measure => simp [intOf]
        · have x_e : wr.cell? ⟨e, 1, none⟩ = some (.slice (some ⟨c1, 0, none⟩) 2 2) := (unhide hX).e1
          go_wp2
          go_roundw
          case rel => exact ⟨2, by omega, rfl, hX, hb⟩
          case measure => simp [intOf]
    · have CP : Hid (∀ w, Calls Tryd.prog 11 #[.int .u64 4179340454199820289] w fun e w' => e = .returned (.bool true) ∧ Below w.heap.size w w') := fun w => by
        have := rPrime_any 4179340454199820289 w (by decide)
        rw [isP_three2] at this
        exact this
      have x_l6 : wr.cell? ⟨a, 6, none⟩ = some (.int .u64 4179340454199820289) := (unhide hX).l6
      have x_l7 : wr.cell? ⟨a, 7, none⟩ = some (.int .i64 57) := (unhide hX).l7
      have x_l8 : wr.cell? ⟨a, 8, none⟩ = some (.int .u64 3) := (unhide hX).l8
      have x_t2 : wr.cell? ⟨b, 2, none⟩ = some (.int .u64 4179340454199820289) := (unhide hX).t2
      have x_o2 : wr.cell? ⟨o, 2, none⟩ = some (.int .u64 29) := (unhide hX).o2
      have inst := old_some wr
      have y_l6 := Old.cell x_l6
      have y_l7 := Old.cell x_l7
      have y_l8 := Old.cell x_l8
      have y_t2 := Old.cell x_t2
      have y_o2 := Old.cell x_o2
      go_wp2
      refine region_cut 34 (by kernel_rfl) (by kernel_rfl) (by kernel_rfl) ?_
      simp only [List.take_succ_cons, List.take_zero]
      repeat (go_big_quiet_step ((go_at_call 11; exact Calls.old (unhide CP _))))
      refine wpQuiet_nil ?_
      intro w5 hw5
      obtain ⟨u, rfl⟩ := hw5
      change wpAny _ _ _ _ 10 (canon 34 10) _ _
      obtain ⟨V, hV⟩ : ∃ V, V = u.val := ⟨_, rfl⟩
      have hX2 := hide ((unhide hX).next u.old)
      have hb2 := bstep hb u.old
      rw [← hV] at hX2 hb2 ⊢
      clear y_l6 y_l7 y_l8 y_t2 y_o2 x_l6 x_l7 x_l8 x_t2 x_o2 inst hX hb hV u CP
      obtain ⟨W2, hW2⟩ : ∃ W, V.alloc (.cells #[.int .u64 6, .int .u64 5, .int .u64 3] 22) = W := ⟨_, rfl⟩
      obtain ⟨g, hg⟩ : ∃ g, V.heap.size = g := ⟨_, rfl⟩
      obtain ⟨HG, kG⟩ := new_block hW2 hg
      have hX3 := hide ((unhide hX2).next kG)
      have hb3 := bstep hb2 kG
      have z1 : V.cell? ⟨a, 8, none⟩ = some (.int .u64 3) := (unhide hX2).l8
      have z2 : W2.cell? ⟨a, 8, none⟩ = some (.int .u64 3) := (unhide hX3).l8
      have z3 : W2.cell? ⟨g, 2, none⟩ = some (.int .u64 3) := HG 2 _ rfl
      clear HG kG hb2 hX2
      refine tail9_2 (a := a) (g := g) (W2 := W2) rfl rfl rfl rfl rfl rfl rfl rfl rfl rfl rfl (by kernel_rfl) (fun _ _ _ _ _ h => h) (by kernel_rfl) (by kernel_rfl) (by kernel_rfl) (by kernel_rfl) (by kernel_rfl) (by kernel_rfl) (by kernel_rfl) (by kernel_rfl) (by kernel_rfl) (by kernel_rfl) (by kernel_rfl) (by kernel_rfl) (by kernel_rfl) (by kernel_rfl) (by kernel_rfl) (by kernel_rfl) (by kernel_rfl) (by kernel_rfl) (by kernel_rfl) (by kernel_rfl) rfl rfl rfl rfl rfl hW2 hg z1 z2 z3 ?_
      clear hW2 hg z1 z2 z3
      simp only [Act.put, List.setIfInBounds_toArray, List.set_cons_succ, List.set_cons_zero]
      go_wp2
      go_loopw [9] (fun jv wr => ∃ j : Int, (j = 0 ∨ j = 1 ∨ j = 2) ∧ jv = .int .i64 j ∧ Hid (ThreeAt wr a b c0 c1 c2 e o) ∧ Below w.heap.size w wr) (fun jv _ => 2 - (intOf jv).toNat)
      case atStart => exact ⟨0, by omega, rfl, hX3, hb3⟩
      case round =>
        clear hX3 hb3
        obtain ⟨j, hj, rfl, hX, hb⟩ := hrel
        rcases hj with rfl | rfl | rfl
        · have CQ : Hid (∀ w, Calls Tryd.prog 18 #[.int .u64 3, .int .u64 2089670227099910144, .int .u64 4179340454199820289] w fun e w' => e = .returned (.int .u64 4179340454199820288) ∧ Below w.heap.size w w') := fun w => by
            have := rPow_any 4179340454199820289 3 2089670227099910144 w (by decide) (by decide) (by decide)
            rw [pow_three20] at this
            exact this
          have x_e : wr.cell? ⟨e, 2, none⟩ = some (.slice (some ⟨c2, 0, none⟩) 2 2) := (unhide hX).e2
          have y_e := Old.cell x_e
          have y_d := Old.cell (unhide hX).d20
          have y_l := Old.cell (unhide hX).l8
          have inst := old_some wr
          go_wp2
          refine region_old (by kernel_rfl) (by kernel_rfl) ?_
          repeat (go_big_quiet_step ((go_at_call 18; exact Calls.old (unhide CQ _))))
          refine wpQuiet_nil ?_
          intro w5 hw5
          obtain ⟨u, rfl⟩ := hw5
          have hX4 := hide ((unhide hX).next u.old)
          have hb4 := bstep hb u.old
          go_wp2
          go_roundw
          case rel => exact ⟨1, by omega, rfl, hX4, hb4⟩
          case measure => simp [intOf]
        · have CQ : Hid (∀ w, Calls Tryd.prog 18 #[.int .u64 3, .int .u64 144115188075855872, .int .u64 4179340454199820289] w fun e w' => e = .returned (.int .u64 4085804930199681271) ∧ Below w.heap.size w w') := fun w => by
            have := rPow_any 4179340454199820289 3 144115188075855872 w (by decide) (by decide) (by decide)
            rw [pow_three21] at this
            exact this
          have x_e : wr.cell? ⟨e, 2, none⟩ = some (.slice (some ⟨c2, 0, none⟩) 2 2) := (unhide hX).e2
          have y_e := Old.cell x_e
          have y_d := Old.cell (unhide hX).d21
          have y_l := Old.cell (unhide hX).l8
          have inst := old_some wr
          go_wp2
          refine region_old (by kernel_rfl) (by kernel_rfl) ?_
          repeat (go_big_quiet_step ((go_at_call 18; exact Calls.old (unhide CQ _))))
          refine wpQuiet_nil ?_
          intro w5 hw5
          obtain ⟨u, rfl⟩ := hw5
          have hX4 := hide ((unhide hX).next u.old)
          have hb4 := bstep hb u.old
          go_wp2
          go_roundw
          case rel => exact ⟨2, by omega, rfl, hX4, hb4⟩
          case measure => simp [intOf]
        · have x_e : wr.cell? ⟨e, 2, none⟩ = some (.slice (some ⟨c2, 0, none⟩) 2 2) := (unhide hX).e2
          go_wp2
          go_roundw
          case rel => exact ⟨3, by omega, rfl, hX, hb⟩
          case measure => simp [intOf]
    · have hk : k % 3 = 0 ∨ k % 3 = 1 ∨ k % 3 = 2 := by omega
      rcases hk with hk | hk | hk
      · have CI : Hid (∀ w', Below w.heap.size w w' → Calls Tryd.prog 9 #[.int .u64 180143985094819841] w' fun e w'' => e = .returned (.bool true) ∧ Below w'.heap.size w' w'') := fun w' b => by
          have := is_any 180143985094819841 w' (by decide) (unhide CT w' b)
          rw [isP_three0] at this
          exact this
        have CK := unhide CK wr
        rw [hk] at CK
        have CK := hide CK
        have x_l : wr.cell? ⟨a, 0, none⟩ = some (.int .u64 180143985094819841) := (unhide hX).l0
        go_wp2_with fail
        refine (unhide CK).mono ?_
        rintro e w2 ⟨rfl, rfl⟩
        go_wp2_with fail
        refine (unhide CI _ hb).mono ?_
        rintro e w3 ⟨rfl, b2⟩
        have hb := bstep hb b2
        clear b2
        go_wp2_with fail
        refine (unhide CW _ hb).mono ?_
        rintro e w4 ⟨rfl, b2⟩
        have hb := bstep hb b2
        go_wp2
        go_ret
        exact ⟨rfl, hb⟩
      · have CI : Hid (∀ w', Below w.heap.size w w' → Calls Tryd.prog 9 #[.int .u64 1945555039024054273] w' fun e w'' => e = .returned (.bool true) ∧ Below w'.heap.size w' w'') := fun w' b => by
          have := is_any 1945555039024054273 w' (by decide) (unhide CT w' b)
          rw [isP_three1] at this
          exact this
        have CK := unhide CK wr
        rw [hk] at CK
        have CK := hide CK
        have x_l : wr.cell? ⟨a, 3, none⟩ = some (.int .u64 1945555039024054273) := (unhide hX).l3
        go_wp2_with fail
        refine (unhide CK).mono ?_
        rintro e w2 ⟨rfl, rfl⟩
        go_wp2_with fail
        refine (unhide CI _ hb).mono ?_
        rintro e w3 ⟨rfl, b2⟩
        have hb := bstep hb b2
        clear b2
        go_wp2_with fail
        refine (unhide CW _ hb).mono ?_
        rintro e w4 ⟨rfl, b2⟩
        have hb := bstep hb b2
        go_wp2
        go_ret
        exact ⟨rfl, hb⟩
      · have CI : Hid (∀ w', Below w.heap.size w w' → Calls Tryd.prog 9 #[.int .u64 4179340454199820289] w' fun e w'' => e = .returned (.bool true) ∧ Below w'.heap.size w' w'') := fun w' b => by
          have := is_any 4179340454199820289 w' (by decide) (unhide CT w' b)
          rw [isP_three2] at this
          exact this
        have CK := unhide CK wr
        rw [hk] at CK
        have CK := hide CK
        have x_l : wr.cell? ⟨a, 6, none⟩ = some (.int .u64 4179340454199820289) := (unhide hX).l6
        go_wp2_with fail
        refine (unhide CK).mono ?_
        rintro e w2 ⟨rfl, rfl⟩
        go_wp2_with fail
        refine (unhide CI _ hb).mono ?_
        rintro e w3 ⟨rfl, b2⟩
        have hb := bstep hb b2
        clear b2
        go_wp2_with fail
        refine (unhide CW _ hb).mono ?_
        rintro e w4 ⟨rfl, b2⟩
        have hb := bstep hb b2
        go_wp2
        go_ret
        exact ⟨rfl, hb⟩

end Go.Proofs.YtohgekhjaodehaaDoor
