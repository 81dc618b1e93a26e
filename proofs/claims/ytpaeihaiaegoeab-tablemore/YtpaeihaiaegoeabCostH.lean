/- What a product costs, by a bill: the ways that need pieces. -/
import Derived.Test.YtpaeihaiaegoeabCostW
import Derived.Deep.RegionWith
import Derived.Deep.RegionHeld3
namespace Go.Proofs.Ytpaeihaiaegoeab
open Go.RowKit Go.Maps

theorem zeroInt (w : World) : (zeroValue 3).run Try.prog w = .ok (.int .i64 0) w := by kernel_rfl

/-- A look-up in the map of costs, whatever has been drawn. -/
theorem look_pair {W : World} {mb c : Nat} {D : DataW Unit} (h : W.ownsMap Try.prog 44 (plainElem Try.prog 3) mb c D) {a b : Int} {kl : Lit} (hk : keyOf Try.prog 44 (.agg #[.int .i64 a, .int .i64 b]) = some kl) :
    ∃ x : Int, D.atKey kl (.lit (.int .i64 0)) = .lit (.int .i64 x) ∧ ∀ k, (Instr.lookup 35 (.map (some mb)) (.agg #[.int .i64 a, .int .i64 b]) true).run Try.prog (W.drewN k) = .ok (.tuple #[.int .i64 x, .bool (Maps.has D kl)]) (W.drewN k) := by
  have H : ∀ k, ∃ x : Int, D.atKey kl (.lit (.int .i64 0)) = .lit (.int .i64 x) ∧ (Instr.lookup 35 (.map (some mb)) (.agg #[.int .i64 a, .int .i64 b]) true).run Try.prog (W.drewN k) = .ok (.tuple #[.int .i64 x, .bool (Maps.has D kl)]) (W.drewN k) := fun k => by
    have hk2 : (W.drewN k).ownsMap Try.prog 44 (plainElem Try.prog 3) mb c D := by obtain ⟨es, cl, hb, r⟩ := h; exact ⟨es, cl, hb, r⟩
    obtain ⟨v, ps, hr, hv⟩ := hk2.look_ok keyed Try.underlying35 (zeroInt _) (plainElem_int (H := Unit) Try.underlying3 (by decide)) hk
    obtain ⟨x, rfl, hx, _⟩ := plainElem_int_inv Try.underlying3 hv
    exact ⟨x, congrArg Prod.fst hx, hr⟩
  obtain ⟨x, hx, _⟩ := H 0
  refine ⟨x, hx, fun k => ?_⟩
  obtain ⟨y, hy, hr⟩ := H k
  rw [hx] at hy
  cases hy
  exact hr

theorem grown_of_below {w w' : World} {g : Nat} (h : Below w.heap.size w w') : w.grownBy w' (some g) := ⟨h.os, h.tape, h.output, h.size, fun j hj _ => h.block j hj⟩

/-- What a round of the reckoning stands on: the bill, the key that is laid at block kb, the pieces at block pg. -/
structure Run (w wr : World) (g mb kb pg : Nat) (T : Tab) (q : Bool) (c way n m : Nat) : Prop where
  bill : Bill wr g mb T q c
  k0 : wr.cell? ⟨kb, 0, none⟩ = some (.int .i64 (n : Int))
  k1 : wr.cell? ⟨kb, 1, none⟩ = some (.int .i64 (m : Int))
  parts : PartsAt wr pg way n m
  grown : w.grownBy wr (some mb)
  kne : kb ≠ mb
  plt : pg < wr.heap.size
  pne : pg ≠ mb

theorem Run.next {w wr w' : World} {g mb kb pg : Nat} {T : Tab} {q : Bool} {c way n m : Nat} (h : Run w wr g mb kb pg T q c way n m) (b : Below wr.heap.size wr w') : Run w w' g mb kb pg T q c way n m :=
  ⟨h.bill.next b, (b.cell (p := ⟨kb, 0, none⟩) (World.block_lt_of_cell? _ _ h.k0)).trans h.k0, (b.cell (p := ⟨kb, 1, none⟩) (World.block_lt_of_cell? _ _ h.k1)).trans h.k1, h.parts.next h.plt b, grown_below h.grown b, h.kne, Nat.lt_of_lt_of_le h.plt b.size, h.pne⟩
theorem Run.step {w wr w' : World} {g mb kb pg : Nat} {T : Tab} {q : Bool} {c d way n m : Nat} (h : Run w wr g mb kb pg T q c way n m) (b : wr.grownBy w' (some mb)) (k : Bill w' g mb T q d) : Run w w' g mb kb pg T q d way n m :=
  ⟨k, b.cell h.k0 (by simpa using h.kne), b.cell h.k1 (by simpa using h.kne), h.parts.but b h.pne, grown_trans h.grown b, h.kne, Nat.lt_of_lt_of_le h.plt b.size, h.pne⟩

set_option maxRecDepth 100000 in
set_option maxHeartbeats 3200000 in
theorem cost_high {w : World} {g mb : Nat} {T : Tab} {q : Bool} {c : Nat} (n m way : Nat) (hm : m ≤ n) (hn : n ≤ 16384) (h : Bill w g mb T q c) (hq : q = true → n = m) (hw1 : 2 ≤ way) (hw2 : way ≤ 4) (r : rt T.B T.D T.N n m = way)
    (W : Way q T.B T.D T.N way n m) (hc : c + st n ≤ 1099511627776)
    (CP : ∀ w, Calls Try.prog 21 #[.int .i64 (way : Int), .int .i64 (n : Int), .int .i64 (m : Int)] w fun e w' => ∃ g, e = .returned (.slice (some ⟨g, 0, none⟩) (pK way) (pK way)) ∧ PartsAt w' g way n m ∧ w.heap.size ≤ g ∧ g < w'.heap.size ∧ Below w.heap.size w w')
    (ih : ∀ (n' m' c' : Nat) (w : World), n' < n → m' ≤ n' → (q = true → n' = m') → c' + st n' ≤ 1099511627776 → Bill w g mb T q c' →
      Calls Try.prog 14 #[.pointer (some ⟨g, 0, none⟩), .int .i64 (n' : Int), .int .i64 (m' : Int)] w fun e w' => e = .returned (.int .i64 (vq q T.B T.D T.N n' m' : Int)) ∧ Bill w' g mb T q (c' + st n') ∧ w.grownBy w' (some mb)) :
    Calls Try.prog 14 #[.pointer (some ⟨g, 0, none⟩), .int .i64 (n : Int), .int .i64 (m : Int)] w fun e w' => e = .returned (.int .i64 (vq q T.B T.D T.N n m : Int)) ∧ Bill w' g mb T q (c + st n) ∧ w.grownBy w' (some mb) := by
  have CR := hide (fun w => route_any T.clamp T.B T.D T.N n m T.hB T.hD T.hN (by omega) (by omega) w)
  have CPH := hide CP
  have IH := hide ih
  have WA := hide W
  have BI := hide h
  have RR := hide r
  obtain ⟨c0, c1, c2, c3, c4, c5, c6, c7, c8, c9, c10⟩ := h.cell
  rw [r] at CR
  clear h ih W r
  unfold Tab.val at CR
  obtain ⟨X, hX⟩ : ∃ X, vq q T.B T.D T.N n m = X := ⟨_, rfl⟩
  have HX := hide hX
  rw [hX]
  clear hX
  generalize T.clamp.b = t0 at CR c0
  generalize T.clamp.t = t1 at CR c1
  generalize T.clamp.n = t2 at CR c2
  generalize T.clamp.d = t3 at CR c3
  generalize T.clamp.r = t4 at CR c4
  generalize T.clamp.l = t5 at CR c5
  generalize T.clamp.x = t6 at CR c6
  generalize T.clamp.p = t7 at CR c7
  generalize T.clamp.k = t8 at CR c8
  generalize T.clamp.s = t9 at CR c9
  generalize T.clamp.e = t10 at CR c10
  obtain ⟨kl, hk⟩ := key_pair (n : Int) (m : Int) (WalkArith.wf_i64 (by omega)) (WalkArith.wf_i64 (by omega))
  have HK := hide hk
  clear hk
  go_enter Try.func14, Try.ntmps14
  go_wp2_with fail
  refine (unhide CR _).mono ?_
  rintro e w1 ⟨rfl, b1⟩
  clear CR c0 c1 c2 c3 c4 c5 c6 c7 c8 c9 c10
  obtain ⟨W2, hW2⟩ : ∃ W2, w1.alloc (.cells #[.int .i64 (n : Int), .int .i64 (m : Int)] 44) = W2 := ⟨_, rfl⟩
  obtain ⟨kb, hkb⟩ : ∃ kb, w1.heap.size = kb := ⟨_, rfl⟩
  have b2 : Below w.heap.size w W2 := by rw [← hW2]; exact b1.alloc (by have := b1.size; omega) _
  have B2 := hide ((unhide BI).next b2)
  have hk2 : W2.heap[kb]? = some (.cells #[.int .i64 (n : Int), .int .i64 (m : Int)] 44 (0, 0)) := by rw [← hW2, ← hkb]; exact heap_alloc_new w1 _
  have k0 : W2.cell? ⟨kb, 0, none⟩ = some (.int .i64 (n : Int)) := cell_of_row _ kb 0 _ _ _ hk2
  have k1 : W2.cell? ⟨kb, 1, none⟩ = some (.int .i64 (m : Int)) := cell_of_row _ kb 1 _ _ _ hk2
  have KN : Hid (kb ≠ mb) := by have a := ((unhide BI).next b1).mt; show _ ≠ _; omega
  have HB2 := hide b2
  have kn := (unhide B2).known
  obtain ⟨D, hD, hKn⟩ := (unhide B2).map
  obtain ⟨x, hx, hrun⟩ := look_pair hD (unhide HK)
  have HD := hide hD
  have HN := hide hKn
  have HXX := hide hx
  clear b1 b2 hk2 BI CP hD hKn hx
  cases hhas : Maps.has D kl
  · rw [hhas] at hrun
    have HH := hide hhas
    clear hhas
    go_wp2_with fail
    clear hW2 hkb
    go_quiet (fail)
    clear hrun
    go_wp2_with fail
    refine (unhide CPH _).mono ?_
    rintro e w3 ⟨pg, rfl, hP, hpg, hpl, b3⟩
    have R0 : Run w w3 g mb kb pg T q (c + pR way n m 0) way n m := by
      have b2 : Below W2.heap.size W2 w3 := (below_drewN (Below.refl _ _) nq).trans b3
      exact ⟨(unhide B2).next b2, (b2.cell (p := ⟨kb, 0, none⟩) (World.block_lt_of_cell? _ _ k0)).trans k0, (b2.cell (p := ⟨kb, 1, none⟩) (World.block_lt_of_cell? _ _ k1)).trans k1, hP, grown_below (grown_of_below (unhide HB2)) b2, unhide KN, hpl,
        fun e => by have := (unhide B2).mt; have h2 : W2.heap.size ≤ pg := hpg; omega⟩
    clear hP hpg hpl b3 k0 k1 kn CPH B2 HB2 KN HD HN HXX HH
    have hK3 : pK way ≤ 3 := by unfold pK; split <;> omega
    obtain ⟨K, hK⟩ : ∃ K, pK way = K := ⟨_, rfl⟩
    rw [hK] at hK3 ⊢
    have HKK := hide hK
    clear hK
    go_wp2
    go_loopw [11, 55] (fun s i wr => ∃ j : Nat, j ≤ K ∧ i = .int .i64 (j : Int) ∧ s = .int .i64 (pS q T.B T.D T.N way n m j : Int) ∧ Run w wr g mb kb pg T q (c + pR way n m j) way n m) (fun _ i _ => K - (intOf i).toNat)
    case atStart => exact ⟨0, Nat.zero_le _, rfl, rfl, R0⟩
    case round =>
      clear R0
      obtain ⟨j, hj, rfl, rfl, R⟩ := hrel
      by_cases hlt : (j : Int) < (K : Int)
      · have HR := hide R
        obtain ⟨p0, p1, p2⟩ := R.parts j (by rw [unhide HKK]; omega)
        clear R
        obtain ⟨a, ha⟩ : ∃ a, pN way n m j = a := ⟨_, rfl⟩
        obtain ⟨b, hb⟩ : ∃ b, pM way n m j = b := ⟨_, rfl⟩
        obtain ⟨t, ht⟩ : ∃ t, pT way n m j = t := ⟨_, rfl⟩
        rw [ha] at p0
        rw [hb] at p1
        rw [ht] at p2
        obtain ⟨S0, hS0⟩ : ∃ S0, pS q T.B T.D T.N way n m j = S0 := ⟨_, rfl⟩
        rw [hS0]
        have HA := hide ha
        have HB := hide hb
        have HT := hide ht
        have HS := hide hS0
        clear ha hb ht hS0
        obtain ⟨W4, hW4⟩ : ∃ W4, wr.alloc (.cells #[.int .i64 (a : Int), .int .i64 (b : Int), .int .i64 (t : Int)] 49) = W4 := ⟨_, rfl⟩
        obtain ⟨pb, hpb⟩ : ∃ pb, wr.heap.size = pb := ⟨_, rfl⟩
        have hk4 : W4.heap[pb]? = some (.cells #[.int .i64 (a : Int), .int .i64 (b : Int), .int .i64 (t : Int)] 49 (0, 0)) := by rw [← hW4, ← hpb]; exact heap_alloc_new wr _
        have d0 : W4.cell? ⟨pb, 0, none⟩ = some (.int .i64 (a : Int)) := cell_of_row _ pb 0 _ _ _ hk4
        have d1 : W4.cell? ⟨pb, 1, none⟩ = some (.int .i64 (b : Int)) := cell_of_row _ pb 1 _ _ _ hk4
        have d2 : W4.cell? ⟨pb, 2, none⟩ = some (.int .i64 (t : Int)) := cell_of_row _ pb 2 _ _ _ hk4
        have PN : Hid (pb ≠ mb) := by have := (unhide HR).bill.mt; show _ ≠ _; omega
        have R4 := hide ((unhide HR).next (by rw [← hW4]; exact (Below.refl _ _).alloc (Nat.le_refl _) _ : Below wr.heap.size wr W4))
        have WL := (unhide WA).lt j (by rw [unhide HKK]; omega)
        have WM := (unhide WA).le j (by rw [unhide HKK]; omega)
        have WS : Hid (q = true → a = b) := fun h => by have := (unhide WA).sq h j (by rw [unhide HKK]; omega); rw [unhide HA, unhide HB] at this; exact this
        have WT := (unhide WA).times j (by rw [unhide HKK]; omega)
        have ROOM : Hid (c + pR way n m j + st a + 1 ≤ c + st n) := by
          have h1 := (unhide WA).room
          have h2 := pR_mono (way := way) (n := n) (m := m) (pK way) (j + 1) (by rw [unhide HKK]; omega)
          have h3 : pR way n m (j + 1) = pR way n m j + st (pN way n m j) := rfl
          rw [unhide HA] at h3
          show _ ≤ _
          omega
        rw [unhide HA] at WL WM
        rw [unhide HB] at WM
        rw [unhide HT] at WT
        obtain ⟨v, hv⟩ : ∃ v, vq q T.B T.D T.N a b = v := ⟨_, rfl⟩
        have HV := hide hv
        have C1 : Hid (∀ w, Bill w g mb T q (c + pR way n m j) → Calls Try.prog 14 #[.pointer (some ⟨g, 0, none⟩), .int .i64 (a : Int), .int .i64 (b : Int)] w fun e w' => e = .returned (.int .i64 (v : Int)) ∧ Bill w' g mb T q (c + pR way n m j + st a) ∧ w.grownBy w' (some mb)) := fun w hB => by
          rw [← hv]
          exact unhide IH a b (c + pR way n m j) w WL WM (unhide WS) (by have := unhide ROOM; omega) hB
        obtain ⟨z, hz⟩ : ∃ z, t * v = z := ⟨_, rfl⟩
        have SJ : Hid (pS q T.B T.D T.N way n m (j + 1) = S0 + z) := by
          show pS q T.B T.D T.N way n m j + pT way n m j * vq q T.B T.D T.N (pN way n m j) (pM way n m j) = S0 + z
          rw [unhide HA, unhide HB, unhide HT, unhide HS, hv, hz]
        have XB : X ≤ 2147483648 := by
          have h1 := vq_le (q := q) (B := T.B) (T := T.D) (N := T.N) (n := n) (m := m) T.ent hm hq
          rw [unhide HX] at h1
          have h2 : n * m ≤ 16384 * 16384 := Nat.mul_le_mul hn (by omega)
          omega
        have ZB : S0 + z ≤ X := by
          have h1 := pS_mono (q := q) (B := T.B) (T := T.D) (N := T.N) (way := way) (n := n) (m := m) (pK way) (j + 1) (by rw [unhide HKK]; omega)
          rw [(unhide WA).sum, unhide HX, unhide SJ] at h1
          exact h1
        have hz1 : (t : Int) * (v : Int) = (z : Int) := by rw [← hz]; simp
        have hz2 : IntKind.i64.wrap (z : Int) = (z : Int) := by rw [IntKind.wrap_i64]; omega
        have NEXT : Hid (∀ w5, Bill w5 g mb T q (c + pR way n m j + st a) → W4.drew.grownBy w5 (some mb) → Run w w5 g mb kb pg T q (c + pR way n m (j + 1)) way n m) := fun w5 B5 G5 => by
          have e : c + pR way n m (j + 1) = c + pR way n m j + st a := by
            show c + (pR way n m j + st (pN way n m j)) = _
            rw [unhide HA]; omega
          rw [e]
          exact ((unhide R4).next (below_drewN (Below.refl _ _) 1)).step G5 B5
        clear hk4 hv IH hz WL WM WT
        go_wp2_with fail
        clear hW4 hpb p0 p1 p2
        go_region_with ((go_at_call 14; refine (unhide C1 _ ((unhide R4).bill.next ?_)).mono ?_; exact below_drewN (Below.refl _ _) 1; rintro e w5 ⟨rfl, B5, G5⟩; have d2' := G5.cell d2 (by simpa using unhide PN); have NX := unhide NEXT _ B5 G5; clear B5 G5))
        all_goals
          go_wp2
          go_roundw
          case rel => exact ⟨j + 1, by omega, by go_num, by rw [unhide SJ]; go_num, NX⟩
          case measure => simp [intOf]; omega
      · have hjK : j = K := by omega
        have eS : pS q T.B T.D T.N way n m j = X := by rw [hjK, ← unhide HKK, (unhide WA).sum, unhide HX]
        have ROOM : Hid (c + pR way n m j + 1 ≤ c + st n) := by
          have h1 := (unhide WA).room
          rw [unhide HKK, ← hjK] at h1
          show _ ≤ _
          omega
        have HR := hide R
        have k0 := R.k0
        have k1 := R.k1
        have kn := R.bill.known
        obtain ⟨D', hD', hK'⟩ := R.bill.map
        have HD' := hide hD'
        have HN' := hide hK'
        have XB : X ≤ 2147483648 := by
          have h1 := vq_le (q := q) (B := T.B) (T := T.D) (N := T.N) (n := n) (m := m) T.ent hm hq
          rw [unhide HX] at h1
          have h2 : n * m ≤ 16384 * 16384 := Nat.mul_le_mul hn (by omega)
          omega
        rw [eS]
        clear R hD' hK' eS IH hjK
        go_wp2_with fail
        refine still_tail 6 (by kernel_rfl) (by kernel_rfl) ?_
        simp only [List.take_succ_cons, List.take_zero, List.drop_succ_cons, List.drop_zero]
        iterate 6 still_step
        refine wpStill_nil ?_
        go_wp2_with (at_mapUpdate; refine wpList_mapUpdate_own _ rfl _ _ _ 35 rfl 44 3 keyed Try.underlying35 _ mb _ D' rfl (unhide HD') (by have := unhide ROOM; unfold maxLen; omega) _ _ kl rfl rfl (unhide HK) _ [] (plainElem_int Try.underlying3 (WalkArith.wf_i64 (by omega))) ?_; intro w6 hown6 hg6)
        go_ret
        have e6 : Known T q (D'.put kl (.lit (.int .i64 (X : Int)))) := by rw [← unhide HX]; exact known_put (unhide HN') (unhide HD').isMap (unhide HK)
        have r6 := (unhide HR).next (below_drewN (Below.refl _ _) 1)
        exact ⟨rfl, (r6.bill.store hg6 hown6 e6).mono (unhide ROOM), grown_trans r6.grown hg6⟩
  · rw [hhas] at hrun
    have HF : Hid (x = (X : Int)) := by
      have e := (unhide HN) n m hn (by omega) hq kl (unhide HK) hhas
      rw [unhide HXX, unhide HX] at e
      show x = X
      injection e with e; injection e
    rw [unhide HF] at hrun
    clear hhas
    go_wp2_with fail
    clear hW2 hkb
    go_quiet (fail)
    clear hrun
    go_wp2
    go_ret
    exact ⟨rfl, ((unhide B2).next (below_drewN (Below.refl _ _) _)).mono (by omega), grown_drewN (grown_of_below (unhide HB2)) _⟩

end Go.Proofs.Ytpaeihaiaegoeab
