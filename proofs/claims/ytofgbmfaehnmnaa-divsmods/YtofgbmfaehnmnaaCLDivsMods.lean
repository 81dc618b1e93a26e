/- DivsMods: what the law's walk comes to, once the code is what the document asks. -/
import Derived.Test.YtofgbmfaehnmnaaB28
import Derived.Test.YtofgbmfaehnmnaaXDivsMods
import Derived.Test.YtofgbmfaehnmnaaB12
import Derived.Test.YtofgbmfaehnmnaaB26
import Derived.Test.YtofgbmfaehnmnaaB14
namespace Go.Proofs.Ytofgbmfaehnmnaa
open Go.RowKit

theorem rowsIn_nx {w w' : World} {gp : Option Addr} {bp op : Nat} {vs : List Value} (h : RowsIn w gp bp op vs) (b : Below w.heap.size w w') : RowsIn w' gp bp op vs :=
  ⟨h.head, fun j hj => (b.cell (p := ⟨bp, op + j, none⟩) (World.block_lt_of_cell? _ _ (h.cell j hj))).trans (h.cell j hj), fun j hj => by
    obtain ⟨ga, bb, o, cap, xs, e, r, d⟩ := h.each j hj
    exact ⟨ga, bb, o, cap, xs, e, r.next b, d⟩⟩
theorem fromL {K : Nat} {w : World} {v : Value} {n : Nat} (h : InL K w v n) (hK : K ≤ 1073741824) : Calls Try.prog 13 #[v] w fun e w' => ∃ u, e = .returned u ∧ IsN w' u n ∧ Below w.heap.size w w' := by
  obtain ⟨ga, b, o, cap, xs, rfl, hr, hd, hv, hl⟩ := h
  exact from_divs w ga b o cap _ n xs rfl (by omega) hr hd hv.symm
theorem wordsL {K : Nat} {w : World} {v : Value} {n : Nat} (h : InL K w v n) (hK : K ≤ 1073741824) : Calls Try.prog 10 #[v] w fun e w' => e = .returned (.int .i64 (wl n : Int)) ∧ w' = w := by
  obtain ⟨ga, b, o, cap, xs, rfl, hr, hd, hv, hl⟩ := h
  exact dwords_any w ga b o cap _ n xs rfl (by omega) hr hd hv.symm

set_option maxRecDepth 100000 in
set_option maxHeartbeats 12800000 in
theorem divsMods_any (SN : SpecDNew) (SL : SpecLong) (SM : SpecLongMod) (SO : SpecLongModNo) (T : Tab) (ga : Option Addr) (ba oa ca la : Nat) (xs : List Nat) (gp : Option Addr) (bp op cp np : Nat) (vs : List Value) (w : World) (hxs : xs.length = la) (HrA : Rep w ga ba oa ca xs) (kxs : ∀ j, xs.getD j 0 < 18446744073709551616) (hvl : vs.length = np) (hP : RowsIn w gp bp op vs) :
    Calls Try.prog 4 #[T.val, .slice ga la ca, .slice gp np cp] w fun e w' => e = .returned (.bool true) ∧ Below w.heap.size w w' := by
  obtain ⟨na, hca⟩ : ∃ k, k = min la 24 := ⟨_, rfl⟩
  have Ca : Hid (∀ w, Calls Try.prog 6 #[.slice ga la ca, .int .i64 24] w fun e w' => e = .returned (.slice ga na ca) ∧ w' = w) := fun w => cut_any w ga la ca 24 na (by have := HrA.room; omega) (by omega) hca
  obtain ⟨hla, rA⟩ := cut_rep HrA 24 na (by rw [hxs]; exact hca)
  have dx : WDig (xs.take na) := take_words kxs na
  have hma : na ≤ 24 := by omega
  clear hca HrA kxs hxs
  generalize xs.take na = us at *
  obtain ⟨A, hva⟩ : ∃ k, k = wval us := ⟨_, rfl⟩
  have LA : Hid (A < 18446744073709551616 ^ 24) := by show _ < _; rw [hva]; exact pow_up (wval_lt_pow dx) (by omega)
  have BA : Hid (A < 4294967296 ^ 48) := by have := unhide LA; rw [wpow] at this; exact this
  have mA : InL 24 w (.slice ga na ca) A := ⟨ga, ba, oa, ca, us, by rw [hla], rA, dx, hva.symm, by omega⟩
  clear hva hla rA dx
  have bl := Below.refl w.heap.size w
  have b0 : Below w.heap.size w (w.alloc (.cells #[.int .i64 T.b, .int .i64 T.t, .int .i64 T.n, .int .i64 T.d, .int .i64 T.r, .int .i64 T.l, .int .i64 T.x, .int .i64 T.p, .int .i64 T.k, .int .i64 T.s, .int .i64 T.e] 23)) := (Below.refl _ _).alloc (Nat.le_refl _) _
  have tA := tabAt_new w T 23
  obtain ⟨W1, hW1⟩ : ∃ W, w.alloc (.cells #[.int .i64 T.b, .int .i64 T.t, .int .i64 T.n, .int .i64 T.d, .int .i64 T.r, .int .i64 T.l, .int .i64 T.x, .int .i64 T.p, .int .i64 T.k, .int .i64 T.s, .int .i64 T.e] 23) = W := ⟨_, rfl⟩
  rw [hW1] at b0 tA
  obtain ⟨P0, hP0⟩ : ∃ P, w.heap.size = P := ⟨_, rfl⟩
  rw [hP0] at tA
  have lP : P0 < W1.heap.size := tA.lt
  have mA := mA.next b0
  have bl := bstep bl b0
  have CC := hide (cuts_any W1 gp bp op cp np 8 8 vs hvl (by omega) (by omega) (rowsIn_nx hP b0))
  have CN := hide (fun W => SN T W)
  have HM := hide SM
  have HMN := hide SO
  have CK := hide (fun W => divsWakes_any SN SL W)
  clear SN SL SM SO hP hvl b0
  unfold Tab.val at CN ⊢
  go_enter Try.func4, Try.ntmps4
  go_wp2_with fail
  refine (unhide Ca _).mono ?_
  rintro e wca ⟨rfl, hw⟩
  obtain rfl := hw.symm
  clear Ca hw
  go_wp2_with fail
  refine (unhide CC).mono ?_
  rintro e w1 ⟨ns, g1, b1, c1, us1, rfl, hl1, R1, b⟩
  clear CC
  have tA := tA.next b
  have mA := mA.next b
  have bl := bstep bl b
  clear b
  obtain ⟨n, hn⟩ : ∃ n, n = us1.length := ⟨_, rfl⟩
  rw [← hn] at hl1 ⊢
  have HN := hide hn.symm
  clear hn
  have tX0 := tA
  obtain ⟨p0, p1, p2, p3, p4, p5, p6, p7, p8, p9, p10⟩ := tX0
  go_wp2_with fail
  refine (unhide CN _).mono ?_
  rintro e w2 ⟨gd, gm, gt, gk, ge, g, rfl, E, hn, b⟩
  clear p0 p1 p2 p3 p4 p5 p6 p7 p8 p9 p10
  have hg : w.heap.size ≤ g := by have := bl.size; omega
  clear hn CN tA
  have R1 := R1.next b
  have mA := mA.next b
  have bl := bstep bl b
  clear b
  go_wp2_with fail
  refine (nats_any 8 _ g1 b1 0 c1 n us1 ns (unhide HN) (by omega) R1).mono ?_
  rintro e w3 ⟨g2, b2, c2, us2, rfl, hl2, R2, b⟩
  have R1 := R1.next b
  have E := E.next b
  have mA := mA.next b
  have bl := bstep bl b
  clear b
  have h2n : us2.length = n := by rw [← R2.len, R1.len, unhide HN]
  rw [h2n]
  have hn8 : n ≤ 8 := hl1.1
  have nl : ns.length = n := by rw [R1.len, unhide HN]
  clear hl2 hl1
  by_cases hz : ∃ j, j < n ∧ ns.getD j 0 = 0
  · have CM := hide (unhide HMN w3 gd gm gt gk ge g 0 0 0 T _ A g2 b2 0 c2 n 8 us2 ns E (mA.toM' (by omega)) h2n (by omega) (by omega) R2 hz)
    have RR := hide R1
    obtain ⟨j0, hj0, hz0⟩ := hz
    have HZ := hide hz0
    have HN' := HN
    have CW : Hid (∀ j, j < n → Calls Try.prog 10 #[us1.getD j undef] w3 fun e w' => e = .returned (.int .i64 (wl (ns.getD j 0) : Int)) ∧ w' = w3) := fun j hj => wordsL (R1.each j (by rw [unhide HN]; exact hj)) (by omega)
    have HC : Hid (∀ j, j < n → g1 = some ⟨b1, 0, none⟩ ∧ w3.cell? ⟨b1, 0 + j, none⟩ = some (us1.getD j undef)) := fun j hj => ⟨R1.head (by rw [unhide HN]; omega), R1.cell j (by rw [unhide HN]; exact hj)⟩
    clear hz0 R1 R2 h2n HM HMN mA E
    go_wp2_with fail
    with_reducible refine (unhide CM).mono ?_
    rintro e w4 ⟨rfl, hw⟩
    obtain rfl := hw.symm
    clear hw CM
    go_wp2
    go_loopw [10] (fun i wr => ∃ k : Nat, k ≤ n ∧ i = .int .i64 (k : Int) ∧ Hid (∀ j, j < k → ns.getD j 0 ≠ 0) ∧ wr = w3) (fun i _ => n - (intOf i).toNat)
    case atStart => exact ⟨0, Nat.zero_le _, rfl, fun j hj => absurd hj (by omega), rfl⟩
    case round =>
      obtain ⟨k, hk, rfl, hNz, hw⟩ := hrel
      obtain rfl := hw.symm
      clear hw
      by_cases h1 : k < n
      · obtain ⟨rfl, ck⟩ := unhide HC k h1
        have CWk := unhide CW k h1
        obtain ⟨v, hv⟩ : ∃ v, v = us1.getD k undef := ⟨_, rfl⟩
        rw [← hv] at ck CWk
        rw [Nat.zero_add] at ck
        have hki : (k : Int) < (n : Int) := by omega
        by_cases hz : ns.getD k 0 = 0
        · rw [hz, wl_zero] at CWk
          have CWk := hide CWk
          clear hv hz
          go_wp2_with fail
          refine (unhide CWk).mono ?_
          rintro e w5 ⟨rfl, hw⟩
          obtain rfl := hw.symm
          clear hw
          go_wp2_with fail
          refine (unhide CK _).mono ?_
          rintro e w6 ⟨rfl, b6⟩
          have bl := bstep bl b6
          clear b6
          go_wp2
          go_ret
          exact ⟨rfl, bl⟩
        · have hwl : wl (ns.getD k 0) ≠ 0 := fun e => hz (wl_eq_zero.1 e)
          have HN2 : Hid (∀ j, j < k + 1 → ns.getD j 0 ≠ 0) := fun j hj => by
            by_cases e : j = k
            · subst e; exact hz
            · exact hNz.out j (by omega)
          generalize wl (ns.getD k 0) = q at *
          have hqi : ((q : Int) == 0) = false := by simp; omega
          have CWk := hide CWk
          clear hv hz hwl
          go_wp2_with fail
          refine (unhide CWk).mono ?_
          rintro e w5 ⟨rfl, hw⟩
          obtain rfl := hw.symm
          clear hw
          go_wp2
          exact ⟨⟨k + 1, by omega, by go_num, HN2, trivial⟩, by simp [intOf]; omega⟩
      · exact absurd (unhide HZ) (hNz.out j0 (by omega))
  · have hz' : ∀ j, j < n → 0 < ns.getD j 0 := fun j hj => Nat.pos_of_ne_zero (fun e => hz ⟨j, hj, e⟩)
    clear hz
    have CM := hide (unhide HM w3 gd gm gt gk ge g 0 0 0 T _ A g2 b2 0 c2 n 8 us2 ns E (by decide) (by decide) (by decide) (by decide) (mA.toM' (by omega)) h2n (by omega) (by omega) R2 hz')
    have RR := hide R1
    have HZ := hide hz'
    have HE := hide E
    have HA := hide mA
    clear hz' R1 R2 h2n HM HMN mA E
    go_wp2_with fail
    with_reducible refine (unhide CM).mono ?_
    rintro e w4 ⟨gx, rs, s', m', rfl, V, lr, hR, hgx, E4, hs', o⟩
    have R1 := (unhide HE).rowsN o (unhide RR)
    have mA := (unhide HE).inL o (unhide HA)
    have bl := bl.trans (o.below (B := w.heap.size) bl.size (fun k hk => by rw [hk]; exact hg))
    have CW : Hid (∀ j, j < n → Calls Try.prog 10 #[us1.getD j undef] w4 fun e w' => e = .returned (.int .i64 (wl (ns.getD j 0) : Int)) ∧ w' = w4) := fun j hj => wordsL (R1.each j (by rw [unhide HN]; exact hj)) (by omega)
    have HC : Hid (∀ j, j < n → g1 = some ⟨b1, 0, none⟩ ∧ w4.cell? ⟨b1, 0 + j, none⟩ = some (us1.getD j undef)) := fun j hj => ⟨R1.head (by rw [unhide HN]; omega), R1.cell j (by rw [unhide HN]; exact hj)⟩
    have HR1 := hide R1
    have HMA := hide mA
    have HV := hide V
    have HRn := hide hR
    have HLR := hide lr
    clear CM o E4 R1 mA V hR lr HE RR HA hs'
    go_wp2
    go_loopw [10] (fun i wr => ∃ k : Nat, k ≤ n ∧ i = .int .i64 (k : Int) ∧ wr = w4) (fun i _ => n - (intOf i).toNat)
    case atStart => exact ⟨0, Nat.zero_le _, rfl, rfl⟩
    case round =>
      obtain ⟨k, hk, rfl, hw⟩ := hrel
      obtain rfl := hw.symm
      clear hw
      by_cases h1 : k < n
      · obtain ⟨rfl, ck⟩ := unhide HC k h1
        have CWk := unhide CW k h1
        obtain ⟨v, hv⟩ : ∃ v, v = us1.getD k undef := ⟨_, rfl⟩
        rw [← hv] at ck CWk
        rw [Nat.zero_add] at ck
        have hki : (k : Int) < (n : Int) := by omega
        have hwl : wl (ns.getD k 0) ≠ 0 := fun e => by have := unhide HZ k h1; have := wl_eq_zero.1 e; omega
        generalize wl (ns.getD k 0) = q at *
        have hqi : ((q : Int) == 0) = false := by simp; omega
        have CWk := hide CWk
        clear hv hwl
        go_wp2_with fail
        refine (unhide CWk).mono ?_
        rintro e w5 ⟨rfl, hw⟩
        obtain rfl := hw.symm
        clear hw
        go_wp2
        exact ⟨⟨k + 1, by omega, by go_num, trivial⟩, by simp [intOf]; omega⟩
      · have hki : ¬ (k : Int) < (n : Int) := by omega
        clear CW HC hki
        go_wp2
        go_loopw [11] (fun i wr => ∃ k : Nat, k ≤ n ∧ i = .int .i64 (k : Int) ∧ Below w4.heap.size w4 wr) (fun i _ => n - (intOf i).toNat)
        case atStart => exact ⟨0, Nat.zero_le _, rfl, Below.refl _ _⟩
        case round =>
          obtain ⟨k, hk, rfl, bw⟩ := hrel
          by_cases h1 : k < n
          · obtain rfl := (unhide HR1).head (by rw [unhide HN]; omega)
            have c1 := (unhide HR1).cell k (by rw [unhide HN]; exact h1)
            have m1 := (unhide HR1).each k (by rw [unhide HN]; exact h1)
            have c2 := (unhide HV).cell k (by rw [unhide HLR]; exact h1)
            have n2 := (unhide HRn) k h1
            have hpos := (unhide HZ) k h1
            rw [Nat.zero_add] at c1
            obtain ⟨v, hv⟩ : ∃ v, v = us1.getD k undef := ⟨_, rfl⟩
            obtain ⟨r, hr⟩ : ∃ r, r = rs.getD k undef := ⟨_, rfl⟩
            obtain ⟨C, hC⟩ : ∃ C, C = ns.getD k 0 := ⟨_, rfl⟩
            rw [← hv] at c1 m1
            rw [← hC] at m1 n2 hpos
            rw [← hr] at c2 n2
            clear hv hr hC
            have hCl := m1.lt
            have HCl : Hid (C < 4294967296 ^ 48) := by have := pow_up hCl (q := 24) (by omega); rw [wpow] at this; exact this
            have HRl : Hid (A % C < 18446744073709551616 ^ 24) := Nat.lt_of_le_of_lt (Nat.mod_le _ _) (unhide LA)
            have HPos := hide hpos
            have CFa : Hid (∀ W, Below w4.heap.size w4 W → Calls Try.prog 13 #[.slice ga na ca] W fun e w' => ∃ u, e = .returned u ∧ IsN w' u A ∧ Below W.heap.size W w') := fun W b => fromL ((unhide HMA).next b) (by omega)
            have CFv : Hid (∀ W, Below w4.heap.size w4 W → Calls Try.prog 13 #[v] W fun e w' => ∃ u, e = .returned u ∧ IsN w' u C ∧ Below W.heap.size W w') := fun W b => fromL (m1.next b) (by omega)
            have CSm : Hid (∀ W u, Below w4.heap.size w4 W → IsN W u (A % C) → Calls Try.prog 14 #[u, r] W fun e w' => e = .returned (.bool true) ∧ Below W.heap.size W w') := fun W u b hu => same_new W u r _ _ 24 (by omega) (unhide HRl) hu (n2.next b)
            have CMd : Hid (∀ W x y, IsN W x A → IsN W y C → Calls Try.prog 21 #[x, y] W fun e w' => ∃ u, e = .returned u ∧ IsN w' u (A % C) ∧ Below W.heap.size W w') := fun W x y hx hy => rMod_any W x y A C 48 (by omega) (unhide BA) (unhide HCl) (unhide HPos) hx hy
            have hb1 := World.block_lt_of_cell? _ _ c1
            have hb2 := World.block_lt_of_cell? _ _ c2
            have HX : Hid (∀ W, Below w4.heap.size w4 W → W.cell? ⟨b1, k, none⟩ = some v ∧ W.cell? ⟨gx, k, none⟩ = some r) := fun W b => ⟨(b.cell (p := ⟨b1, k, none⟩) hb1).trans c1, (b.cell (p := ⟨gx, k, none⟩) hb2).trans c2⟩
            obtain ⟨va, vb, vo, vc, vxs, rfl, _⟩ := m1
            obtain ⟨ra, rl, rc, rfl⟩ := n2.shape
            generalize vxs.length = vl at *
            have hki : (k : Int) < (n : Int) := by omega
            obtain ⟨d1, d2⟩ := unhide HX _ bw
            have BL := hide bl
            clear c1 c2 n2 hpos hCl bl
            go_wp2
            have bl : Below w4.heap.size w4 wr.drew := bw.trans ((Below.refl _ _).drew)
            go_region_held3 (fun w' => w'.cell? ⟨b1, k, none⟩ = some (.slice va vl vc) ∧ w'.cell? ⟨gx, k, none⟩ = some (.slice ra rl rc)) (first | (exact unhide HX _ bl) | go_keep) (first
              | (go_at_call 13; with_reducible refine (unhide CFa _ bl).mono ?_; rintro e wA ⟨uA, rfl, nA, bA⟩; have bl := bl.trans (bA.mono bl.size))
              | (go_at_call 13; with_reducible refine (unhide CFv _ bl).mono ?_; rintro e wV ⟨uV, rfl, nV, bV⟩; have bl := bl.trans (bV.mono bl.size); have nA := nA.next bV)
              | (go_at_call 21; with_reducible refine (unhide CMd _ _ _ nA nV).mono ?_; rintro e wM ⟨uM, rfl, nM, bM⟩; have bl := bl.trans (bM.mono bl.size))
              | (go_at_call 14; with_reducible refine (unhide CSm _ _ bl nM).mono ?_; rintro e wS ⟨rfl, bS⟩; have bl := bl.trans (bS.mono bl.size)))
            have b5 := bl
            have bl := unhide BL
            go_wp2
            exact ⟨⟨k + 1, by omega, by go_num, b5⟩, by simp [intOf]; omega⟩
          · have hki : ¬ (k : Int) < (n : Int) := by omega
            have bl := bl.trans (bw.mono bl.size)
            go_wp2_with fail
            refine (unhide CK _).mono ?_
            rintro e w6 ⟨rfl, b6⟩
            have bl := bstep bl b6
            clear b6
            go_wp2
            go_ret
            exact ⟨rfl, bl⟩

end Go.Proofs.Ytofgbmfaehnmnaa
