/- LimbJoins: what the law's walk comes to. -/
import Derived.Test.YtmfpgpkheaofeabRows2
import Derived.Test.YtmfpgpkheaofeabRShift
import Derived.Test.YtmfpgpkheaofeabWithin
import Derived.Deep.RegionWith
namespace Go.Proofs.Ytmfpgpkheaofeab
open Go.RowKit

theorem jsum_top {K c n P : Nat} {ns : List Nat} (h : ∀ j, j < n → ns.getD j 0 < 18446744073709551616 ^ K) (hP : ∀ j, j < n → c * j + K ≤ P) : ∀ q, q ≤ n → jsum c ns q ≤ q * 18446744073709551616 ^ P
  | 0 => fun _ => by simp [jsum]
  | q + 1 => fun hq => by
    have ih := jsum_top h hP q (by omega)
    have h1 := Nat.mul_le_mul_left (18446744073709551616 ^ (c * q)) (Nat.le_of_lt (h q (by omega)))
    rw [← Nat.pow_add] at h1
    have h2 := Nat.pow_le_pow_right (n := 18446744073709551616) (by omega) (hP q (by omega))
    rw [jsum, Nat.add_mul, Nat.one_mul]
    omega

/-- The parts from q on are summed up; S is their sum. -/
def HornerAt (c : Nat) (ns : List Nat) (n q S : Nat) : Prop := jsum c ns q + 18446744073709551616 ^ (c * q) * S = jsum c ns n
theorem horner_start (c : Nat) (ns : List Nat) (n : Nat) : HornerAt c ns n n 0 := by unfold HornerAt; simp
theorem horner_step {c : Nat} {ns : List Nat} {n j S x : Nat} (h : HornerAt c ns n (j + 1) S) (hx : x = ns.getD j 0) : HornerAt c ns n j (S * 18446744073709551616 ^ c + x) := by
  unfold HornerAt at *
  rw [← h, jsum, ← hx, Nat.mul_add, Nat.mul_succ, Nat.pow_add, Nat.mul_comm S, Nat.mul_assoc]
  omega
theorem horner_le {c : Nat} {ns : List Nat} {n q S : Nat} (h : HornerAt c ns n q S) : S ≤ jsum c ns n := by
  unfold HornerAt at h
  have h1 := Nat.mul_le_mul_right S (wpow_pos (c * q))
  rw [← h]
  omega
theorem horner_end {c : Nat} {ns : List Nat} {n S : Nat} (h : HornerAt c ns n 0 S) : S = jsum c ns n := by
  unfold HornerAt at h
  rw [← h]; simp [jsum]

set_option maxRecDepth 100000 in
set_option maxHeartbeats 12800000 in
theorem limbJoins_any (gp : Option Addr) (bp op cp np : Nat) (vs : List Value) (w : World) (hvl : vs.length = np) (hP : RowsIn w gp bp op vs) (z : Int) (hz1 : -9223372036854775808 ≤ z) (hz2 : z ≤ 9223372036854775807) :
    Calls Try.prog 4 #[.int .i64 z, .slice gp np cp] w fun e w' => e = .returned (.bool true) ∧ Below w.heap.size w w' := by
  have CC := hide (cuts_any w gp bp op cp np 8 12 vs hvl (by omega) (by omega) hP)
  have CWi := hide (fun w => within_any z 40 w hz1 hz2 (by omega) (by omega))
  obtain ⟨zz, c, hc, hcz, hcase⟩ : ∃ (zz : Int) (c : Nat), c ≤ 40 ∧ (c : Int) = max zz 0 ∧ ((40 < z ∧ z % 40 = zz) ∨ (¬ 40 < z ∧ zz = z)) := by
    by_cases h : 40 < z
    · exact ⟨z % 40, (z % 40).toNat, by omega, by omega, Or.inl ⟨h, rfl⟩⟩
    · exact ⟨z, z.toNat, by omega, by omega, Or.inr ⟨h, rfl⟩⟩
  have CCo := hide (fun w => count_lim zz 40 c w (by omega))
  have CJ := hide (fun w gp bp op cp np vs ns => join_k w gp bp op cp np c zz vs ns)
  have hj16 : (c : Int) = min (max zz 0) 16384 := by omega
  have HJ16 := hide hj16
  obtain ⟨t, ht⟩ : ∃ t, t = 64 * c := ⟨_, rfl⟩
  have et : (64 : Int) * (c : Int) = (t : Int) := by omega
  have htb : t ≤ 2560 := by omega
  have hwt : IntKind.i64.wrap (t : Int) = (t : Int) := by rw [IntKind.wrap_i64]; omega
  have e2 : 18446744073709551616 ^ c = 2 ^ t := by rw [ht, Nat.pow_mul]
  have HE2 := hide e2
  have HC := hide hc
  obtain ⟨P, hP2⟩ : ∃ P : Nat, P = 332 := ⟨_, rfl⟩
  have hPl : 332 ≤ P := by omega
  have hPb : P ≤ 332 := by omega
  clear hvl hP hz1 hz2 hcz ht e2 hj16 hP2
  rcases hcase with ⟨hgt, hzz⟩ | ⟨hgt, rfl⟩
  · rw [hzz] at CWi
    clear hzz
    go_enter Try.func4, Try.ntmps4
    go_wp2_with fail
    refine (unhide CC).mono ?_
    rintro e w1 ⟨ns, g1, b1, c1, us, rfl, hl1, R1, bl⟩
    clear CC
    obtain ⟨n, hn⟩ : ∃ n, n = us.length := ⟨_, rfl⟩
    rw [← hn] at hl1 ⊢
    have HN := hide hn.symm
    clear hn
    have htop := jsum_top (K := 12) (c := c) (P := P) (ns := ns) (n := n) (fun j hj => (R1.each j (by rw [unhide HN]; omega)).lt) (fun j hj => by
      have h1 : c * j ≤ 40 * 8 := Nat.mul_le_mul (unhide HC) (by omega)
      omega) n (Nat.le_refl _)
    obtain ⟨J, hJ⟩ : ∃ J, J = jsum c ns n := ⟨_, rfl⟩
    have hJb : J < 18446744073709551616 ^ (P + 1) := by
      rw [hJ, Nat.pow_succ]
      have h2 : n * 18446744073709551616 ^ P ≤ 8 * 18446744073709551616 ^ P := Nat.mul_le_mul_right _ hl1
      have h3 := wpow_pos P
      generalize 18446744073709551616 ^ P = p at *
      omega
    have HJB := hide hJb
    have hJ2 : J < 4294967296 ^ (2 * (P + 1)) := by rw [← wpow]; exact hJb
    have HJ2 := hide hJ2
    have HJE := hide hJ
    clear htop hJ hJb hJ2
    obtain ⟨L, hL⟩ : ∃ L, L = 2 * (P + 1) := ⟨_, rfl⟩
    rw [← hL] at HJ2
    have hLb : L ≤ 1073741824 := by omega
    have h12 : Hid (∀ x, x < 18446744073709551616 ^ 12 → x < 4294967296 ^ L) := fun x hx => by
      rw [hL, ← wpow]; exact pow_up hx (by omega)
    clear hL
    go_wp2_with fail
    refine (unhide CWi _).mono ?_
    rintro e w2 ⟨rfl, rfl⟩
    clear CWi
    go_wp2
    go_loopw [5, 6] (fun sv iv wr => ∃ (q S : Nat), q ≤ n ∧ iv = .int .i64 ((q : Int) - 1) ∧ IsN wr sv S ∧ Hid (HornerAt c ns n q S) ∧ Below w2.heap.size w2 wr) (fun _ iv _ => (intOf iv + 1).toNat)
    case atStart => exact ⟨n, 0, Nat.le_refl _, rfl, isN_none _, horner_start c ns n, Below.refl _ _⟩
    case round =>
      obtain ⟨q, S, hq, rfl, nS, hAt, hnx⟩ := hrel
      by_cases h0 : q = 0
      · subst h0
        have hS : S = J := by rw [unhide HJE]; exact horner_end hAt.out
        subst hS
        clear hAt
        have R1 := R1.next hnx
        have bl := bstep bl hnx
        clear hnx
        go_wp2_with fail
        refine (nats_any 12 _ g1 b1 0 c1 n us ns (unhide HN) (by omega) R1).mono ?_
        rintro e w4 ⟨g4, b4, c4, us4, rfl, hl4, R4, bb⟩
        have nS := nS.next bb
        have bl := bstep bl bb
        have h4n : us4.length = n := by rw [← R4.len, R1.len, unhide HN]
        rw [h4n]
        have H4N := hide h4n
        clear bb h4n hl4 R1
        go_wp2_with fail
        refine (unhide CJ _ g4 b4 0 c4 n us4 ns (unhide H4N) (by omega) (unhide HJ16) (R4.parts (by omega))).mono ?_
        rintro e w5 ⟨v5, rfl, n5, bb⟩
        rw [← unhide HJE] at n5
        have nS := nS.next bb
        have bl := bstep bl bb
        clear bb R4
        go_wp2_with fail
        refine (same_new _ _ _ _ _ (P + 1) (by omega) (unhide HJB) nS n5).mono ?_
        rintro e w6 ⟨rfl, bb⟩
        have bl := bstep bl bb
        clear bb nS n5
        go_wp2_with fail
        refine (wakes_any _).mono ?_
        rintro e w7 ⟨rfl, bb⟩
        have bl := bstep bl bb
        go_wp2
        go_ret
        exact ⟨rfl, bl⟩
      · obtain ⟨j, rfl⟩ : ∃ j, q = j + 1 := ⟨q - 1, by omega⟩
        have ej : ((j + 1 : Nat) : Int) - 1 = (j : Int) := by omega
        rw [ej]
        obtain rfl := R1.head (by rw [unhide HN]; omega)
        have hb1 : b1 < w2.heap.size := R1.lt (by rw [unhide HN]; omega)
        have cv0 := R1.cell j (by rw [unhide HN]; omega)
        obtain ⟨ga, b, o, cap, xs, hve, hR, hd, hv, hl⟩ := R1.each j (by rw [unhide HN]; omega)
        have hxK := (R1.each j (by rw [unhide HN]; omega)).lt
        rw [hve, Nat.zero_add] at cv0
        obtain ⟨x, hx⟩ : ∃ x, x = wval xs := ⟨_, rfl⟩
        have H2 := hide (horner_step hAt.out (hx.trans hv))
        have HS2 := hide (horner_le (unhide H2))
        rw [unhide HE2, ← unhide HJE] at HS2
        rw [unhide HE2] at H2
        have HS1 := hide (horner_le hAt.out)
        rw [← unhide HJE] at HS1
        have CF := hide (fun W (r : Rep W ga b o cap xs) => from_law W ga b o cap xs.length x xs rfl (by omega) r hd hx)
        have HXb : Hid (x < 4294967296 ^ L) := unhide h12 x (by rw [hx, hv]; exact hxK)
        have CShl := hide (fun W v => shl_any W v S t L hLb (Nat.lt_of_le_of_lt (unhide HS1) (unhide HJ2)) (by omega))
        have CAdd := hide (fun W u v => add_any W u v (S * 2 ^ t) x L hLb (Nat.lt_of_le_of_lt (Nat.le_trans (Nat.le_add_right _ x) (unhide HS2)) (unhide HJ2)) (unhide HXb))
        have rX := hR.next hnx
        have cv := (hnx.cell (p := ⟨b1, j, none⟩) hb1).trans cv0
        have CV0 := hide cv0
        generalize xs.length = lx at *
        generalize S * 2 ^ t = U at *
        clear hve hv hx hxK hd hR cv0 hAt HS1 HS2
        go_wp2
        go_region_with (first
          | (go_at_call 9; refine (unhide CCo _).mono ?_; rintro e wC ⟨rfl, rfl⟩)
          | (go_at_call 22; refine (unhide CShl _ _ ?_).mono ?_; (first | (with_reducible exact nS) | exact nS.drew); rintro e wM ⟨vM, rfl, nM, bM⟩; (try have nF := nF.next bM); (try have rX := (by first | (with_reducible exact rX.next bM) | exact rX.drew.next bM : Rep wM ga b o cap xs)); have hnx := (by first | (with_reducible exact hnx.trans (bM.mono hnx.size)) | exact hnx.drew.trans (bM.mono hnx.size) : Below w2.heap.size w2 wM); have cv := (hnx.cell (p := ⟨b1, j, none⟩) hb1).trans (unhide CV0))
          | (go_at_call 12; refine (unhide CF _ ?_).mono ?_; (first | (with_reducible exact rX) | exact rX.drew); rintro e wF ⟨vF, rfl, nF, bF⟩; (try have nM := nM.next bF); (try have nS := (by first | (with_reducible exact nS.next bF) | exact nS.drew.next bF : IsN wF _ S)); have hnx := (by first | (with_reducible exact hnx.trans (bF.mono hnx.size)) | exact hnx.drew.trans (bF.mono hnx.size) : Below w2.heap.size w2 wF))
          | (go_at_call 21; refine (unhide CAdd _ vM vF nM nF).mono ?_; rintro e wD ⟨vD, rfl, nD, bD⟩; have hnx := (by exact hnx.trans (bD.mono hnx.size) : Below w2.heap.size w2 wD)))
        all_goals
          go_wp2
          exact ⟨⟨j, U + x, by omega, by go_num, nD, H2, hnx⟩, by simp [intOf]⟩
  · clear CWi
    go_enter Try.func4, Try.ntmps4
    go_wp2_with fail
    refine (unhide CC).mono ?_
    rintro e w1 ⟨ns, g1, b1, c1, us, rfl, hl1, R1, bl⟩
    clear CC
    obtain ⟨n, hn⟩ : ∃ n, n = us.length := ⟨_, rfl⟩
    rw [← hn] at hl1 ⊢
    have HN := hide hn.symm
    clear hn
    have htop := jsum_top (K := 12) (c := c) (P := P) (ns := ns) (n := n) (fun j hj => (R1.each j (by rw [unhide HN]; omega)).lt) (fun j hj => by
      have h1 : c * j ≤ 40 * 8 := Nat.mul_le_mul (unhide HC) (by omega)
      omega) n (Nat.le_refl _)
    obtain ⟨J, hJ⟩ : ∃ J, J = jsum c ns n := ⟨_, rfl⟩
    have hJb : J < 18446744073709551616 ^ (P + 1) := by
      rw [hJ, Nat.pow_succ]
      have h2 : n * 18446744073709551616 ^ P ≤ 8 * 18446744073709551616 ^ P := Nat.mul_le_mul_right _ hl1
      have h3 := wpow_pos P
      generalize 18446744073709551616 ^ P = p at *
      omega
    have HJB := hide hJb
    have hJ2 : J < 4294967296 ^ (2 * (P + 1)) := by rw [← wpow]; exact hJb
    have HJ2 := hide hJ2
    have HJE := hide hJ
    clear htop hJ hJb hJ2
    obtain ⟨L, hL⟩ : ∃ L, L = 2 * (P + 1) := ⟨_, rfl⟩
    rw [← hL] at HJ2
    have hLb : L ≤ 1073741824 := by omega
    have h12 : Hid (∀ x, x < 18446744073709551616 ^ 12 → x < 4294967296 ^ L) := fun x hx => by
      rw [hL, ← wpow]; exact pow_up hx (by omega)
    clear hL
    go_wp2
    go_loopw [5, 6] (fun sv iv wr => ∃ (q S : Nat), q ≤ n ∧ iv = .int .i64 ((q : Int) - 1) ∧ IsN wr sv S ∧ Hid (HornerAt c ns n q S) ∧ Below w1.heap.size w1 wr) (fun _ iv _ => (intOf iv + 1).toNat)
    case atStart => exact ⟨n, 0, Nat.le_refl _, rfl, isN_none _, horner_start c ns n, Below.refl _ _⟩
    case round =>
      obtain ⟨q, S, hq, rfl, nS, hAt, hnx⟩ := hrel
      by_cases h0 : q = 0
      · subst h0
        have hS : S = J := by rw [unhide HJE]; exact horner_end hAt.out
        subst hS
        clear hAt
        have R1 := R1.next hnx
        have bl := bstep bl hnx
        clear hnx
        go_wp2_with fail
        refine (nats_any 12 _ g1 b1 0 c1 n us ns (unhide HN) (by omega) R1).mono ?_
        rintro e w4 ⟨g4, b4, c4, us4, rfl, hl4, R4, bb⟩
        have nS := nS.next bb
        have bl := bstep bl bb
        have h4n : us4.length = n := by rw [← R4.len, R1.len, unhide HN]
        rw [h4n]
        have H4N := hide h4n
        clear bb h4n hl4 R1
        go_wp2_with fail
        refine (unhide CJ _ g4 b4 0 c4 n us4 ns (unhide H4N) (by omega) (unhide HJ16) (R4.parts (by omega))).mono ?_
        rintro e w5 ⟨v5, rfl, n5, bb⟩
        rw [← unhide HJE] at n5
        have nS := nS.next bb
        have bl := bstep bl bb
        clear bb R4
        go_wp2_with fail
        refine (same_new _ _ _ _ _ (P + 1) (by omega) (unhide HJB) nS n5).mono ?_
        rintro e w6 ⟨rfl, bb⟩
        have bl := bstep bl bb
        clear bb nS n5
        go_wp2_with fail
        refine (wakes_any _).mono ?_
        rintro e w7 ⟨rfl, bb⟩
        have bl := bstep bl bb
        go_wp2
        go_ret
        exact ⟨rfl, bl⟩
      · obtain ⟨j, rfl⟩ : ∃ j, q = j + 1 := ⟨q - 1, by omega⟩
        have ej : ((j + 1 : Nat) : Int) - 1 = (j : Int) := by omega
        rw [ej]
        obtain rfl := R1.head (by rw [unhide HN]; omega)
        have hb1 : b1 < w1.heap.size := R1.lt (by rw [unhide HN]; omega)
        have cv0 := R1.cell j (by rw [unhide HN]; omega)
        obtain ⟨ga, b, o, cap, xs, hve, hR, hd, hv, hl⟩ := R1.each j (by rw [unhide HN]; omega)
        have hxK := (R1.each j (by rw [unhide HN]; omega)).lt
        rw [hve, Nat.zero_add] at cv0
        obtain ⟨x, hx⟩ : ∃ x, x = wval xs := ⟨_, rfl⟩
        have H2 := hide (horner_step hAt.out (hx.trans hv))
        have HS2 := hide (horner_le (unhide H2))
        rw [unhide HE2, ← unhide HJE] at HS2
        rw [unhide HE2] at H2
        have HS1 := hide (horner_le hAt.out)
        rw [← unhide HJE] at HS1
        have CF := hide (fun W (r : Rep W ga b o cap xs) => from_law W ga b o cap xs.length x xs rfl (by omega) r hd hx)
        have HXb : Hid (x < 4294967296 ^ L) := unhide h12 x (by rw [hx, hv]; exact hxK)
        have CShl := hide (fun W v => shl_any W v S t L hLb (Nat.lt_of_le_of_lt (unhide HS1) (unhide HJ2)) (by omega))
        have CAdd := hide (fun W u v => add_any W u v (S * 2 ^ t) x L hLb (Nat.lt_of_le_of_lt (Nat.le_trans (Nat.le_add_right _ x) (unhide HS2)) (unhide HJ2)) (unhide HXb))
        have rX := hR.next hnx
        have cv := (hnx.cell (p := ⟨b1, j, none⟩) hb1).trans cv0
        have CV0 := hide cv0
        generalize xs.length = lx at *
        generalize S * 2 ^ t = U at *
        clear hve hv hx hxK hd hR cv0 hAt HS1 HS2
        go_wp2
        go_region_with (first
          | (go_at_call 9; refine (unhide CCo _).mono ?_; rintro e wC ⟨rfl, rfl⟩)
          | (go_at_call 22; refine (unhide CShl _ _ ?_).mono ?_; (first | (with_reducible exact nS) | exact nS.drew); rintro e wM ⟨vM, rfl, nM, bM⟩; (try have nF := nF.next bM); (try have rX := (by first | (with_reducible exact rX.next bM) | exact rX.drew.next bM : Rep wM ga b o cap xs)); have hnx := (by first | (with_reducible exact hnx.trans (bM.mono hnx.size)) | exact hnx.drew.trans (bM.mono hnx.size) : Below w1.heap.size w1 wM); have cv := (hnx.cell (p := ⟨b1, j, none⟩) hb1).trans (unhide CV0))
          | (go_at_call 12; refine (unhide CF _ ?_).mono ?_; (first | (with_reducible exact rX) | exact rX.drew); rintro e wF ⟨vF, rfl, nF, bF⟩; (try have nM := nM.next bF); (try have nS := (by first | (with_reducible exact nS.next bF) | exact nS.drew.next bF : IsN wF _ S)); have hnx := (by first | (with_reducible exact hnx.trans (bF.mono hnx.size)) | exact hnx.drew.trans (bF.mono hnx.size) : Below w1.heap.size w1 wF))
          | (go_at_call 21; refine (unhide CAdd _ vM vF nM nF).mono ?_; rintro e wD ⟨vD, rfl, nD, bD⟩; have hnx := (by exact hnx.trans (bD.mono hnx.size) : Below w1.heap.size w1 wD)))
        all_goals
          go_wp2
          exact ⟨⟨j, U + x, by omega, by go_num, nD, H2, hnx⟩, by simp [intOf]⟩

end Go.Proofs.Ytmfpgpkheaofeab
