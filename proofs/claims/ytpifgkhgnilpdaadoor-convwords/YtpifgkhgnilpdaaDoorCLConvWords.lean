/- ConvWords: what the law's walk comes to, once the code's Words is what the document asks. -/
import Derived.Test.YtpifgkhgnilpdaaDoorM16
import Derived.Test.YtpifgkhgnilpdaaDoorM6
namespace Go.Proofs.YtpifgkhgnilpdaaDoor
open Go.RowKit

set_option maxRecDepth 100000 in
set_option maxHeartbeats 6400000 in
theorem convWords_any (SM : SpecWords) (SN : SpecWordsNo) (SW : SpecWakes) (ga : Option Addr) (ba oa ca la : Nat) (xs : List Nat) (gb : Option Addr) (bb ob cb lb : Nat) (ys : List Nat) (w : World) (hx : xs.length = la) (hA : Rep w ga ba oa ca xs) (wx : ∀ j, xs.getD j 0 < 18446744073709551616) (hy : ys.length = lb) (hB : Rep w gb bb ob cb ys) (wy : ∀ j, ys.getD j 0 < 18446744073709551616) (hT : TB w) :
    Calls Tryd.prog 3 #[.slice ga la ca, .slice gb lb cb] w fun e w' => e = .returned (.bool true) ∧ Below w.heap.size w w' := by
  obtain ⟨n, hca⟩ : ∃ k, k = min la 24 := ⟨_, rfl⟩
  have Ca : Hid (∀ w, Calls Tryd.prog 7 #[.slice ga la ca, .int .i64 24] w fun e w' => e = .returned (.slice ga n ca) ∧ w' = w) := fun w => cut_any w ga la ca 24 n (by have := hA.room; omega) (by omega) hca
  obtain ⟨hla, rA⟩ := cut_rep hA 24 n (by rw [hx]; exact hca)
  have dx : WDig (xs.take n) := take_words wx n
  have hma : n ≤ 24 := by omega
  obtain ⟨m, hcb⟩ : ∃ k, k = min lb 24 := ⟨_, rfl⟩
  have Cb : Hid (∀ w, Calls Tryd.prog 7 #[.slice gb lb cb, .int .i64 24] w fun e w' => e = .returned (.slice gb m cb) ∧ w' = w) := fun w => cut_any w gb lb cb 24 m (by have := hB.room; omega) (by omega) hcb
  obtain ⟨hlb, rB⟩ := cut_rep hB 24 m (by rw [hy]; exact hcb)
  have dy : WDig (ys.take m) := take_words wy m
  have hmb : m ≤ 24 := by omega
  clear hca hA wx hx hcb hB wy hy
  generalize xs.take n = us at *
  generalize ys.take m = vs at *
  have HXL := hide hla
  have HYL := hide hlb
  have La : Hid (0 < us.length → ba < w.heap.size) := fun h => rA.lt h
  have Lb : Hid (0 < vs.length → bb < w.heap.size) := fun h => rB.lt h
  have CW := hide SW
  have CM := hide SM
  have CN := hide SN
  have HTB := hide (fun w' (b : Below w.heap.size w w') => hT.next b)
  clear hla hlb SM SN SW hT
  obtain ⟨F, hF⟩ : ∃ F, F = 6148914691236517205 := ⟨_, rfl⟩
  have HF := hide hF
  clear hF
  have ow := own_new w 26
  obtain ⟨W1, hW1⟩ : ∃ W1, w.alloc (.cells #[.int .i64 0, .int .i64 0, .int .i64 0] 26) = W1 := ⟨_, rfl⟩
  obtain ⟨G, hG⟩ : ∃ G, w.heap.size = G := ⟨_, rfl⟩
  rw [hW1] at ow
  rw [hG] at ow La Lb
  have HG := hide hG
  have rA1 := hide (rA.next ow.old)
  have rB1 := hide (rB.next ow.old)
  have O1 := hide ow
  clear rA rB ow
  go_enter Tryd.func3, Tryd.ntmps3
  go_wp2_with fail
  refine (unhide Ca _).mono ?_
  rintro e wca ⟨rfl, hw⟩
  obtain rfl := hw.symm
  clear Ca hw
  go_wp2_with fail
  refine (unhide Cb _).mono ?_
  rintro e wcb ⟨rfl, hw⟩
  obtain rfl := hw.symm
  clear Cb hw
  go_wp2_with fail
  refine (lend_any W1 ga ba oa ca n us (unhide HXL) (by omega) (unhide rA1) F (unhide HF)).mono ?_
  rintro e w2 ⟨rfl, o2, b⟩
  obtain ⟨r2, t2⟩ := lent_rep o2 (unhide HXL)
  have O2 := (unhide O1).next b
  have rA := (unhide rA1).next b
  have rB := (unhide rB1).next b
  have s2 := t2.lt (by simp)
  have gl := (unhide O1).met.lt
  clear o2 b O1 rA1 rB1 hW1 hG
  go_wp2_with fail
  refine (lend_any w2 gb bb ob cb m vs (unhide HYL) (by omega) rB F (unhide HF)).mono ?_
  rintro e w3 ⟨rfl, o3, b⟩
  obtain ⟨r3, t3⟩ := lent_rep o3 (unhide HYL)
  have O3 := O2.next b
  have rA := rA.next b
  have rB := rB.next b
  have r2 := r2.next b
  have t2 := t2.next b
  have s3 := t3.lt (by simp)
  clear o3 b O2
  by_cases hno : n = 0 ∨ m = 0
  · have CN := hide (unhide CN w3 G 0 (some ⟨W1.heap.size, 0, none⟩) (some ⟨w2.heap.size, 0, none⟩) (n + 4) n (m + 4) m (by omega) (by omega) hno)
    go_wp2_with fail
    refine (unhide CN).mono ?_
    rintro e w4 ⟨rfl, hw⟩
    obtain rfl := hw.symm
    clear hw CN
    by_cases c1 : n = 0
    · have q1 : ((n : Int) == 0) = true := by rw [beq_iff_eq]; omega
      clear hno c1
      go_wp2_with fail
      refine (unhide CW _).mono ?_
      rintro e w5 ⟨rfl, b5⟩
      have b := bstep O3.old b5
      go_wp2
      go_ret
      exact ⟨rfl, b⟩
    · have q1 : ((n : Int) == 0) = false := by rw [beq_eq_false_iff_ne]; omega
      have q2 : ((m : Int) == 0) = true := by rw [beq_iff_eq]; omega
      clear hno c1
      go_wp2_with fail
      refine (unhide CW _).mono ?_
      rintro e w5 ⟨rfl, b5⟩
      have b := bstep O3.old b5
      go_wp2
      go_ret
      exact ⟨rfl, b⟩
  · have q1 : ((n : Int) == 0) = false := by rw [beq_eq_false_iff_ne]; omega
    have q2 : ((m : Int) == 0) = false := by rw [beq_eq_false_iff_ne]; omega
    obtain ⟨q, hq⟩ : ∃ q, q = n + m - 1 := ⟨_, rfl⟩
    obtain ⟨t, ht⟩ : ∃ t, t = n + m := ⟨_, rfl⟩
    have CM := hide (unhide CM w3 G 0 0 0 0 _ _ W1.heap.size 0 (n + 4) n w2.heap.size 0 (m + 4) m q us vs (unhide HTB _ O3.old) O3.met (by omega) (by omega) (unhide HXL) r2 dx (by omega) (unhide HYL) r3 dy (by omega) (by omega) (by omega) (by omega) (by omega) (by omega))
    have CT := hide (fun w => tf_way n m 3 w (by omega) (by omega) (by omega) (by omega) (by omega))
    rw [Int.zero_add] at CM
    have et : (n : Int) + (m : Int) = (t : Int) := by omega
    have wt : IntKind.i64.wrap (t : Int) = (t : Int) := by rw [IntKind.wrap_i64]; omega
    have eq' : (t : Int) - 1 = (q : Int) := by omega
    have wq : IntKind.i64.wrap (q : Int) = (q : Int) := by rw [IntKind.wrap_i64]; omega
    have q0 : ((q : Int) != (q : Int)) = false := by simp
    have hqb : q ≤ 60 := by omega
    have La := unhide La (by rw [unhide HXL]; omega)
    have Lb := unhide Lb (by rw [unhide HYL]; omega)
    generalize tf n m 3 = C at *
    have HPS := hide (fun k i (h : i ≤ 60) => ps_lt dx dy k h)
    have HPE : Hid (∀ k, ps us vs k n = cs us vs k) := fun k => by rw [← unhide HXL]; exact ps_end us vs k
    have HP1 : Hid (∀ k i, ps us vs k (i + 1) = ps us vs k i + if i ≤ k ∧ k - i < m then us.getD i 0 * vs.getD (k - i) 0 else 0) := fun k i => by
      show ps us vs k (i + 1) = _
      rw [← unhide HYL]
      rfl
    have HP0 : Hid (∀ k, ps us vs k 0 = 0) := fun _ => rfl
    have dX := hide dx
    have dY := hide dy
    have pn : 1 ≤ n := by omega
    have pm : 1 ≤ m := by omega
    clear hno r2 r3 CN hq ht dx dy
    go_wp2_with fail
    refine (unhide CM).mono ?_
    rintro e w4 ⟨g, C', rfl, hg, hqC, hTr, M4, T4⟩
    have O4 := O3.step M4 T4
    have rA := rA.but T4.grown (fun _ => by omega)
    have rB := rB.but T4.grown (fun _ => by omega)
    have t2 := t2.but T4.grown (fun _ => by omega)
    have t3 := t3.but T4.grown (fun _ => by omega)
    clear CM O3 M4 T4
    go_wp2_with fail
    refine (muls_any O4.met).mono ?_
    rintro e w5 ⟨rfl, hw⟩
    obtain rfl := hw.symm
    clear hw
    have q3 : ((C : Int) != (C : Int)) = false := by simp
    go_wp2_with fail
    refine (unhide CT _).mono ?_
    rintro e w5 ⟨rfl, hw⟩
    obtain rfl := hw.symm
    clear hw CT
    have RA := hide rA
    have RB := hide rB
    have T2 := hide t2
    have T3 := hide t3
    have TR := hide hTr
    have O4 := hide O4
    have hbA : ba < w4.heap.size := rA.lt (by rw [unhide HXL]; omega)
    have hbB : bb < w4.heap.size := rB.lt (by rw [unhide HYL]; omega)
    have hhA := rA.head (by rw [unhide HXL]; omega)
    have hhB := rB.head (by rw [unhide HYL]; omega)
    have hcA := rA.room
    have hcB := rB.room
    rw [unhide HXL] at hcA
    rw [unhide HYL] at hcB
    subst hhA hhB
    clear rA rB t2 t3 hTr et eq' wt wq q0
    go_wp2
    go_loopw [10] (fun kv wr => ∃ k : Nat, k ≤ q ∧ kv = .int .i64 (k : Int) ∧ Below w4.heap.size w4 wr) (fun kv _ => q - (intOf kv).toNat)
    case atStart => exact ⟨0, Nat.zero_le _, rfl, Below.refl _ _⟩
    case round =>
      obtain ⟨k, hk, rfl, hb⟩ := hrel
      by_cases h1 : k < q
      · have hk1 : (k : Int) < (q : Int) := by omega
        have hmm1 : Hid (q - (k + 1) < q - k) := by show _ < _; omega
        have hbk := hide hb
        clear hb
        go_wp2
        go_loopw [11, 12] (fun sv iv wr => ∃ (i S : Nat), i ≤ n ∧ iv = .int .i64 (i : Int) ∧ Hid (S = ps us vs k i) ∧ IsN wr sv S ∧ Below w4.heap.size w4 wr) (fun _ iv _ => n - (intOf iv).toNat)
        case atStart => exact ⟨0, 0, Nat.zero_le _, rfl, (unhide HP0 k).symm, ⟨none, 0, 0, 0, [], rfl, Rep.nil _ _ _ _ _, can_nil, rfl⟩, unhide hbk⟩
        case round =>
          clear hbk
          obtain ⟨i, S, hi, rfl, hS, hN, hb⟩ := hrel
          by_cases h2 : i < n
          · have hi1 : (i : Int) < (n : Int) := by omega
            have hmm : Hid (n - (i + 1) < n - i) := by show _ < _; omega
            have hstep := unhide HP1 k i
            rw [← hS.out] at hstep
            by_cases hin : i ≤ k ∧ k - i < m
            · obtain ⟨j, hj⟩ : ∃ j, j = k - i := ⟨_, rfl⟩
              rw [if_pos hin, ← hj] at hstep
              have ej : (k : Int) - (i : Int) = (j : Int) := by omega
              have hjm : (j : Int) < (m : Int) := by omega
              have hj0 : 0 ≤ (j : Int) := by omega
              obtain ⟨x, hx⟩ : ∃ x, x = us.getD i 0 := ⟨_, rfl⟩
              obtain ⟨y, hy⟩ : ∃ y, y = vs.getD j 0 := ⟨_, rfl⟩
              have hx64 : x < 18446744073709551616 := by rw [hx]; exact unhide dX i
              have hy64 : y < 18446744073709551616 := by rw [hy]; exact unhide dY j
              have CX : Hid (w4.cell? ⟨ba, oa + i, none⟩ = some (.int .u64 (x : Int))) := by rw [hx]; exact (unhide RA).cell i (by rw [unhide HXL]; omega)
              have CY : Hid (w4.cell? ⟨bb, ob + j, none⟩ = some (.int .u64 (y : Int))) := by rw [hy]; exact (unhide RB).cell j (by rw [unhide HYL]; omega)
              rw [← hx, ← hy] at hstep
              have HST := hide hstep
              have HXY := hide (word_sq_lt hx64 hy64)
              have HSL : Hid (S < 4294967296 ^ 6) := by rw [hS.out]; exact unhide HPS k i (by omega)
              have cx : wr.cell? ⟨ba, oa + i, none⟩ = some (.int .u64 (x : Int)) := (hb.cell (p := ⟨ba, oa + i, none⟩) hbA).trans (unhide CX)
              have cy : wr.cell? ⟨bb, ob + j, none⟩ = some (.int .u64 (y : Int)) := (hb.cell (p := ⟨bb, ob + j, none⟩) hbB).trans (unhide CY)
              have bl : Below w4.heap.size w4 wr.drew := hb.drew
              have nd := hN.drew
              have bx : (x : Int) < 18446744073709551616 := by omega
              have by' : (y : Int) < 18446744073709551616 := by omega
              have BX := hide hx64
              have BY := hide hy64
              clear hj hx hy hstep hS hN hb hin hx64 hy64 bx by'
              go_wp2
              go_region_with (first
                | (go_at_call_of 15 (x : Int); refine (small_any (x : Int) (by omega) (by have := unhide BX; omega) _).mono ?_; rintro e wA ⟨vA, rfl, nA, bA⟩; rw [Int.toNat_natCast] at nA; have bl := bl.trans (bA.mono bl.size); have cy := (bl.cell (p := ⟨bb, ob + j, none⟩) hbB).trans (unhide CY); have nd := nd.next bA; try have nB := nB.next bA)
                | (go_at_call_of 15 (y : Int); refine (small_any (y : Int) (by omega) (by have := unhide BY; omega) _).mono ?_; rintro e wB ⟨vB, rfl, nB, bB⟩; rw [Int.toNat_natCast] at nB; have bl := bl.trans (bB.mono bl.size); have cx := (bl.cell (p := ⟨ba, oa + i, none⟩) hbA).trans (unhide CX); have nd := nd.next bB; try have nA := nA.next bB)
                | (go_at_call 14; refine (mul_any _ vA vB x y 2 (by omega) (by have := unhide BX; omega) (by have := unhide BY; omega) nA nB).mono ?_; rintro e wM ⟨vM, rfl, nM, bM⟩; have bl := bl.trans (bM.mono bl.size); have nd := nd.next bM)
                | (go_at_call 13; refine (add_any _ _ vM S (x * y) 6 (by omega) (unhide HSL) (unhide HXY) nd nM).mono ?_; rintro e wD ⟨vD, rfl, nD, bD⟩; have bl := bl.trans (bD.mono bl.size)))
              all_goals
                focus
                  go_wp2
                  go_roundw
                  case rel => exact ⟨i + 1, _, by omega, by go_num, (unhide HST).symm, nD, bl⟩
                  case measure => simp [intOf]; have := unhide hmm; omega
            · rw [if_neg hin, Nat.add_zero] at hstep
              have HST := hide hstep
              obtain ⟨z, hz⟩ : ∃ z : Int, z = (k : Int) - (i : Int) := ⟨_, rfl⟩
              have ez : (k : Int) - (i : Int) = z := hz.symm
              have wz : IntKind.i64.wrap z = z := by rw [IntKind.wrap_i64]; omega
              by_cases hz0 : z < 0
              · have z1 : ¬ 0 ≤ z := by omega
                clear hstep hS hin hz
                go_wp2
                go_roundw
                case rel => exact ⟨i + 1, S, by omega, by go_num, (unhide HST).symm, hN, hb⟩
                case measure => simp [intOf]; have := unhide hmm; omega
              · have z1 : 0 ≤ z := by omega
                have z2 : ¬ z < (m : Int) := by omega
                clear hstep hS hin hz hz0
                go_wp2
                go_roundw
                case rel => exact ⟨i + 1, S, by omega, by go_num, (unhide HST).symm, hN, hb⟩
                case measure => simp [intOf]; have := unhide hmm; omega
          · obtain rfl : i = n := by omega
            have hT := unhide TR k h1
            rw [← unhide HPE k, ← hS.out] at hT
            obtain ⟨t0, t1, t2, a0, a1, a2, e3, c0, c1, c2⟩ := hT
            have HSL : Hid (S < 4294967296 ^ 6) := by rw [hS.out]; exact unhide HPS k i (by omega)
            have HV : Hid (v3 t0 t1 t2 = S) := e3
            have B0 := hide a0
            have B1 := hide a1
            have B2 := hide a2
            have hgl := World.block_lt_of_cell? _ _ c0
            have d0 : wr.cell? ⟨g, k * 3, none⟩ = some (.int .u64 (t0 : Int)) := (hb.cell (p := ⟨g, k * 3, none⟩) hgl).trans c0
            have d1 : wr.cell? ⟨g, k * 3 + 1, none⟩ = some (.int .u64 (t1 : Int)) := (hb.cell (p := ⟨g, k * 3 + 1, none⟩) hgl).trans c1
            have d2 : wr.cell? ⟨g, k * 3 + 2, none⟩ = some (.int .u64 (t2 : Int)) := (hb.cell (p := ⟨g, k * 3 + 2, none⟩) hgl).trans c2
            have HCM : Hid (∀ W u v, IsN W u S → IsN W v S → Calls Tryd.prog 16 #[u, v] W fun e w' => e = .returned (.int .i64 0) ∧ Below W.heap.size W w') := fun W u v hu hv => by
              have := cmp_any W u v S S 6 (by omega) (unhide HSL) (unhide HSL) hu hv
              rw [cmpN_eq rfl] at this
              exact this
            have CT3 := hide (fun w => lawThree_any t0 t1 t2 w (unhide B0) (unhide B1) (unhide B2))
            rw [unhide HV] at CT3
            clear hS e3 a0 a1 a2 c0 c1 c2
            go_wp2_with fail
            refine (unhide CT3 _).mono ?_
            rintro e wB ⟨vB, rfl, nB, bB⟩
            have hb := hb.trans (bB.mono hb.size)
            have hN := hN.next bB
            clear bB d0 d1 d2
            go_wp2_with fail
            refine (unhide HCM _ _ _ hN nB).mono ?_
            rintro e wD ⟨rfl, bD⟩
            have hb := hb.trans (bD.mono hb.size)
            clear bD hN nB
            go_wp2
            go_roundw
            case rel => exact ⟨k + 1, by omega, by go_num, hb⟩
            case measure => simp [intOf]; have := unhide hmm1; omega
      · obtain rfl : k = q := by omega
        have rA := (unhide RA).next hb
        have rB := (unhide RB).next hb
        have t2 := (unhide T2).next hb
        have t3 := (unhide T3).next hb
        have bl := bstep (unhide O4).old hb
        clear hb
        go_wp2_with fail
        refine (intact_any _ _ W1.heap.size ba oa ca n us (unhide HXL) (by omega) rA F (unhide HF) t2).mono ?_
        rintro e w10 ⟨rfl, b⟩
        have rB := rB.next b
        have t3 := t3.next b
        have bl := bstep bl b
        clear b
        go_wp2_with fail
        refine (intact_any _ _ w2.heap.size bb ob cb m vs (unhide HYL) (by omega) rB F (unhide HF) t3).mono ?_
        rintro e w11 ⟨rfl, b⟩
        have bl := bstep bl b
        clear b
        go_wp2_with fail
        refine (unhide CW _).mono ?_
        rintro e w12 ⟨rfl, b⟩
        have bl := bstep bl b
        clear b
        go_wp2
        go_ret
        exact ⟨rfl, bl⟩

end Go.Proofs.YtpifgkhgnilpdaaDoor
