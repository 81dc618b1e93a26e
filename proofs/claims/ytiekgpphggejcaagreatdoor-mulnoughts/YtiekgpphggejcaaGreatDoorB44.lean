/- Package conv: Words as the statements ask it, and Mul. -/
import Derived.Test.YtiekgpphggejcaaGreatDoorB43
import Derived.Test.YtiekgpphggejcaaGreatDoorB32
namespace Go.Proofs.YtiekgpphggejcaaGreatDoor
open Go.RowKit

set_option maxHeartbeats 1600000 in
theorem words_no (w : World) (go oo : Nat) (ga gb : Option Addr) (cap la cap' lb : Nat) (h : la = 0 ∨ lb = 0) :
    Calls Tryz.prog 91 #[.pointer (some ⟨go, oo, none⟩), .slice ga la cap, .slice gb lb cap'] w fun e w' => e = .returned (.tuple #[.slice none 0 0, .bool false]) ∧ w' = w := by
  have CF := hide (fun w => fit_no la lb w h)
  clear h
  go_enter Tryz.func91, Tryz.ntmps91
  go_wp2_with fail
  refine (unhide CF _).mono ?_
  rintro e w1 ⟨rfl, hw⟩
  obtain rfl := hw.symm
  clear hw CF
  go_wp2
  go_ret2
  exact ⟨rfl, rfl⟩

theorem spec_words : SpecWords := by
  intro w go oo s l m ga gb b o cap la b' o' cap' lb q xs ys hT hM h0 h1 hl hR dx _ hl' hR' dy _ ha ha2 hb hb2 hq
  refine (words_any w go oo s l m ga gb b o cap la b' o' cap' lb q xs ys hT hM h0 (by omega) hl hR dx hl' hR' dy ha (by omega) hb (by omega) hq).mono ?_
  rintro e w' ⟨g, rfl, hg, hTri, M, T⟩
  exact ⟨g, q, rfl, hg, Nat.le_refl _, hTri, M, T⟩
theorem spec_words_no : SpecWordsNo := fun w go oo ga gb cap la cap' lb _ _ h => words_no w go oo ga gb cap la cap' lb h

set_option maxRecDepth 100000 in
set_option maxHeartbeats 1600000 in
theorem convMul_any (w : World) (go oo : Nat) (s l m : Int) (ga gb : Option Addr) (b o cap la b' o' cap' lb : Nat) (xs ys : List Nat) (hT : TB w) (hM : Met w go oo s l m) (hs0 : 0 ≤ s) (hs : s ≤ 2305843009213693952) (hl : xs.length = la) (hR : Rep w ga b o cap xs) (dx : WDig xs) (hl' : ys.length = lb) (hR' : Rep w gb b' o' cap' ys) (dy : WDig ys) (ha : 1 ≤ la) (ha2 : la ≤ 16384) (hb : 1 ≤ lb) (hb2 : lb ≤ 16384) :
    Calls Tryz.prog 64 #[.pointer (some ⟨go, oo, none⟩), .slice ga la cap, .slice gb lb cap'] w fun e w' => ∃ v, e = .returned (.tuple #[v, .bool true]) ∧ NewW w.heap.size w' v (wval xs * wval ys) ∧ Met w' go oo (s + (tf la lb 3 : Int)) l m ∧ Touch go oo 3 w w' := by
  obtain ⟨q, hq⟩ : ∃ q, q + 1 = la + lb := ⟨la + lb - 1, by omega⟩
  have CW := hide (words_any w go oo s l m ga gb b o cap la b' o' cap' lb q xs ys hT hM hs0 hs hl hR dx hl' hR' dy ha ha2 hb hb2 hq)
  have HE := hide (cs_value (xs := xs) (ys := ys) (n := q) (by omega))
  have CC := hide (fun w g (h : TriAt w g q (cs xs ys)) => carry_any w (some ⟨g, 0, none⟩) g q q (cs xs ys) (by omega) (fun _ => rfl) (by omega) (Nat.le_refl _) h)
  rw [unhide HE] at CC
  have HG := hide hM.lt
  clear hT hM hR hR' HE hl hl' ha hb ha2 hb2 hq dx dy
  generalize wval xs * wval ys = V at *
  generalize cs xs ys = T at *
  generalize tf la lb 3 = C at *
  go_enter Tryz.func64, Tryz.ntmps64
  go_wp2_with fail
  refine (unhide CW).mono ?_
  rintro e w1 ⟨g, rfl, hg, hTri, M1, T1⟩
  have CC := hide (unhide CC _ _ hTri)
  have HM := hide M1
  have HT := hide T1
  clear CW hTri hg M1 T1
  go_wp2_with fail
  refine (unhide CC).mono ?_
  rintro e w2 ⟨r, rfl, nr, b2⟩
  have M2 := (unhide HM).next b2
  have T2 := (unhide HT).then b2 (unhide HM).lt
  have nr := nr.mono (unhide HT).grown.size
  clear CC b2
  go_wp2
  go_ret2
  exact ⟨r, rfl, nr, M2, T2⟩
set_option maxHeartbeats 1600000 in
theorem spec_mul_no : SpecMulNo := by
  intro w go oo ga gb cap la cap' lb _ _ h
  have CW := hide (words_no w go oo ga gb cap la cap' lb h)
  clear h
  go_enter Tryz.func64, Tryz.ntmps64
  go_wp2_with fail
  refine (unhide CW).mono ?_
  rintro e w1 ⟨rfl, hw⟩
  obtain rfl := hw.symm
  clear hw CW
  go_wp2
  go_ret2
  exact ⟨rfl, rfl⟩
theorem spec_mul : SpecMul := by
  intro w go oo s l m ga gb b o cap la b' o' cap' lb xs ys hT hM h0 h1 hl hR dx _ hl' hR' dy _ ha ha2 hb hb2
  exact convMul_any w go oo s l m ga gb b o cap la b' o' cap' lb xs ys hT hM h0 (by omega) hl hR dx hl' hR' dy ha (by omega) hb (by omega)

end Go.Proofs.YtiekgpphggejcaaGreatDoor

/- Package conv: Sqr. -/
namespace Go.Proofs.YtiekgpphggejcaaGreatDoor
open Go.RowKit

set_option maxRecDepth 100000 in
set_option maxHeartbeats 6400000 in
theorem convSqr_any (w : World) (go oo : Nat) (s l m : Int) (ga : Option Addr) (b o cap la : Nat) (xs : List Nat) (hT : TB w) (hM : Met w go oo s l m) (hs0 : 0 ≤ s) (hs : s ≤ 2305843009213693952) (hl : xs.length = la) (hR : Rep w ga b o cap xs) (dx : WDig xs) (ha : 1 ≤ la) (ha2 : la ≤ 16384) :
    Calls Tryz.prog 58 #[.pointer (some ⟨go, oo, none⟩), .slice ga la cap] w fun e w' => ∃ v, e = .returned (.tuple #[v, .bool true]) ∧ NewW w.heap.size w' v (wval xs * wval xs) ∧ Met w' go oo (s + (tf la la 2 : Int)) l m ∧ Touch go oo 3 w w' := by
  obtain ⟨q, hq⟩ : ∃ q, q + 1 = la + la := ⟨la + la - 1, by omega⟩
  have HE := hide (cs_value (xs := xs) (ys := xs) (n := q) (by omega))
  have CC := hide (fun w g (h : TriAt w g q (cs xs xs)) => carry_any w (some ⟨g, 0, none⟩) g q q (cs xs xs) (by omega) (fun _ => rfl) (by omega) (Nat.le_refl _) h)
  rw [unhide HE] at CC
  clear HE
  generalize wval xs * wval xs = V at *
  obtain ⟨n, hn⟩ : ∃ n, n = la + la := ⟨_, rfl⟩
  obtain ⟨L, hL⟩ : ∃ L, L = Lib.bitLen (n - 1) := ⟨_, rfl⟩
  obtain ⟨L1, L2, _, L4⟩ := bl_bounds 15 (n - 1) (by omega) (by omega) (by omega)
  rw [← hL] at L1 L2 L4
  obtain ⟨N, hN⟩ : ∃ N, N = 2 ^ L := ⟨_, rfl⟩
  rw [← hN] at L4
  have hqN : q ≤ N := by omega
  have CF := hide (fun w => fit_yes la la w ha ha (by omega))
  have CT := hide (fun w => tf_way la la 2 w ha ha2 ha ha2 (by decide))
  have htf := tf_le la la 2 ha ha2 ha ha2 (by decide)
  have CS := hide (spend_any (tf la la 2 : Int) (s + (tf la la 2 : Int)) hM (by omega) (by omega) (by omega))
  have CP := hide (fun w hT => plans_any w n L (by omega) (by omega) hL (by omega) hT)
  have HT := hide (fun w' (t : Touch go oo 3 w w') => (hT.touch hM t))
  have HR := hide (fun w' (t : Touch go oo 3 w w') => (hR.touch hM t))
  have e1 : 2 * (la : Int) = (n : Int) := by omega
  have e2 : IntKind.i64.wrap (n : Int) = (n : Int) := by rw [IntKind.wrap_i64]; omega
  generalize tf la la 2 = C at *
  have HN := hide hN
  have HTL : Hid (∀ k, cs xs xs k < tp0 * tp1 * tp2) := fun k => cs_lt dx dx (by omega) k
  have HL1 := hide L1
  have hq1 : 1 ≤ q := by omega
  have hq0 := hq
  clear hM hT hR hN hL hn htf
  go_enter Tryz.func58, Tryz.ntmps58
  go_wp2_with fail
  refine (unhide CF _).mono ?_
  rintro e w1 ⟨rfl, hw⟩
  obtain rfl := hw.symm
  clear hw CF
  go_wp2_with fail
  refine (unhide CT _).mono ?_
  rintro e w1 ⟨rfl, hw⟩
  obtain rfl := hw.symm
  clear hw CT
  go_wp2_with fail
  refine (unhide CS).mono ?_
  rintro e w1 ⟨rfl, M1, T1⟩
  have hT1 := unhide HT _ T1
  have R1 := unhide HR _ T1
  have b2 : Below w1.heap.size w1 (w1.alloc (.cells #[.slice none 0 0, .slice none 0 0, .slice none 0 0] 109)) := (Below.refl _ _).alloc (Nat.le_refl _) _
  have V2 : VBl (w1.alloc (.cells #[.slice none 0 0, .slice none 0 0, .slice none 0 0] 109)) w1.heap.size [.slice none 0 0, .slice none 0 0, .slice none 0 0] 109 := heap_alloc_new w1 _
  obtain ⟨W2, hW2⟩ : ∃ W2, w1.alloc (.cells #[.slice none 0 0, .slice none 0 0, .slice none 0 0] 109) = W2 := ⟨_, rfl⟩
  rw [hW2] at b2 V2
  obtain ⟨X, hX⟩ : ∃ X, w1.heap.size = X := ⟨_, rfl⟩
  rw [hX] at V2
  have CP := hide (unhide CP W2 (hT1.next b2))
  have WX : Hid (w1.heap.size ≤ X) := Nat.le_of_eq hX
  have HB2 := hide b2
  have HV2 := hide V2
  have HM1 := hide M1
  have HT1 := hide T1
  have HR1 := hide R1
  clear CS HT HR M1 T1 hT1 R1 b2 V2
  go_wp2_with fail
  refine (unhide CP).mono ?_
  rintro e w3 ⟨a0, a1, a2, rfl, hP, b3⟩
  have B3 := hide (bstep (unhide HB2) b3)
  have V3 := hide ((unhide HV2).next b3)
  have hsz2 : Hid (w1.heap.size ≤ W2.heap.size) := (unhide HB2).size
  have HP3 := hide hP
  clear CP HB2 HV2 hW2 hX hP b3
  go_wp2
  go_loopw [26] (fun iv wr => ∃ (k : Nat) (v0 v1 v2 : Value), k ≤ 3 ∧ iv = .int .i64 (k : Int) ∧ VBl wr X [v0, v1, v2] 109 ∧ Rws wr k q N (cs xs xs) v0 v1 v2 ∧ Plns wr W2.heap.size L 3 ((k : Int) * 1099511627776) a0 a1 a2 ∧ Below w1.heap.size w1 wr) (fun iv _ => 3 - (intOf iv).toNat)
  case atStart => exact ⟨0, _, _, _, by decide, rfl, unhide V3, Rws.start _ _ _ _, unhide HP3, unhide B3⟩
  case round =>
    clear V3 HP3 B3
    obtain ⟨k, v0, v1, v2, hk, rfl, hV, hW, hP, hb⟩ := hrel
    have hk4 : k = 0 ∨ k = 1 ∨ k = 2 ∨ k = 3 := by omega
    clear hk
    rcases hk4 with rfl | rfl | rfl | rfl
    · obtain ⟨gt, ha, P⟩ := hP.1 (by decide)
      subst ha
      have hix := plan_at0
      have c0 : wr.cell? ⟨X, 0, none⟩ = some v0 := hV.cell 0 (by simp)
      have CC := hide (squareOf_any (j := 0) P (by decide) N q (unhide HN) ga b o cap la xs hl ((unhide HR1).next hb) ha hq0 hqN (by omega) (by decide))
      have HV := hide hV
      have HW := hide hW
      have HP := hide hP
      have HB := hide hb
      clear P hV hW hP hb c0
      go_wp2_with fail
      refine (unhide CC).mono ?_
      rintro e w5 ⟨v, rfl, hr, kk, s1, l1, m1, s2, l2, m2, hM, hM', hTT, p0, p1, pk⟩
      have sl := hr.sl
      have V5 : VBl w5 X [v0, v1, v2] 109 := (unhide HV).but hTT.grown (by
        rintro rfl
        have c := (unhide HV).cell 0 (by simp)
        rw [hM.c0] at c
        obtain ⟨_, _, _, e⟩ := (unhide HW).s0
        subst e
        injection c with c
        cases c)
      have q0 : w5.cell? ⟨X, 0, none⟩ = some v0 := V5.cell 0 (by simp)
      have cv : w5.cell? ⟨X, 0, none⟩ = some v0 := V5.cell 0 (by simp)
      have fv := V5.frozen 0
      have B5 := (unhide HB).grown hTT.grown (unhide HB).size (fun k hk => by cases hk; exact Nat.le_trans (unhide hsz2) pk)
      have W5 := ((unhide HW).touch hq1 hM hTT).one hr
      have P5 := (unhide HP).spent (unhide HL1) hM hM' hTT p0 p1 (by decide)
      have V7 : Hid (VBl (w5.setCell ⟨X, 0, none⟩ v) X (([v0, v1, v2] : List Value).set 0 v) 109) := V5.set 0 v
      have B7 := hide (B5.setCell (p := ⟨X, 0, none⟩) (unhide WX) v)
      have W7 := hide (W5.box hq1 (unhide HW).s0 q0 (grown_set w5 X 0 v))
      have P7 := hide (P5.rows (unhide HL1) (unhide HW).s0 q0 (grown_set w5 X 0 v))
      clear hr hM hM' hTT p0 p1 pk V5 q0 B5 W5 P5 CC HV HW HP HB
      obtain ⟨sa, sn, sc, rfl⟩ := sl
      go_wp2
      go_roundw
      case rel => exact ⟨1, _, _, _, by decide, rfl, unhide V7, unhide W7, unhide P7, unhide B7⟩
      case measure => simp [intOf]
    · obtain ⟨gt, ha, P⟩ := hP.2.1 (by decide)
      subst ha
      have hix := plan_at1
      have c0 : wr.cell? ⟨X, 0, none⟩ = some v0 := hV.cell 0 (by simp)
      have CC := hide (squareOf_any (j := 1) P (by decide) N q (unhide HN) ga b o cap la xs hl ((unhide HR1).next hb) ha hq0 hqN (by omega) (by decide))
      have HV := hide hV
      have HW := hide hW
      have HP := hide hP
      have HB := hide hb
      clear P hV hW hP hb c0
      go_wp2_with fail
      refine (unhide CC).mono ?_
      rintro e w5 ⟨v, rfl, hr, kk, s1, l1, m1, s2, l2, m2, hM, hM', hTT, p0, p1, pk⟩
      have sl := hr.sl
      have V5 : VBl w5 X [v0, v1, v2] 109 := (unhide HV).but hTT.grown (by
        rintro rfl
        have c := (unhide HV).cell 0 (by simp)
        rw [hM.c0] at c
        obtain ⟨_, _, _, e⟩ := (unhide HW).s0
        subst e
        injection c with c
        cases c)
      have q0 : w5.cell? ⟨X, 0, none⟩ = some v0 := V5.cell 0 (by simp)
      have cv : w5.cell? ⟨X, 1, none⟩ = some v1 := V5.cell 1 (by simp)
      have fv := V5.frozen 1
      have B5 := (unhide HB).grown hTT.grown (unhide HB).size (fun k hk => by cases hk; exact Nat.le_trans (unhide hsz2) pk)
      have W5 := ((unhide HW).touch hq1 hM hTT).two hr
      have P5 := (unhide HP).spent (unhide HL1) hM hM' hTT p0 p1 (by decide)
      have V7 : Hid (VBl (w5.setCell ⟨X, 1, none⟩ v) X (([v0, v1, v2] : List Value).set 1 v) 109) := V5.set 1 v
      have B7 := hide (B5.setCell (p := ⟨X, 1, none⟩) (unhide WX) v)
      have W7 := hide (W5.box hq1 (unhide HW).s0 q0 (grown_set w5 X 1 v))
      have P7 := hide (P5.rows (unhide HL1) (unhide HW).s0 q0 (grown_set w5 X 1 v))
      clear hr hM hM' hTT p0 p1 pk V5 q0 B5 W5 P5 CC HV HW HP HB
      obtain ⟨sa, sn, sc, rfl⟩ := sl
      go_wp2
      go_roundw
      case rel => exact ⟨2, _, _, _, by decide, rfl, unhide V7, unhide W7, unhide P7, unhide B7⟩
      case measure => simp [intOf]
    · obtain ⟨gt, ha, P⟩ := hP.2.2 (by decide)
      subst ha
      have hix := plan_at2
      have c0 : wr.cell? ⟨X, 0, none⟩ = some v0 := hV.cell 0 (by simp)
      have CC := hide (squareOf_any (j := 2) P (by decide) N q (unhide HN) ga b o cap la xs hl ((unhide HR1).next hb) ha hq0 hqN (by omega) (by decide))
      have HV := hide hV
      have HW := hide hW
      have HP := hide hP
      have HB := hide hb
      clear P hV hW hP hb c0
      go_wp2_with fail
      refine (unhide CC).mono ?_
      rintro e w5 ⟨v, rfl, hr, kk, s1, l1, m1, s2, l2, m2, hM, hM', hTT, p0, p1, pk⟩
      have sl := hr.sl
      have V5 : VBl w5 X [v0, v1, v2] 109 := (unhide HV).but hTT.grown (by
        rintro rfl
        have c := (unhide HV).cell 0 (by simp)
        rw [hM.c0] at c
        obtain ⟨_, _, _, e⟩ := (unhide HW).s0
        subst e
        injection c with c
        cases c)
      have q0 : w5.cell? ⟨X, 0, none⟩ = some v0 := V5.cell 0 (by simp)
      have cv : w5.cell? ⟨X, 2, none⟩ = some v2 := V5.cell 2 (by simp)
      have fv := V5.frozen 2
      have B5 := (unhide HB).grown hTT.grown (unhide HB).size (fun k hk => by cases hk; exact Nat.le_trans (unhide hsz2) pk)
      have W5 := ((unhide HW).touch hq1 hM hTT).three hr
      have P5 := (unhide HP).spent (unhide HL1) hM hM' hTT p0 p1 (by decide)
      have V7 : Hid (VBl (w5.setCell ⟨X, 2, none⟩ v) X (([v0, v1, v2] : List Value).set 2 v) 109) := V5.set 2 v
      have B7 := hide (B5.setCell (p := ⟨X, 2, none⟩) (unhide WX) v)
      have W7 := hide (W5.box hq1 (unhide HW).s0 q0 (grown_set w5 X 2 v))
      have P7 := hide (P5.rows (unhide HL1) (unhide HW).s0 q0 (grown_set w5 X 2 v))
      clear hr hM hM' hTT p0 p1 pk V5 q0 B5 W5 P5 CC HV HW HP HB
      obtain ⟨sa, sn, sc, rfl⟩ := sl
      go_wp2
      go_roundw
      case rel => exact ⟨3, _, _, _, by decide, rfl, unhide V7, unhide W7, unhide P7, unhide B7⟩
      case measure => simp [intOf]
    · have CN := hide (numbersOf_any hW (unhide HTL) (by omega))
      have g0 : wr.cell? ⟨X, 0, none⟩ = some v0 := hV.cell 0 (by simp)
      have g1 : wr.cell? ⟨X, 1, none⟩ = some v1 := hV.cell 1 (by simp)
      have g2 : wr.cell? ⟨X, 2, none⟩ = some v2 := hV.cell 2 (by simp)
      obtain ⟨t0, n0, d0, rfl⟩ := (hW.r0 (by decide)).sl
      obtain ⟨t1, n1, d1, rfl⟩ := (hW.r1 (by decide)).sl
      obtain ⟨t2, n2, d2, rfl⟩ := (hW.r2 (by decide)).sl
      have HB := hide hb
      clear hV hW hP hb
      go_wp2_with fail
      refine (unhide CN).mono ?_
      rintro e w5 ⟨g, rfl, hg, hTri, b5⟩
      have B6 := hide (bstep (unhide HB) b5)
      have CC := hide (unhide CC _ _ hTri)
      clear CN g0 g1 g2 hg b5 hTri HB
      go_wp2_with fail
      refine (unhide CC).mono ?_
      rintro e w6 ⟨r, rfl, nr, b6⟩
      have b7 := bstep (unhide B6) b6
      have M6 := (unhide HM1).next b7
      have T6 := (unhide HT1).then b7 (unhide HM1).lt
      have nr := nr.mono (Nat.le_trans (unhide HT1).grown.size (unhide B6).size)
      clear CC b6 b7
      go_wp2
      go_ret2
      exact ⟨r, rfl, nr, M6, T6⟩
set_option maxHeartbeats 1600000 in
theorem spec_sqr_no : SpecSqrNo := by
  intro w go oo ga cap
  have CF : Hid (∀ w, Calls Tryz.prog 82 #[.int .i64 0, .int .i64 0] w fun e w' => e = .returned (.bool false) ∧ w' = w) := fun w => fit_no 0 0 w (.inl rfl)
  go_enter Tryz.func58, Tryz.ntmps58
  go_wp2_with fail
  refine (unhide CF _).mono ?_
  rintro e w1 ⟨rfl, hw⟩
  obtain rfl := hw.symm
  clear hw CF
  go_wp2
  go_ret2
  exact ⟨rfl, rfl⟩
theorem spec_sqr : SpecSqr := by
  intro w go oo s l m ga b o cap la xs hT hM h0 h1 hl hR dx _ ha ha2
  exact convSqr_any w go oo s l m ga b o cap la xs hT hM h0 (by omega) hl hR dx ha (by omega)

end Go.Proofs.YtiekgpphggejcaaGreatDoor
