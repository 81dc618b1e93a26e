/- RecipRecips: what the law's walk comes to, once the code is what the document asks. Written by gen_recip.py. -/
import Derived.Test.YtpcfghnenhnlpaaGreatDoorB39
import Derived.Test.YtpcfghnenhnlpaaGreatDoorB25
import Derived.Test.YtpcfghnenhnlpaaGreatDoorB12
import Derived.Test.YtpcfghnenhnlpaaGreatDoorB32
import Derived.Test.YtpcfghnenhnlpaaGreatDoorB14
import Derived.Test.YtpcfghnenhnlpaaGreatDoorB5
namespace Go.Proofs.YtpcfghnenhnlpaaGreatDoor
open Go.RowKit

set_option maxRecDepth 100000 in
set_option maxHeartbeats 12800000 in
theorem recipRecips_any (SN : SpecRNew) (SR : SpecRecip) (SZ : SpecRecipZero) (SA : SpecRecipArg) (T : Tab) (gb : Option Addr) (bb ob cb lb : Nat) (ys : List Nat) (w : World) (hys : ys.length = lb) (HrB : Rep w gb bb ob cb ys) (kys : ∀ j, ys.getD j 0 < 18446744073709551616) (z : Int) (hz1 : -9223372036854775808 ≤ z) (hz2 : z ≤ 9223372036854775807) (hT : TB w) :
    Calls Tryz.prog 3 #[T.val, .slice gb lb cb, .int .i64 z] w fun e w' => e = .returned (.bool true) ∧ Below w.heap.size w w' := by
  obtain ⟨m, hcb⟩ : ∃ k, k = min lb 30 := ⟨_, rfl⟩
  have Cb : Hid (∀ w, Calls Tryz.prog 7 #[.slice gb lb cb, .int .i64 30] w fun e w' => e = .returned (.slice gb m cb) ∧ w' = w) := fun w => cut_any w gb lb cb 30 m (by have := HrB.room; omega) (by omega) hcb
  obtain ⟨hlb, rB⟩ := cut_rep HrB 30 m (by rw [hys]; exact hcb)
  have dy : WDig (ys.take m) := take_words kys m
  have hmb : m ≤ 30 := by omega
  clear hcb HrB kys hys
  generalize ys.take m = vs at *
  obtain ⟨D, hvb⟩ : ∃ k, k = wval vs := ⟨_, rfl⟩
  have LD : Hid (D < 18446744073709551616 ^ 30) := by show _ < _; rw [hvb]; exact pow_up (wval_lt_pow dy) (by omega)
  have BD : Hid (D < 4294967296 ^ 60) := by have := unhide LD; rw [wpow] at this; exact this
  have CFb := hide (fun W (r : Rep W gb bb ob cb vs) => from_recip W gb bb ob cb m D vs hlb (by omega) r dy hvb)
  have wlD : wl D ≤ 30 := by rw [hvb]; exact Nat.le_trans (wl_le_len dy) (by omega)
  have HLb := hide hlb
  have HEb := hide hvb
  clear hvb hlb
  have bl := Below.refl w.heap.size w
  obtain ⟨F, hF⟩ : ∃ F, F = 6148914691236517205 := ⟨_, rfl⟩
  have HF := hide hF
  clear hF
  have hcase : (4000 < z ∧ z ≤ 1048576) ∨ (∃ k : Nat, z = (k : Int) ∧ k ≤ 4000) ∨ z < 0 ∨ 1048576 < z := by
    by_cases h1 : z < 0
    · exact Or.inr (Or.inr (Or.inl h1))
    · by_cases h2 : z ≤ 4000
      · exact Or.inr (Or.inl ⟨z.toNat, by omega, by omega⟩)
      · by_cases h3 : z ≤ 1048576
        · exact Or.inl ⟨by omega, h3⟩
        · exact Or.inr (Or.inr (Or.inr (by omega)))
  rcases Nat.eq_zero_or_pos D with hD0 | h0
  case inl =>
    subst hD0
    rcases hcase with ⟨z1, z2⟩ | ⟨k, rfl, hk⟩ | z1 | z1
    · obtain ⟨k, hk0⟩ : ∃ k : Nat, (k : Int) = z % 4000 := ⟨(z % 4000).toNat, by omega⟩
      have hk : k ≤ 4000 := by omega
      have CIn := hide (fun W => within_any z 4000 W hz1 hz2 (by omega) (by omega))
      rw [← hk0] at CIn
      clear hk0 hz1 hz2
      have q1 : decide ((1048576 : Int) < (k : Int)) = false := by simp; omega
      have q2 : decide (1048576 < k) = false := by simp; omega
      have b0 : Below w.heap.size w (w.alloc (.cells #[.int .i64 T.b, .int .i64 T.t, .int .i64 T.n, .int .i64 T.d, .int .i64 T.r, .int .i64 T.l, .int .i64 T.x, .int .i64 T.p, .int .i64 T.k, .int .i64 T.s, .int .i64 T.e] 23)) := (Below.refl _ _).alloc (Nat.le_refl _) _
      have tA := tabAt_new w T 23
      obtain ⟨W1, hW1⟩ : ∃ W, w.alloc (.cells #[.int .i64 T.b, .int .i64 T.t, .int .i64 T.n, .int .i64 T.d, .int .i64 T.r, .int .i64 T.l, .int .i64 T.x, .int .i64 T.p, .int .i64 T.k, .int .i64 T.s, .int .i64 T.e] 23) = W := ⟨_, rfl⟩
      rw [hW1] at b0 tA
      obtain ⟨P0, hP0⟩ : ∃ P, w.heap.size = P := ⟨_, rfl⟩
      rw [hP0] at tA
      have lP : P0 < W1.heap.size := tA.lt
      have HT := hide hT
      clear hT
      have rB := rB.next b0
      have bl := bstep bl b0
      clear b0
      have CN := hide (fun W => SN T W)
      have CK := hide (fun W h => recipWakes_any SN SR W h)
      have HR := hide SR
      have HZ := hide SZ
      have HA := hide SA
      clear SN SR SZ SA
      unfold Tab.val at CN ⊢
      go_enter Tryz.func3, Tryz.ntmps3
      go_wp2_with fail
      refine (unhide Cb _).mono ?_
      rintro e wcb ⟨rfl, rfl⟩
      clear Cb
      have tX0 := tA
      obtain ⟨p0, p1, p2, p3, p4, p5, p6, p7, p8, p9, p10⟩ := tX0
      go_wp2_with fail
      refine (unhide CN _).mono ?_
      rintro e w1 ⟨gr, gd, gm, gt, gk, ge, g, rfl, E, hn, b⟩
      clear p0 p1 p2 p3 p4 p5 p6 p7 p8 p9 p10
      have hg : w.heap.size ≤ g := by omega
      clear hn tA lP CN
      have rB := rB.next b
      have bl := bstep bl b
      clear b
      have lg := E.met.lt
      obtain ⟨S1, hS1⟩ : ∃ S1, S1 = w1.heap.size := ⟨_, rfl⟩
      rw [← hS1] at lg
      have sz : S1 ≤ w1.heap.size := Nat.le_of_eq hS1
      clear hS1
      go_wp2_with fail
      refine (unhide CIn _).mono ?_
      rintro e wi ⟨rfl, rfl⟩
      clear CIn
      go_wp2_with fail
      refine (lend_any _ gb bb ob cb m vs (unhide HLb) (by omega) rB F (unhide HF)).mono ?_
      rintro e w2 ⟨rfl, ol, b⟩
      obtain ⟨rX, tX⟩ := lent_rep ol (unhide HLb)
      clear ol
      have rB := rB.next b
      have E := E.next b
      have sz := Nat.le_trans sz b.size
      have bl := bstep bl b
      clear b
      have ix := inM_rep rX dy (unhide HLb) (unhide HEb) (by omega)
      clear rX
      have CR := hide (unhide HZ _ gr gd gm gt gk ge g 0 0 0 T _ (k : Int) E ix (by omega) (by omega))
      clear ix
      go_wp2_with fail
      refine (unhide CR).mono ?_
      rintro e w3 ⟨qa, qc, rfl, E2, b⟩
      clear CR E E2
      have rB := rB.next b
      have tX := tX.next b
      have sz := Nat.le_trans sz b.size
      have bl := bstep bl b
      clear b
      have CZ := hide (zero_in (inM_rep rB dy (unhide HLb) (unhide HEb) (by omega)).inW true (by simp))
      go_wp2_with fail
      refine (unhide CZ).mono ?_
      rintro e wz ⟨rfl, hw⟩
      obtain rfl := hw.symm
      clear hw CZ
      go_wp2_with fail
      refine (unhide CK _ ((unhide HT).next bl)).mono ?_
      rintro e w4 ⟨rfl, b⟩
      have bl := bstep bl b
      clear b
      go_wp2
      go_ret
      exact ⟨rfl, bl⟩
    · have z1 : decide ((4000 : Int) < (k : Int)) = false := by simp; omega
      have z2 : decide (4000 < k) = false := by simp; omega
      clear hz1 hz2
      have q1 : decide ((1048576 : Int) < (k : Int)) = false := by simp; omega
      have q2 : decide (1048576 < k) = false := by simp; omega
      have b0 : Below w.heap.size w (w.alloc (.cells #[.int .i64 T.b, .int .i64 T.t, .int .i64 T.n, .int .i64 T.d, .int .i64 T.r, .int .i64 T.l, .int .i64 T.x, .int .i64 T.p, .int .i64 T.k, .int .i64 T.s, .int .i64 T.e] 23)) := (Below.refl _ _).alloc (Nat.le_refl _) _
      have tA := tabAt_new w T 23
      obtain ⟨W1, hW1⟩ : ∃ W, w.alloc (.cells #[.int .i64 T.b, .int .i64 T.t, .int .i64 T.n, .int .i64 T.d, .int .i64 T.r, .int .i64 T.l, .int .i64 T.x, .int .i64 T.p, .int .i64 T.k, .int .i64 T.s, .int .i64 T.e] 23) = W := ⟨_, rfl⟩
      rw [hW1] at b0 tA
      obtain ⟨P0, hP0⟩ : ∃ P, w.heap.size = P := ⟨_, rfl⟩
      rw [hP0] at tA
      have lP : P0 < W1.heap.size := tA.lt
      have HT := hide hT
      clear hT
      have rB := rB.next b0
      have bl := bstep bl b0
      clear b0
      have CN := hide (fun W => SN T W)
      have CK := hide (fun W h => recipWakes_any SN SR W h)
      have HR := hide SR
      have HZ := hide SZ
      have HA := hide SA
      clear SN SR SZ SA
      unfold Tab.val at CN ⊢
      go_enter Tryz.func3, Tryz.ntmps3
      go_wp2_with fail
      refine (unhide Cb _).mono ?_
      rintro e wcb ⟨rfl, rfl⟩
      clear Cb
      have tX0 := tA
      obtain ⟨p0, p1, p2, p3, p4, p5, p6, p7, p8, p9, p10⟩ := tX0
      go_wp2_with fail
      refine (unhide CN _).mono ?_
      rintro e w1 ⟨gr, gd, gm, gt, gk, ge, g, rfl, E, hn, b⟩
      clear p0 p1 p2 p3 p4 p5 p6 p7 p8 p9 p10
      have hg : w.heap.size ≤ g := by omega
      clear hn tA lP CN
      have rB := rB.next b
      have bl := bstep bl b
      clear b
      have lg := E.met.lt
      obtain ⟨S1, hS1⟩ : ∃ S1, S1 = w1.heap.size := ⟨_, rfl⟩
      rw [← hS1] at lg
      have sz : S1 ≤ w1.heap.size := Nat.le_of_eq hS1
      clear hS1
      go_wp2_with fail
      refine (lend_any _ gb bb ob cb m vs (unhide HLb) (by omega) rB F (unhide HF)).mono ?_
      rintro e w2 ⟨rfl, ol, b⟩
      obtain ⟨rX, tX⟩ := lent_rep ol (unhide HLb)
      clear ol
      have rB := rB.next b
      have E := E.next b
      have sz := Nat.le_trans sz b.size
      have bl := bstep bl b
      clear b
      have ix := inM_rep rX dy (unhide HLb) (unhide HEb) (by omega)
      clear rX
      have CR := hide (unhide HZ _ gr gd gm gt gk ge g 0 0 0 T _ (k : Int) E ix (by omega) (by omega))
      clear ix
      go_wp2_with fail
      refine (unhide CR).mono ?_
      rintro e w3 ⟨qa, qc, rfl, E2, b⟩
      clear CR E E2
      have rB := rB.next b
      have tX := tX.next b
      have sz := Nat.le_trans sz b.size
      have bl := bstep bl b
      clear b
      have CZ := hide (zero_in (inM_rep rB dy (unhide HLb) (unhide HEb) (by omega)).inW true (by simp))
      go_wp2_with fail
      refine (unhide CZ).mono ?_
      rintro e wz ⟨rfl, hw⟩
      obtain rfl := hw.symm
      clear hw CZ
      go_wp2_with fail
      refine (unhide CK _ ((unhide HT).next bl)).mono ?_
      rintro e w4 ⟨rfl, b⟩
      have bl := bstep bl b
      clear b
      go_wp2
      go_ret
      exact ⟨rfl, bl⟩
    · have z3 : decide ((4000 : Int) < z) = false := by simp; omega
      have b0 : Below w.heap.size w (w.alloc (.cells #[.int .i64 T.b, .int .i64 T.t, .int .i64 T.n, .int .i64 T.d, .int .i64 T.r, .int .i64 T.l, .int .i64 T.x, .int .i64 T.p, .int .i64 T.k, .int .i64 T.s, .int .i64 T.e] 23)) := (Below.refl _ _).alloc (Nat.le_refl _) _
      have tA := tabAt_new w T 23
      obtain ⟨W1, hW1⟩ : ∃ W, w.alloc (.cells #[.int .i64 T.b, .int .i64 T.t, .int .i64 T.n, .int .i64 T.d, .int .i64 T.r, .int .i64 T.l, .int .i64 T.x, .int .i64 T.p, .int .i64 T.k, .int .i64 T.s, .int .i64 T.e] 23) = W := ⟨_, rfl⟩
      rw [hW1] at b0 tA
      obtain ⟨P0, hP0⟩ : ∃ P, w.heap.size = P := ⟨_, rfl⟩
      rw [hP0] at tA
      have lP : P0 < W1.heap.size := tA.lt
      have HT := hide hT
      clear hT
      have rB := rB.next b0
      have bl := bstep bl b0
      clear b0
      have CN := hide (fun W => SN T W)
      have CK := hide (fun W h => recipWakes_any SN SR W h)
      have HR := hide SR
      have HZ := hide SZ
      have HA := hide SA
      clear SN SR SZ SA
      unfold Tab.val at CN ⊢
      go_enter Tryz.func3, Tryz.ntmps3
      go_wp2_with fail
      refine (unhide Cb _).mono ?_
      rintro e wcb ⟨rfl, rfl⟩
      clear Cb
      have tX0 := tA
      obtain ⟨p0, p1, p2, p3, p4, p5, p6, p7, p8, p9, p10⟩ := tX0
      go_wp2_with fail
      refine (unhide CN _).mono ?_
      rintro e w1 ⟨gr, gd, gm, gt, gk, ge, g, rfl, E, hn, b⟩
      clear p0 p1 p2 p3 p4 p5 p6 p7 p8 p9 p10
      have hg : w.heap.size ≤ g := by omega
      clear hn tA lP CN
      have rB := rB.next b
      have bl := bstep bl b
      clear b
      have lg := E.met.lt
      obtain ⟨S1, hS1⟩ : ∃ S1, S1 = w1.heap.size := ⟨_, rfl⟩
      rw [← hS1] at lg
      have sz : S1 ≤ w1.heap.size := Nat.le_of_eq hS1
      clear hS1
      go_wp2_with fail
      refine (lend_any _ gb bb ob cb m vs (unhide HLb) (by omega) rB F (unhide HF)).mono ?_
      rintro e w2 ⟨rfl, ol, b⟩
      obtain ⟨rX, tX⟩ := lent_rep ol (unhide HLb)
      clear ol
      have rB := rB.next b
      have E := E.next b
      have sz := Nat.le_trans sz b.size
      have bl := bstep bl b
      clear b
      have ix := inM_rep rX dy (unhide HLb) (unhide HEb) (by omega)
      clear rX
      have CR := hide (unhide HZ _ gr gd gm gt gk ge g 0 0 0 T _ z E ix (by omega) (by omega))
      clear ix
      go_wp2_with fail
      refine (unhide CR).mono ?_
      rintro e w3 ⟨qa, qc, rfl, E2, b⟩
      clear CR E E2
      have rB := rB.next b
      have tX := tX.next b
      have sz := Nat.le_trans sz b.size
      have bl := bstep bl b
      clear b
      have CZ := hide (zero_in (inM_rep rB dy (unhide HLb) (unhide HEb) (by omega)).inW true (by simp))
      go_wp2_with fail
      refine (unhide CZ).mono ?_
      rintro e wz ⟨rfl, hw⟩
      obtain rfl := hw.symm
      clear hw CZ
      go_wp2_with fail
      refine (unhide CK _ ((unhide HT).next bl)).mono ?_
      rintro e w4 ⟨rfl, b⟩
      have bl := bstep bl b
      clear b
      go_wp2
      go_ret
      exact ⟨rfl, bl⟩
    · have z2 : (4000 : Int) < z := by omega
      have z3 : decide (z ≤ 1048576) = false := by simp; omega
      have z4 : decide (z < 0) = false := by simp; omega
      have b0 : Below w.heap.size w (w.alloc (.cells #[.int .i64 T.b, .int .i64 T.t, .int .i64 T.n, .int .i64 T.d, .int .i64 T.r, .int .i64 T.l, .int .i64 T.x, .int .i64 T.p, .int .i64 T.k, .int .i64 T.s, .int .i64 T.e] 23)) := (Below.refl _ _).alloc (Nat.le_refl _) _
      have tA := tabAt_new w T 23
      obtain ⟨W1, hW1⟩ : ∃ W, w.alloc (.cells #[.int .i64 T.b, .int .i64 T.t, .int .i64 T.n, .int .i64 T.d, .int .i64 T.r, .int .i64 T.l, .int .i64 T.x, .int .i64 T.p, .int .i64 T.k, .int .i64 T.s, .int .i64 T.e] 23) = W := ⟨_, rfl⟩
      rw [hW1] at b0 tA
      obtain ⟨P0, hP0⟩ : ∃ P, w.heap.size = P := ⟨_, rfl⟩
      rw [hP0] at tA
      have lP : P0 < W1.heap.size := tA.lt
      have HT := hide hT
      clear hT
      have rB := rB.next b0
      have bl := bstep bl b0
      clear b0
      have CN := hide (fun W => SN T W)
      have CK := hide (fun W h => recipWakes_any SN SR W h)
      have HR := hide SR
      have HZ := hide SZ
      have HA := hide SA
      clear SN SR SZ SA
      unfold Tab.val at CN ⊢
      go_enter Tryz.func3, Tryz.ntmps3
      go_wp2_with fail
      refine (unhide Cb _).mono ?_
      rintro e wcb ⟨rfl, rfl⟩
      clear Cb
      have tX0 := tA
      obtain ⟨p0, p1, p2, p3, p4, p5, p6, p7, p8, p9, p10⟩ := tX0
      go_wp2_with fail
      refine (unhide CN _).mono ?_
      rintro e w1 ⟨gr, gd, gm, gt, gk, ge, g, rfl, E, hn, b⟩
      clear p0 p1 p2 p3 p4 p5 p6 p7 p8 p9 p10
      have hg : w.heap.size ≤ g := by omega
      clear hn tA lP CN
      have rB := rB.next b
      have bl := bstep bl b
      clear b
      have lg := E.met.lt
      obtain ⟨S1, hS1⟩ : ∃ S1, S1 = w1.heap.size := ⟨_, rfl⟩
      rw [← hS1] at lg
      have sz : S1 ≤ w1.heap.size := Nat.le_of_eq hS1
      clear hS1
      go_wp2_with fail
      refine (lend_any _ gb bb ob cb m vs (unhide HLb) (by omega) rB F (unhide HF)).mono ?_
      rintro e w2 ⟨rfl, ol, b⟩
      obtain ⟨rX, tX⟩ := lent_rep ol (unhide HLb)
      clear ol
      have rB := rB.next b
      have E := E.next b
      have sz := Nat.le_trans sz b.size
      have bl := bstep bl b
      clear b
      have ix := inM_rep rX dy (unhide HLb) (unhide HEb) (by omega)
      clear rX
      have CR := hide (unhide HZ _ gr gd gm gt gk ge g 0 0 0 T _ z E ix (by omega) (by omega))
      clear ix
      go_wp2_with fail
      refine (unhide CR).mono ?_
      rintro e w3 ⟨qa, qc, rfl, E2, b⟩
      clear CR E E2
      have rB := rB.next b
      have tX := tX.next b
      have sz := Nat.le_trans sz b.size
      have bl := bstep bl b
      clear b
      have CZ := hide (zero_in (inM_rep rB dy (unhide HLb) (unhide HEb) (by omega)).inW true (by simp))
      go_wp2_with fail
      refine (unhide CZ).mono ?_
      rintro e wz ⟨rfl, hw⟩
      obtain rfl := hw.symm
      clear hw CZ
      go_wp2_with fail
      refine (unhide CK _ ((unhide HT).next bl)).mono ?_
      rintro e w4 ⟨rfl, b⟩
      have bl := bstep bl b
      clear b
      go_wp2
      go_ret
      exact ⟨rfl, bl⟩
  case inr =>
    have hD0 : ¬ D = 0 := by omega
    rcases hcase with ⟨z1, z2⟩ | ⟨k, rfl, hk⟩ | z1 | z1
    · obtain ⟨k, hk0⟩ : ∃ k : Nat, (k : Int) = z % 4000 := ⟨(z % 4000).toNat, by omega⟩
      have hk : k ≤ 4000 := by omega
      have CIn := hide (fun W => within_any z 4000 W hz1 hz2 (by omega) (by omega))
      rw [← hk0] at CIn
      clear hk0 hz1 hz2
      have q1 : decide ((1048576 : Int) < (k : Int)) = false := by simp; omega
      have q2 : decide (1048576 < k) = false := by simp; omega
      obtain ⟨P, hP⟩ : ∃ P, P = 2 ^ k := ⟨_, rfl⟩
      have LP : Hid (P < 18446744073709551616 ^ 63) := by show _ < _; rw [hP]; exact two_pow_lt (by omega)
      have LP2 : Hid (P < 4294967296 ^ 126) := by have := unhide LP; rw [wpow] at this; exact this
      have BD2 : Hid (D < 4294967296 ^ 126) := Nat.lt_of_lt_of_le (unhide BD) (Nat.pow_le_pow_right (by omega) (by omega))
      obtain ⟨Q, hQ⟩ : ∃ Q, Q = P / D := ⟨_, rfl⟩
      obtain ⟨R, hR⟩ : ∃ R, R = P % D := ⟨_, rfl⟩
      have LQ : Hid (Q < 18446744073709551616 ^ 63) := by show _ < _; rw [hQ]; exact Nat.lt_of_le_of_lt (Nat.div_le_self _ _) (unhide LP)
      have CM : Hid (∀ w u v, IsN w u P → IsN w v D → Calls Tryz.prog 14 #[u, v] w fun e w' => ∃ q r, e = .returned (.tuple #[q, r]) ∧ IsN w' q Q ∧ IsN w' r R ∧ Below w.heap.size w w') := fun w u v h1 h2 => by rw [hQ, hR]; exact divmod_any w u v P D 126 (by omega) (unhide LP2) (unhide BD2) h0 h1 h2
      have CPw := hide (fun W => power_any2 W k P (by omega) hP)
      have HQ := hide hQ
      have HP := hide hP
      have H0 := hide h0
      clear hQ hR hP
      have b0 : Below w.heap.size w (w.alloc (.cells #[.int .i64 T.b, .int .i64 T.t, .int .i64 T.n, .int .i64 T.d, .int .i64 T.r, .int .i64 T.l, .int .i64 T.x, .int .i64 T.p, .int .i64 T.k, .int .i64 T.s, .int .i64 T.e] 23)) := (Below.refl _ _).alloc (Nat.le_refl _) _
      have tA := tabAt_new w T 23
      obtain ⟨W1, hW1⟩ : ∃ W, w.alloc (.cells #[.int .i64 T.b, .int .i64 T.t, .int .i64 T.n, .int .i64 T.d, .int .i64 T.r, .int .i64 T.l, .int .i64 T.x, .int .i64 T.p, .int .i64 T.k, .int .i64 T.s, .int .i64 T.e] 23) = W := ⟨_, rfl⟩
      rw [hW1] at b0 tA
      obtain ⟨P0, hP0⟩ : ∃ P, w.heap.size = P := ⟨_, rfl⟩
      rw [hP0] at tA
      have lP : P0 < W1.heap.size := tA.lt
      have HT := hide hT
      clear hT
      have rB := rB.next b0
      have bl := bstep bl b0
      clear b0
      have CN := hide (fun W => SN T W)
      have CK := hide (fun W h => recipWakes_any SN SR W h)
      have HR := hide SR
      have HZ := hide SZ
      have HA := hide SA
      clear SN SR SZ SA
      unfold Tab.val at CN ⊢
      go_enter Tryz.func3, Tryz.ntmps3
      go_wp2_with fail
      refine (unhide Cb _).mono ?_
      rintro e wcb ⟨rfl, rfl⟩
      clear Cb
      have tX0 := tA
      obtain ⟨p0, p1, p2, p3, p4, p5, p6, p7, p8, p9, p10⟩ := tX0
      go_wp2_with fail
      refine (unhide CN _).mono ?_
      rintro e w1 ⟨gr, gd, gm, gt, gk, ge, g, rfl, E, hn, b⟩
      clear p0 p1 p2 p3 p4 p5 p6 p7 p8 p9 p10
      have hg : w.heap.size ≤ g := by omega
      clear hn tA lP CN
      have rB := rB.next b
      have bl := bstep bl b
      clear b
      have lg := E.met.lt
      obtain ⟨S1, hS1⟩ : ∃ S1, S1 = w1.heap.size := ⟨_, rfl⟩
      rw [← hS1] at lg
      have sz : S1 ≤ w1.heap.size := Nat.le_of_eq hS1
      clear hS1
      go_wp2_with fail
      refine (unhide CIn _).mono ?_
      rintro e wi ⟨rfl, rfl⟩
      clear CIn
      go_wp2_with fail
      refine (lend_any _ gb bb ob cb m vs (unhide HLb) (by omega) rB F (unhide HF)).mono ?_
      rintro e w2 ⟨rfl, ol, b⟩
      obtain ⟨rX, tX⟩ := lent_rep ol (unhide HLb)
      clear ol
      have rB := rB.next b
      have E := E.next b
      have sz := Nat.le_trans sz b.size
      have bl := bstep bl b
      clear b
      have ix := inM_rep rX dy (unhide HLb) (unhide HEb) (by omega)
      clear rX
      have CR := hide (unhide HR _ gr gd gm gt gk ge g 0 0 0 T _ D k E ((unhide HT).next bl) (by decide) (by decide) (by decide) (by decide) ix (unhide H0) (by omega) (by omega))
      rw [← unhide HP, ← unhide HQ] at CR
      clear ix
      obtain ⟨g1, hg1⟩ : ∃ g1, g1 = wi.heap.size := ⟨_, rfl⟩
      rw [← hg1] at tX CR ⊢
      obtain ⟨S4, hS4⟩ : ∃ S4, S4 = w2.heap.size := ⟨_, rfl⟩
      have hl1 : g1 < S4 := by rw [hS4]; exact tX.lt (by simp)
      have hSw : w.heap.size ≤ S4 := by rw [hS4]; exact bl.size
      have hBb : Hid (0 < vs.length → bb < S4) := fun h => by rw [hS4]; exact rB.lt h
      rw [← hS4] at CR
      clear hg1 hS4
      go_wp2_with fail
      refine (unhide CR).mono ?_
      rintro e w3 ⟨v, gq, s', m', rfl, nv, hq4, E2, _, o⟩
      clear CR
      have rB := E.rep o rB
      have tX := E.rep o tX
      have sz := Nat.le_trans sz o.size
      have bl := bl.trans (o.below (B := w.heap.size) bl.size (fun k hk => by rw [hk]; exact hg))
      have E := E2
      clear o E2
      clear E
      have nvW := nv.toW
      obtain ⟨va, vl, vc, rfl⟩ := nvW.shape
      clear nvW
      have CZ := hide (zero_in (inM_rep rB dy (unhide HLb) (unhide HEb) (by omega)).inW false (by simp; omega))
      go_wp2_with fail
      refine (unhide CZ).mono ?_
      rintro e wz ⟨rfl, hw⟩
      obtain rfl := hw.symm
      clear hw CZ
      go_wp2_with fail
      refine (unhide CPw _).mono ?_
      rintro e w4 ⟨v1, rfl, n1, b⟩
      have rB := rB.next b
      have tX := tX.next b
      have nv := nv.next b
      have sz := Nat.le_trans sz b.size
      have bl := bstep bl b
      clear b
      go_wp2_with fail
      refine (unhide CFb _ rB).mono ?_
      rintro e w5 ⟨v2, rfl, n2, b⟩
      have rB := rB.next b
      have tX := tX.next b
      have nv := nv.next b
      have n1 := n1.next b
      have sz := Nat.le_trans sz b.size
      have bl := bstep bl b
      clear b
      go_wp2_with fail
      refine (unhide CM _ _ _ n1 n2).mono ?_
      rintro e w6 ⟨v3, v4, rfl, n3, n4, b⟩
      clear n1 n2
      have rB := rB.next b
      have tX := tX.next b
      have nv := nv.next b
      have sz := Nat.le_trans sz b.size
      have bl := bstep bl b
      clear b
      clear n4
      go_wp2_with fail
      refine (same_new _ _ _ _ _ 63 (by omega) (unhide LQ) n3 nv.toW).mono ?_
      rintro e w7 ⟨rfl, b⟩
      clear n3
      have rB := rB.next b
      have tX := tX.next b
      have nv := nv.next b
      have sz := Nat.le_trans sz b.size
      have bl := bstep bl b
      clear b
      go_wp2_with fail
      refine (spoil_any _ _ _ _ _ nv).mono ?_
      rintro e w8 ⟨rfl, sp⟩
      have rB := rB.spoilt sp (fun h => Or.inl (Nat.lt_of_lt_of_le (unhide hBb h) hq4))
      have tX := tX.spoilt sp (fun h => Or.inl (Nat.lt_of_lt_of_le hl1 hq4))
      have bl := below_spoilt bl sp (by omega) bl.size
      clear nv sp
      go_wp2_with fail
      refine (intact_any _ gb g1 bb ob cb m vs (unhide HLb) (by omega) rB F (unhide HF) tX).mono ?_
      rintro e w9 ⟨rfl, b⟩
      have rB := rB.next b
      have tX := tX.next b
      have bl := bstep bl b
      clear b
      go_wp2_with fail
      refine (unhide CK _ ((unhide HT).next bl)).mono ?_
      rintro e w10 ⟨rfl, b⟩
      have bl := bstep bl b
      clear b
      go_wp2
      go_ret
      exact ⟨rfl, bl⟩
    · have z1 : decide ((4000 : Int) < (k : Int)) = false := by simp; omega
      have z2 : decide (4000 < k) = false := by simp; omega
      clear hz1 hz2
      have q1 : decide ((1048576 : Int) < (k : Int)) = false := by simp; omega
      have q2 : decide (1048576 < k) = false := by simp; omega
      obtain ⟨P, hP⟩ : ∃ P, P = 2 ^ k := ⟨_, rfl⟩
      have LP : Hid (P < 18446744073709551616 ^ 63) := by show _ < _; rw [hP]; exact two_pow_lt (by omega)
      have LP2 : Hid (P < 4294967296 ^ 126) := by have := unhide LP; rw [wpow] at this; exact this
      have BD2 : Hid (D < 4294967296 ^ 126) := Nat.lt_of_lt_of_le (unhide BD) (Nat.pow_le_pow_right (by omega) (by omega))
      obtain ⟨Q, hQ⟩ : ∃ Q, Q = P / D := ⟨_, rfl⟩
      obtain ⟨R, hR⟩ : ∃ R, R = P % D := ⟨_, rfl⟩
      have LQ : Hid (Q < 18446744073709551616 ^ 63) := by show _ < _; rw [hQ]; exact Nat.lt_of_le_of_lt (Nat.div_le_self _ _) (unhide LP)
      have CM : Hid (∀ w u v, IsN w u P → IsN w v D → Calls Tryz.prog 14 #[u, v] w fun e w' => ∃ q r, e = .returned (.tuple #[q, r]) ∧ IsN w' q Q ∧ IsN w' r R ∧ Below w.heap.size w w') := fun w u v h1 h2 => by rw [hQ, hR]; exact divmod_any w u v P D 126 (by omega) (unhide LP2) (unhide BD2) h0 h1 h2
      have CPw := hide (fun W => power_any2 W k P (by omega) hP)
      have HQ := hide hQ
      have HP := hide hP
      have H0 := hide h0
      clear hQ hR hP
      have b0 : Below w.heap.size w (w.alloc (.cells #[.int .i64 T.b, .int .i64 T.t, .int .i64 T.n, .int .i64 T.d, .int .i64 T.r, .int .i64 T.l, .int .i64 T.x, .int .i64 T.p, .int .i64 T.k, .int .i64 T.s, .int .i64 T.e] 23)) := (Below.refl _ _).alloc (Nat.le_refl _) _
      have tA := tabAt_new w T 23
      obtain ⟨W1, hW1⟩ : ∃ W, w.alloc (.cells #[.int .i64 T.b, .int .i64 T.t, .int .i64 T.n, .int .i64 T.d, .int .i64 T.r, .int .i64 T.l, .int .i64 T.x, .int .i64 T.p, .int .i64 T.k, .int .i64 T.s, .int .i64 T.e] 23) = W := ⟨_, rfl⟩
      rw [hW1] at b0 tA
      obtain ⟨P0, hP0⟩ : ∃ P, w.heap.size = P := ⟨_, rfl⟩
      rw [hP0] at tA
      have lP : P0 < W1.heap.size := tA.lt
      have HT := hide hT
      clear hT
      have rB := rB.next b0
      have bl := bstep bl b0
      clear b0
      have CN := hide (fun W => SN T W)
      have CK := hide (fun W h => recipWakes_any SN SR W h)
      have HR := hide SR
      have HZ := hide SZ
      have HA := hide SA
      clear SN SR SZ SA
      unfold Tab.val at CN ⊢
      go_enter Tryz.func3, Tryz.ntmps3
      go_wp2_with fail
      refine (unhide Cb _).mono ?_
      rintro e wcb ⟨rfl, rfl⟩
      clear Cb
      have tX0 := tA
      obtain ⟨p0, p1, p2, p3, p4, p5, p6, p7, p8, p9, p10⟩ := tX0
      go_wp2_with fail
      refine (unhide CN _).mono ?_
      rintro e w1 ⟨gr, gd, gm, gt, gk, ge, g, rfl, E, hn, b⟩
      clear p0 p1 p2 p3 p4 p5 p6 p7 p8 p9 p10
      have hg : w.heap.size ≤ g := by omega
      clear hn tA lP CN
      have rB := rB.next b
      have bl := bstep bl b
      clear b
      have lg := E.met.lt
      obtain ⟨S1, hS1⟩ : ∃ S1, S1 = w1.heap.size := ⟨_, rfl⟩
      rw [← hS1] at lg
      have sz : S1 ≤ w1.heap.size := Nat.le_of_eq hS1
      clear hS1
      go_wp2_with fail
      refine (lend_any _ gb bb ob cb m vs (unhide HLb) (by omega) rB F (unhide HF)).mono ?_
      rintro e w2 ⟨rfl, ol, b⟩
      obtain ⟨rX, tX⟩ := lent_rep ol (unhide HLb)
      clear ol
      have rB := rB.next b
      have E := E.next b
      have sz := Nat.le_trans sz b.size
      have bl := bstep bl b
      clear b
      have ix := inM_rep rX dy (unhide HLb) (unhide HEb) (by omega)
      clear rX
      have CR := hide (unhide HR _ gr gd gm gt gk ge g 0 0 0 T _ D k E ((unhide HT).next bl) (by decide) (by decide) (by decide) (by decide) ix (unhide H0) (by omega) (by omega))
      rw [← unhide HP, ← unhide HQ] at CR
      clear ix
      obtain ⟨g1, hg1⟩ : ∃ g1, g1 = w1.heap.size := ⟨_, rfl⟩
      rw [← hg1] at tX CR ⊢
      obtain ⟨S4, hS4⟩ : ∃ S4, S4 = w2.heap.size := ⟨_, rfl⟩
      have hl1 : g1 < S4 := by rw [hS4]; exact tX.lt (by simp)
      have hSw : w.heap.size ≤ S4 := by rw [hS4]; exact bl.size
      have hBb : Hid (0 < vs.length → bb < S4) := fun h => by rw [hS4]; exact rB.lt h
      rw [← hS4] at CR
      clear hg1 hS4
      go_wp2_with fail
      refine (unhide CR).mono ?_
      rintro e w3 ⟨v, gq, s', m', rfl, nv, hq4, E2, _, o⟩
      clear CR
      have rB := E.rep o rB
      have tX := E.rep o tX
      have sz := Nat.le_trans sz o.size
      have bl := bl.trans (o.below (B := w.heap.size) bl.size (fun k hk => by rw [hk]; exact hg))
      have E := E2
      clear o E2
      clear E
      have nvW := nv.toW
      obtain ⟨va, vl, vc, rfl⟩ := nvW.shape
      clear nvW
      have CZ := hide (zero_in (inM_rep rB dy (unhide HLb) (unhide HEb) (by omega)).inW false (by simp; omega))
      go_wp2_with fail
      refine (unhide CZ).mono ?_
      rintro e wz ⟨rfl, hw⟩
      obtain rfl := hw.symm
      clear hw CZ
      go_wp2_with fail
      refine (unhide CPw _).mono ?_
      rintro e w4 ⟨v1, rfl, n1, b⟩
      have rB := rB.next b
      have tX := tX.next b
      have nv := nv.next b
      have sz := Nat.le_trans sz b.size
      have bl := bstep bl b
      clear b
      go_wp2_with fail
      refine (unhide CFb _ rB).mono ?_
      rintro e w5 ⟨v2, rfl, n2, b⟩
      have rB := rB.next b
      have tX := tX.next b
      have nv := nv.next b
      have n1 := n1.next b
      have sz := Nat.le_trans sz b.size
      have bl := bstep bl b
      clear b
      go_wp2_with fail
      refine (unhide CM _ _ _ n1 n2).mono ?_
      rintro e w6 ⟨v3, v4, rfl, n3, n4, b⟩
      clear n1 n2
      have rB := rB.next b
      have tX := tX.next b
      have nv := nv.next b
      have sz := Nat.le_trans sz b.size
      have bl := bstep bl b
      clear b
      clear n4
      go_wp2_with fail
      refine (same_new _ _ _ _ _ 63 (by omega) (unhide LQ) n3 nv.toW).mono ?_
      rintro e w7 ⟨rfl, b⟩
      clear n3
      have rB := rB.next b
      have tX := tX.next b
      have nv := nv.next b
      have sz := Nat.le_trans sz b.size
      have bl := bstep bl b
      clear b
      go_wp2_with fail
      refine (spoil_any _ _ _ _ _ nv).mono ?_
      rintro e w8 ⟨rfl, sp⟩
      have rB := rB.spoilt sp (fun h => Or.inl (Nat.lt_of_lt_of_le (unhide hBb h) hq4))
      have tX := tX.spoilt sp (fun h => Or.inl (Nat.lt_of_lt_of_le hl1 hq4))
      have bl := below_spoilt bl sp (by omega) bl.size
      clear nv sp
      go_wp2_with fail
      refine (intact_any _ gb g1 bb ob cb m vs (unhide HLb) (by omega) rB F (unhide HF) tX).mono ?_
      rintro e w9 ⟨rfl, b⟩
      have rB := rB.next b
      have tX := tX.next b
      have bl := bstep bl b
      clear b
      go_wp2_with fail
      refine (unhide CK _ ((unhide HT).next bl)).mono ?_
      rintro e w10 ⟨rfl, b⟩
      have bl := bstep bl b
      clear b
      go_wp2
      go_ret
      exact ⟨rfl, bl⟩
    · have z3 : decide ((4000 : Int) < z) = false := by simp; omega
      have b0 : Below w.heap.size w (w.alloc (.cells #[.int .i64 T.b, .int .i64 T.t, .int .i64 T.n, .int .i64 T.d, .int .i64 T.r, .int .i64 T.l, .int .i64 T.x, .int .i64 T.p, .int .i64 T.k, .int .i64 T.s, .int .i64 T.e] 23)) := (Below.refl _ _).alloc (Nat.le_refl _) _
      have tA := tabAt_new w T 23
      obtain ⟨W1, hW1⟩ : ∃ W, w.alloc (.cells #[.int .i64 T.b, .int .i64 T.t, .int .i64 T.n, .int .i64 T.d, .int .i64 T.r, .int .i64 T.l, .int .i64 T.x, .int .i64 T.p, .int .i64 T.k, .int .i64 T.s, .int .i64 T.e] 23) = W := ⟨_, rfl⟩
      rw [hW1] at b0 tA
      obtain ⟨P0, hP0⟩ : ∃ P, w.heap.size = P := ⟨_, rfl⟩
      rw [hP0] at tA
      have lP : P0 < W1.heap.size := tA.lt
      have HT := hide hT
      clear hT
      have rB := rB.next b0
      have bl := bstep bl b0
      clear b0
      have CN := hide (fun W => SN T W)
      have CK := hide (fun W h => recipWakes_any SN SR W h)
      have HR := hide SR
      have HZ := hide SZ
      have HA := hide SA
      clear SN SR SZ SA
      unfold Tab.val at CN ⊢
      go_enter Tryz.func3, Tryz.ntmps3
      go_wp2_with fail
      refine (unhide Cb _).mono ?_
      rintro e wcb ⟨rfl, rfl⟩
      clear Cb
      have tX0 := tA
      obtain ⟨p0, p1, p2, p3, p4, p5, p6, p7, p8, p9, p10⟩ := tX0
      go_wp2_with fail
      refine (unhide CN _).mono ?_
      rintro e w1 ⟨gr, gd, gm, gt, gk, ge, g, rfl, E, hn, b⟩
      clear p0 p1 p2 p3 p4 p5 p6 p7 p8 p9 p10
      have hg : w.heap.size ≤ g := by omega
      clear hn tA lP CN
      have rB := rB.next b
      have bl := bstep bl b
      clear b
      have lg := E.met.lt
      obtain ⟨S1, hS1⟩ : ∃ S1, S1 = w1.heap.size := ⟨_, rfl⟩
      rw [← hS1] at lg
      have sz : S1 ≤ w1.heap.size := Nat.le_of_eq hS1
      clear hS1
      go_wp2_with fail
      refine (lend_any _ gb bb ob cb m vs (unhide HLb) (by omega) rB F (unhide HF)).mono ?_
      rintro e w2 ⟨rfl, ol, b⟩
      obtain ⟨rX, tX⟩ := lent_rep ol (unhide HLb)
      clear ol
      have rB := rB.next b
      have E := E.next b
      have sz := Nat.le_trans sz b.size
      have bl := bstep bl b
      clear b
      have ix := inM_rep rX dy (unhide HLb) (unhide HEb) (by omega)
      clear rX
      have CR := hide (unhide HA _ gr gd gm gt gk ge g 0 0 0 T _ D z E ix h0 (by omega) (by omega) (by omega))
      clear ix
      go_wp2_with fail
      refine (unhide CR).mono ?_
      rintro e w3 ⟨qa, qc, rfl, E2, b⟩
      clear CR E E2
      have rB := rB.next b
      have tX := tX.next b
      have sz := Nat.le_trans sz b.size
      have bl := bstep bl b
      clear b
      have CZ := hide (zero_in (inM_rep rB dy (unhide HLb) (unhide HEb) (by omega)).inW false (by simp; omega))
      go_wp2_with fail
      refine (unhide CZ).mono ?_
      rintro e wz ⟨rfl, hw⟩
      obtain rfl := hw.symm
      clear hw CZ
      go_wp2_with fail
      refine (unhide CK _ ((unhide HT).next bl)).mono ?_
      rintro e w4 ⟨rfl, b⟩
      have bl := bstep bl b
      clear b
      go_wp2
      go_ret
      exact ⟨rfl, bl⟩
    · have z2 : (4000 : Int) < z := by omega
      have z3 : decide (z ≤ 1048576) = false := by simp; omega
      have z4 : decide (z < 0) = false := by simp; omega
      have b0 : Below w.heap.size w (w.alloc (.cells #[.int .i64 T.b, .int .i64 T.t, .int .i64 T.n, .int .i64 T.d, .int .i64 T.r, .int .i64 T.l, .int .i64 T.x, .int .i64 T.p, .int .i64 T.k, .int .i64 T.s, .int .i64 T.e] 23)) := (Below.refl _ _).alloc (Nat.le_refl _) _
      have tA := tabAt_new w T 23
      obtain ⟨W1, hW1⟩ : ∃ W, w.alloc (.cells #[.int .i64 T.b, .int .i64 T.t, .int .i64 T.n, .int .i64 T.d, .int .i64 T.r, .int .i64 T.l, .int .i64 T.x, .int .i64 T.p, .int .i64 T.k, .int .i64 T.s, .int .i64 T.e] 23) = W := ⟨_, rfl⟩
      rw [hW1] at b0 tA
      obtain ⟨P0, hP0⟩ : ∃ P, w.heap.size = P := ⟨_, rfl⟩
      rw [hP0] at tA
      have lP : P0 < W1.heap.size := tA.lt
      have HT := hide hT
      clear hT
      have rB := rB.next b0
      have bl := bstep bl b0
      clear b0
      have CN := hide (fun W => SN T W)
      have CK := hide (fun W h => recipWakes_any SN SR W h)
      have HR := hide SR
      have HZ := hide SZ
      have HA := hide SA
      clear SN SR SZ SA
      unfold Tab.val at CN ⊢
      go_enter Tryz.func3, Tryz.ntmps3
      go_wp2_with fail
      refine (unhide Cb _).mono ?_
      rintro e wcb ⟨rfl, rfl⟩
      clear Cb
      have tX0 := tA
      obtain ⟨p0, p1, p2, p3, p4, p5, p6, p7, p8, p9, p10⟩ := tX0
      go_wp2_with fail
      refine (unhide CN _).mono ?_
      rintro e w1 ⟨gr, gd, gm, gt, gk, ge, g, rfl, E, hn, b⟩
      clear p0 p1 p2 p3 p4 p5 p6 p7 p8 p9 p10
      have hg : w.heap.size ≤ g := by omega
      clear hn tA lP CN
      have rB := rB.next b
      have bl := bstep bl b
      clear b
      have lg := E.met.lt
      obtain ⟨S1, hS1⟩ : ∃ S1, S1 = w1.heap.size := ⟨_, rfl⟩
      rw [← hS1] at lg
      have sz : S1 ≤ w1.heap.size := Nat.le_of_eq hS1
      clear hS1
      go_wp2_with fail
      refine (lend_any _ gb bb ob cb m vs (unhide HLb) (by omega) rB F (unhide HF)).mono ?_
      rintro e w2 ⟨rfl, ol, b⟩
      obtain ⟨rX, tX⟩ := lent_rep ol (unhide HLb)
      clear ol
      have rB := rB.next b
      have E := E.next b
      have sz := Nat.le_trans sz b.size
      have bl := bstep bl b
      clear b
      have ix := inM_rep rX dy (unhide HLb) (unhide HEb) (by omega)
      clear rX
      have CR := hide (unhide HA _ gr gd gm gt gk ge g 0 0 0 T _ D z E ix h0 (by omega) (by omega) (by omega))
      clear ix
      go_wp2_with fail
      refine (unhide CR).mono ?_
      rintro e w3 ⟨qa, qc, rfl, E2, b⟩
      clear CR E E2
      have rB := rB.next b
      have tX := tX.next b
      have sz := Nat.le_trans sz b.size
      have bl := bstep bl b
      clear b
      have CZ := hide (zero_in (inM_rep rB dy (unhide HLb) (unhide HEb) (by omega)).inW false (by simp; omega))
      go_wp2_with fail
      refine (unhide CZ).mono ?_
      rintro e wz ⟨rfl, hw⟩
      obtain rfl := hw.symm
      clear hw CZ
      go_wp2_with fail
      refine (unhide CK _ ((unhide HT).next bl)).mono ?_
      rintro e w4 ⟨rfl, b⟩
      have bl := bstep bl b
      clear b
      go_wp2
      go_ret
      exact ⟨rfl, bl⟩

end Go.Proofs.YtpcfghnenhnlpaaGreatDoor
