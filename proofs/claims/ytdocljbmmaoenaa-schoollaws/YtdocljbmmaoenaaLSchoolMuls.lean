/- SchoolMuls: what the law's walk comes to. -/
import Derived.Test.YtdocljbmmaoenaaSWakes
namespace Go.Proofs.Ytdocljbmmaoenaa
open Go.RowKit

theorem lent_inG {w : World} {g g0 n : Nat} {us : List Nat} (h : Rep w (some ⟨g, 0, none⟩) g 0 (n + 4) us) (hl : us.length = n) (hd : WDig us) (A : Nat) (hA : A = wval us) (hg : g ≠ g0) : InG g0 w (.slice (some ⟨g, 0, none⟩) n (n + 4)) A n :=
  ⟨_, _, _, _, us, rfl, hl, h, hd, hA.symm, fun _ => hg⟩
theorem prod_lt {A D p q : Nat} (hA : A < 18446744073709551616 ^ p) (hD : D < 18446744073709551616 ^ q) : A * D < 18446744073709551616 ^ (p + q) := by
  have := Nat.mul_lt_mul'' hA hD
  rwa [← Nat.pow_add] at this

set_option maxRecDepth 100000 in
set_option maxHeartbeats 12800000 in
theorem schoolMuls_any (T : Tab) (ga : Option Addr) (ba oa ca la : Nat) (xs : List Nat) (gb : Option Addr) (bb ob cb lb : Nat) (ys : List Nat) (w : World) (hx : xs.length = la) (hA : Rep w ga ba oa ca xs) (wx : ∀ j, xs.getD j 0 < 18446744073709551616) (hy : ys.length = lb) (hB : Rep w gb bb ob cb ys) (wy : ∀ j, ys.getD j 0 < 18446744073709551616) :
    Calls Try.prog 3 #[T.val, .slice ga la ca, .slice gb lb cb] w fun e w' => e = .returned (.bool true) ∧ Below w.heap.size w w' := by
  obtain ⟨n, hca⟩ : ∃ k, k = min la 40 := ⟨_, rfl⟩
  have Ca : Hid (∀ w, Calls Try.prog 7 #[.slice ga la ca, .int .i64 40] w fun e w' => e = .returned (.slice ga n ca) ∧ w' = w) := fun w => cut_any w ga la ca 40 n (by have := hA.room; omega) (by omega) hca
  obtain ⟨hla, rA⟩ := cut_rep hA 40 n (by rw [hx]; exact hca)
  have dx : WDig (xs.take n) := take_words wx n
  have hma : n ≤ 40 := by omega
  obtain ⟨m, hcb⟩ : ∃ k, k = min lb 40 := ⟨_, rfl⟩
  have Cb : Hid (∀ w, Calls Try.prog 7 #[.slice gb lb cb, .int .i64 40] w fun e w' => e = .returned (.slice gb m cb) ∧ w' = w) := fun w => cut_any w gb lb cb 40 m (by have := hB.room; omega) (by omega) hcb
  obtain ⟨hlb, rB⟩ := cut_rep hB 40 m (by rw [hy]; exact hcb)
  have dy : WDig (ys.take m) := take_words wy m
  have hmb : m ≤ 40 := by omega
  clear hca hA wx hx hcb hB wy hy
  generalize xs.take n = us at *
  generalize ys.take m = vs at *
  obtain ⟨A, hva⟩ : ∃ k, k = wval us := ⟨_, rfl⟩
  have ba' : A < 18446744073709551616 ^ 40 := by rw [hva]; exact pow_up (wval_lt_pow dx) (by omega)
  have Ba : Hid (A < 4294967296 ^ 80) := by have := ba'; rw [wpow] at this; exact this
  have CFa := hide (fun W (r : Rep W ga ba oa ca us) => from_school W ga ba oa ca n A us hla (by omega) r dx hva)
  have HXL := hide hla
  have HEA := hide hva
  have La : Hid (0 < us.length → ba < w.heap.size) := fun h => rA.lt h
  clear hva hla
  obtain ⟨D, hvb⟩ : ∃ k, k = wval vs := ⟨_, rfl⟩
  have bb' : D < 18446744073709551616 ^ 40 := by rw [hvb]; exact pow_up (wval_lt_pow dy) (by omega)
  have Bb : Hid (D < 4294967296 ^ 80) := by have := bb'; rw [wpow] at this; exact this
  have CFb := hide (fun W (r : Rep W gb bb ob cb vs) => from_school W gb bb ob cb m D vs hlb (by omega) r dy hvb)
  have HYL := hide hlb
  have HED := hide hvb
  have Lb : Hid (0 < vs.length → bb < w.heap.size) := fun h => rB.lt h
  clear hvb hlb
  have HPR := hide (prod_lt ba' bb')
  obtain ⟨P, hP⟩ : ∃ P, P = n * m := ⟨_, rfl⟩
  have hPi : (n : Int) * (m : Int) = (P : Int) := by rw [hP]; exact (Int.natCast_mul n m).symm
  have hPb : P ≤ 1600 := by rw [hP]; exact Nat.mul_le_mul hma hmb
  have hwP : IntKind.i64.wrap (P : Int) = (P : Int) := by rw [IntKind.wrap_i64]; omega
  have hPP : ((P : Int) != (P : Int)) = false := by simp
  have HP := hide hP
  clear hP ba' bb'
  obtain ⟨F, hF⟩ : ∃ F, F = 6148914691236517205 := ⟨_, rfl⟩
  have HF := hide hF
  clear hF
  have bl := Below.refl w.heap.size w
  have CN := hide (fun w ob => schoolNew_box T w ob)
  unfold Tab.val at CN ⊢
  go_enter Try.func3, Try.ntmps3
  go_wp2_with fail
  refine (unhide Ca _).mono ?_
  rintro e wca ⟨rfl, rfl⟩
  clear Ca
  go_wp2_with fail
  refine (unhide Cb _).mono ?_
  rintro e wcb ⟨rfl, rfl⟩
  clear Cb
  go_wp2_with fail
  refine (unhide CN _ _).mono ?_
  rintro e w1 ⟨ge, g, rfl, E, hg, hge, b⟩
  have Na : Hid (0 < us.length → ba ≠ g) := fun h => by have := unhide La h; omega
  have Nb : Hid (0 < vs.length → bb ≠ g) := fun h => by have := unhide Lb h; omega
  have hgl := E.met.lt
  have rA := rA.next b
  have rB := rB.next b
  have bl := bstep bl b
  clear b
  go_wp2_with fail
  refine (lend_any _ ga ba oa ca n us (unhide HXL) (by omega) rA F (unhide HF)).mono ?_
  rintro e w3 ⟨rfl, o3, b⟩
  obtain ⟨r3, t3⟩ := lent_rep o3 (unhide HXL)
  clear o3
  have h13 := b.size
  have rA := rA.next b
  have rB := rB.next b
  have E := E.next b
  have bl := bstep bl b
  clear b
  go_wp2_with fail
  refine (lend_any _ gb bb ob cb m vs (unhide HYL) (by omega) rB F (unhide HF)).mono ?_
  rintro e w4 ⟨rfl, o4, b⟩
  obtain ⟨r4, t4⟩ := lent_rep o4 (unhide HYL)
  clear o4
  have h34 := b.size
  have rA := rA.next b
  have rB := rB.next b
  have r3 := r3.next b
  have t3 := t3.next b
  have E := E.next b
  have bl := bstep bl b
  clear b
  obtain ⟨g1, hg1⟩ : ∃ g1, g1 = w1.heap.size := ⟨_, rfl⟩
  obtain ⟨g2, hg2⟩ : ∃ g2, g2 = w3.heap.size := ⟨_, rfl⟩
  rw [← hg1] at r3 t3 hgl h13 ⊢
  rw [← hg2] at r4 t4 h34 h13 ⊢
  obtain ⟨S4, hS4⟩ : ∃ S4, S4 = w4.heap.size := ⟨_, rfl⟩
  have hl1 : g1 < S4 := by rw [hS4]; exact t3.lt (by simp)
  have hl2 : g2 < S4 := by rw [hS4]; exact t4.lt (by simp)
  have hSw : w.heap.size ≤ S4 := by rw [hS4]; exact bl.size
  have hAb : Hid (0 < us.length → ba < S4) := fun h => by rw [hS4]; exact rA.lt h
  have hBb : Hid (0 < vs.length → bb < S4) := fun h => by rw [hS4]; exact rB.lt h
  clear hg1 hg2
  have ix := lent_inG r3 (unhide HXL) dx A (unhide HEA) (g0 := g) (by omega)
  have iy := lent_inG r4 (unhide HYL) dy D (unhide HED) (g0 := g) (by omega)
  clear r3 r4 La Lb CN
  go_wp2_with fail
  refine (schoolMul_any E _ _ A D n m ix iy (by omega) (by omega) (by omega) (by omega)).mono ?_
  rintro e w5 ⟨r, rfl, ns, E, G⟩
  rw [← unhide HP, Int.zero_add] at E
  have ns : NewB S4 w5.heap.size w5 r (A * D) := by rw [hS4]; exact ns.born
  obtain ⟨S5, hS5⟩ : ∃ S5, S5 = w5.heap.size := ⟨_, rfl⟩
  rw [← hS5] at ns
  have h45 : S4 ≤ S5 := by rw [hS4, hS5]; exact G.size
  have rA := rA.but G (unhide Na)
  have rB := rB.but G (unhide Nb)
  have t3 := t3.but G (fun _ => by omega)
  have t4 := t4.but G (fun _ => by omega)
  have bl := below_grown bl G hg bl.size
  clear G ix iy hS4 hS5
  go_wp2_with fail
  refine (unhide CFa _ rA).mono ?_
  rintro e w6 ⟨v1, rfl, n1, b⟩
  have rA := rA.next b
  have rB := rB.next b
  have t3 := t3.next b
  have t4 := t4.next b
  have E := E.next b
  have ns := ns.next b
  have bl := bstep bl b
  clear b
  go_wp2_with fail
  refine (unhide CFb _ rB).mono ?_
  rintro e w7 ⟨v2, rfl, n2, b⟩
  have rA := rA.next b
  have rB := rB.next b
  have t3 := t3.next b
  have t4 := t4.next b
  have E := E.next b
  have ns := ns.next b
  have n1 := n1.next b
  have bl := bstep bl b
  clear b
  go_wp2_with fail
  refine (mul_any _ v1 v2 A D 80 (by omega) (unhide Ba) (unhide Bb) n1 n2).mono ?_
  rintro e w8 ⟨v3, rfl, n3, b⟩
  clear n1 n2
  have rA := rA.next b
  have rB := rB.next b
  have t3 := t3.next b
  have t4 := t4.next b
  have E := E.next b
  have ns := ns.next b
  have bl := bstep bl b
  clear b
  go_wp2_with fail
  refine (same_new _ _ _ S4 _ 80 (by omega) (unhide HPR) n3 ns.toW).mono ?_
  rintro e w9 ⟨rfl, b⟩
  clear n3
  have rA := rA.next b
  have rB := rB.next b
  have t3 := t3.next b
  have t4 := t4.next b
  have E := E.next b
  have ns := ns.next b
  have bl := bstep bl b
  clear b
  have cE := E.ptr
  go_wp2_with fail
  refine (muls_any E.met).mono ?_
  rintro e w10 ⟨rfl, rfl⟩
  clear cE E
  go_wp2_with fail
  refine (spoil_any _ _ _ _ _ ns).mono ?_
  rintro e w11 ⟨rfl, sp⟩
  have rA := rA.spoilt sp (fun h => Or.inl (unhide hAb h))
  have rB := rB.spoilt sp (fun h => Or.inl (unhide hBb h))
  have t3 := t3.spoilt sp (fun h => Or.inl hl1)
  have t4 := t4.spoilt sp (fun h => Or.inl hl2)
  have bl := below_spoilt bl sp hSw bl.size
  clear ns sp
  go_wp2_with fail
  refine (intact_any _ ga g1 ba oa ca n us (unhide HXL) (by omega) rA F (unhide HF) t3).mono ?_
  rintro e w12 ⟨rfl, b⟩
  have rB := rB.next b
  have t4 := t4.next b
  have bl := bstep bl b
  clear b
  go_wp2_with fail
  refine (intact_any _ gb g2 bb ob cb m vs (unhide HYL) (by omega) rB F (unhide HF) t4).mono ?_
  rintro e w13 ⟨rfl, b⟩
  have bl := bstep bl b
  clear b
  go_wp2_with fail
  refine (schoolWakes_any _).mono ?_
  rintro e w14 ⟨rfl, b⟩
  have bl := bstep bl b
  clear b
  go_wp2
  go_ret
  exact ⟨rfl, bl⟩

end Go.Proofs.Ytdocljbmmaoenaa
