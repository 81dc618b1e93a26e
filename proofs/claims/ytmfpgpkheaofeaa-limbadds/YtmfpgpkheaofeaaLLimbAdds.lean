/- LimbAdds: what the law's walk comes to. -/
import Derived.Test.YtmfpgpkheaofeaaLawKit
namespace Go.Proofs.Ytmfpgpkheaofeaa
open Go.RowKit

set_option maxRecDepth 100000 in
set_option maxHeartbeats 12800000 in
theorem limbAdds_any (ga gb : Option Addr) (ba oa bb ob ca cb la lb : Nat) (xs ys : List Nat) (w : World) (hx : xs.length = la) (hy : ys.length = lb)
    (hA : Rep w ga ba oa ca xs) (hB : Rep w gb bb ob cb ys) (wx : ∀ j, xs.getD j 0 < 18446744073709551616) (wy : ∀ j, ys.getD j 0 < 18446744073709551616) :
    Calls Try.prog 3 #[.slice ga la ca, .slice gb lb cb] w fun e w' => e = .returned (.bool true) ∧ Below w.heap.size w w' := by
  obtain ⟨n, hn⟩ : ∃ n, n = min la 60 := ⟨_, rfl⟩
  obtain ⟨m, hm⟩ : ∃ m, m = min lb 60 := ⟨_, rfl⟩
  have C1 : Hid (∀ w, Calls Try.prog 9 #[.slice ga la ca, .int .i64 60] w fun e w' => e = .returned (.slice ga n ca) ∧ w' = w) := fun w => cut_any w ga la ca 60 n (by have := hA.room; omega) (by omega) hn
  have C2 : Hid (∀ w, Calls Try.prog 9 #[.slice gb lb cb, .int .i64 60] w fun e w' => e = .returned (.slice gb m cb) ∧ w' = w) := fun w => cut_any w gb lb cb 60 m (by have := hB.room; omega) (by omega) hm
  obtain ⟨hxl, rA⟩ := cut_rep hA 60 n (by rw [hx]; exact hn)
  obtain ⟨hyl, rB⟩ := cut_rep hB 60 m (by rw [hy]; exact hm)
  have dx : WDig (xs.take n) := take_words wx n
  have dy : WDig (ys.take m) := take_words wy m
  have hn60 : n ≤ 60 := by omega
  have hm60 : m ≤ 60 := by omega
  clear hn hm hA hB wx wy hx hy
  generalize xs.take n = us at *
  generalize ys.take m = vs at *
  obtain ⟨F, hF⟩ : ∃ F, F = 6148914691236517205 := ⟨_, rfl⟩
  have HF := hide hF
  obtain ⟨A, hA⟩ : ∃ A, A = wval us := ⟨_, rfl⟩
  obtain ⟨D, hD⟩ : ∃ D, D = wval vs := ⟨_, rfl⟩
  have hA60 : A < 18446744073709551616 ^ 60 := by rw [hA]; exact pow_up (wval_lt_pow dx) (by omega)
  have hD60 : D < 18446744073709551616 ^ 60 := by rw [hD]; exact pow_up (wval_lt_pow dy) (by omega)
  have HS61 := hide (pow_sum hA60 hD60)
  have hA120 : Hid (A < 4294967296 ^ 120) := by have := hA60; rw [wpow] at this; exact this
  have hD120 : Hid (D < 4294967296 ^ 120) := by have := hD60; rw [wpow] at this; exact this
  have HA61 := hide (pow_up hA60 (q := 61) (by omega))
  have CFA := hide (fun W (r : Rep W ga ba oa ca us) => from_law W ga ba oa ca n A us hxl (by omega) r dx hA)
  have CFB := hide (fun W (r : Rep W gb bb ob cb vs) => from_law W gb bb ob cb m D vs hyl (by omega) r dy hD)
  have HXL := hide hxl
  have HYL := hide hyl
  have HEA := hide hA
  have HED := hide hD
  have hAb : Hid (0 < us.length → ba < w.heap.size) := fun h => rA.lt h
  have hBb : Hid (0 < vs.length → bb < w.heap.size) := fun h => rB.lt h
  clear hF hA hD hA60 hD60 hxl hyl
  have bl := Below.refl w.heap.size w
  go_enter Try.func3, Try.ntmps3
  go_wp2_with fail
  refine (unhide C1 _).mono ?_
  rintro e w1 ⟨rfl, rfl⟩
  go_wp2_with fail
  refine (unhide C2 _).mono ?_
  rintro e w2 ⟨rfl, rfl⟩
  clear C1 C2
  go_wp2_with fail
  refine (lend_any _ ga ba oa ca n us (unhide HXL) (by omega) rA F (unhide HF)).mono ?_
  rintro e w3 ⟨rfl, o3, b3⟩
  obtain ⟨r3, t3⟩ := lent_rep o3 (unhide HXL)
  clear o3
  have rA := rA.next b3
  have rB := rB.next b3
  have bl := bstep bl b3
  clear b3
  go_wp2_with fail
  refine (lend_any _ gb bb ob cb m vs (unhide HYL) (by omega) rB F (unhide HF)).mono ?_
  rintro e w4 ⟨rfl, o4, b4⟩
  obtain ⟨r4, t4⟩ := lent_rep o4 (unhide HYL)
  clear o4
  have rA := rA.next b4
  have rB := rB.next b4
  have r3 := r3.next b4
  have t3 := t3.next b4
  have bl := bstep bl b4
  clear b4
  obtain ⟨g1, hg1⟩ : ∃ g1, g1 = w2.heap.size := ⟨_, rfl⟩
  obtain ⟨g2, hg2⟩ : ∃ g2, g2 = w3.heap.size := ⟨_, rfl⟩
  rw [← hg1] at r3 t3 ⊢
  rw [← hg2] at r4 t4 ⊢
  obtain ⟨S4, hS4⟩ : ∃ S4, S4 = w4.heap.size := ⟨_, rfl⟩
  have hl1 : g1 < S4 := by rw [hS4]; exact t3.lt (by simp)
  have hl2 : g2 < S4 := by rw [hS4]; exact t4.lt (by simp)
  have hSw : w2.heap.size ≤ S4 := by rw [hS4]; exact bl.size
  have hAb : Hid (0 < us.length → ba < S4) := fun h => by rw [hS4]; exact rA.lt h
  have hBb : Hid (0 < vs.length → bb < S4) := fun h => by rw [hS4]; exact rB.lt h
  clear hg1 hg2
  have ix := lent_in r3 (unhide HXL) (by omega) dx A (unhide HEA)
  have iy := lent_in r4 (unhide HYL) (by omega) dy D (unhide HED)
  clear r3 r4
  go_wp2_with fail
  refine (add_w _ _ _ A D ix iy).mono ?_
  rintro e w5 ⟨s, rfl, ns, b5⟩
  have ns : NewB S4 w5.heap.size w5 s (A + D) := by rw [hS4]; exact ns.born
  have rA := rA.next b5
  have rB := rB.next b5
  have t3 := t3.next b5
  have t4 := t4.next b5
  have ix := ix.next b5
  have iy := iy.next b5
  have bl := bstep bl b5
  obtain ⟨S5, hS5⟩ : ∃ S5, S5 = w5.heap.size := ⟨_, rfl⟩
  rw [← hS5] at ns
  have h45 : S4 ≤ S5 := by rw [hS4, hS5]; exact b5.size
  clear b5 hS4
  go_wp2_with fail
  refine (sub_w _ _ _ A D ix iy).mono ?_
  rintro e w6 ⟨b6, h6⟩
  have rA := rA.next b6
  have rB := rB.next b6
  have t3 := t3.next b6
  have t4 := t4.next b6
  have ix := ix.next b6
  have iy := iy.next b6
  have ns := ns.next b6
  have bl := bstep bl b6
  obtain ⟨S6, hS6⟩ : ∃ S6, S6 = w6.heap.size := ⟨_, rfl⟩
  have h56 : S5 ≤ S6 := by rw [hS5, hS6]; exact b6.size
  clear b6
  rcases h6 with ⟨hle, d, rfl, nd⟩ | ⟨hlt, rfl⟩
  · skip
    have nd : NewB S5 S6 w6 d (A - D) := by rw [hS5, hS6]; exact nd.born
    have hc0 : (0 : Int) ≤ cmpN A D := by unfold cmpN; split <;> (try split) <;> omega
    have HAD : Hid (A - D < 18446744073709551616 ^ 61) := Nat.lt_of_le_of_lt (Nat.sub_le _ _) (unhide HA61)
    have HLE := hide hle
    obtain ⟨c, hc⟩ : ∃ c, c = cmpN A D := ⟨_, rfl⟩
    rw [← hc] at hc0
    have HC := hide hc
    have hcc : (c != c) = false := by simp
    clear hS5 hc hle
    have hS6b : S6 ≤ w6.heap.size := by rw [hS6]; exact Nat.le_refl _
    clear hS6
    go_wp2_with fail
    refine (unhide CFA _ rA).mono ?_
    rintro e w7 ⟨v1, rfl, n1, b⟩
    have rA := rA.next b
    have rB := rB.next b
    have t3 := t3.next b
    have t4 := t4.next b
    have ix := ix.next b
    have iy := iy.next b
    have ns := ns.next b
    have nd := nd.next b
    have hS6b := Nat.le_trans hS6b b.size
    have bl := bstep bl b
    clear b
    go_wp2_with fail
    refine (unhide CFB _ rB).mono ?_
    rintro e w8 ⟨v2, rfl, n2, b⟩
    have rA := rA.next b
    have rB := rB.next b
    have t3 := t3.next b
    have t4 := t4.next b
    have ix := ix.next b
    have iy := iy.next b
    have ns := ns.next b
    have nd := nd.next b
    have hS6b := Nat.le_trans hS6b b.size
    have n1 := n1.next b
    have bl := bstep bl b
    clear b
    go_wp2_with fail
    refine (cmp_any _ v1 v2 A D 120 (by omega) (unhide hA120) (unhide hD120) n1 n2).mono ?_
    rintro e w9 ⟨rfl, b⟩
    have rA := rA.next b
    have rB := rB.next b
    have t3 := t3.next b
    have t4 := t4.next b
    have ix := ix.next b
    have iy := iy.next b
    have ns := ns.next b
    have nd := nd.next b
    have hS6b := Nat.le_trans hS6b b.size
    have n1 := n1.next b
    have n2 := n2.next b
    have bl := bstep bl b
    clear b
    rw [← unhide HC]
    clear n1 n2
    go_wp2_with fail
    refine (unhide CFA _ rA).mono ?_
    rintro e w10 ⟨v3, rfl, n1, b⟩
    have rA := rA.next b
    have rB := rB.next b
    have t3 := t3.next b
    have t4 := t4.next b
    have ix := ix.next b
    have iy := iy.next b
    have ns := ns.next b
    have nd := nd.next b
    have hS6b := Nat.le_trans hS6b b.size
    have bl := bstep bl b
    clear b
    go_wp2_with fail
    refine (unhide CFB _ rB).mono ?_
    rintro e w11 ⟨v4, rfl, n2, b⟩
    have rA := rA.next b
    have rB := rB.next b
    have t3 := t3.next b
    have t4 := t4.next b
    have ix := ix.next b
    have iy := iy.next b
    have ns := ns.next b
    have nd := nd.next b
    have hS6b := Nat.le_trans hS6b b.size
    have n1 := n1.next b
    have bl := bstep bl b
    clear b
    go_wp2_with fail
    refine (add_any _ v3 v4 A D 120 (by omega) (unhide hA120) (unhide hD120) n1 n2).mono ?_
    rintro e w12 ⟨v5, rfl, n3, b⟩
    have rA := rA.next b
    have rB := rB.next b
    have t3 := t3.next b
    have t4 := t4.next b
    have ix := ix.next b
    have iy := iy.next b
    have ns := ns.next b
    have nd := nd.next b
    have hS6b := Nat.le_trans hS6b b.size
    have n1 := n1.next b
    have n2 := n2.next b
    have bl := bstep bl b
    clear b
    go_wp2_with fail
    refine (same_new _ _ _ S4 _ 61 (by omega) (unhide HS61) n3 ns.toW).mono ?_
    rintro e w13 ⟨rfl, b⟩
    have rA := rA.next b
    have rB := rB.next b
    have t3 := t3.next b
    have t4 := t4.next b
    have ix := ix.next b
    have iy := iy.next b
    have ns := ns.next b
    have nd := nd.next b
    have hS6b := Nat.le_trans hS6b b.size
    have n1 := n1.next b
    have n2 := n2.next b
    have n3 := n3.next b
    have bl := bstep bl b
    clear b
    clear n1 n2 n3
    go_wp2_with fail
    refine (cmp_w _ _ _ A D ix iy).mono ?_
    rintro e w14 ⟨rfl, b⟩
    have rA := rA.next b
    have rB := rB.next b
    have t3 := t3.next b
    have t4 := t4.next b
    have ix := ix.next b
    have iy := iy.next b
    have ns := ns.next b
    have nd := nd.next b
    have hS6b := Nat.le_trans hS6b b.size
    have bl := bstep bl b
    clear b
    rw [← unhide HC]
    go_wp2_with fail
    refine (unhide CFA _ rA).mono ?_
    rintro e w15 ⟨v6, rfl, n1, b⟩
    have rA := rA.next b
    have rB := rB.next b
    have t3 := t3.next b
    have t4 := t4.next b
    have ix := ix.next b
    have iy := iy.next b
    have ns := ns.next b
    have nd := nd.next b
    have hS6b := Nat.le_trans hS6b b.size
    have bl := bstep bl b
    clear b
    go_wp2_with fail
    refine (unhide CFB _ rB).mono ?_
    rintro e w16 ⟨v7, rfl, n2, b⟩
    have rA := rA.next b
    have rB := rB.next b
    have t3 := t3.next b
    have t4 := t4.next b
    have ix := ix.next b
    have iy := iy.next b
    have ns := ns.next b
    have nd := nd.next b
    have hS6b := Nat.le_trans hS6b b.size
    have n1 := n1.next b
    have bl := bstep bl b
    clear b
    go_wp2_with fail
    refine (sub_any _ v6 v7 A D 120 (by omega) (unhide hA120) (unhide HLE) n1 n2).mono ?_
    rintro e w17 ⟨v8, rfl, n3, b⟩
    have rA := rA.next b
    have rB := rB.next b
    have t3 := t3.next b
    have t4 := t4.next b
    have ix := ix.next b
    have iy := iy.next b
    have ns := ns.next b
    have nd := nd.next b
    have hS6b := Nat.le_trans hS6b b.size
    have n1 := n1.next b
    have n2 := n2.next b
    have bl := bstep bl b
    clear b
    go_wp2_with fail
    refine (same_new _ _ _ S5 _ 61 (by omega) (unhide HAD) n3 nd.toW).mono ?_
    rintro e w18 ⟨rfl, b⟩
    have rA := rA.next b
    have rB := rB.next b
    have t3 := t3.next b
    have t4 := t4.next b
    have ix := ix.next b
    have iy := iy.next b
    have ns := ns.next b
    have nd := nd.next b
    have hS6b := Nat.le_trans hS6b b.size
    have n1 := n1.next b
    have n2 := n2.next b
    have n3 := n3.next b
    have bl := bstep bl b
    clear b
    clear n1 n2 n3
    obtain ⟨S7, hS7⟩ : ∃ S7, S7 = w18.heap.size := ⟨_, rfl⟩
    have h67 : S6 ≤ S7 := by rw [hS7]; exact hS6b
    clear hS6b
    go_wp2_with fail
    refine (norm_w _ _ A ix).mono ?_
    rintro e w19 ⟨nv, rfl, nn, b⟩
    have nn : NewB S7 w19.heap.size w19 nv A := by rw [hS7]; exact nn.born
    have rA := rA.next b
    have rB := rB.next b
    have t3 := t3.next b
    have t4 := t4.next b
    have ix := ix.next b
    have iy := iy.next b
    have ns := ns.next b
    have nd := nd.next b
    have bl := bstep bl b
    obtain ⟨S8, hS8⟩ : ∃ S8, S8 = w19.heap.size := ⟨_, rfl⟩
    rw [← hS8] at nn
    have hS8b : S8 ≤ w19.heap.size := by rw [hS8]; exact Nat.le_refl _
    clear ix iy b hS7 hS8
    go_wp2_with fail
    refine (spoil_any _ s _ S4 S5 ns).mono ?_
    rintro e w20 ⟨rfl, sp⟩
    have rA := rA.spoilt sp (fun h => Or.inl (by have := unhide hAb h; omega))
    have rB := rB.spoilt sp (fun h => Or.inl (by have := unhide hBb h; omega))
    have t3 := t3.spoilt sp (fun _ => Or.inl (by omega))
    have t4 := t4.spoilt sp (fun _ => Or.inl (by omega))
    have nd := nd.spoilt sp (Or.inl (by omega))
    have nn := nn.spoilt sp (Or.inl (by omega))
    have bl := below_spoilt bl sp (by omega) bl.size
    clear sp ns
    go_wp2_with fail
    refine (spoil_any _ d _ S5 S6 nd).mono ?_
    rintro e w21 ⟨rfl, sp⟩
    have rA := rA.spoilt sp (fun h => Or.inl (by have := unhide hAb h; omega))
    have rB := rB.spoilt sp (fun h => Or.inl (by have := unhide hBb h; omega))
    have t3 := t3.spoilt sp (fun _ => Or.inl (by omega))
    have t4 := t4.spoilt sp (fun _ => Or.inl (by omega))
    have nn := nn.spoilt sp (Or.inl (by omega))
    have bl := below_spoilt bl sp (by omega) bl.size
    clear sp nd
    go_wp2_with fail
    refine (unhide CFA _ rA).mono ?_
    rintro e w22 ⟨v9, rfl, n1, b⟩
    have rA := rA.next b
    have rB := rB.next b
    have t3 := t3.next b
    have t4 := t4.next b
    have nn := nn.next b
    have bl := bstep bl b
    clear b
    go_wp2_with fail
    refine (same_new _ _ _ S7 _ 61 (by omega) (unhide HA61) n1 nn.toW).mono ?_
    rintro e w23 ⟨rfl, b⟩
    have rA := rA.next b
    have rB := rB.next b
    have t3 := t3.next b
    have t4 := t4.next b
    have nn := nn.next b
    have n1 := n1.next b
    have bl := bstep bl b
    clear b
    clear n1
    go_wp2_with fail
    refine (spoil_any _ nv _ S7 S8 nn).mono ?_
    rintro e w24 ⟨rfl, sp⟩
    have rA := rA.spoilt sp (fun h => Or.inl (by have := unhide hAb h; omega))
    have rB := rB.spoilt sp (fun h => Or.inl (by have := unhide hBb h; omega))
    have t3 := t3.spoilt sp (fun _ => Or.inl (by omega))
    have t4 := t4.spoilt sp (fun _ => Or.inl (by omega))
    have bl := below_spoilt bl sp (by omega) bl.size
    clear sp nn
    go_wp2_with fail
    refine (intact_any _ ga g1 ba oa ca n us (unhide HXL) (by omega) rA F (unhide HF) t3).mono ?_
    rintro e w25 ⟨rfl, b⟩
    have rA := rA.next b
    have rB := rB.next b
    have t3 := t3.next b
    have t4 := t4.next b
    have bl := bstep bl b
    clear b
    go_wp2_with fail
    refine (intact_any _ gb g2 bb ob cb m vs (unhide HYL) (by omega) rB F (unhide HF) t4).mono ?_
    rintro e w26 ⟨rfl, b⟩
    have rA := rA.next b
    have rB := rB.next b
    have t3 := t3.next b
    have t4 := t4.next b
    have bl := bstep bl b
    clear b
    go_wp2_with fail
    refine (wakes_any _).mono ?_
    rintro e w27 ⟨rfl, b⟩
    have rA := rA.next b
    have rB := rB.next b
    have t3 := t3.next b
    have t4 := t4.next b
    have bl := bstep bl b
    clear b
    go_wp2
    go_ret
    exact ⟨rfl, bl⟩
  · skip
    have nd : NewB S5 S6 w6 (.slice none 0 0) 0 := newB_nil _ _ _
    have hc0 : ¬ (0 : Int) ≤ cmpN A D := by rw [cmpN_lt hlt]; decide
    clear hlt
    obtain ⟨c, hc⟩ : ∃ c, c = cmpN A D := ⟨_, rfl⟩
    rw [← hc] at hc0
    have HC := hide hc
    have hcc : (c != c) = false := by simp
    clear hS5 hc
    have hS6b : S6 ≤ w6.heap.size := by rw [hS6]; exact Nat.le_refl _
    clear hS6
    go_wp2_with fail
    refine (unhide CFA _ rA).mono ?_
    rintro e w7 ⟨v1, rfl, n1, b⟩
    have rA := rA.next b
    have rB := rB.next b
    have t3 := t3.next b
    have t4 := t4.next b
    have ix := ix.next b
    have iy := iy.next b
    have ns := ns.next b
    have nd := nd.next b
    have hS6b := Nat.le_trans hS6b b.size
    have bl := bstep bl b
    clear b
    go_wp2_with fail
    refine (unhide CFB _ rB).mono ?_
    rintro e w8 ⟨v2, rfl, n2, b⟩
    have rA := rA.next b
    have rB := rB.next b
    have t3 := t3.next b
    have t4 := t4.next b
    have ix := ix.next b
    have iy := iy.next b
    have ns := ns.next b
    have nd := nd.next b
    have hS6b := Nat.le_trans hS6b b.size
    have n1 := n1.next b
    have bl := bstep bl b
    clear b
    go_wp2_with fail
    refine (cmp_any _ v1 v2 A D 120 (by omega) (unhide hA120) (unhide hD120) n1 n2).mono ?_
    rintro e w9 ⟨rfl, b⟩
    have rA := rA.next b
    have rB := rB.next b
    have t3 := t3.next b
    have t4 := t4.next b
    have ix := ix.next b
    have iy := iy.next b
    have ns := ns.next b
    have nd := nd.next b
    have hS6b := Nat.le_trans hS6b b.size
    have n1 := n1.next b
    have n2 := n2.next b
    have bl := bstep bl b
    clear b
    rw [← unhide HC]
    clear n1 n2
    go_wp2_with fail
    refine (unhide CFA _ rA).mono ?_
    rintro e w10 ⟨v3, rfl, n1, b⟩
    have rA := rA.next b
    have rB := rB.next b
    have t3 := t3.next b
    have t4 := t4.next b
    have ix := ix.next b
    have iy := iy.next b
    have ns := ns.next b
    have nd := nd.next b
    have hS6b := Nat.le_trans hS6b b.size
    have bl := bstep bl b
    clear b
    go_wp2_with fail
    refine (unhide CFB _ rB).mono ?_
    rintro e w11 ⟨v4, rfl, n2, b⟩
    have rA := rA.next b
    have rB := rB.next b
    have t3 := t3.next b
    have t4 := t4.next b
    have ix := ix.next b
    have iy := iy.next b
    have ns := ns.next b
    have nd := nd.next b
    have hS6b := Nat.le_trans hS6b b.size
    have n1 := n1.next b
    have bl := bstep bl b
    clear b
    go_wp2_with fail
    refine (add_any _ v3 v4 A D 120 (by omega) (unhide hA120) (unhide hD120) n1 n2).mono ?_
    rintro e w12 ⟨v5, rfl, n3, b⟩
    have rA := rA.next b
    have rB := rB.next b
    have t3 := t3.next b
    have t4 := t4.next b
    have ix := ix.next b
    have iy := iy.next b
    have ns := ns.next b
    have nd := nd.next b
    have hS6b := Nat.le_trans hS6b b.size
    have n1 := n1.next b
    have n2 := n2.next b
    have bl := bstep bl b
    clear b
    go_wp2_with fail
    refine (same_new _ _ _ S4 _ 61 (by omega) (unhide HS61) n3 ns.toW).mono ?_
    rintro e w13 ⟨rfl, b⟩
    have rA := rA.next b
    have rB := rB.next b
    have t3 := t3.next b
    have t4 := t4.next b
    have ix := ix.next b
    have iy := iy.next b
    have ns := ns.next b
    have nd := nd.next b
    have hS6b := Nat.le_trans hS6b b.size
    have n1 := n1.next b
    have n2 := n2.next b
    have n3 := n3.next b
    have bl := bstep bl b
    clear b
    clear n1 n2 n3
    go_wp2_with fail
    refine (cmp_w _ _ _ A D ix iy).mono ?_
    rintro e w14 ⟨rfl, b⟩
    have rA := rA.next b
    have rB := rB.next b
    have t3 := t3.next b
    have t4 := t4.next b
    have ix := ix.next b
    have iy := iy.next b
    have ns := ns.next b
    have nd := nd.next b
    have hS6b := Nat.le_trans hS6b b.size
    have bl := bstep bl b
    clear b
    rw [← unhide HC]
    obtain ⟨S7, hS7⟩ : ∃ S7, S7 = w14.heap.size := ⟨_, rfl⟩
    have h67 : S6 ≤ S7 := by rw [hS7]; exact hS6b
    clear hS6b
    go_wp2_with fail
    refine (norm_w _ _ A ix).mono ?_
    rintro e w15 ⟨nv, rfl, nn, b⟩
    have nn : NewB S7 w15.heap.size w15 nv A := by rw [hS7]; exact nn.born
    have rA := rA.next b
    have rB := rB.next b
    have t3 := t3.next b
    have t4 := t4.next b
    have ix := ix.next b
    have iy := iy.next b
    have ns := ns.next b
    have nd := nd.next b
    have bl := bstep bl b
    obtain ⟨S8, hS8⟩ : ∃ S8, S8 = w15.heap.size := ⟨_, rfl⟩
    rw [← hS8] at nn
    have hS8b : S8 ≤ w15.heap.size := by rw [hS8]; exact Nat.le_refl _
    clear ix iy b hS7 hS8
    go_wp2_with fail
    refine (spoil_any _ s _ S4 S5 ns).mono ?_
    rintro e w16 ⟨rfl, sp⟩
    have rA := rA.spoilt sp (fun h => Or.inl (by have := unhide hAb h; omega))
    have rB := rB.spoilt sp (fun h => Or.inl (by have := unhide hBb h; omega))
    have t3 := t3.spoilt sp (fun _ => Or.inl (by omega))
    have t4 := t4.spoilt sp (fun _ => Or.inl (by omega))
    have nd := nd.spoilt sp (Or.inl (by omega))
    have nn := nn.spoilt sp (Or.inl (by omega))
    have bl := below_spoilt bl sp (by omega) bl.size
    clear sp ns
    go_wp2_with fail
    refine (spoil_any _ (.slice none 0 0) _ S5 S6 nd).mono ?_
    rintro e w17 ⟨rfl, sp⟩
    have rA := rA.spoilt sp (fun h => Or.inl (by have := unhide hAb h; omega))
    have rB := rB.spoilt sp (fun h => Or.inl (by have := unhide hBb h; omega))
    have t3 := t3.spoilt sp (fun _ => Or.inl (by omega))
    have t4 := t4.spoilt sp (fun _ => Or.inl (by omega))
    have nn := nn.spoilt sp (Or.inl (by omega))
    have bl := below_spoilt bl sp (by omega) bl.size
    clear sp nd
    go_wp2_with fail
    refine (unhide CFA _ rA).mono ?_
    rintro e w18 ⟨v9, rfl, n1, b⟩
    have rA := rA.next b
    have rB := rB.next b
    have t3 := t3.next b
    have t4 := t4.next b
    have nn := nn.next b
    have bl := bstep bl b
    clear b
    go_wp2_with fail
    refine (same_new _ _ _ S7 _ 61 (by omega) (unhide HA61) n1 nn.toW).mono ?_
    rintro e w19 ⟨rfl, b⟩
    have rA := rA.next b
    have rB := rB.next b
    have t3 := t3.next b
    have t4 := t4.next b
    have nn := nn.next b
    have n1 := n1.next b
    have bl := bstep bl b
    clear b
    clear n1
    go_wp2_with fail
    refine (spoil_any _ nv _ S7 S8 nn).mono ?_
    rintro e w20 ⟨rfl, sp⟩
    have rA := rA.spoilt sp (fun h => Or.inl (by have := unhide hAb h; omega))
    have rB := rB.spoilt sp (fun h => Or.inl (by have := unhide hBb h; omega))
    have t3 := t3.spoilt sp (fun _ => Or.inl (by omega))
    have t4 := t4.spoilt sp (fun _ => Or.inl (by omega))
    have bl := below_spoilt bl sp (by omega) bl.size
    clear sp nn
    go_wp2_with fail
    refine (intact_any _ ga g1 ba oa ca n us (unhide HXL) (by omega) rA F (unhide HF) t3).mono ?_
    rintro e w21 ⟨rfl, b⟩
    have rA := rA.next b
    have rB := rB.next b
    have t3 := t3.next b
    have t4 := t4.next b
    have bl := bstep bl b
    clear b
    go_wp2_with fail
    refine (intact_any _ gb g2 bb ob cb m vs (unhide HYL) (by omega) rB F (unhide HF) t4).mono ?_
    rintro e w22 ⟨rfl, b⟩
    have rA := rA.next b
    have rB := rB.next b
    have t3 := t3.next b
    have t4 := t4.next b
    have bl := bstep bl b
    clear b
    go_wp2_with fail
    refine (wakes_any _).mono ?_
    rintro e w23 ⟨rfl, b⟩
    have rA := rA.next b
    have rB := rB.next b
    have t3 := t3.next b
    have t4 := t4.next b
    have bl := bstep bl b
    clear b
    go_wp2
    go_ret
    exact ⟨rfl, bl⟩

end Go.Proofs.Ytmfpgpkheaofeaa
