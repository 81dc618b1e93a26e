/- SchoolSquares: what the law's walk comes to. -/
import Derived.Test.YtdocljbmmaoenaaSWakes
import Derived.Test.YtdocljbmmaoenaaLSchoolMuls
namespace Go.Proofs.Ytdocljbmmaoenaa
open Go.RowKit

set_option maxRecDepth 100000 in
set_option maxHeartbeats 12800000 in
theorem schoolSquares_any (T : Tab) (ga : Option Addr) (ba oa ca la : Nat) (xs : List Nat) (w : World) (hx : xs.length = la) (hA : Rep w ga ba oa ca xs) (wx : ∀ j, xs.getD j 0 < 18446744073709551616) :
    Calls Try.prog 4 #[T.val, .slice ga la ca] w fun e w' => e = .returned (.bool true) ∧ Below w.heap.size w w' := by
  obtain ⟨n, hca⟩ : ∃ k, k = min la 40 := ⟨_, rfl⟩
  have Ca : Hid (∀ w, Calls Try.prog 7 #[.slice ga la ca, .int .i64 40] w fun e w' => e = .returned (.slice ga n ca) ∧ w' = w) := fun w => cut_any w ga la ca 40 n (by have := hA.room; omega) (by omega) hca
  obtain ⟨hla, rA⟩ := cut_rep hA 40 n (by rw [hx]; exact hca)
  have dx : WDig (xs.take n) := take_words wx n
  have hma : n ≤ 40 := by omega
  clear hca hA wx hx
  generalize xs.take n = us at *
  obtain ⟨A, hva⟩ : ∃ k, k = wval us := ⟨_, rfl⟩
  have ba' : A < 18446744073709551616 ^ 40 := by rw [hva]; exact pow_up (wval_lt_pow dx) (by omega)
  have Ba : Hid (A < 4294967296 ^ 80) := by have := ba'; rw [wpow] at this; exact this
  have CFa := hide (fun W (r : Rep W ga ba oa ca us) => from_school W ga ba oa ca n A us hla (by omega) r dx hva)
  have HXL := hide hla
  have HEA := hide hva
  have La : Hid (0 < us.length → ba < w.heap.size) := fun h => rA.lt h
  clear hva hla
  have HPR := hide (prod_lt ba' ba')
  obtain ⟨l1, hl1⟩ : ∃ l1, l1 = n + 1 := ⟨_, rfl⟩
  obtain ⟨Q, hQ⟩ : ∃ Q, Q = n * l1 := ⟨_, rfl⟩
  obtain ⟨P, hP⟩ : ∃ P, P = Q / 2 := ⟨_, rfl⟩
  have HP : Hid (P = n * (n + 1) / 2) := by show _ = _; rw [hP, hQ, hl1]
  have hQb : Q ≤ 40 * 41 := by rw [hQ]; exact Nat.mul_le_mul hma (by omega)
  have e1 : (n : Int) + 1 = (l1 : Int) := by omega
  have hQi : (n : Int) * (l1 : Int) = (Q : Int) := by rw [hQ]; exact (Int.natCast_mul n l1).symm
  have hw1 : IntKind.i64.wrap (l1 : Int) = (l1 : Int) := by rw [IntKind.wrap_i64]; omega
  have hwQ : IntKind.i64.wrap (Q : Int) = (Q : Int) := by rw [IntKind.wrap_i64]; omega
  have hwP : IntKind.i64.wrap (P : Int) = (P : Int) := by rw [IntKind.wrap_i64]; omega
  have e2 : (Q : Int).tdiv 2 = (P : Int) := by rw [Int.tdiv_eq_ediv_of_nonneg (by omega)]; omega
  have e3 : (Q : Int) / 2 = (P : Int) := by omega
  have hPP : ((P : Int) != (P : Int)) = false := by simp
  clear hP hQ hl1 ba'
  obtain ⟨F, hF⟩ : ∃ F, F = 6148914691236517205 := ⟨_, rfl⟩
  have HF := hide hF
  clear hF
  have bl := Below.refl w.heap.size w
  have CN := hide (fun w ob => schoolNew_box T w ob)
  unfold Tab.val at CN ⊢
  go_enter Try.func4, Try.ntmps4
  go_wp2_with fail
  refine (unhide Ca _).mono ?_
  rintro e wca ⟨rfl, rfl⟩
  clear Ca
  go_wp2_with fail
  refine (unhide CN _ _).mono ?_
  rintro e w1 ⟨ge, g, rfl, E, hg, hge, b⟩
  have Na : Hid (0 < us.length → ba ≠ g) := fun h => by have := unhide La h; omega
  have hgl := E.met.lt
  have rA := rA.next b
  have bl := bstep bl b
  clear b
  go_wp2_with fail
  refine (lend_any _ ga ba oa ca n us (unhide HXL) (by omega) rA F (unhide HF)).mono ?_
  rintro e w3 ⟨rfl, o3, b⟩
  obtain ⟨r3, t3⟩ := lent_rep o3 (unhide HXL)
  clear o3
  have rA := rA.next b
  have E := E.next b
  have bl := bstep bl b
  clear b
  obtain ⟨g1, hg1⟩ : ∃ g1, g1 = w1.heap.size := ⟨_, rfl⟩
  rw [← hg1] at r3 t3 hgl ⊢
  obtain ⟨S4, hS4⟩ : ∃ S4, S4 = w3.heap.size := ⟨_, rfl⟩
  have hl1 : g1 < S4 := by rw [hS4]; exact t3.lt (by simp)
  have hSw : w.heap.size ≤ S4 := by rw [hS4]; exact bl.size
  have hAb : Hid (0 < us.length → ba < S4) := fun h => by rw [hS4]; exact rA.lt h
  clear hg1
  have ix := lent_inG r3 (unhide HXL) dx A (unhide HEA) (g0 := g) (by omega)
  clear r3 La CN
  go_wp2_with fail
  refine (schoolSqr_any E _ A n P ix (by omega) (by omega) (by omega) (unhide HP)).mono ?_
  rintro e w5 ⟨r, rfl, ns, E, G⟩
  rw [Int.zero_add] at E
  have ns : NewB S4 w5.heap.size w5 r (A * A) := by rw [hS4]; exact ns.born
  obtain ⟨S5, hS5⟩ : ∃ S5, S5 = w5.heap.size := ⟨_, rfl⟩
  rw [← hS5] at ns
  have h45 : S4 ≤ S5 := by rw [hS4, hS5]; exact G.size
  have rA := rA.but G (unhide Na)
  have t3 := t3.but G (fun _ => by omega)
  have bl := below_grown bl G hg bl.size
  clear G ix hS4 hS5
  go_wp2_with fail
  refine (unhide CFa _ rA).mono ?_
  rintro e w6 ⟨v1, rfl, n1, b⟩
  have rA := rA.next b
  have t3 := t3.next b
  have E := E.next b
  have ns := ns.next b
  have bl := bstep bl b
  clear b
  go_wp2_with fail
  refine (unhide CFa _ rA).mono ?_
  rintro e w7 ⟨v2, rfl, n2, b⟩
  have rA := rA.next b
  have t3 := t3.next b
  have E := E.next b
  have ns := ns.next b
  have n1 := n1.next b
  have bl := bstep bl b
  clear b
  go_wp2_with fail
  refine (mul_any _ v1 v2 A A 80 (by omega) (unhide Ba) (unhide Ba) n1 n2).mono ?_
  rintro e w8 ⟨v3, rfl, n3, b⟩
  clear n1 n2
  have rA := rA.next b
  have t3 := t3.next b
  have E := E.next b
  have ns := ns.next b
  have bl := bstep bl b
  clear b
  go_wp2_with fail
  refine (same_new _ _ _ S4 _ 80 (by omega) (unhide HPR) n3 ns.toW).mono ?_
  rintro e w9 ⟨rfl, b⟩
  clear n3
  have rA := rA.next b
  have t3 := t3.next b
  have E := E.next b
  have ns := ns.next b
  have bl := bstep bl b
  clear b
  have cE := E.ptr
  go_wp2_with fail
  refine (muls_any E.met).mono ?_
  rintro e w10 ⟨rfl, rfl⟩
  clear cE E
  go_wp2_with fail
  refine (spoil_any _ _ _ _ _ ns).mono ?_
  rintro e w11 ⟨rfl, sp⟩
  have rA := rA.spoilt sp (fun h => Or.inl (unhide hAb h))
  have t3 := t3.spoilt sp (fun h => Or.inl hl1)
  have bl := below_spoilt bl sp hSw bl.size
  clear ns sp
  go_wp2_with fail
  refine (intact_any _ ga g1 ba oa ca n us (unhide HXL) (by omega) rA F (unhide HF) t3).mono ?_
  rintro e w12 ⟨rfl, b⟩
  have bl := bstep bl b
  clear b
  go_wp2_with fail
  refine (schoolWakes_any _).mono ?_
  rintro e w14 ⟨rfl, b⟩
  have bl := bstep bl b
  clear b
  go_wp2
  go_ret
  exact ⟨rfl, bl⟩

end Go.Proofs.Ytdocljbmmaoenaa
