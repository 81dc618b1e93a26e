/- ConvSquares: what the law's walk comes to, once the code's Sqr is what the document asks. -/
import Derived.Test.YtpifgkhgnilpdaaDoorM16
import Derived.Test.YtpifgkhgnilpdaaDoorM6
namespace Go.Proofs.YtpifgkhgnilpdaaDoor
open Go.RowKit

set_option maxRecDepth 100000 in
set_option maxHeartbeats 6400000 in
theorem convSquares_any (SM : SpecSqr) (SN : SpecSqrNo) (SW : SpecWakes) (ga : Option Addr) (ba oa ca la : Nat) (xs : List Nat) (w : World) (hx : xs.length = la) (hA : Rep w ga ba oa ca xs) (wx : ∀ j, xs.getD j 0 < 18446744073709551616) (hT : TB w) :
    Calls Tryd.prog 5 #[.slice ga la ca] w fun e w' => e = .returned (.bool true) ∧ Below w.heap.size w w' := by
  obtain ⟨n, hca⟩ : ∃ k, k = min la 50 := ⟨_, rfl⟩
  have Ca : Hid (∀ w, Calls Tryd.prog 7 #[.slice ga la ca, .int .i64 50] w fun e w' => e = .returned (.slice ga n ca) ∧ w' = w) := fun w => cut_any w ga la ca 50 n (by have := hA.room; omega) (by omega) hca
  obtain ⟨hla, rA⟩ := cut_rep hA 50 n (by rw [hx]; exact hca)
  have dx : WDig (xs.take n) := take_words wx n
  have hma : n ≤ 50 := by omega
  clear hca hA wx hx
  generalize xs.take n = us at *
  obtain ⟨A, hva⟩ : ∃ k, k = wval us := ⟨_, rfl⟩
  have ba' : A < 18446744073709551616 ^ 50 := by rw [hva]; exact pow_up (wval_lt_pow dx) (by omega)
  have Ba : Hid (A < 4294967296 ^ 100) := by have := ba'; rw [wpow] at this; exact this
  have CFa := hide (fun W (r : Rep W ga ba oa ca us) => from_row W ga ba oa ca n A us hla (by omega) r dx hva)
  have HPR := hide (prodw_lt ba' ba')
  have HVA := hide hva
  have HXL := hide hla
  have La : Hid (0 < us.length → ba < w.heap.size) := fun h => rA.lt h
  have CW := hide SW
  have CM := hide SM
  have CN := hide SN
  have HTB := hide (fun w' (b : Below w.heap.size w w') => hT.next b)
  clear hva hla ba' SM SN SW hT
  obtain ⟨F, hF⟩ : ∃ F, F = 6148914691236517205 := ⟨_, rfl⟩
  have HF := hide hF
  clear hF
  have ow := own_new w 26
  obtain ⟨W1, hW1⟩ : ∃ W1, w.alloc (.cells #[.int .i64 0, .int .i64 0, .int .i64 0] 26) = W1 := ⟨_, rfl⟩
  obtain ⟨G, hG⟩ : ∃ G, w.heap.size = G := ⟨_, rfl⟩
  rw [hW1] at ow
  rw [hG] at ow La
  have HG := hide hG
  have rA1 := hide (rA.next ow.old)
  have O1 := hide ow
  clear rA ow
  go_enter Tryd.func5, Tryd.ntmps5
  go_wp2_with fail
  refine (unhide Ca _).mono ?_
  rintro e wca ⟨rfl, hw⟩
  obtain rfl := hw.symm
  clear Ca hw
  go_wp2_with fail
  refine (lend_any W1 ga ba oa ca n us (unhide HXL) (by omega) (unhide rA1) F (unhide HF)).mono ?_
  rintro e w3 ⟨rfl, o2, b⟩
  obtain ⟨r2, t2⟩ := lent_rep o2 (unhide HXL)
  have O3 := (unhide O1).next b
  have rA := (unhide rA1).next b
  have s2 := t2.lt (by simp)
  have gl := (unhide O1).met.lt
  clear o2 b O1 rA1 hW1 hG
  by_cases hno : n = 0
  · subst hno
    have CN := hide (unhide CN w3 G 0 (some ⟨W1.heap.size, 0, none⟩) (0 + 4))
    go_wp2_with fail
    refine (unhide CN).mono ?_
    rintro e w4 ⟨rfl, hw⟩
    obtain rfl := hw.symm
    clear hw CN
    go_wp2_with fail
    refine (unhide CW _).mono ?_
    rintro e w5 ⟨rfl, b5⟩
    have b := bstep O3.old b5
    go_wp2
    go_ret
    exact ⟨rfl, b⟩
  · have q1 : ((n : Int) == 0) = false := by rw [beq_eq_false_iff_ne]; omega
    have CM := hide (unhide CM w3 G 0 0 0 0 _ W1.heap.size 0 (n + 4) n us (unhide HTB _ O3.old) O3.met (by omega) (by omega) (unhide HXL) r2 dx (by omega) (by omega) (by omega))
    have CT := hide (fun w => tf_way n n 2 w (by omega) (by omega) (by omega) (by omega) (by omega))
    rw [Int.zero_add, ← unhide HVA] at CM
    have La := unhide La (by rw [unhide HXL]; omega)
    generalize tf n n 2 = C at *
    clear hno r2 CN
    go_wp2_with fail
    refine (unhide CM).mono ?_
    rintro e w4 ⟨v, rfl, nv, M4, T4⟩
    have O4 := O3.step M4 T4
    have rA := rA.but T4.grown (fun _ => by omega)
    have t2 := t2.but T4.grown (fun _ => by omega)
    clear CM O3 M4 T4
    go_wp2_with fail
    refine (unhide CFa _ rA).mono ?_
    rintro e w5 ⟨v1, rfl, n1, b⟩
    have O5 := O4.next b
    have rA := rA.next b
    have t2 := t2.next b
    have nv := nv.next b
    clear b O4
    go_wp2_with fail
    refine (unhide CFa _ rA).mono ?_
    rintro e w6 ⟨v2, rfl, n2, b⟩
    have O6 := O5.next b
    have rA := rA.next b
    have t2 := t2.next b
    have nv := nv.next b
    have n1 := n1.next b
    clear b O5
    go_wp2_with fail
    refine (mul_any _ v1 v2 A A 100 (by omega) (unhide Ba) (unhide Ba) n1 n2).mono ?_
    rintro e w7 ⟨v3, rfl, n3, b⟩
    have O7 := O6.next b
    have rA := rA.next b
    have t2 := t2.next b
    have nv := nv.next b
    clear b O6 n1 n2
    go_wp2_with fail
    refine (same_new _ _ _ w3.heap.size _ 100 (by omega) (unhide HPR) n3 nv).mono ?_
    rintro e w8 ⟨rfl, b⟩
    have O8 := O7.next b
    have rA := rA.next b
    have t2 := t2.next b
    have nv := nv.next b
    clear b O7 n3
    go_wp2_with fail
    refine (muls_any O8.met).mono ?_
    rintro e w9 ⟨rfl, hw⟩
    obtain rfl := hw.symm
    clear hw
    have q3 : ((C : Int) != (C : Int)) = false := by simp
    go_wp2_with fail
    refine (unhide CT _).mono ?_
    rintro e w9 ⟨rfl, hw⟩
    obtain rfl := hw.symm
    clear hw CT
    go_wp2_with fail
    refine (spoil_new _ _ _ _ nv).mono ?_
    rintro e w9 ⟨rfl, gs, hgs, g9, _⟩
    have hsw := O8.old.size
    have bl := below_grown O8.old g9 (by have := HG.out; omega) hsw
    have rA := rA.but g9 (fun _ => by omega)
    have t2 := t2.but g9 (fun _ => by omega)
    clear nv g9 O8
    go_wp2_with fail
    refine (intact_any _ ga W1.heap.size ba oa ca n us (unhide HXL) (by omega) rA F (unhide HF) t2).mono ?_
    rintro e w10 ⟨rfl, b⟩
    have bl := bstep bl b
    clear b
    go_wp2_with fail
    refine (unhide CW _).mono ?_
    rintro e w12 ⟨rfl, b⟩
    have bl := bstep bl b
    clear b
    go_wp2
    go_ret
    exact ⟨rfl, bl⟩

end Go.Proofs.YtpifgkhgnilpdaaDoor
