/- SchoolPowers: what the law's walk comes to. -/
import Derived.Test.YtdocljbmmaoenaaSWakes
import Derived.Test.YtdocljbmmaoenaaLSchoolMuls
import Derived.Test.YtdocljbmmaoenaaSPow
namespace Go.Proofs.Ytdocljbmmaoenaa
open Go.RowKit

set_option maxRecDepth 100000 in
set_option maxHeartbeats 12800000 in
theorem schoolPowers_any (T : Tab) (ga : Option Addr) (ba oa ca la : Nat) (xs : List Nat) (w : World) (hx : xs.length = la) (hA : Rep w ga ba oa ca xs) (wx : ∀ j, xs.getD j 0 < 18446744073709551616) (z : Int) :
    Calls Try.prog 5 #[T.val, .slice ga la ca, .int .i64 z] w fun e w' => e = .returned (.bool true) ∧ Below w.heap.size w w' := by
  obtain ⟨n, hca⟩ : ∃ k, k = min la 2 := ⟨_, rfl⟩
  have Ca : Hid (∀ w, Calls Try.prog 7 #[.slice ga la ca, .int .i64 2] w fun e w' => e = .returned (.slice ga n ca) ∧ w' = w) := fun w => cut_any w ga la ca 2 n (by have := hA.room; omega) (by omega) hca
  obtain ⟨hla, rA⟩ := cut_rep hA 2 n (by rw [hx]; exact hca)
  have dx : WDig (xs.take n) := take_words wx n
  have hma : n ≤ 2 := by omega
  clear hca hA wx hx
  generalize xs.take n = us at *
  obtain ⟨A, hva⟩ : ∃ k, k = wval us := ⟨_, rfl⟩
  have ba' : A < 18446744073709551616 ^ 2 := by rw [hva]; exact pow_up (wval_lt_pow dx) (by omega)
  have Ba : Hid (A < 4294967296 ^ 4) := by have := ba'; rw [wpow] at this; exact this
  have CFa := hide (fun W (r : Rep W ga ba oa ca us) => from_school W ga ba oa ca n A us hla (by omega) r dx hva)
  have HXL := hide hla
  have HEA := hide hva
  have La : Hid (0 < us.length → ba < w.heap.size) := fun h => rA.lt h
  clear hva hla
  obtain ⟨k, hk⟩ : ∃ k : Nat, (k : Int) = min (max z 0) 64 := ⟨(min (max z 0) 64).toNat, by omega⟩
  have hk64 : k ≤ 64 := by omega
  have HPW := hide (wpow_mul A 2 k ba' hk64)
  have CP := hide (fun W v (h : IsN W v A) => refPow_any W v A k 4 hk64 (by omega) (unhide Ba) h)
  have HK := hide hk
  rw [hk] at CP
  clear hk ba'
  have bl := Below.refl w.heap.size w
  have CN := hide (fun w ob => schoolNew_box T w ob)
  unfold Tab.val at CN ⊢
  go_enter Try.func5, Try.ntmps5
  go_wp2_with fail
  refine (unhide Ca _).mono ?_
  rintro e wca ⟨rfl, rfl⟩
  clear Ca
  go_wp2_with fail
  refine (unhide CN _ _).mono ?_
  rintro e w1 ⟨ge, g, rfl, E, hg, hge, b⟩
  have Na : Hid (0 < us.length → ba ≠ g) := fun h => by have := unhide La h; omega
  have hgl := E.met.lt
  have rA := rA.next b
  have bl := bstep bl b
  clear b
  clear CN
  go_wp2_with fail
  refine (unhide CFa _ rA).mono ?_
  rintro e w6 ⟨v1, rfl, n1, b⟩
  have rA := rA.next b
  have E := E.next b
  have bl := bstep bl b
  clear b
  go_wp2_with fail
  refine (unhide CP _ _ n1).mono ?_
  rintro e w7 ⟨v2, rfl, n2, b⟩
  have rA := rA.next b
  have E := E.next b
  have bl := bstep bl b
  clear b
  have ix : InG g w7 (.slice ga n ca) A n := ⟨_, _, _, _, us, rfl, unhide HXL, rA, dx, (unhide HEA).symm, by rw [← unhide HXL]; exact unhide Na⟩
  clear CP
  go_wp2_with fail
  refine (schoolPower_any E _ A n k z (unhide HK) ix (by omega) (by omega) (by omega)).mono ?_
  rintro e w8 ⟨r, s', rfl, ns, E2, G⟩
  have n2 := E.isN G n2
  have bl := below_grown bl G hg bl.size
  clear G E E2 ix
  go_wp2_with fail
  refine (same_new _ _ _ _ _ (64 * 2 + 1) (by omega) (unhide HPW) n2 ns).mono ?_
  rintro e w9 ⟨rfl, b⟩
  have bl := bstep bl b
  clear b
  clear ns n2
  go_wp2_with fail
  refine (schoolWakes_any _).mono ?_
  rintro e w14 ⟨rfl, b⟩
  have bl := bstep bl b
  clear b
  go_wp2
  go_ret
  exact ⟨rfl, bl⟩

end Go.Proofs.Ytdocljbmmaoenaa
