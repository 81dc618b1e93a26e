/- PrimeMods: what the law's walk comes to. -/
import Derived.Test.YtohgekhjaodehaaDoorPRef
import Derived.Test.YtohgekhjaodehaaDoorPMod
namespace Go.Proofs.YtohgekhjaodehaaDoor
open Go.RowKit

set_option maxHeartbeats 1600000 in
theorem primeMods_any (p : Nat) (w : World) (hn : p < 18446744073709551616) (hT : TB w) :
    Calls Tryd.prog 7 #[.int .u64 (p : Int)] w fun e w' => e = .returned (.bool true) ∧ Below w.heap.size w w' := by
  have CW := hide (fun w' (b : Below w.heap.size w w') => primeWakes_any w' (hT.next b))
  have CP := hide (fun w => rPrime_any p w hn)
  by_cases hM : Odd62 p
  · cases hP : isP p
    · have CM := hide (mod_no p w hn (fun h => by rw [hP] at h; exact absurd h.2 (by decide)) hT)
      have CY := hide (fun w => rMay_yes p w hM.1 hM.2.1 hM.2.2)
      rw [hP] at CP
      clear hM hP hT
      go_enter Tryd.func7, Tryd.ntmps7
      go_wp2_with fail
      refine (unhide CM).mono ?_
      rintro e w1 ⟨rfl, b⟩
      clear CM
      go_wp2_with fail
      refine (unhide CY _).mono ?_
      rintro e w2 ⟨rfl, rfl⟩
      clear CY
      go_wp2_with fail
      refine (unhide CP _).mono ?_
      rintro e w2 ⟨rfl, b2⟩
      have b := bstep b b2
      clear b2 CP
      go_wp2_with fail
      refine (unhide CW _ b).mono ?_
      rintro e w3 ⟨rfl, b2⟩
      have b := bstep b b2
      go_wp2
      go_ret
      exact ⟨rfl, b⟩
    · have CM := hide (mod_any p w hM hP hT)
      have CY := hide (fun w => rMay_yes p w hM.1 hM.2.1 hM.2.2)
      rw [hP] at CP
      clear hM hP hT
      go_enter Tryd.func7, Tryd.ntmps7
      go_wp2_with fail
      refine (unhide CM).mono ?_
      rintro e w1 ⟨g, rfl, h, hg, b⟩
      have hM := hide h
      clear CM h hg
      go_wp2_with fail
      refine (unhide CY _).mono ?_
      rintro e w2 ⟨rfl, rfl⟩
      clear CY
      go_wp2_with fail
      refine (unhide CP _).mono ?_
      rintro e w2 ⟨rfl, b2⟩
      have b := bstep b b2
      have hM := hide ((unhide hM).next b2)
      clear b2 CP
      go_wp2_with fail
      refine (modP_any (unhide hM)).mono ?_
      rintro e w3 ⟨rfl, rfl⟩
      go_wp2_with fail
      refine (unhide CW _ b).mono ?_
      rintro e w3 ⟨rfl, b2⟩
      have b := bstep b b2
      go_wp2
      go_ret
      exact ⟨rfl, b⟩
  · have CM := hide (mod_no p w hn (fun h => hM h.1) hT)
    have CY := hide (fun w => rMay_no p w hM)
    clear hM hT
    go_enter Tryd.func7, Tryd.ntmps7
    go_wp2_with fail
    refine (unhide CM).mono ?_
    rintro e w1 ⟨rfl, b⟩
    clear CM
    go_wp2_with fail
    refine (unhide CY _).mono ?_
    rintro e w2 ⟨rfl, rfl⟩
    clear CY
    go_wp2_with fail
    refine (unhide CW _ b).mono ?_
    rintro e w3 ⟨rfl, b2⟩
    have b := bstep b b2
    go_wp2
    go_ret
    exact ⟨rfl, b⟩

end Go.Proofs.YtohgekhjaodehaaDoor
