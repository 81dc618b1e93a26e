/- norm: noughts on top are cut off. -/
import Derived.Test.YtpifgkhgnilpdaaRep
namespace Go.Proofs.Ytpifgkhgnilpdaa
open Go.RowKit

theorem nlen_stop (xs : List Nat) (k : Nat) (h : 0 < xs.getD k 0) : nlen xs (k + 1) = k + 1 := by unfold nlen; rw [if_neg (by omega)]
theorem nlen_go (xs : List Nat) (k : Nat) (h : xs.getD k 0 = 0) : nlen xs (k + 1) = nlen xs k := by rw [nlen, if_pos h]

set_option maxHeartbeats 400000 in
theorem norm_any (w : World) (ga : Option Addr) (b o cap : Nat) (xs : List Nat) (hn : xs.length ≤ 1099511627776) (hR : Rep w ga b o cap xs) :
    Calls Try.prog 22 #[.slice ga xs.length cap] w fun e w' => e = .returned (.slice ga (nlen xs xs.length) cap) ∧ w' = w := by
  obtain ⟨hh, hr, hc⟩ := hR
  go_enter Try.func22, Try.ntmps22
  go_wp2
  go_loop [3] (fun k => ∃ q : Nat, q ≤ xs.length ∧ k = .int .i64 q ∧ Hid (nlen xs xs.length = nlen xs q)) (fun k => (intOf k).toNat)
  case atStart => exact ⟨xs.length, Nat.le_refl _, rfl, rfl⟩
  case round =>
    obtain ⟨q, hq, rfl, hN⟩ := hrel
    by_cases hlt : 0 < q
    · obtain ⟨k, rfl⟩ : ∃ k, q = k + 1 := ⟨q - 1, by omega⟩
      obtain rfl := hh (by omega)
      have hk := hc k (by omega)
      go_wp2
      · have hz : xs.getD k 0 = 0 := by
          have h : (((xs[k]?.getD 0 : Nat) : Int) == 0) = true := by assumption
          rw [List.getD_eq_getElem?_getD]; have := eq_of_beq h; omega
        exact ⟨⟨k, by omega, rfl, hN.out.trans (nlen_go xs k hz)⟩, by simp [intOf]⟩
      · have hz : 0 < xs.getD k 0 := by
          have h : (((xs[k]?.getD 0 : Nat) : Int) == 0) = false := by assumption
          rw [List.getD_eq_getElem?_getD]; have := ne_of_beq_false h; omega
        have e := hN.out.trans (nlen_stop xs k hz)
        go_ret
        exact ⟨ret_slice e.symm, rfl⟩
    · obtain rfl : q = 0 := by omega
      go_wp2
      go_ret
      exact ⟨ret_slice hN.out.symm, rfl⟩

theorem norm_isN (w : World) (ga : Option Addr) (b o cap n : Nat) (xs : List Nat) (hl : xs.length = n) (hn : n ≤ 1099511627776) (hR : Rep w ga b o cap xs) (hd : Dig xs) :
    Calls Try.prog 22 #[.slice ga n cap] w fun e w' => ∃ v, e = .returned v ∧ IsN w v (val xs) ∧ w' = w := by
  subst hl
  refine (norm_any w ga b o cap xs hn hR).mono ?_
  rintro e w' ⟨rfl, rfl⟩
  exact ⟨_, rfl, ⟨ga, b, o, cap, nrm xs, by rw [nrm_length], hR.take _ (nlen_le _ _), nrm_can hd, nrm_val xs⟩, rfl⟩

end Go.Proofs.Ytpifgkhgnilpdaa
