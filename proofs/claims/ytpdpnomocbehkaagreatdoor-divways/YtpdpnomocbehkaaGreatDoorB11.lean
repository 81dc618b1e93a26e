/- How many words a natural has, and how deep its products may go: plain mathematics. -/
import Derived.Test.YtpdpnomocbehkaaGreatDoorB8
import Derived.Lib.BitFns
namespace Go.Proofs.YtpdpnomocbehkaaGreatDoor

def wl (n:Nat):Nat:=if n = 0 then 0 else wl (n / 18446744073709551616) + 1
termination_by n
decreasing_by omega
theorem wl_zero:wl 0 = 0:=by unfold wl; simp
theorem wl_pos {n:Nat} (h:n ≠ 0):wl n = wl (n / 18446744073709551616) + 1:=by rw [wl]; simp [h]
theorem wl_lt:∀ (l n:Nat),n < 18446744073709551616 ^ l -> wl n <= l
  | 0,n,h => by
    have:n = 0:=by rw [Nat.pow_zero] at h; omega
    rw [this,wl_zero]; omega
  | l + 1,n,h => by
    by_cases h0:n = 0
    · rw [h0,wl_zero]; omega
    · rw [wl_pos h0]
      have:=wl_lt l (n / 18446744073709551616) (by rw [Nat.pow_succ] at h; exact Nat.div_lt_of_lt_mul (by rw [Nat.mul_comm]; exact h))
      omega
theorem wl_ge:∀ (l n:Nat),18446744073709551616 ^ l <= n -> l < wl n
  | 0,n,h => by
    rw [Nat.pow_zero] at h
    rw [wl_pos (by omega)]; omega
  | l + 1,n,h => by
    have hp:0 < 18446744073709551616 ^ (l + 1):=Nat.pow_pos (by omega)
    rw [wl_pos (by omega)]
    have:=wl_ge l (n / 18446744073709551616) (by rw [Nat.pow_succ] at h; exact (Nat.le_div_iff_mul_le (by omega)).2 h)
    omega
theorem wl_can {xs:List Nat} (h:WCan xs):wl (wval xs) = xs.length:=by
  have h1:=wl_lt _ _ (wval_lt_pow h.1)
  by_cases h0:xs.length = 0
  · omega
  · have:=wl_ge _ _ (wval_ge h (by omega))
    omega
theorem nlen_wl {xs:List Nat} (h:WDig xs):nlen xs xs.length = wl (wval xs):=by
  rw [<- nrm_length,<- wl_can (nrm_wcan h),nrm_wval]
theorem wl_le_len {xs:List Nat} (h:WDig xs):wl (wval xs) <= xs.length:=wl_lt _ _ (wval_lt_pow h)
theorem wl_eq_zero {n:Nat}:wl n = 0 ↔ n = 0:=by
  constructor
  · intro h
    refine Classical.byContradiction fun h0 => ?_
    rw [wl_pos h0] at h
    omega
  · intro h; rw [h,wl_zero]

def dpt (n:Nat):Nat:=2 * Lib.bitLen n + 4
theorem bitLen_zero:Lib.bitLen 0 = 0:=by decide
theorem bitLen_small {n:Nat} (h:n < 65536):Lib.bitLen n <= 16:=Lib.bitLen_le n 16 (by decide) (by omega)

end Go.Proofs.YtpdpnomocbehkaaGreatDoor
