/- How many words a natural has, and how deep its products may go: plain mathematics. -/
import Derived.Test.YtpdpnomocbehkaaGreatDoorB8
import Derived.Lib.BitFns
namespace Go.Proofs.YtpdpnomocbehkaaGreatDoor
def wl(n:Nat):Nat:=if n=0 then 0 else wl (n/18446744073709551616)+1
termination_by n
decreasing_by omega
theorem bT:wl 0=0:=by unfold wl;simp
theorem tU{n:Nat}(h:n≠0):wl n=wl (n/18446744073709551616)+1:=by rw[wl];simp[h]
theorem de:∀(l n:Nat),n<18446744073709551616^l->wl n<=l
 |0,n,h=>by
  have:n=0:=by rw[Nat.pow_zero]at h;omega
  rw[this,bT];omega
 |l+1,n,h=>by
  by_cases h0:n=0
  ·rw[h0,bT];omega
  ·rw[tU h0]
   have:=de l (n/18446744073709551616) (by rw[Nat.pow_succ]at h;exact Nat.div_lt_of_lt_mul (by rw[Nat.mul_comm];exact h))
   omega
theorem xo:∀(l n:Nat),18446744073709551616^l<=n->l<wl n
 |0,n,h=>by
  rw[Nat.pow_zero]at h
  rw[tU (by omega)];omega
 |l+1,n,h=>by
  have hp:0<18446744073709551616^(l+1):=Nat.pow_pos (by omega)
  rw[tU (by omega)]
  have:=xo l (n/18446744073709551616) (by rw[Nat.pow_succ]at h;exact(Nat.le_div_iff_mul_le (by omega)).2 h)
  omega
theorem eE{xs:List Nat}(h:bK xs):wl (af xs)=xs.length:=by
 have h1:=de _ _ (ak h.1)
 by_cases h0:xs.length=0
 ·omega
 ·have:=xo _ _ (nW h (by omega))
  omega
theorem lk{xs:List Nat}(h:ao xs):bo xs xs.length=wl (af xs):=by
 rw[<-aG, <-eE (dh h),cF]
theorem fB{xs:List Nat}(h:ao xs):wl (af xs)<=xs.length:=de _ _ (ak h)
theorem az{n:Nat}:wl n=0↔n=0:=by
 constructor
 ·intro h
  refine Classical.byContradiction fun h0=>?_
  rw[tU h0]at h
  omega
 ·intro h;rw[h,bT]
def cZ(n:Nat):Nat:=2*Lib.bitLen n+4
theorem ux:Lib.bitLen 0=0:=by decide
theorem se{n:Nat}(h:n<65536):Lib.bitLen n<=16:=Lib.bitLen_le n 16 (by decide) (by omega)
end Go.Proofs.YtpdpnomocbehkaaGreatDoor
