/- How many words a natural has, and how deep its products may go: plain mathematics. -/
import Derived.Test.YtpdpnomocbehkaaGreatDoorB8
import Derived.Lib.BitFns
namespace Go.Proofs.YtpdpnomocbehkaaGreatDoor
def Nu:Nat->Nat->Nat
 |0,_=>0
 |f+1,n=>if n=0 then 0 else Nu f (n/18446744073709551616)+1
theorem kl(f:Nat):Nu f 0=0:=by cases f<;>simp[Nu]
theorem BE:∀(f g n:Nat),n<=f->n<=g->Nu f n=Nu g n
 |0,g,n,h1,_=>by
  obtain rfl:n=0:=by omega
  rw[kl,kl]
 |f+1,g,n,h1,h2=>by
  by_cases h0:n=0
  ·rw[h0,kl,kl]
  ·obtain⟨k,rfl⟩:∃ k,g=k+1:=⟨g-1,by omega⟩
   simp only[Nu,if_neg h0]
   rw[BE f k _ (by omega) (by omega)]
def wl(n:Nat):Nat:=Nu n n
theorem aZ:wl 0=0:=kl 0
theorem vg{n:Nat}(h:n≠0):wl n=wl (n/18446744073709551616)+1:=by
 obtain⟨k,rfl⟩:∃ k,n=k+1:=⟨n-1,by omega⟩
 unfold wl
 rw[Nu,if_neg h,BE k _ _ (by omega) (Nat.le_refl _)]
theorem cI:∀(l n:Nat),n<18446744073709551616^l->wl n<=l
 |0,n,h=>by
  have:n=0:=by rw[Nat.pow_zero]at h;omega
  rw[this,aZ];omega
 |l+1,n,h=>by
  by_cases h0:n=0
  ·rw[h0,aZ];omega
  ·rw[vg h0]
   have:=cI l (n/18446744073709551616) (by rw[Nat.pow_succ]at h;exact Nat.div_lt_of_lt_mul (by rw[Nat.mul_comm];exact h))
   omega
theorem yK:∀(l n:Nat),18446744073709551616^l<=n->l<wl n
 |0,n,h=>by
  rw[Nat.pow_zero]at h
  rw[vg (by omega)];omega
 |l+1,n,h=>by
  have hp:0<18446744073709551616^(l+1):=Nat.pow_pos (by omega)
  rw[vg (by omega)]
  have:=yK l (n/18446744073709551616) (by rw[Nat.pow_succ]at h;exact(Nat.le_div_iff_mul_le (by omega)).2 h)
  omega
theorem fm{xs:List Nat}(h:cC xs):wl (af xs)=xs.length:=by
 have h1:=cI _ _ (ak h.1)
 by_cases h0:xs.length=0
 ·omega
 ·have:=yK _ _ (pd h (by omega))
  omega
theorem mF{xs:List Nat}(h:ao xs):bY xs xs.length=wl (af xs):=by
 rw[<-aJ, <-fm (dQ h),du]
theorem aW{xs:List Nat}(h:ao xs):wl (af xs)<=xs.length:=cI _ _ (ak h)
theorem ay{n:Nat}:wl n=0↔n=0:=by
 constructor
 ·intro h
  refine Classical.byContradiction fun h0=>?_
  rw[vg h0]at h
  omega
 ·intro h;rw[h,aZ]
def dI(n:Nat):Nat:=2*Lib.bitLen n+4
theorem oe:Lib.bitLen 0=0:=by decide
theorem jc{n:Nat}(h:n<65536):Lib.bitLen n<=16:=Lib.bitLen_le n 16 (by decide) (by omega)
end Go.Proofs.YtpdpnomocbehkaaGreatDoor
