/- How many words a natural has, and how deep its products may go: plain mathematics. -/
import Derived.Test.YtgcnhfgpflncaaaGreatDoorB5
import Derived.Lib.BitFns
namespace Go.Proofs.YtgcnhfgpflncaaaGreatDoor
def Ny:Nat->Nat->Nat
 |0,_=>0
 |f+1,n=>if n=0 then 0 else Ny f (n/18446744073709551616)+1
theorem jT(f:Nat):Ny f 0=0:=by cases f<;>simp[Ny]
theorem Bd:∀(f g n:Nat),n<=f->n<=g->Ny f n=Ny g n
 |0,g,n,h1,_=>by
  obtain rfl:n=0:=by omega
  rw[jT,jT]
 |f+1,g,n,h1,h2=>by
  by_cases h0:n=0
  ·rw[h0,jT,jT]
  ·obtain⟨k,rfl⟩:∃ k,g=k+1:=⟨g-1,by omega⟩
   simp only[Ny,if_neg h0]
   rw[Bd f k _ (by omega) (by omega)]
def wl(n:Nat):Nat:=Ny n n
theorem fK:wl 0=0:=jT 0
theorem uw{n:Nat}(h:n≠0):wl n=wl (n/18446744073709551616)+1:=by
 obtain⟨k,rfl⟩:∃ k,n=k+1:=⟨n-1,by omega⟩
 unfold wl
 rw[Ny,if_neg h,Bd k _ _ (by omega) (Nat.le_refl _)]
theorem bQ:∀(l n:Nat),n<18446744073709551616^l->wl n<=l
 |0,n,h=>by
  have:n=0:=by rw[Nat.pow_zero]at h;omega
  rw[this,fK];omega
 |l+1,n,h=>by
  by_cases h0:n=0
  ·rw[h0,fK];omega
  ·rw[uw h0]
   have:=bQ l (n/18446744073709551616) (by rw[Nat.pow_succ]at h;exact Nat.div_lt_of_lt_mul (by rw[Nat.mul_comm];exact h))
   omega
theorem sy:∀(l n:Nat),18446744073709551616^l<=n->l<wl n
 |0,n,h=>by
  rw[Nat.pow_zero]at h
  rw[uw (by omega)];omega
 |l+1,n,h=>by
  have hp:0<18446744073709551616^(l+1):=Nat.pow_pos (by omega)
  rw[uw (by omega)]
  have:=sy l (n/18446744073709551616) (by rw[Nat.pow_succ]at h;exact(Nat.le_div_iff_mul_le (by omega)).2 h)
  omega
theorem fa{xs:List Nat}(h:cn xs):wl (af xs)=xs.length:=by
 have h1:=bQ _ _ (ak h.1)
 by_cases h0:xs.length=0
 ·omega
 ·have:=sy _ _ (oD h (by omega))
  omega
theorem tz{xs:List Nat}(h:ao xs):bY xs xs.length=wl (af xs):=by
 rw[<-aI, <-fa (dB h),cX]
theorem dq{xs:List Nat}(h:ao xs):wl (af xs)<=xs.length:=bQ _ _ (ak h)
theorem bO{n:Nat}:wl n=0↔n=0:=by
 constructor
 ·intro h
  refine Classical.byContradiction fun h0=>?_
  rw[uw h0]at h
  omega
 ·intro h;rw[h,fK]
def cZ(n:Nat):Nat:=2*Lib.bitLen n+4
theorem uR:Lib.bitLen 0=0:=by decide
theorem sM{n:Nat}(h:n<65536):Lib.bitLen n<=16:=Lib.bitLen_le n 16 (by decide) (by omega)
end Go.Proofs.YtgcnhfgpflncaaaGreatDoor
