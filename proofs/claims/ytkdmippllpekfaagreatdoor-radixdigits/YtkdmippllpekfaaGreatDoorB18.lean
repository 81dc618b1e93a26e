import Derived.Test.YtkdmippllpekfaaGreatDoorB9
import Derived.Lib.BitFns
namespace Go.Proofs.YtkdmippllpekfaaGreatDoor
variable{xs:List Nat}{n:Nat}
def wlF:Nat->Nat->Nat
 |0,_=>0
 |f+1,n=>if n=0 then 0 else wlF f (n/18446744073709551616)+1
theorem uj(f:Nat):wlF f 0=0:=by cases f<;>simp[wlF]
theorem Qr:∀(f g n:Nat),n<=f->n<=g->wlF f n=wlF g n
 |0,g,n,h1,_=>by
  obtain rfl:n=0:=by omega
  rw[uj,uj]
 |f+1,g,n,h1,h2=>by
  by_cases h0:n=0
  ·rw[h0,uj,uj]
  ·obtain⟨k,rfl⟩:∃k,g=k+1:=⟨g-1,by omega⟩;simp only[wlF,if_neg h0];rw[Qr f k _ (by omega) (by omega)]
def wl(n:Nat):Nat:=wlF n n
theorem pP:wl 0=0:=uj 0
theorem Iy(h:n≠0):wl n=wl (n/18446744073709551616)+1:=by obtain⟨k,rfl⟩:∃k,n=k+1:=⟨n-1,by omega⟩;unfold wl;rw[wlF,aV h,Qr k _ _ (by omega) (af _)]
theorem iY:∀(l n:Nat),n<18446744073709551616^l->wl n<=l
 |0,n,h=>by
  have:n=0:=by rw[cL]at h;omega
  rw[this,pP];omega
 |l+1,n,h=>by
  by_cases h0:n=0
  ·rw[h0,pP];omega
  ·rw[Iy h0];have:=iY l (n/18446744073709551616) (by rw[aE]at h;exact qp (by rw[aC];exact h));omega
theorem LS:∀(l n:Nat),18446744073709551616^l<=n->l<wl n
 |0,n,h=>by rw[cL]at h;rw[Iy (by omega)];omega
 |l+1,n,h=>by have hp:0<18446744073709551616^(l+1):=bR (by omega);rw[Iy (by omega)];have:=LS l (n/18446744073709551616) (by rw[aE]at h;exact(dE (by omega)).2 h);omega
theorem mM(h:iS xs):wl (aB xs)=xs.length:=by
 have h1:=iY _ _ (bF h.1);by_cases h0:xs.length=0
 ·omega
 ·have:=LS _ _ (AL h (by omega));omega
theorem Hj(h:bG xs):fV xs xs.length=wl (aB xs):=by rw[<-ep, <-mM (ku h),jN]
theorem mN(h:bG xs):wl (aB xs)<=xs.length:=iY _ _ (bF h)
theorem jr:wl n=0↔n=0:=by
 constructor
 ·intro h;refine ey fun h0=>?_;rw[Iy h0]at h;omega
 ·intro h;rw[h,pP]
def jP(n:Nat):Nat:=2*Lib.bitLen n+4
theorem Jv:Lib.bitLen 0=0:=by decide
theorem Gf(h:n<65536):Lib.bitLen n<=16:=Lib.bitLen_le n 16 (by decide) (by omega)
end Go.Proofs.YtkdmippllpekfaaGreatDoor
