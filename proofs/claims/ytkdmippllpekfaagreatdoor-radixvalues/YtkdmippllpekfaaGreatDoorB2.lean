import Derived.WalkKit
import Derived.Test.YtkdmippllpekfaaGreatDoorA0
namespace Go.Proofs.YtkdmippllpekfaaGreatDoor
variable{Y d q r u v vx yn1:Nat}
structure sg(u Y yn1 vx d q r:Nat):Prop where
 hY:Y=yn1*4294967296+vx
 h1:2147483648<=yn1
 J1:yn1<4294967296
 h0:vx<4294967296
 hu:u<Y
 hd:d<4294967296
 eq:q*yn1+r=u
 ge:(u*4294967296+d)/Y<=q
 le:q<=4294967297
theorem sg.pos(g:sg u Y yn1 vx d q r):0<Y:=by have:=g.hu;omega
theorem pC(hY:Y=yn1*4294967296+vx)(h1:2147483648<=yn1)(J1:yn1<4294967296)(h0:vx<4294967296)(hu:u<Y)(hd:d<4294967296):sg u Y yn1 vx d (u/yn1) (u-u/yn1*yn1):=by
 have hm:u/yn1*yn1<=u:=cR u yn1;refine⟨hY,h1,J1,h0,hu,hd,by omega,?_,?_⟩
 ·rw[dE (by omega)];have hq:(u*4294967296+d)/Y*Y<=u*4294967296+d:=cR _ _;generalize (u*4294967296+d)/Y=Q at *;rw[hY,aH, <-aF]at hq;generalize Q*yn1=P at *;omega
 ·have:u/yn1<4294967298:=by
   rw[aR (by omega)];omega
  omega
theorem jJ(g:sg u Y yn1 vx d q r):(u*4294967296+d)/Y<4294967296:=by rw[aR g.pos];have:=g.hu;have:=g.hd;omega
theorem EP(g:sg u Y yn1 vx d q r):q*Y+r*4294967296=u*4294967296+q*vx:=by rw[g.hY,aH, <-aF, <-g.eq,aX];omega
theorem vZ(g:sg u Y yn1 vx d q r)(h:4294967296<=q\/4294967296*r+d<q*vx):1<=q/\sg u Y yn1 vx d (q-1) (r+yn1)/\q-1<=4294967296:=by
 have dh:(u*4294967296+d)/Y<q:=by
  rcases h with h|h
  ·have:=jJ g;omega
  ·rw[aR g.pos];have:=EP g;omega
 have he:=g.eq;have hl:=g.le;have sL:1<=q:=aN (aO _) dh;refine⟨sL,⟨g.hY,g.h1,g.J1,g.h0,g.hu,g.hd,?_,Nat.le_sub_one_of_lt dh,by omega⟩,by omega⟩;obtain⟨p,rfl⟩:∃p,q=p+1:=⟨q-1,by omega⟩;rw[aX]at he;simp only[Nat.add_sub_cancel];omega
theorem rz(g:sg u Y yn1 vx d q r)(h:q*vx<=4294967296*r+d):q=(u*4294967296+d)/Y:=by refine QC ?_ g.ge;rw[dE g.pos];have:=EP g;omega
theorem tC(g:sg u Y yn1 vx d q r)(hq:q<=4294967296)(hr:4294967296<=r):q=(u*4294967296+d)/Y:=by refine rz g ?_;have h1:q*vx<=4294967296*4294967296:=aP hq (by have:=g.h0;omega);omega
theorem RY(hu:u<Y)(_hd:d<4294967296)(hY:Y<18446744073709551616):IntKind.u64.wrap (IntKind.u64.wrap (IntKind.u64.wrap ((u:Int)*4294967296)+(d:Int))-IntKind.u64.wrap ((((u*4294967296+d)/Y:Nat):Int)*(Y:Int)))=(((u*4294967296+d)%Y:Nat):Int):=by
 have e:=aS (u*4294967296+d) Y;have hm:=aD (u*4294967296+d) (y:=Y) (by omega);have c:((((u*4294967296+d)/Y:Nat):Int)*(Y:Int))=((Y*((u*4294967296+d)/Y):Nat):Int):=by rw[aG,fa]
 rw[c];generalize Y*((u*4294967296+d)/Y)=p at *;generalize (u*4294967296+d)%Y=m at *;simp only[IntKind.wrap_u64];omega
theorem Hl(a b s:Nat)(h:b<2^s):(a*2^s)||| b=a*2^s+b:=by have:=Nat.shiftLeft_add_eq_or_of_lt h a;rw[Nat.shiftLeft_eq]at this;exact this.symm
theorem lK(s:Nat):(2:Int)^s=((2^s:Nat):Int):=by rw[km];rfl
theorem Ld(a s:Nat)(h:a*2^s<18446744073709551616):IntKind.u64.wrap ((a:Int)*2^s)=((a*2^s:Nat):Int):=by rw[lK, <-aG,IntKind.wrap_u64];omega
theorem Ig(a s:Nat):IntKind.u64.wrap ((a:Int)*2^s)=((a*2^s%18446744073709551616:Nat):Int):=by rw[lK, <-aG,IntKind.wrap_u64];omega
theorem nQ(a s:Nat):(a:Int)/2^s=((a/2^s:Nat):Int):=by rw[lK,pU]
theorem xH(a:Nat)(h:a<18446744073709551616):bits .and .u64 (a:Int) 4294967295=((a%4294967296:Nat):Int):=by have h1:=bits_and_u64_nat a 4294967295 h (by omega);have e:a&&& 4294967295=a%4294967296:=pV a 32;rw[e]at h1;exact h1
theorem or_eq(a b s:Nat)(hb:b<2^s)(ha:a*2^s<18446744073709551616)(Pm:b<18446744073709551616):bits .or .u64 ((a*2^s:Nat):Int) (b:Int)=((a*2^s+b:Nat):Int):=by have h1:=bits_or_u64_nat (a*2^s) b ha Pm;rw[Hl a b s hb]at h1;exact h1
theorem uT(s:Nat)(hs:s<=63):2^(64-s)*2^s=18446744073709551616:=by rw[<-aQ,show 64-s+s=64 from by omega]
theorem WZ(lo s:Nat)(hs:s<=63)(h:lo<18446744073709551616):lo/2^(64-s)<2^s:=by rw[aR (bR (by omega)),aC,uT s hs];exact h
theorem YG(hi lo y s:Nat)(hs:s<=63)(h:lo<18446744073709551616)(hy:hi<y):hi*2^s+lo/2^(64-s)<y*2^s:=by have h1:=WZ lo s hs h;have h2:(hi+1)*2^s<=y*2^s:=ax _ hy;rw[aX]at h2;omega
theorem YQ(hi lo s:Nat)(hs:s<=63):(18446744073709551616*hi+lo)*2^s=(hi*2^s+lo/2^(64-s))*18446744073709551616+lo*2^s%18446744073709551616:=by
 have h1:lo*2^s/18446744073709551616=lo/2^(64-s):=by rw[<-uT s hs,pr _ _ (bR (by omega))]
 have h2:=aS (lo*2^s) 18446744073709551616;rw[h1]at h2;rw[aX,aX,nK,aC hi (2^s)];have h3:18446744073709551616*2^s*hi=2^s*hi*18446744073709551616:=by rw[aF,aC]
 omega
theorem Ov(A Y d0:Nat)(h:0<Y):(A*4294967296+d0)/Y=A/Y*4294967296+(A%Y*4294967296+d0)/Y/\(A*4294967296+d0)%Y=(A%Y*4294967296+d0)%Y:=by
 have e:=aS A Y;generalize A/Y=Q at *;generalize A%Y=v at *;have e2:A*4294967296+d0=v*4294967296+d0+Y*(Q*4294967296):=by rw[<-e,aX,aF];omega
 rw[e2];refine⟨?_,ez _ _ _⟩;rw[g9 _ _ h,fj]
theorem Rh(hi lo y s:Nat)(hs:s<=63)(hy:hi<y):let u:=hi*2^s+lo/2^(64-s);let Y:=y*2^s;let M:=lo*2^s%18446744073709551616;let d1:=M/4294967296;let d0:=M%4294967296;
  (18446744073709551616*hi+lo)/y=(u*4294967296+d1)/Y*4294967296+((u*4294967296+d1)%Y*4294967296+d0)/Y/\(18446744073709551616*hi+lo)%y=((u*4294967296+d1)%Y*4294967296+d0)%Y/2^s:=by
 intro u Y M d1 d0;have p:0<2^s:=bR (by omega);have hY:0<Y:=qq (by omega) p;have t:=Ov (u*4294967296+d1) Y d0 hY;have e:(u*4294967296+d1)*4294967296+d0=(18446744073709551616*hi+lo)*2^s:=by rw[YQ hi lo s hs];show(u*4294967296+M/4294967296)*4294967296+M%4294967296=u*18446744073709551616+M;omega
 rw[e]at t;rw[<-t.1, <-t.2];exact⟨(pr _ _ p).symm,by rw[je,iR _ p]⟩
theorem mE(hu:u<Y)(hd:d<4294967296)(hY:Y<18446744073709551616)(hq:q=(u*4294967296+d)/Y)(hv:v=(u*4294967296+d)%Y):IntKind.u64.wrap (IntKind.u64.wrap (IntKind.u64.wrap ((u:Int)*4294967296)+(d:Int))-IntKind.u64.wrap ((q:Int)*(Y:Int)))=(v:Int):=by
 subst hq hv;exact RY hu hd hY
theorem MM{hi lo y s:Nat}(hs:s<=63)(hy:hi<y)(Q1 v Q0 R:Nat)(h1:Q1=((hi*2^s+lo/2^(64-s))*4294967296+lo*2^s%18446744073709551616/4294967296)/(y*2^s))(h2:v=((hi*2^s+lo/2^(64-s))*4294967296+lo*2^s%18446744073709551616/4294967296)%(y*2^s))(h3:Q0=(v*4294967296+lo*2^s%18446744073709551616%4294967296)/(y*2^s))(h4:R=(v*4294967296+lo*2^s%18446744073709551616%4294967296)%(y*2^s)):(18446744073709551616*hi+lo)/y=Q1*4294967296+Q0/\(18446744073709551616*hi+lo)%y=R/2^s:=by
 have:=Rh hi lo y s hs hy;simp only at this;subst h1 h2 h3 h4;exact this
theorem Ob(h:0<yn1):v-v/yn1*yn1<yn1:=by have:=aD v h;rw[Nat.mod_def,aC]at this;exact this
theorem oz(h:u<Y)(hv:v=(u*4294967296+d)%Y):v<Y:=by subst hv;exact aD _ (by omega)
end Go.Proofs.YtkdmippllpekfaaGreatDoor
