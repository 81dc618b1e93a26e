/- Plain mathematics of a long division by two digits of 32 bits. -/
import Derived.WalkKit
import Derived.Laws.Bits64b
namespace Go.Proofs.YtgcnhfgpflncaaaGreatDoor
structure jk(u Y yn1 yn0 d q r:Nat):Prop where
 hY:Y=yn1*4294967296+yn0
 h1:2147483648<=yn1
 h1':yn1<4294967296
 h0:yn0<4294967296
 hu:u<Y
 hd:d<4294967296
 eq:q*yn1+r=u
 ge:(u*4294967296+d)/Y<=q
 le:q<=4294967297
theorem jk.pos{u Y yn1 yn0 d q r:Nat}(g:jk u Y yn1 yn0 d q r):0<Y:=by have:=g.hu;omega
theorem gR{u Y yn1 yn0 d:Nat}(hY:Y=yn1*4294967296+yn0)(h1:2147483648<=yn1)(h1':yn1<4294967296)(h0:yn0<4294967296)(hu:u<Y)(hd:d<4294967296):
  jk u Y yn1 yn0 d (u/yn1) (u-u/yn1*yn1):=by
 have hm:u/yn1*yn1<=u:=Nat.div_mul_le_self u yn1
 refine⟨hY,h1,h1',h0,hu,hd,by omega,?_,?_⟩
 ·rw[Nat.le_div_iff_mul_le (by omega)]
  have hq:(u*4294967296+d)/Y*Y<=u*4294967296+d:=Nat.div_mul_le_self _ _
  generalize (u*4294967296+d)/Y=Q at *
  rw[hY,Nat.mul_add, <-Nat.mul_assoc]at hq
  generalize Q*yn1=P at *
  omega
 ·have:u/yn1<4294967298:=by
   rw[Nat.div_lt_iff_lt_mul (by omega)]
   omega
  omega
theorem cV{u Y yn1 yn0 d q r:Nat}(g:jk u Y yn1 yn0 d q r):(u*4294967296+d)/Y<4294967296:=by
 rw[Nat.div_lt_iff_lt_mul g.pos]
 have:=g.hu;have:=g.hd
 omega
theorem rm{u Y yn1 yn0 d q r:Nat}(g:jk u Y yn1 yn0 d q r):q*Y+r*4294967296=u*4294967296+q*yn0:=by
 rw[g.hY,Nat.mul_add, <-Nat.mul_assoc, <-g.eq,Nat.add_mul]
 omega
theorem lj{u Y yn1 yn0 d q r:Nat}(g:jk u Y yn1 yn0 d q r)(h:4294967296<=q\/4294967296*r+d<q*yn0):1<=q/\jk u Y yn1 yn0 d (q-1) (r+yn1)/\q-1<=4294967296:=by
 have hlt:(u*4294967296+d)/Y<q:=by
  rcases h with h|h
  ·have:=cV g;omega
  ·rw[Nat.div_lt_iff_lt_mul g.pos]
   have:=rm g
   omega
 have he:=g.eq
 have hl:=g.le
 have hq1:1<=q:=Nat.lt_of_le_of_lt (Nat.zero_le _) hlt
 refine⟨hq1,⟨g.hY,g.h1,g.h1',g.h0,g.hu,g.hd,?_,Nat.le_sub_one_of_lt hlt,by omega⟩,by omega⟩
 obtain⟨p,rfl⟩:∃ p,q=p+1:=⟨q-1,by omega⟩
 rw[Nat.add_mul]at he
 simp only[Nat.add_sub_cancel]
 omega
theorem iV{u Y yn1 yn0 d q r:Nat}(g:jk u Y yn1 yn0 d q r)(h:q*yn0<=4294967296*r+d):q=(u*4294967296+d)/Y:=by
 refine Nat.le_antisymm ?_ g.ge
 rw[Nat.le_div_iff_mul_le g.pos]
 have:=rm g
 omega
theorem jC{u Y yn1 yn0 d q r:Nat}(g:jk u Y yn1 yn0 d q r)(hq:q<=4294967296)(hr:4294967296<=r):q=(u*4294967296+d)/Y:=by
 refine iV g ?_
 have h1:q*yn0<=4294967296*4294967296:=Nat.mul_le_mul hq (by have:=g.h0;omega)
 omega
theorem Db{u Y d:Nat}(hu:u<Y)(_hd:d<4294967296)(hY:Y<18446744073709551616):
  IntKind.u64.wrap (IntKind.u64.wrap (IntKind.u64.wrap ((u:Int)*4294967296)+(d:Int))-IntKind.u64.wrap ((((u*4294967296+d)/Y:Nat):Int)*(Y:Int)))=(((u*4294967296+d)%Y:Nat):Int):=by
 have e:=Nat.div_add_mod (u*4294967296+d) Y
 have hm:=Nat.mod_lt (u*4294967296+d) (y:=Y) (by omega)
 have c:((((u*4294967296+d)/Y:Nat):Int)*(Y:Int))=((Y*((u*4294967296+d)/Y):Nat):Int):=by rw[Int.natCast_mul,Int.mul_comm]
 rw[c]
 generalize Y*((u*4294967296+d)/Y)=p at *
 generalize (u*4294967296+d)%Y=m at *
 simp only[IntKind.wrap_u64]
 omega
theorem y9(a b s:Nat)(h:b<2^s):(a*2^s)||| b=a*2^s+b:=by
 have:=Nat.shiftLeft_add_eq_or_of_lt h a
 rw[Nat.shiftLeft_eq]at this
 exact this.symm
theorem fq(s:Nat):(2:Int)^s=((2^s:Nat):Int):=by rw[Int.natCast_pow];rfl
theorem pV(a s:Nat)(h:a*2^s<18446744073709551616):IntKind.u64.wrap ((a:Int)*2^s)=((a*2^s:Nat):Int):=by
 rw[fq, <-Int.natCast_mul,IntKind.wrap_u64];omega
theorem tY(a s:Nat):IntKind.u64.wrap ((a:Int)*2^s)=((a*2^s%18446744073709551616:Nat):Int):=by
 rw[fq, <-Int.natCast_mul,IntKind.wrap_u64];omega
theorem fC(a s:Nat):(a:Int)/2^s=((a/2^s:Nat):Int):=by rw[fq,Int.natCast_ediv]
theorem l9(a:Nat)(h:a<18446744073709551616):bits .and .u64 (a:Int) 4294967295=((a%4294967296:Nat):Int):=by
 have h1:=bits_and_u64_nat a 4294967295 h (by omega)
 have e:a&&& 4294967295=a%4294967296:=Nat.and_two_pow_sub_one_eq_mod a 32
 rw[e]at h1
 exact h1
theorem PK(a b s:Nat)(hb:b<2^s)(ha:a*2^s<18446744073709551616)(hb':b<18446744073709551616):bits .or .u64 ((a*2^s:Nat):Int) (b:Int)=((a*2^s+b:Nat):Int):=by
 have h1:=bits_or_u64_nat (a*2^s) b ha hb'
 rw[y9 a b s hb]at h1
 exact h1
theorem im(s:Nat)(hs:s<=63):2^(64-s)*2^s=18446744073709551616:=by
 rw[<-Nat.pow_add,show 64-s+s=64 from by omega]
theorem Hl(lo s:Nat)(hs:s<=63)(h:lo<18446744073709551616):lo/2^(64-s)<2^s:=by
 rw[Nat.div_lt_iff_lt_mul (Nat.pow_pos (by omega)),Nat.mul_comm,im s hs];exact h
theorem Jz(hi lo y s:Nat)(hs:s<=63)(h:lo<18446744073709551616)(hy:hi<y):hi*2^s+lo/2^(64-s)<y*2^s:=by
 have h1:=Hl lo s hs h
 have h2:(hi+1)*2^s<=y*2^s:=Nat.mul_le_mul_right _ hy
 rw[Nat.add_mul]at h2
 omega
theorem JF(hi lo s:Nat)(hs:s<=63):(18446744073709551616*hi+lo)*2^s=(hi*2^s+lo/2^(64-s))*18446744073709551616+lo*2^s%18446744073709551616:=by
 have h1:lo*2^s/18446744073709551616=lo/2^(64-s):=by
  rw[<-im s hs,Nat.mul_div_mul_right _ _ (Nat.pow_pos (by omega))]
 have h2:=Nat.div_add_mod (lo*2^s) 18446744073709551616
 rw[h1]at h2
 rw[Nat.add_mul,Nat.add_mul,Nat.mul_right_comm,Nat.mul_comm hi (2^s)]
 have h3:18446744073709551616*2^s*hi=2^s*hi*18446744073709551616:=by rw[Nat.mul_assoc,Nat.mul_comm]
 omega
theorem zE(A Y d0:Nat)(h:0<Y):(A*4294967296+d0)/Y=A/Y*4294967296+(A%Y*4294967296+d0)/Y/\(A*4294967296+d0)%Y=(A%Y*4294967296+d0)%Y:=by
 have e:=Nat.div_add_mod A Y
 generalize A/Y=Q at *
 generalize A%Y=v at *
 have e2:A*4294967296+d0=v*4294967296+d0+Y*(Q*4294967296):=by
  rw[<-e,Nat.add_mul,Nat.mul_assoc];omega
 rw[e2]
 refine⟨?_,Nat.add_mul_mod_self_left _ _ _⟩
 rw[Nat.add_mul_div_left _ _ h,Nat.add_comm]
theorem BG(hi lo y s:Nat)(hs:s<=63)(hy:hi<y):let u:=hi*2^s+lo/2^(64-s);let Y:=y*2^s;let M:=lo*2^s%18446744073709551616;let d1:=M/4294967296;let d0:=M%4294967296;
  (18446744073709551616*hi+lo)/y=(u*4294967296+d1)/Y*4294967296+((u*4294967296+d1)%Y*4294967296+d0)/Y/\(18446744073709551616*hi+lo)%y=((u*4294967296+d1)%Y*4294967296+d0)%Y/2^s:=by
 intro u Y M d1 d0
 have p:0<2^s:=Nat.pow_pos (by omega)
 have hY:0<Y:=Nat.mul_pos (by omega) p
 have t:=zE (u*4294967296+d1) Y d0 hY
 have e:(u*4294967296+d1)*4294967296+d0=(18446744073709551616*hi+lo)*2^s:=by
  rw[JF hi lo s hs]
  show(u*4294967296+M/4294967296)*4294967296+M%4294967296=u*18446744073709551616+M
  omega
 rw[e]at t
 rw[<-t.1, <-t.2]
 exact⟨(Nat.mul_div_mul_right _ _ p).symm,by rw[Nat.mul_mod_mul_right,Nat.mul_div_cancel _ p]⟩
theorem eQ{u Y d q v:Nat}(hu:u<Y)(hd:d<4294967296)(hY:Y<18446744073709551616)(hq:q=(u*4294967296+d)/Y)(hv:v=(u*4294967296+d)%Y):
  IntKind.u64.wrap (IntKind.u64.wrap (IntKind.u64.wrap ((u:Int)*4294967296)+(d:Int))-IntKind.u64.wrap ((q:Int)*(Y:Int)))=(v:Int):=by
 subst hq hv;exact Db hu hd hY
theorem yG{hi lo y s:Nat}(hs:s<=63)(hy:hi<y)(Q1 v Q0 R:Nat)(h1:Q1=((hi*2^s+lo/2^(64-s))*4294967296+lo*2^s%18446744073709551616/4294967296)/(y*2^s))(h2:v=((hi*2^s+lo/2^(64-s))*4294967296+lo*2^s%18446744073709551616/4294967296)%(y*2^s))
  (h3:Q0=(v*4294967296+lo*2^s%18446744073709551616%4294967296)/(y*2^s)) (h4:R=(v*4294967296+lo*2^s%18446744073709551616%4294967296)%(y*2^s)):
  (18446744073709551616*hi+lo)/y=Q1*4294967296+Q0/\(18446744073709551616*hi+lo)%y=R/2^s:=by
 have:=BG hi lo y s hs hy
 simp only at this
 subst h1 h2 h3 h4
 exact this
theorem zj{v yn1:Nat}(h:0<yn1):v-v/yn1*yn1<yn1:=by
 have:=Nat.mod_lt v h
 rw[Nat.mod_def,Nat.mul_comm]at this
 exact this
theorem fQ{u Y d v:Nat}(h:u<Y)(hv:v=(u*4294967296+d)%Y):v<Y:=by
 subst hv;exact Nat.mod_lt _ (by omega)
end Go.Proofs.YtgcnhfgpflncaaaGreatDoor
