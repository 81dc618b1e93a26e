import Derived.Test.YtkdmippllpekfaaGreatDoorB7
import Derived.Lib.Mul64
import Derived.Test.YtkdmippllpekfaaGreatDoorB6
import Derived.Test.YtkdmippllpekfaaGreatDoorB9
namespace Go.Proofs.YtkdmippllpekfaaGreatDoor
set_option maxRecDepth 100000
set_option maxHeartbeats 6400000
variable{q:Bool}{a b c d:Int}{L X g i k l m n p y:Nat}{w w':World}
section
open Go.RowKit
theorem yZ{q:Nat}(hm:m=q*y)(hq:q<=4294967297)(hy:y<4294967296):m<18446744073709551616:=by have:q*y<=4294967297*4294967295:=aP hq (by omega);omega
theorem oD{a b:Nat}(h:a=b)(h':b<4294967296):(a:Int)<4294967296:=by omega
theorem zf{q r m:Int}(h:4294967296<=q\/4294967296*r+d<m):4294967296<=q\/(q<4294967296/\4294967296*r+d<m):=by omega
theorem iw{k l:IntKind}(h:a=b)(h':c=d):Ending.returned (.tuple #[.int k a,.int l c])=.returned (.tuple #[.int k b,.int l d]):=by rw[h,h']
theorem JS(lo y:Nat)(w:World)(h1:lo<18446744073709551616)(h2:y<18446744073709551616)(h3:0<y):Calls Tryz.prog 144 #[.int .u64 0,.int .u64 (lo:Int),.int .u64 (y:Int)] w fun e w'=>e=.returned (.tuple #[.int .u64 ((lo/y:Nat):Int),.int .u64 ((lo%y:Nat):Int)])/\Below w.heap.size w w':=by
 have Ag:((y:Int)==0)=false:=by rw[dn];omega
 go_enter Tryz.func144,Tryz.ntmps144;go_wp2
 go_quiet (fail)
 go_wp2
 go_ret2
 have hq:lo/y<18446744073709551616:=aN (bT _ _) h1;exact⟨iw (by rw[<-pU];generalize lo/y=q at *;rw[aK];omega) (by rw[Int.natCast_emod]),below_drewN (aj _ _) _⟩
theorem Rc(hi lo y:Nat)(w:World)(h0:hi<18446744073709551616)(h1:lo<18446744073709551616)(h2:y<18446744073709551616)(h3:hi<y)(h4:0<hi):Calls Tryz.prog 144 #[.int .u64 (hi:Int),.int .u64 (lo:Int),.int .u64 (y:Int)] w fun e w'=>e=.returned (.tuple #[.int .u64 (((18446744073709551616*hi+lo)/y:Nat):Int),.int .u64 (((18446744073709551616*hi+lo)%y:Nat):Int)])/\Below w.heap.size w w':=by
 generalize hQf:(18446744073709551616*hi+lo)/y=Qf;generalize hRf:(18446744073709551616*hi+lo)%y=Rf;have HQf:=ag hQf;have HRf:=ag hRf;clear hQf hRf;have Ag:((y:Int)==0)=false:=by rw[dn];omega
 have hh0:((hi:Int)==0)=false:=by rw[dn];omega
 go_enter Tryz.func144,Tryz.ntmps144
 go_wp2_with fail
 refine(NC (y:Int) _ (by omega) (by omega)).mono ?_;rintro e w' ⟨s,rfl,hs,ha,hb,rfl⟩;rw[dV]at ha hb;have hp:(0:Int)<2^s:=by rw[lK];have:0<2^s:=bR (by omega);omega
 have hhs:hi*2^s<18446744073709551616:=by have:=ax (2^s) (fk h3);omega
 have dh:=WZ lo s hs h1;have Pt:=YG hi lo y s hs h1 h3;have acj:lo/2^(64-s)<18446744073709551616:=aN (bT _ _) h1;have HW:=ag (fun Q1 v Q0 R=>MM (lo:=lo) hs h3 Q1 v Q0 R);have eY:=Ld y s hb;have eH:=Ld hi s hhs;have eT:=nQ lo (64-s);have eO:=or_eq hi (lo/2^(64-s)) s dh hhs acj;have eM:=Ig lo s;have hM:lo*2^s%18446744073709551616<18446744073709551616:=aD _ (by omega);generalize y*2^s=Y at *;generalize hi*2^s+lo/2^(64-s)=u at *;generalize hi*2^s=H at *;generalize lo/2^(64-s)=T at *;generalize lo*2^s%18446744073709551616=M at *;have aeS:=xH Y hb;have aeQ:=xH M hM;have aeT:(Y:Int)/4294967296=((Y/4294967296:Nat):Int):=by omega
 have aeR:(M:Int)/4294967296=((M/4294967296:Nat):Int):=by omega
 have hy1:2147483648<=Y/4294967296:=by omega
 have I_:Y/4294967296<4294967296:=by omega
 have Nn:Y%4294967296<4294967296:=by omega
 have hYs:Y=Y/4294967296*4294967296+Y%4294967296:=by omega
 have sJ:M/4294967296<4294967296:=by omega
 have lZ:M%4294967296<4294967296:=by omega
 generalize Y/4294967296=yn1 at *;generalize Y%4294967296=vx at *;generalize M/4294967296=un1 at *;generalize M%4294967296=Zm at *;have G0:=ag (pC hYs hy1 I_ Nn Pt sJ);have adT:=pC hYs hy1 I_ Nn Pt sJ;have afo:=adT.le;have DT:u/yn1*yn1<=u:=cR u yn1;have eq0:(u:Int)/(yn1:Int)=((u/yn1:Nat):Int):=(pU u yn1).symm;have ep0:((u/yn1:Nat):Int)*(yn1:Int)=((u/yn1*yn1:Nat):Int):=(aG _ _).symm;have HU0:=ag (Ob (v:=u) (yn1:=yn1) (by omega));have HYs:=ag hYs;clear adT hYs;generalize u/yn1*yn1=p0 at *;generalize u/yn1=q0 at *;clear dh hhs acj ha;go_wp2;clear eY eH eT eO eM aeS aeQ aeT aeR eq0 ep0 Ag hh0
 go_loop [15,16] (fun a b=>∃q r:Nat,a=.int .u64 (q:Int)/\b=.int .u64 (r:Int)/\q<=4294967297/\r<4294967296/\Hid (sg u Y yn1 vx un1 q r)) (fun a _=>(intOf a).toNat)
 case atStart=>exact⟨q0,u-p0,rfl,by go_num,afo,by have:=ae HU0;omega,G0.out⟩
 case round=>
  obtain⟨q,r,rfl,rfl,F',hrb,hG⟩:=hrel;obtain⟨m,hm⟩:∃m,m=q*vx:=⟨_,rfl⟩;have em:(q:Int)*(vx:Int)=(m:Int):=by rw[hm,aG]
  have h9:m<18446744073709551616:=yZ hm F' Nn;by_cases h5:(4294967296:Int)<=(q:Int)\/4294967296*(r:Int)+(un1:Int)<(m:Int)
  ·obtain⟨d1,d2,d3⟩:=vZ hG.out (by rw[<-hm];omega);have eqn:(q:Int)-1=((q-1:Nat):Int):=(by omega);have ern:(r:Int)+(yn1:Int)=((r+yn1:Nat):Int):=(by omega);have hrn:r+yn1<8589934592:=(by omega);have D2:=ag d2;clear d2;generalize IJ:q-1=q1 at *;generalize r+yn1=rn at *;have HQN:=ag IJ;clear IJ hm;by_cases h6:(4294967296:Int)<=(rn:Int)
   ·have Zw:=ag (tC D2.out (by omega) (by omega));rcases zf h5 with h7|⟨h7,h8⟩
    all_goals
     clear h5;have afp:(q1:Int)<4294967296:=oD (ae Zw) (jJ (ae G0));obtain⟨v,hv⟩:∃v,v=(u*4294967296+un1)%Y:=⟨_,rfl⟩;have eL:=mE Pt sJ hb (ae Zw) hv;have Wx:=oz Pt hv;have HV:=ag hv;have G1:=ag (pC (ae HYs) hy1 I_ Nn Wx lZ);have acC:=(ae G1).le;have Nm:v/yn1*yn1<=v:=cR v yn1;have HS0:=ag (Ob (v:=v) (yn1:=yn1) (by omega));have es0:(v:Int)/(yn1:Int)=((v/yn1:Nat):Int):=(pU v yn1).symm;have et0:((v/yn1:Nat):Int)*(yn1:Int)=((v/yn1*yn1:Nat):Int):=(aG _ _).symm;clear hv;generalize v/yn1*yn1=t0 at *;generalize v/yn1=s0 at *;go_wp2;clear eL es0 et0 em
     go_loop [18,16] (fun a b=>∃q r:Nat,a=.int .u64 (q:Int)/\b=.int .u64 (r:Int)/\q<=4294967297/\r<4294967296/\Hid (sg v Y yn1 vx Zm q r)) (fun a _=>(intOf a).toNat)
     case atStart=>exact⟨s0,v-t0,rfl,by go_num,acC,by have:=ae HS0;omega,G1.out⟩
     case round=>
      obtain⟨q,r,rfl,rfl,F',hrb,hG⟩:=hrel;obtain⟨m,hm⟩:∃m,m=q*vx:=⟨_,rfl⟩;have em:(q:Int)*(vx:Int)=(m:Int):=(by rw[hm,aG]);have h9:m<18446744073709551616:=yZ hm F' Nn;by_cases h5:(4294967296:Int)<=(q:Int)\/4294967296*(r:Int)+(Zm:Int)<(m:Int)
      ·obtain⟨d1,d2,d3⟩:=vZ hG.out (by rw[<-hm];omega);have eqn:(q:Int)-1=((q-1:Nat):Int):=(by omega);have ern:(r:Int)+(yn1:Int)=((r+yn1:Nat):Int):=(by omega);have hrn:r+yn1<8589934592:=(by omega);have D2:=ag d2;clear d2;generalize IJ:q-1=qz at *;generalize r+yn1=rn at *;have HQN:=ag IJ;clear IJ hm;by_cases h6:(4294967296:Int)<=(rn:Int)
       ·have Mp:=ag (tC D2.out (by omega) (by omega));rcases zf h5 with h7|⟨h7,h8⟩
        all_goals
         clear h5;have acz:(qz:Int)<4294967296:=oD (ae Mp) (jJ (ae G1));obtain⟨R,hR⟩:∃R,R=(v*4294967296+Zm)%Y:=⟨_,rfl⟩;have eR:=mE Wx lZ hb (ae Mp) hR;have hRY:=oz Wx hR;have HR:=ag hR;clear hR;go_wp2
         go_ret2
         obtain⟨w1,w2⟩:=ae HW q1 v qz R (ae Zw) (ae HV) (ae Mp) (ae HR);exact⟨iw (by rw[<-ae HQf,w1];omega) (by rw[<-ae HRf,w2,nQ]),aj _ _⟩
       ·rcases zf h5 with h7|⟨h7,h8⟩
        all_goals
         clear h5;go_wp2;exact⟨⟨qz,rn,rfl,rfl,by omega,by omega,D2⟩,by have:=HQN.out;simp[intOf];omega⟩
      ·have h7:¬(4294967296:Int)<=(q:Int):=(by omega);have h8:¬4294967296*(r:Int)+(Zm:Int)<(m:Int):=(by omega);have Mp:=ag (rz hG.out (by rw[<-hm];omega));clear hm h5;generalize q=qz at *;have acz:(qz:Int)<4294967296:=oD (ae Mp) (jJ (ae G1));obtain⟨R,hR⟩:∃R,R=(v*4294967296+Zm)%Y:=⟨_,rfl⟩;have eR:=mE Wx lZ hb (ae Mp) hR;have hRY:=oz Wx hR;have HR:=ag hR;clear hR;go_wp2
       go_ret2
       obtain⟨w1,w2⟩:=ae HW q1 v qz R (ae Zw) (ae HV) (ae Mp) (ae HR);exact⟨iw (by rw[<-ae HQf,w1];omega) (by rw[<-ae HRf,w2,nQ]),aj _ _⟩
   ·rcases zf h5 with h7|⟨h7,h8⟩
    all_goals
     clear h5;go_wp2;exact⟨⟨q1,rn,rfl,rfl,by omega,by omega,D2⟩,by have:=HQN.out;simp[intOf];omega⟩
  ·have h7:¬(4294967296:Int)<=(q:Int):=(by omega);have h8:¬4294967296*(r:Int)+(un1:Int)<(m:Int):=(by omega);have Zw:=ag (rz hG.out (by rw[<-hm];omega));clear hm h5;generalize q=q1 at *;have afp:(q1:Int)<4294967296:=oD (ae Zw) (jJ (ae G0));obtain⟨v,hv⟩:∃v,v=(u*4294967296+un1)%Y:=⟨_,rfl⟩;have eL:=mE Pt sJ hb (ae Zw) hv;have Wx:=oz Pt hv;have HV:=ag hv;have G1:=ag (pC (ae HYs) hy1 I_ Nn Wx lZ);have acC:=(ae G1).le;have Nm:v/yn1*yn1<=v:=cR v yn1;have HS0:=ag (Ob (v:=v) (yn1:=yn1) (by omega));have es0:(v:Int)/(yn1:Int)=((v/yn1:Nat):Int):=(pU v yn1).symm;have et0:((v/yn1:Nat):Int)*(yn1:Int)=((v/yn1*yn1:Nat):Int):=(aG _ _).symm;clear hv;generalize v/yn1*yn1=t0 at *;generalize v/yn1=s0 at *;go_wp2;clear eL es0 et0 em
   go_loop [18,16] (fun a b=>∃q r:Nat,a=.int .u64 (q:Int)/\b=.int .u64 (r:Int)/\q<=4294967297/\r<4294967296/\Hid (sg v Y yn1 vx Zm q r)) (fun a _=>(intOf a).toNat)
   case atStart=>exact⟨s0,v-t0,rfl,by go_num,acC,by have:=ae HS0;omega,G1.out⟩
   case round=>
    obtain⟨q,r,rfl,rfl,F',hrb,hG⟩:=hrel;obtain⟨m,hm⟩:∃m,m=q*vx:=⟨_,rfl⟩;have em:(q:Int)*(vx:Int)=(m:Int):=(by rw[hm,aG]);have h9:m<18446744073709551616:=yZ hm F' Nn;by_cases h5:(4294967296:Int)<=(q:Int)\/4294967296*(r:Int)+(Zm:Int)<(m:Int)
    ·obtain⟨d1,d2,d3⟩:=vZ hG.out (by rw[<-hm];omega);have eqn:(q:Int)-1=((q-1:Nat):Int):=(by omega);have ern:(r:Int)+(yn1:Int)=((r+yn1:Nat):Int):=(by omega);have hrn:r+yn1<8589934592:=(by omega);have D2:=ag d2;clear d2;generalize IJ:q-1=qz at *;generalize r+yn1=rn at *;have HQN:=ag IJ;clear IJ hm;by_cases h6:(4294967296:Int)<=(rn:Int)
     ·have Mp:=ag (tC D2.out (by omega) (by omega));rcases zf h5 with h7|⟨h7,h8⟩
      all_goals
       clear h5;have acz:(qz:Int)<4294967296:=oD (ae Mp) (jJ (ae G1));obtain⟨R,hR⟩:∃R,R=(v*4294967296+Zm)%Y:=⟨_,rfl⟩;have eR:=mE Wx lZ hb (ae Mp) hR;have hRY:=oz Wx hR;have HR:=ag hR;clear hR;go_wp2
       go_ret2
       obtain⟨w1,w2⟩:=ae HW q1 v qz R (ae Zw) (ae HV) (ae Mp) (ae HR);exact⟨iw (by rw[<-ae HQf,w1];omega) (by rw[<-ae HRf,w2,nQ]),aj _ _⟩
     ·rcases zf h5 with h7|⟨h7,h8⟩
      all_goals
       clear h5;go_wp2;exact⟨⟨qz,rn,rfl,rfl,by omega,by omega,D2⟩,by have:=HQN.out;simp[intOf];omega⟩
    ·have h7:¬(4294967296:Int)<=(q:Int):=(by omega);have h8:¬4294967296*(r:Int)+(Zm:Int)<(m:Int):=(by omega);have Mp:=ag (rz hG.out (by rw[<-hm];omega));clear hm h5;generalize q=qz at *;have acz:(qz:Int)<4294967296:=oD (ae Mp) (jJ (ae G1));obtain⟨R,hR⟩:∃R,R=(v*4294967296+Zm)%Y:=⟨_,rfl⟩;have eR:=mE Wx lZ hb (ae Mp) hR;have hRY:=oz Wx hR;have HR:=ag hR;clear hR;go_wp2
     go_ret2
     obtain⟨w1,w2⟩:=ae HW q1 v qz R (ae Zw) (ae HV) (ae Mp) (ae HR);exact⟨iw (by rw[<-ae HQf,w1];omega) (by rw[<-ae HRf,w2,nQ]),aj _ _⟩
theorem Lh(x y:Nat):x*y=(x/4294967296)*(y/4294967296)*18446744073709551616+((x/4294967296)*(y%4294967296)+(x%4294967296)*(y/4294967296))*4294967296+(x%4294967296)*(y%4294967296):=by have h:=Lib.split_mul (x/4294967296) (x%4294967296) (y/4294967296) (y%4294967296) 4294967296;rw[pW x 4294967296,pW y 4294967296]at h;exact h
theorem qK(x y:Nat)(w:World)(hx:x<18446744073709551616)(hy:y<18446744073709551616):Calls Tryz.prog 202 #[.int .u64 (x:Int),.int .u64 (y:Int)] w fun e w'=>e=.returned (.tuple #[.int .u64 ((x*y/18446744073709551616:Nat):Int),.int .u64 ((x*y%18446744073709551616:Nat):Int)])/\w'=w:=by
 have hs:=Lh x y;have ex0:=xH x hx;have ey0:=xH y hy;have ex1:(x:Int)/4294967296=((x/4294967296:Nat):Int):=by omega
 have ey1:(y:Int)/4294967296=((y/4294967296:Nat):Int):=by omega
 have b00:=Lib.half_mul_le (a:=x%4294967296) (b:=y%4294967296) (by omega) (by omega);have DP:=Lib.half_mul_le (a:=x/4294967296) (b:=y%4294967296) (by omega) (by omega);have b01:=Lib.half_mul_le (a:=x%4294967296) (b:=y/4294967296) (by omega) (by omega);have U1:=Lib.half_mul_le (a:=x/4294967296) (b:=y/4294967296) (by omega) (by omega);have e00:((x%4294967296:Nat):Int)*((y%4294967296:Nat):Int)=(((x%4294967296)*(y%4294967296):Nat):Int):=(aG _ _).symm;have e10:((x/4294967296:Nat):Int)*((y%4294967296:Nat):Int)=(((x/4294967296)*(y%4294967296):Nat):Int):=(aG _ _).symm;have e01:((x%4294967296:Nat):Int)*((y/4294967296:Nat):Int)=(((x%4294967296)*(y/4294967296):Nat):Int):=(aG _ _).symm;have e11:((x/4294967296:Nat):Int)*((y/4294967296:Nat):Int)=(((x/4294967296)*(y/4294967296):Nat):Int):=(aG _ _).symm;have eP:(x:Int)*(y:Int)=((x*y:Nat):Int):=(aG _ _).symm;generalize (x%4294967296)*(y%4294967296)=p00 at *;generalize (x/4294967296)*(y%4294967296)=wF at *;generalize (x%4294967296)*(y/4294967296)=p01 at *;generalize (x/4294967296)*(y/4294967296)=p11 at *;generalize x/4294967296=x1 at *;generalize y/4294967296=y1 at *;generalize x%4294967296=x0 at *;generalize y%4294967296=y0 at *;obtain⟨t,ht⟩:∃t:Nat,t=wF+p00/4294967296:=⟨_,rfl⟩;have htb:t<18446744073709551616:=by omega
 have et:(wF:Int)+(p00:Int)/4294967296=(t:Int):=by omega
 have em:=xH t htb;have Ka:p11+t/4294967296+(t%4294967296+p01)/4294967296=x*y/18446744073709551616:=by omega
 have hm:t%4294967296<4294967296:=by omega
 generalize t%4294967296=tm at *;generalize hPP:x*y=P at *;generalize hqq:P/18446744073709551616=Qf at *;generalize hrr:P%18446744073709551616=Rf at *;have H1:=ag Ka;have H2:=ag hrr;have H4:=ag hs;have H5:=ag hqq;clear Ka hrr hs hqq hPP ht;go_enter Tryz.func202,Tryz.ntmps202;go_wp2
 go_ret2
 exact⟨iw (by have:=ae H1;have:=ae H5;omega) (by have:=ae H2;rw[aK];omega),rfl⟩
theorem my(x y:Nat)(w:World):(callFunc 133 #[.int .u64 (x:Int),.int .u64 (y:Int),.int .u64 ((0:Nat):Int)]).run Tryz.prog w=.ok (.value (.tuple #[.int .u64 (((x+y+0)%18446744073709551616:Nat):Int),.int .u64 (((x+y+0)/18446744073709551616:Nat):Int)])) w:=by kernel_rfl
theorem Bd(x y:Nat)(w:World):(callFunc 133 #[.int .u64 (x:Int),.int .u64 (y:Int),.int .u64 ((1:Nat):Int)]).run Tryz.prog w=.ok (.value (.tuple #[.int .u64 (((x+y+1)%18446744073709551616:Nat):Int),.int .u64 (((x+y+1)/18446744073709551616:Nat):Int)])) w:=by kernel_rfl
theorem wk(x y:Nat)(w:World):(callFunc 206 #[.int .u64 (x:Int),.int .u64 (y:Int),.int .u64 ((0:Nat):Int)]).run Tryz.prog w=.ok (.value (.tuple #[.int .u64 (((x+18446744073709551616-y-0)%18446744073709551616:Nat):Int),.int .u64 ((if x<y+0 then 1 else 0:Nat):Int)])) w:=by kernel_rfl
theorem Df(x y:Nat)(w:World):(callFunc 206 #[.int .u64 (x:Int),.int .u64 (y:Int),.int .u64 ((1:Nat):Int)]).run Tryz.prog w=.ok (.value (.tuple #[.int .u64 (((x+18446744073709551616-y-1)%18446744073709551616:Nat):Int),.int .u64 ((if x<y+1 then 1 else 0:Nat):Int)])) w:=by kernel_rfl
theorem Ev(x y c:Nat)(hc:c<=1)(w:World):(callFunc 133 #[.int .u64 (x:Int),.int .u64 (y:Int),.int .u64 (c:Int)]).run Tryz.prog w=.ok (.value (.tuple #[.int .u64 (((x+y+c)%18446744073709551616:Nat):Int),.int .u64 (((x+y+c)/18446744073709551616:Nat):Int)])) w:=by
 match c,hc with
 |0,_=>exact my x y w
 |1,_=>exact Bd x y w
theorem Tw(x y c:Nat)(hc:c<=1)(w:World):(callFunc 206 #[.int .u64 (x:Int),.int .u64 (y:Int),.int .u64 (c:Int)]).run Tryz.prog w=.ok (.value (.tuple #[.int .u64 (((x+18446744073709551616-y-c)%18446744073709551616:Nat):Int),.int .u64 ((if x<y+c then 1 else 0:Nat):Int)])) w:=by
 match c,hc with
 |0,_=>exact wk x y w
 |1,_=>exact Df x y w
theorem S3{p:Bool}(h:a=b)(h':c=d)(h'':p=q):Ending.returned (.tuple #[.int .u64 a,.int .u64 c,.bool p])=.returned (.tuple #[.int .u64 b,.int .u64 d,.bool q]):=by rw[h,h',h'']
theorem ac6{p:Bool}(h:a=b)(h'':p=q):Ending.returned (.tuple #[.int .u64 a,.bool p])=.returned (.tuple #[.int .u64 b,.bool q]):=by rw[h,h'']
theorem yO(hi lo y:Nat)(w:World)(h0:hi<y)(h1:lo<18446744073709551616)(h2:y<18446744073709551616):Calls Tryz.prog 144 #[.int .u64 (hi:Int),.int .u64 (lo:Int),.int .u64 (y:Int)] w fun e w'=>e=.returned (.tuple #[.int .u64 (((18446744073709551616*hi+lo)/y:Nat):Int),.int .u64 (((18446744073709551616*hi+lo)%y:Nat):Int)])/\Below w.heap.size w w':=by
 by_cases h:hi=0
 ·subst h;have:=JS lo y w h1 h2 h0;rw[dO,bh];exact this
 ·exact Rc hi lo y w (by omega) h1 h2 h0 (by omega)
theorem nC(x y:Nat)(w:World)(hx:x<18446744073709551616)(hy:y<18446744073709551616):Calls Tryz.prog 180 #[.int .u64 (x:Int),.int .u64 (y:Int)] w fun e w'=>e=.returned (.tuple #[.int .u64 ((x*y/18446744073709551616:Nat):Int),.int .u64 ((x*y%18446744073709551616:Nat):Int)])/\w'=w:=by
 go_enter Tryz.func180,Tryz.ntmps180
 go_wp2_with fail
 refine(qK x y _ hx hy).mono ?_;rintro e w' ⟨rfl,rfl⟩;go_wp2
 go_ret2
 exact⟨iw rfl rfl,rfl⟩
theorem Xz(d:Nat)(h:d<18446744073709551616):18446744073709551615^^^d=18446744073709551615-d:=by have e:=gi BitVec.toNat (BitVec.allOnes_xor (x:=BitVec.ofNat 64 d));rw[BitVec.toNat_xor,BitVec.toNat_not,BitVec.toNat_allOnes,BitVec.toNat_ofNat,bc (by omega)]at e;exact e
theorem not_eq(d:Nat)(h:d<18446744073709551616):bits .xor .u64 IntKind.u64.max (d:Int)=((18446744073709551615-d:Nat):Int):=by
 have e:IntKind.u64.max=((18446744073709551615:Nat):Int):=by decide
 rw[e,u64_xor_nat 18446744073709551615 d (by omega) h,Xz d h]
def inv1(d:Nat):Nat:=(18446744073709551616*(18446744073709551615-d)+18446744073709551615)/d
theorem G6(d:Nat)(h1:9223372036854775808<=d)(h2:d<18446744073709551616):inv1 d<18446744073709551616:=by unfold inv1;rw[aR (by omega)];omega
theorem IB(d:Nat)(w:World)(h1:9223372036854775808<=d)(h2:d<18446744073709551616):Calls Tryz.prog 177 #[.int .u64 (d:Int)] w fun e w'=>e=.returned (.int .u64 (inv1 d:Int))/\Below w.heap.size w w':=by
 have hsg:IntKind.u64.signed=false:=rfl;have hx:=not_eq d h2;have hc:=yO (18446744073709551615-d) 18446744073709551615 d w (by omega) (by omega) h2;have hI:inv1 d=(18446744073709551616*(18446744073709551615-d)+18446744073709551615)/d:=rfl;generalize 18446744073709551615-d=nd at *;have HC:=ag hc;clear hc;generalize inv1 d=I at *;have HI:=ag hI;clear hI;go_enter Tryz.func177,Tryz.ntmps177
 go_wp2_with fail
 refine(ae HC).mono ?_;rintro e w' ⟨rfl,hb⟩;rw[<-ae HI];go_wp2;go_ret;exact⟨bY rfl,hb⟩
theorem lN(a b c k:Nat)(w:World)(hk:(c=0/\k=0)\/(c≠0/\k=1)):Calls Tryz.prog 107 #[.int .u64 (a:Int),.int .u64 (b:Int),.int .u64 (c:Int)] w fun e w'=>e=.returned (.tuple #[.int .u64 (((a+b+k)%18446744073709551616:Nat):Int),.int .u64 (((a+b+k)/18446744073709551616:Nat):Int)])/\w'=w:=by
 rcases hk with⟨h,rfl⟩|⟨h,rfl⟩
 ·have hc:((c:Int)!=0)=false:=by rw[h];rfl
  have hr:∀w,(callFunc 133 #[.int .u64 (a:Int),.int .u64 (b:Int),.int .u64 0]).run Tryz.prog w=_:=fun w=>my a b w;clear h;generalize (a+b+0)%18446744073709551616=S at *;generalize (a+b+0)/18446744073709551616=O at *;go_enter Tryz.func107,Tryz.ntmps107;go_wp2
  go_ret2
  exact⟨iw rfl rfl,rfl⟩
 ·have hc:((c:Int)!=0)=true:=by rw[kd];omega
  have hr:∀w,(callFunc 133 #[.int .u64 (a:Int),.int .u64 (b:Int),.int .u64 1]).run Tryz.prog w=_:=fun w=>Bd a b w;clear h;generalize (a+b+1)%18446744073709551616=S at *;generalize (a+b+1)/18446744073709551616=O at *;go_enter Tryz.func107,Tryz.ntmps107;go_wp2
  go_ret2
  exact⟨iw rfl rfl,rfl⟩
theorem Dv(a b c k:Nat)(w:World)(hk:(c=0/\k=0)\/(c≠0/\k=1)):Calls Tryz.prog 181 #[.int .u64 (a:Int),.int .u64 (b:Int),.int .u64 (c:Int)] w fun e w'=>e=.returned (.tuple #[.int .u64 (((a+18446744073709551616-b-k)%18446744073709551616:Nat):Int),.int .u64 ((if a<b+k then 1 else 0:Nat):Int)])/\w'=w:=by
 rcases hk with⟨h,rfl⟩|⟨h,rfl⟩
 ·have hc:((c:Int)!=0)=false:=by rw[h];rfl
  have hr:∀w,(callFunc 206 #[.int .u64 (a:Int),.int .u64 (b:Int),.int .u64 0]).run Tryz.prog w=_:=fun w=>wk a b w;clear h;generalize (a+18446744073709551616-b-0)%18446744073709551616=S at *;generalize (if a<b+0 then 1 else 0:Nat)=O at *;go_enter Tryz.func181,Tryz.ntmps181;go_wp2
  go_ret2
  exact⟨iw rfl rfl,rfl⟩
 ·have hc:((c:Int)!=0)=true:=by rw[kd];omega
  have hr:∀w,(callFunc 206 #[.int .u64 (a:Int),.int .u64 (b:Int),.int .u64 1]).run Tryz.prog w=_:=fun w=>Df a b w;clear h;generalize (a+18446744073709551616-b-1)%18446744073709551616=S at *;generalize (if a<b+1 then 1 else 0:Nat)=O at *;go_enter Tryz.func181,Tryz.ntmps181;go_wp2
  go_ret2
  exact⟨iw rfl rfl,rfl⟩
structure TB(w:World):Prop where
 b:∀j,j<12->w.cell? ⟨3,j,none⟩=some (.int .u64 (bs j:Int))
 d:∀j,j<64->w.cell? ⟨2,j,none⟩=some (.int .u8 (Lib.deBruijn64tab.getD j 0:Int))
theorem TB.next(h:TB w)(hb:Below w.heap.size w w'):TB w':=
 ⟨fun j hj=>(hb.cell (p:=⟨3,j,none⟩) (aw _ _ (h.b j hj))).trans (h.b j hj),
  fun j hj=>(hb.cell (p:=⟨2,j,none⟩) (aw _ _ (h.d j hj))).trans (h.d j hj)⟩
theorem adk(x a:Nat)(hx:x<18446744073709551616)(Ml:x≠0)(GK:x&&& (18446744073709551616-x)=a):IntKind.u64.wrap (bits BinOp.and IntKind.u64 (x:Int) (IntKind.u64.wrap (-(x:Int)))*285870213051353865)/288230376151711744=((a*285870213051353865%18446744073709551616/288230376151711744:Nat):Int):=by
 have e1:IntKind.u64.wrap (-(x:Int))=((18446744073709551616-x:Nat):Int):=by rw[aK];omega
 rw[e1,qV x _ hx (by omega),GK,aK];omega
theorem aa3(x k idx:Nat)(w:World)(Ml:((x:Int)==0)=false)(key:IntKind.u64.wrap (bits BinOp.and IntKind.u64 (x:Int) (IntKind.u64.wrap (-(x:Int)))*285870213051353865)/288230376151711744=(idx:Int))(hi:idx<64)(hk:k<64)(jK:w.cell? ⟨2,idx,none⟩=some (.int .u8 (k:Int))):Calls Tryz.prog 228 #[.int .u64 (x:Int)] w fun e w'=>e=.returned (.int .i64 (k:Int))/\w'=w:=by
 go_enter Tryz.func228,Tryz.ntmps228
 go_wp2_with (simp only[key])
 go_ret;exact⟨rfl,rfl⟩
theorem YE(x:Nat)(w:World)(hx:x<18446744073709551616)(Ml:x≠0)(hT:TB w):Calls Tryz.prog 228 #[.int .u64 (x:Int)] w fun e w'=>e=.returned (.int .i64 (Lib.ctz 64 x:Int))/\w'=w:=by
 obtain⟨GK,hk⟩:=Lib.lowest_bit 64 x Ml hx;obtain⟨hi,afu⟩:=Lib.deBruijn64_at _ hk;have jK:=hT.d _ hi;rw[afu]at jK;exact aa3 x _ _ w (by simp;omega) (adk x _ hx Ml GK) hi hk jK
theorem FG(n a b:Nat)(w:World)(ha:a<n)(hb:b<n)(hn:n<18446744073709551616):Calls Tryz.prog 241 #[.int .u64 (a:Int),.int .u64 (b:Int),.int .u64 (n:Int)] w fun e w'=>e=.returned (.int .u64 (ml n a b:Int))/\Below w.heap.size w w':=by
 have C2:=ag (fun w=>qK a b w (by omega) (by omega));have Ka:=Fi ha hb (by omega);have BH:=aD (a*b) (show 0<18446744073709551616 by omega);have hT:=aS (a*b) 18446744073709551616;have hR:ml n a b=a*b%n:=rfl;generalize a*b/18446744073709551616=hi at *;generalize a*b%18446744073709551616=lo at *;rw[<-hT]at hR;have C3:=fun w=>yO hi lo n w Ka BH hn;rw[<-hR]at C3;have C3:=ag C3;generalize (18446744073709551616*hi+lo)/n=Q at *;generalize ml n a b=z at *;clear hR hT;go_enter Tryz.func241,Tryz.ntmps241
 go_wp2_with fail
 refine(ae C2 _).mono ?_;rintro e w1 ⟨rfl,rfl⟩
 go_wp2_with fail
 refine(ae C3 _).mono ?_;rintro e w2 ⟨rfl,b1⟩;go_wp2;go_ret;exact⟨bY rfl,b1⟩
theorem SK(a b:Nat):(a:Int).tmod (b:Int)=((a%b:Nat):Int):=rfl
theorem SG(n A K:Nat)(w:World)(h1:1<n)(hA:A<n)(hn:n<18446744073709551616)(hK:K<18446744073709551616):Calls Tryz.prog 240 #[.int .u64 (A:Int),.int .u64 (K:Int),.int .u64 (n:Int)] w fun e w'=>e=.returned (.int .u64 (pw n A K:Int))/\Below w.heap.size w w':=by
 have CM:Hid (∀x y w,x<n->y<n->Calls Tryz.prog 241 #[.int .u64 ((x:Nat):Int),.int .u64 ((y:Nat):Int),.int .u64 (n:Int)] w fun e w'=>e=.returned (.int .u64 (ml n x y:Int))/\Below w.heap.size w w'):=fun x y w hx hy=>FG n x y w hx hy hn;have H0:=ag (Cl (n:=n) (A:=A) K h1 hA);have H1:Hid (∀o s k,Gb n A K o s k->o<n/\s<n):=fun o s k h=>⟨h.1,h.2.1⟩;have H2:=ag (fun o s k=>KS (n:=n) (A:=A) (K:=K) (o:=o) (s:=s) (k:=k));have H3:=ag (fun o s k=>Ft (n:=n) (A:=A) (K:=K) (o:=o) (s:=s) (k:=k));have H4:=ag (fun o s=>Ck (n:=n) (A:=A) (K:=K) (o:=o) (s:=s));generalize Gb n A K=T at *;generalize pw n A K=Z at *;generalize ml n=M at *;go_enter Tryz.func240,Tryz.ntmps240;go_wp2
 go_loopw [7,0,1] (fun ov sv kv wr=>∃(o s k:Nat),k<18446744073709551616/\ov=.int .u64 (o:Int)/\sv=.int .u64 (s:Int)/\kv=.int .u64 (k:Int)/\Hid (T o s k)/\Below w.heap.size w wr) (fun _ _ kv _=>(intOf kv).toNat)
 case atStart=>exact⟨1,A,K,hK,rfl,rfl,rfl,H0,aj _ _⟩
 case round=>
  obtain⟨o,s,k,hk,rfl,rfl,rfl,hE,hb⟩:=hrel;obtain⟨ho,hs⟩:=ae H1 _ _ _ hE.out;by_cases h0:k=0
  ·subst h0;have e:(o:Int)=(Z:Int):=(by rw[ae H4 _ _ hE.out]);have HE:=ag e;clear e hE H0 H1 H2 H3 H4 CM;go_wp2;go_ret;exact⟨bY (ae HE),hb⟩
  ·have vo:(0:Int)<(k:Int):=(by omega);have e1:(k:Int).tmod 2=((k%2:Nat):Int):=SK k 2;have e2:(k:Int).tdiv 2=((k/2:Nat):Int):=rfl;have e3:(k:Int)/2=((k/2:Nat):Int):=(by omega);have dh:Hid (k/2<k):=by show _<_;omega
   have sK:k/2<18446744073709551616:=(by omega);by_cases h2:k%2=1
   ·have HE:=ag (ae H2 _ _ _ hE.out h2);rw[h2]at e1;have C1:=ag (ae CM o s · ho hs);have C2:=ag (ae CM s s · hs hs);clear hE H0 H1 H2 H3 H4 CM h0 h2 ho hs;generalize k/2=j at *
    go_wp2_with fail
    refine(ae C1 _).mono ?_;rintro e w6 ⟨rfl,b2⟩;have hb:=aJ hb b2;clear b2
    go_wp2_with fail
    refine(ae C2 _).mono ?_;rintro e w7 ⟨rfl,b2⟩;have hb:=aJ hb b2;clear b2;go_wp2
    go_roundw
    case rel=>exact⟨_,_,j,sK,rfl,rfl,by go_num,HE,hb⟩
    case measure=>simp[intOf];exact ae dh
   ·have HE:=ag (ae H3 _ _ _ hE.out h2);have h2':k%2=0:=(by omega);rw[h2']at e1;have C2:=ag (ae CM s s · hs hs);clear hE H0 H1 H2 H3 H4 CM h0 h2 h2' ho hs;generalize k/2=j at *
    go_wp2_with fail
    refine(ae C2 _).mono ?_;rintro e w7 ⟨rfl,b2⟩;have hb:=aJ hb b2;clear b2;go_wp2
    go_roundw
    case rel=>exact⟨_,_,j,sK,rfl,rfl,by go_num,HE,hb⟩
    case measure=>simp[intOf];exact ae dh
theorem x9(hi lo d Q R:Nat)(w:World)(h:hi<d)(hl:lo<18446744073709551616)(hd:d<18446744073709551616)(hQ:Q=(18446744073709551616*hi+lo)/d)(hR:R=(18446744073709551616*hi+lo)%d):Calls Tryz.prog 114 #[.int .u64 (hi:Int),.int .u64 (lo:Int),.int .u64 (d:Int)] w fun e w'=>e=.returned (.tuple #[.int .u64 (Q:Int),.int .u64 (R:Int),.bool true])/\Below w.heap.size w w':=by
 have h':¬(d:Int)<=(hi:Int):=by omega
 have hc:=fun w=>yO hi lo d w h hl hd;rw[<-hQ, <-hR]at hc;have HC:=ag hc;clear hc hQ hR;go_enter Tryz.func114,Tryz.ntmps114
 go_wp2_with fail
 refine(ae HC _).mono ?_;rintro e w1 ⟨rfl,b1⟩;go_wp2
 go_ret3
 exact⟨S3 rfl rfl rfl,b1⟩
end
section
open Go.RowKit
end
section
open Go.RowKit
end
section
open Go.RowKit
theorem adb{x:Nat}(h:x=n-1):sp n (k+1) x=true:=by unfold sp;rw[bg h];rfl
theorem aaJ{x:Nat}(h:¬x=n-1):sp n (k+1) x=sp n k (ml n x x):=by rw[sp,aM h];rfl
theorem Te(n x:Nat):sp n 0 x=false:=rfl
theorem oZ{a b:Bool}(h:a=b):Ending.returned (.bool a)=.returned (.bool b):=by rw[h]
theorem NS(n b:Nat)(w:World)(h1:1<n)(hb:b<n)(hn:n<18446744073709551616)(hT:TB w):Calls Tryz.prog 239 #[.int .u64 (n:Int),.int .u64 (b:Int)] w fun e w'=>e=.returned (.bool (pass n b))/\Below w.heap.size w w':=by
 obtain⟨ht,_,hd⟩:=Iv h1 hn;have CT:=YE (n-1) w (by omega) (by omega) hT;have CM:Hid (∀x w,x<n->Calls Tryz.prog 241 #[.int .u64 ((x:Nat):Int),.int .u64 ((x:Nat):Int),.int .u64 (n:Int)] w fun e w'=>e=.returned (.int .u64 (ml n x x:Int))/\Below w.heap.size w w'):=fun x w hx=>FG n x x w hx hx hn;have hod:(n-1)/2^tw n=od n:=rfl;have htw:Lib.ctz 64 (n-1)=tw n:=rfl;rw[htw]at CT;have afm:od n<18446744073709551616:=by rw[<-hod];exact aN (bT _ _) (by omega)
 have CP:=ag (fun w=>SG n b (od n) w h1 hb hn afm);have es:=nQ (n-1) (tw n);rw[hod]at es;have Ml:pw n b (od n)<n:=aD _ (by omega);have hA:pass n b=(decide (pw n b (od n)=1)||sp n (tw n) (pw n b (od n))):=rfl;generalize pw n b (od n)=x0 at *;have Gx:x0=1->pass n b=true:=fun h=>by rw[hA,bg h];rfl
 have Aa:¬x0=1->pass n b=sp n (tw n) x0:=fun h=>by rw[hA,aM h];rfl
 have H1:=ag (fun k x=>adb (n:=n) (k:=k) (x:=x));have H2:=ag (fun k x=>aaJ (n:=n) (k:=k) (x:=x));have H3:=ag (Te n);have HM:Hid (∀x,ml n x x<n):=fun x=>aD _ (by omega);clear hA hod htw hd hT;generalize pass n b=Z at *;generalize od n=d at *;generalize tw n=t at *;generalize sp n=S at *;generalize ml n=M at *;obtain⟨N,hN⟩:∃N,N=n-1:=⟨_,rfl⟩;rw[<-hN]at es CT H1 H2;have eN:(n:Int)-1=(N:Int):=by omega
 have eNw:IntKind.u64.wrap (N:Int)=(N:Int):=by rw[aK];omega
 have CT:=ag CT;clear hN;by_cases Fa:x0=1
 ·have HZ:=ag (Gx Fa);subst Fa;clear Gx Aa H1 H2 H3;go_enter Tryz.func239,Tryz.ntmps239
  go_wp2_with fail
  refine(ae CT).mono ?_;rintro e w1 ⟨rfl,rfl⟩
  go_wp2_with fail
  refine(ae CP _).mono ?_;rintro e w2 ⟨rfl,b1⟩;go_wp2;go_ret;exact⟨oZ (ae HZ).symm,b1⟩
 ·have HZ:=ag (Aa Fa);have hne:((x0:Int)==1)=false:=by rw[dn];omega
  clear Gx Aa Fa;go_enter Tryz.func239,Tryz.ntmps239
  go_wp2_with fail
  refine(ae CT).mono ?_;rintro e w1 ⟨rfl,rfl⟩
  go_wp2_with fail
  refine(ae CP _).mono ?_;rintro e w2 ⟨rfl,b1⟩;clear CT CP es;go_wp2
  go_loopw [6,20] (fun xv iv wr=>∃(x i:Nat),i<=t/\x<n/\xv=.int .u64 (x:Int)/\iv=.int .i64 (i:Int)/\Hid (Z=S (t-i) x)/\Below w1.heap.size w1 wr) (fun _ iv _=>t-(intOf iv).toNat)
  case atStart=>exact⟨x0,0,by omega,Ml,rfl,rfl,HZ,b1⟩
  case round=>
   clear b1 HZ Ml hne;obtain⟨x,i,hi,hx,rfl,rfl,hz,hb⟩:=hrel;by_cases h0:i=t
   ·subst h0;have fX:=hz.out;rw[gW,ae H3]at fX;have HZ:=ag fX;clear hz fX H1 H2 H3 CM;go_wp2;go_ret;exact⟨oZ (ae HZ).symm,hb⟩
   ·have dh:(i:Int)<(t:Int):=(by omega);obtain⟨k,hk⟩:∃k,t-i=k+1:=⟨t-i-1,by omega⟩;have sK:t-(i+1)=k:=(by omega);rw[hk]at hz;by_cases hxn:x=N
    ·have fX:=hz.out;rw[ae H1 k x hxn]at fX;have HZ:=ag fX;have hxi:(x:Int)=(N:Int):=(by omega);clear hz fX H1 H2 H3 CM hk sK hxn;go_wp2;go_ret;exact⟨oZ (ae HZ).symm,hb⟩
    ·have fX:=hz.out;rw[ae H2 k x hxn, <-sK]at fX;have HZ:=ag fX;have hxi:¬(x:Int)=(N:Int):=(by omega);have C1:=ag (ae CM x · hx);have hm:=ae HM x;have vH:Hid (t-(i+1)<t-i):=by show _<_;omega
     clear hz fX H1 H2 H3 CM HM hk sK hxn
     go_wp2_with fail
     refine(ae C1 _).mono ?_;rintro e w6 ⟨rfl,b2⟩;have hb:=aJ hb b2;clear b2;go_wp2
     go_roundw
     case rel=>exact⟨_,i+1,by omega,hm,rfl,by go_num,HZ,hb⟩
     case measure=>simp[intOf];have:=ae vH;omega
theorem ZO(a b:Nat):((a:Int)==(b:Int))=decide (a=b):=by
 by_cases h:a=b
 ·rw[bg h,h];exact beq_self_eq_true _
 ·rw[aM h,dn];omega
theorem Sk(hf:∀j,j<k->¬n%bs j=0)(h:¬n%bs k=0):∀j,j<k+1->¬n%bs j=0:=fun j hj=>by
 by_cases e:j=k
 ·rw[e];exact h
 ·exact hf j (by omega)
theorem Xg(hf:∀j,j<k->pass n (bs j)=true)(h:pass n (bs k)=true):∀j,j<k+1->pass n (bs j)=true:=fun j hj=>by
 by_cases e:j=k
 ·rw[e];exact h
 ·exact hf j (by omega)
theorem OS(w:World):∀k:Nat,k<12->(Instr.index 270 (.agg #[.int .u64 2,.int .u64 3,.int .u64 5,.int .u64 7,.int .u64 11,.int .u64 13,.int .u64 17,.int .u64 19,.int .u64 23,.int .u64 29,.int .u64 31,.int .u64 37]) (.int .i64 (k:Int))).run Tryz.prog w=.ok (.int .u64 (bs k:Int)) w
 |0,_=>by kernel_rfl
 |1,_=>by kernel_rfl
 |2,_=>by kernel_rfl
 |3,_=>by kernel_rfl
 |4,_=>by kernel_rfl
 |5,_=>by kernel_rfl
 |6,_=>by kernel_rfl
 |7,_=>by kernel_rfl
 |8,_=>by kernel_rfl
 |9,_=>by kernel_rfl
 |10,_=>by kernel_rfl
 |11,_=>by kernel_rfl
 |k+12,h=>absurd h (by omega)
theorem acH(n:Nat)(w:World)(hn:n<18446744073709551616)(hT:TB w):Calls Tryz.prog 236 #[.int .u64 (n:Int)] w fun e w'=>e=.returned (.bool (G7 n))/\Below w.heap.size w w':=by
 by_cases h2:n<2
 ·have HZ:=ag (Q_ h2);generalize G7 n=Z at *;have hi:(n:Int)<2:=by omega
  clear h2;go_enter Tryz.func236,Tryz.ntmps236;go_wp2;go_ret;exact⟨oZ (ae HZ).symm,aj _ _⟩
 ·have hi:¬(n:Int)<2:=by omega
  have H1:=ag (fun k=>P_ (n:=n) (k:=k) (by omega));have H2:=ag (fun k hb hk=>WN (n:=n) (k:=k) hb hk);have H3:=ag (fun hb=>AB (n:=n) (by omega) hb);have H4:=ag (aaj (n:=n) (by omega));have HM:=ag (fun k=>Sk (n:=n) (k:=k));have HA:=ag (fun k=>Xg (n:=n) (k:=k));have HT:=ag hT;have HR:=ag xh;generalize G7 n=Z at *;have b0:w.cell? ⟨3,0,none⟩=some (.int .u64 2):=hT.b 0 (by decide);have b1:w.cell? ⟨3,1,none⟩=some (.int .u64 3):=hT.b 1 (by decide);have b2:w.cell? ⟨3,2,none⟩=some (.int .u64 5):=hT.b 2 (by decide);have b3:w.cell? ⟨3,3,none⟩=some (.int .u64 7):=hT.b 3 (by decide);have b4:w.cell? ⟨3,4,none⟩=some (.int .u64 11):=hT.b 4 (by decide);have b5:w.cell? ⟨3,5,none⟩=some (.int .u64 13):=hT.b 5 (by decide);have b6:w.cell? ⟨3,6,none⟩=some (.int .u64 17):=hT.b 6 (by decide);have b7:w.cell? ⟨3,7,none⟩=some (.int .u64 19):=hT.b 7 (by decide);have b8:w.cell? ⟨3,8,none⟩=some (.int .u64 23):=hT.b 8 (by decide);have b9:w.cell? ⟨3,9,none⟩=some (.int .u64 29):=hT.b 9 (by decide);have DP:w.cell? ⟨3,10,none⟩=some (.int .u64 31):=hT.b 10 (by decide);have U1:w.cell? ⟨3,11,none⟩=some (.int .u64 37):=hT.b 11 (by decide);go_enter Tryz.func236,Tryz.ntmps236;go_wp2;clear hT b0 b1 b2 b3 b4 b5 b6 b7 b8 b9 DP U1
  go_loopw [10] (fun iv wr=>∃k:Nat,k<=12/\iv=.int .i64 (k:Int)/\Hid (∀j,j<k->¬n%bs j=0)/\Hid (wr=w)) (fun iv _=>12-(intOf iv).toNat)
  case atStart=>exact⟨0,by omega,rfl,fun j hj=>absurd hj (by omega),rfl⟩
  case round=>
   obtain⟨k,hk,rfl,hf,hw⟩:=hrel;by_cases h12:k=12
   ·subst h12;obtain rfl:=hw.out.symm;have b0:w.cell? ⟨3,0,none⟩=some (.int .u64 2):=(ae HT).b 0 (by decide);have b1:w.cell? ⟨3,1,none⟩=some (.int .u64 3):=(ae HT).b 1 (by decide);have b2:w.cell? ⟨3,2,none⟩=some (.int .u64 5):=(ae HT).b 2 (by decide);have b3:w.cell? ⟨3,3,none⟩=some (.int .u64 7):=(ae HT).b 3 (by decide);have b4:w.cell? ⟨3,4,none⟩=some (.int .u64 11):=(ae HT).b 4 (by decide);have b5:w.cell? ⟨3,5,none⟩=some (.int .u64 13):=(ae HT).b 5 (by decide);have b6:w.cell? ⟨3,6,none⟩=some (.int .u64 17):=(ae HT).b 6 (by decide);have b7:w.cell? ⟨3,7,none⟩=some (.int .u64 19):=(ae HT).b 7 (by decide);have b8:w.cell? ⟨3,8,none⟩=some (.int .u64 23):=(ae HT).b 8 (by decide);have b9:w.cell? ⟨3,9,none⟩=some (.int .u64 29):=(ae HT).b 9 (by decide);have DP:w.cell? ⟨3,10,none⟩=some (.int .u64 31):=(ae HT).b 10 (by decide);have U1:w.cell? ⟨3,11,none⟩=some (.int .u64 37):=(ae HT).b 11 (by decide);obtain⟨af0,afK⟩:=ae H4 hf.out;go_wp2;clear b0 b1 b2 b3 b4 b5 b6 b7 b8 b9 DP U1 hw
    go_loopw [22] (fun iv wr=>∃k:Nat,k<=12/\iv=.int .i64 (k:Int)/\Hid (∀j,j<k->pass n (bs j)=true)/\Below w.heap.size w wr) (fun iv _=>12-(intOf iv).toNat)
    case atStart=>exact⟨0,by omega,rfl,fun j hj=>absurd hj (by omega),aj _ _⟩
    case round=>
     obtain⟨k,hk,rfl,hp,hb⟩:=hrel;by_cases h12:k=12
     ·subst h12;have HZ:=ag (ae H3 hf.out hp.out);go_wp2;go_ret;exact⟨oZ (ae HZ).symm,hb⟩
     ·have dh:(k:Int)<12:=(by omega);have Zg:=OS wr k (by omega);have hrb:=ae HR k (by omega);have CP:=ag (NS n (bs k) wr (by omega) (by omega) hn ((ae HT).next hb));cases EY:pass n (bs k)
      ·have HZ:=ag (ae H2 k hf.out (by omega) EY);rw[EY]at CP;generalize bs k=b at *;clear EY hp
       go_wp2_with fail
       refine(ae CP).mono ?_;rintro e w6 ⟨rfl,b2⟩;go_wp2;go_ret;exact⟨oZ (ae HZ).symm,aJ hb b2⟩
      ·have HP:=ag (ae HA k hp.out EY);rw[EY]at CP;generalize bs k=b at *;clear EY hp
       go_wp2_with fail
       refine(ae CP).mono ?_;rintro e w6 ⟨rfl,b2⟩;go_wp2
       go_roundw
       case rel=>exact⟨k+1,by omega,by go_num,HP,aJ hb b2⟩
       case measure=>simp[intOf];omega
   ·have dh:(k:Int)<12:=(by omega);have Zg:=OS wr k (by omega);have hrb:=ae HR k (by omega);have hm:(n:Int)%(bs k:Int)=((n%bs k:Nat):Int):=rfl;by_cases h0:n%bs k=0
    ·have hz:=ae H1 k (by omega) hf.out h0;rw[<-ZO]at hz;have HZ:=ag hz;rw[h0]at hm;have RK:¬(bs k:Int)=0:=(by omega);generalize bs k=b at *;clear hf h0 hz;go_wp2;go_ret;obtain rfl:=hw.out;exact⟨oZ (ae HZ).symm,aj _ _⟩
    ·have HF:=ag (ae HM k hf.out h0);have RK:¬(bs k:Int)=0:=(by omega);have hm0:¬((n%bs k:Nat):Int)=0:=(by omega);generalize n%bs k=r at *;generalize bs k=b at *;clear hf h0;go_wp2
     go_roundw
     case rel=>exact⟨k+1,by omega,by go_num,HF,hw⟩
     case measure=>simp[intOf];omega
structure MW(w:World)(g p:Nat):Prop where
 c0:w.cell? ⟨g,0,none⟩=some (.int .u64 (p:Int))
 c1:w.cell? ⟨g,1,none⟩=some (.int .u64 (qI p:Int))
 c2:w.cell? ⟨g,2,none⟩=some (.int .u64 ((18446744073709551616*18446744073709551616%p:Nat):Int))
 KA:p%2=1
 low:3<=p
 high:p<4611686018427387904
theorem MW.lt(h:MW w g p):g<w.heap.size:=aw _ _ h.c0
theorem MW.next(h:MW w g p)(hb:Below w.heap.size w w'):MW w' g p:=
 ⟨(hb.cell (p:=⟨g,0,none⟩) h.lt).trans h.c0,(hb.cell (p:=⟨g,1,none⟩) h.lt).trans h.c1,(hb.cell (p:=⟨g,2,none⟩) h.lt).trans h.c2,h.KA,h.low,h.high⟩
theorem IC{x:Int}(h:x%18446744073709551616=(n:Int)):IntKind.u64.wrap x=(n:Int):=by rw[aK];exact h
theorem DZ(p:Nat)(w:World)(hp:p<18446744073709551616):Calls Tryz.prog 231 #[.int .u64 (p:Int)] w fun e w'=>e=.returned (.int .u64 (qI p:Int))/\w'=w:=by
 have HS:Hid (∀k x y:Nat,x=p*BM p k%18446744073709551616->y=(18446744073709551618-x)%18446744073709551616->IntKind.u64.wrap ((p:Int)*(BM p k:Nat))=(x:Int)/\IntKind.u64.wrap (2-(x:Int))=(y:Int)/\IntKind.u64.wrap ((BM p k:Int)*(y:Int))=(BM p (k+1):Int)):=by
  intro k x y hx hy;have jw:x<18446744073709551616:=by rw[hx];exact aD _ (by omega)
  refine⟨IC ?_,IC ?_,IC ?_⟩
  ·rw[<-aG,hx];rfl
  ·rw[hy];omega
  ·rw[<-aG];show _=((De p (BM p k):Nat):Int);unfold De;rw[<-hx, <-hy];rfl
 have HL:=ag (Pv hp);have HI:Hid (qI p=BM p 5):=rfl;generalize qI p=I at *;have h0:BM p 0=p:=rfl;have H0:=ag h0;clear h0;generalize BM p=F at *;go_enter Tryz.func231,Tryz.ntmps231;go_wp2
 go_loopw [3,4] (fun v r wr=>∃(k x y R f:Nat),k<=5/\v=.int .u64 (f:Int)/\r=.int .i64 (R:Int)/\Hid (f=F k)/\(k=0/\R=3\/k=1/\R=6\/k=2/\R=12\/k=3/\R=24\/k=4/\R=48\/k=5/\R=96)/\Hid (x=p*F k%18446744073709551616)/\Hid (y=(18446744073709551618-x)%18446744073709551616)/\wr=w) (fun _ r _=>96-(intOf r).toNat)
 case atStart=>exact⟨0,_,_,3,p,by omega,rfl,rfl,(ae H0).symm,by omega,rfl,rfl,rfl⟩
 case round=>
  obtain⟨k,x,y,R,f,hk,rfl,rfl,hf,hR,hx,hy,rfl⟩:=hrel;by_cases h5:k=5
  ·have hR:R=96:=(by omega);subst hR;have hfI:f=I:=(by rw[hf.out,ae HI,h5]);subst hfI;clear hf;go_wp2;go_ret;exact⟨bY rfl,rfl⟩
  ·obtain⟨e1,e2,e3⟩:=ae HS k x y hx.out hy.out;obtain⟨R2,Gy⟩:∃R2,R2=R+R:=⟨_,rfl⟩;have hRi:(R:Int)*2=(R2:Int):=(by omega);have Bv:IntKind.i64.wrap (R2:Int)=(R2:Int):=by rw[ao];omega
   have dh:(R:Int)<64:=(by omega);have hm:Hid (96-R2<96-R):=by show _<_;omega
   have hR3:Hid (k+1=0/\R2=3\/k+1=1/\R2=6\/k+1=2/\R2=12\/k+1=3/\R2=24\/k+1=4/\R2=48\/k+1=5/\R2=96):=by show _\/_;omega
   rw[<-hf.out]at e1 e3;obtain⟨f2,hf2⟩:∃f2,f2=F (k+1):=⟨_,rfl⟩;rw[<-hf2]at e3;have HF2:=ag hf2;clear hf hR hf2 Gy;go_wp2
   go_roundw
   case rel=>exact⟨k+1,_,_,R2,f2,by omega,rfl,by go_num,HF2,ae hR3,rfl,rfl,by first|rfl|trivial⟩
   case measure=>simp[intOf];exact ae hm
theorem xV(a b:Nat):(a:Int).tmod (b:Int)=((a%b:Nat):Int):=rfl
theorem tN(h:MW w g p):Calls Tryz.prog 223 #[.pointer (some ⟨g,0,none⟩)] w fun e w'=>e=.returned (.int .u64 (p:Int))/\w'=w:=by
 have c0:=h.c0;clear h;go_enter Tryz.func223,Tryz.ntmps223;go_wp2;go_ret;exact⟨rfl,rfl⟩
theorem rP(h:MW w g p)(a:Nat):Calls Tryz.prog 215 #[.pointer (some ⟨g,0,none⟩),.int .u64 (a:Int)] w fun e w'=>e=.returned (.int .u64 (rd p a:Int))/\w'=w:=by
 have c0:=h.c0;have hl:=h.low;clear h;by_cases dh:a<p
 ·have e:rd p a=a:=bc dh;rw[e];clear e;have hi:(a:Int)<(p:Int):=by omega
  go_enter Tryz.func215,Tryz.ntmps215;go_wp2;go_ret;exact⟨bY rfl,rfl⟩
 ·have hi:¬(a:Int)<(p:Int):=by omega
  have hm:(a:Int).tmod (p:Int)=(rd p a:Int):=xV a p;have hz:¬(p:Int)=0:=by omega
  clear dh;generalize rd p a=r at *;go_enter Tryz.func215,Tryz.ntmps215;go_wp2;go_ret;exact⟨bY rfl,rfl⟩
theorem add_mod(h:MW w g p)(a b:Nat):Calls Tryz.prog 233 #[.pointer (some ⟨g,0,none⟩),.int .u64 (a:Int),.int .u64 (b:Int)] w fun e w'=>e=.returned (.int .u64 (ad p a b:Int))/\w'=w:=by
 have h1:rd p a<p:=aD _ (by have:=h.low;omega);have h2:rd p b<p:=aD _ (by have:=h.low;omega);have hc:(rd p a+rd p b<p/\ad p a b=rd p a+rd p b)\/(p<=rd p a+rd p b/\ad p a b+p=rd p a+rd p b):=by
  by_cases hs:rd p a+rd p b<p
  ·exact .inl ⟨hs,ZG hs⟩
  ·have:ad p a b=rd p a+rd p b-p:=adE (by omega) (cG hs);exact .inr ⟨by omega,by omega⟩
 have hp:=h.high;have o0:=h.c0;have C1:=ag (fun x=>rP h x);clear h;generalize ad p a b=z at *;generalize rd p=R at *;obtain⟨S,hS⟩:∃S,S=R a+R b:=⟨_,rfl⟩;have hSi:(R a:Int)+(R b:Int)=(S:Int):=by omega
 have hSw:IntKind.u64.wrap (S:Int)=(S:Int):=by rw[aK];omega
 rcases hc with⟨hc,hz⟩|⟨hc,hz⟩
 ·have hzz:(S:Int)=(z:Int):=by omega
  have dh:¬(p:Int)<=(S:Int):=by omega
  have HZ:=ag hzz;clear hc hz hzz hS;go_enter Tryz.func233,Tryz.ntmps233
  go_wp2_with fail
  refine(ae C1 a).mono ?_;rintro e w1 ⟨rfl,rfl⟩
  go_wp2_with fail
  refine(ae C1 b).mono ?_;rintro e w1 ⟨rfl,rfl⟩;go_wp2;go_ret;exact⟨bY (ae HZ),rfl⟩
 ·have hzz:(S:Int)-(p:Int)=(z:Int):=by omega
  have hzw:IntKind.u64.wrap (z:Int)=(z:Int):=by rw[aK];omega
  have dh:(p:Int)<=(S:Int):=by omega
  clear hc hz hS;go_enter Tryz.func233,Tryz.ntmps233
  go_wp2_with fail
  refine(ae C1 a).mono ?_;rintro e w1 ⟨rfl,rfl⟩
  go_wp2_with fail
  refine(ae C1 b).mono ?_;rintro e w1 ⟨rfl,rfl⟩;go_wp2;go_ret;exact⟨bY rfl,rfl⟩
theorem rU(h:MW w g p)(a b:Nat):Calls Tryz.prog 221 #[.pointer (some ⟨g,0,none⟩),.int .u64 (a:Int),.int .u64 (b:Int)] w fun e w'=>e=.returned (.int .u64 (sb p a b:Int))/\w'=w:=by
 have hl:=h.low;have h1:rd p a<p:=aD _ (by omega);have h2:rd p b<p:=aD _ (by omega);have hc:(rd p a<rd p b/\sb p a b+rd p b=rd p a+p)\/(rd p b<=rd p a/\sb p a b+rd p b=rd p a):=by
  by_cases hs:rd p a<rd p b
  ·have:sb p a b=rd p a+p-rd p b:=aaH (by omega) hs;exact .inl ⟨hs,by omega⟩
  ·have:sb p a b=rd p a-rd p b:=aew (by omega) (cG hs);exact .inr ⟨by omega,by omega⟩
 have hp:=h.high;have o0:=h.c0;have C1:=ag (fun x=>rP h x);clear h;generalize sb p a b=z at *;generalize rd p=R at *;rcases hc with⟨hc,hz⟩|⟨hc,hz⟩
 ·obtain⟨S,hS⟩:∃S,S=R a+p:=⟨_,rfl⟩;have hSi:(R a:Int)+(p:Int)=(S:Int):=by omega
  have hSw:IntKind.u64.wrap (S:Int)=(S:Int):=by rw[aK];omega
  have hzz:(S:Int)-(R b:Int)=(z:Int):=by omega
  have hzw:IntKind.u64.wrap (z:Int)=(z:Int):=by rw[aK];omega
  have dh:(R a:Int)<(R b:Int):=by omega
  clear hc hz hS;go_enter Tryz.func221,Tryz.ntmps221
  go_wp2_with fail
  refine(ae C1 a).mono ?_;rintro e w1 ⟨rfl,rfl⟩
  go_wp2_with fail
  refine(ae C1 b).mono ?_;rintro e w1 ⟨rfl,rfl⟩;go_wp2;go_ret;exact⟨bY rfl,rfl⟩
 ·have hzz:(R a:Int)-(R b:Int)=(z:Int):=by omega
  have hzw:IntKind.u64.wrap (z:Int)=(z:Int):=by rw[aK];omega
  have dh:¬(R a:Int)<(R b:Int):=by omega
  clear hc hz;go_enter Tryz.func221,Tryz.ntmps221
  go_wp2_with fail
  refine(ae C1 a).mono ?_;rintro e w1 ⟨rfl,rfl⟩
  go_wp2_with fail
  refine(ae C1 b).mono ?_;rintro e w1 ⟨rfl,rfl⟩;go_wp2;go_ret;exact⟨bY rfl,rfl⟩
theorem aah(h:MW w g p)(a:Nat):Calls Tryz.prog 234 #[.pointer (some ⟨g,0,none⟩),.int .u64 (a:Int)] w fun e w'=>e=.returned (.int .u64 (sb p 0 a:Int))/\w'=w:=by
 have C1:Hid (∀x:Nat,Calls Tryz.prog 221 #[.pointer (some ⟨g,0,none⟩),.int .u64 0,.int .u64 (x:Int)] w fun e w'=>e=.returned (.int .u64 (sb p 0 x:Int))/\w'=w):=fun x=>rU h 0 x;clear h;generalize sb p 0=S at *;go_enter Tryz.func234,Tryz.ntmps234
 go_wp2_with fail
 refine(ae C1 a).mono ?_;rintro e w1 ⟨rfl,rfl⟩;go_wp2;go_ret;exact⟨bY rfl,rfl⟩
theorem mul_mod(h:MW w g p)(a b:Nat):Calls Tryz.prog 194 #[.pointer (some ⟨g,0,none⟩),.int .u64 (a:Int),.int .u64 (b:Int)] w fun e w'=>e=.returned (.int .u64 (ml p a b:Int))/\Below w.heap.size w w':=by
 have hl:=h.low;have hp:=h.high;have h1:rd p a<p:=aD _ (by omega);have h2:rd p b<p:=aD _ (by omega);have o0:=h.c0;have hR:ml p a b=rd p a*rd p b%p:=(acU p a b).symm;have C1:=ag (fun x=>rP h x);have C2:=ag (fun w=>nC (rd p a) (rd p b) w (by omega) (by omega));have hT:=aS (rd p a*rd p b) 18446744073709551616;have Ka:=Fi h1 h2 (by omega);have BH:=aD (rd p a*rd p b) (show 0<18446744073709551616 by omega);generalize rd p a*rd p b/18446744073709551616=hi at *;generalize rd p a*rd p b%18446744073709551616=lo at *;rw[<-hT]at hR;obtain⟨Q,hQ⟩:∃Q,Q=(18446744073709551616*hi+lo)/p:=⟨_,rfl⟩;have C3:=ag (fun w=>x9 hi lo p Q (ml p a b) w Ka BH (by omega) hQ hR);clear h hQ hR hT;generalize ml p a b=z at *;generalize rd p=R at *;go_enter Tryz.func194,Tryz.ntmps194
 go_wp2_with fail
 refine(ae C1 a).mono ?_;rintro e w1 ⟨rfl,rfl⟩
 go_wp2_with fail
 refine(ae C1 b).mono ?_;rintro e w1 ⟨rfl,rfl⟩
 go_wp2_with fail
 refine(ae C2 _).mono ?_;rintro e w1 ⟨rfl,rfl⟩
 go_wp2_with fail
 refine(ae C3 _).mono ?_;rintro e w2 ⟨rfl,b1⟩;go_wp2;go_ret;exact⟨bY rfl,b1⟩
theorem MW.fresh(w:World)(p t:Nat)(ho:p%2=1)(hl:3<=p)(hh:p<4611686018427387904):MW (w.alloc (.cells #[.int .u64 (p:Int),.int .u64 (qI p:Int),.int .u64 ((18446744073709551616*18446744073709551616%p:Nat):Int)] t)) w.heap.size p:=by
 have hk:=aI w (.cells #[.int .u64 (p:Int),.int .u64 (qI p:Int),.int .u64 ((18446744073709551616*18446744073709551616%p:Nat):Int)] t);exact⟨ay _ w.heap.size 0 _ t (0,0) hk,ay _ w.heap.size 1 _ t (0,0) hk,ay _ w.heap.size 2 _ t (0,0) hk,ho,hl,hh⟩
theorem Tt(p:Nat):(18446744073709551616*(18446744073709551616%p))%p=18446744073709551616*18446744073709551616%p:=by rw[nU,vC, <-nU]
theorem oR(p:Nat)(w:World)(ho:p%2=1)(hl:3<=p)(hh:p<4611686018427387904):Calls Tryz.prog 211 #[.int .u64 (p:Int)] w fun e w'=>∃g,e=.returned (.tuple #[.pointer (some ⟨g,0,none⟩),.int .i64 0])/\MW w' g p/\w.heap.size<=g/\Below w.heap.size w w':=by
 have h1:¬(p:Int)<3:=by omega
 have h2:¬(4611686018427387904:Int)<=(p:Int):=by omega
 have h3:((p:Int).tmod 2)=1:=by have:=xV p 2;rw[ho]at this;exact this
 obtain⟨Q1,hQ1⟩:∃Q,Q=(18446744073709551616*1+0)/p:=⟨_,rfl⟩;have hR1:18446744073709551616%p=(18446744073709551616*1+0)%p:=rfl;have C1:Hid (∀w,Calls Tryz.prog 114 #[.int .u64 1,.int .u64 0,.int .u64 (p:Int)] w fun e w'=>e=.returned (.tuple #[.int .u64 (Q1:Int),.int .u64 ((18446744073709551616%p:Nat):Int),.bool true])/\Below w.heap.size w w'):=fun w=>x9 1 0 p Q1 (18446744073709551616%p) w (by omega) (by omega) (by omega) hQ1 hR1;have hb:18446744073709551616%p<p:=aD _ (by omega);have hs:=Tt p;have HF:=ag (fun w=>MW.fresh w p 261 ho hl hh);generalize 18446744073709551616*18446744073709551616%p=sq at *;generalize 18446744073709551616%p=r at *;obtain⟨Q2,hQ2⟩:∃Q,Q=(18446744073709551616*r+0)/p:=⟨_,rfl⟩;have C2:Hid (∀w,Calls Tryz.prog 114 #[.int .u64 (r:Int),.int .u64 0,.int .u64 (p:Int)] w fun e w'=>e=.returned (.tuple #[.int .u64 (Q2:Int),.int .u64 (sq:Int),.bool true])/\Below w.heap.size w w'):=fun w=>x9 r 0 p Q2 sq w hb (by omega) (by omega) hQ2 hs.symm;have C3:=ag (fun w=>DZ p w (by omega));generalize qI p=I at *;clear ho hl hh hb hs hQ1 hQ2 hR1;go_enter Tryz.func211,Tryz.ntmps211
 go_wp2_with fail
 refine(ae C1 _).mono ?_;rintro e w1 ⟨rfl,b1⟩
 go_wp2_with fail
 refine(ae C2 _).mono ?_;rintro e w2 ⟨rfl,b2⟩
 go_wp2_with fail
 refine(ae C3 _).mono ?_;rintro e w3 ⟨rfl,rfl⟩;have b3:=aJ b1 b2;have kF:=b3.size;have HF:=ae HF w3;clear b1 b2 C1 C2 C3;have hF:=ag HF;clear HF;go_wp2
 go_ret2
 exact⟨w3.heap.size,rfl,ae hF,kF,b3.alloc kF _⟩
theorem gT(h:MW w g p)(a b:Nat):Calls Tryz.prog 219 #[.pointer (some ⟨g,0,none⟩),.int .u64 (a:Int),.int .u64 (b:Int)] w fun e w'=>e=.returned (.int .u64 (mm p a b:Int))/\w'=w:=by
 have hl:=h.low;have hp:=h.high;have h1:rd p a<p:=aD _ (by omega);have h2:rd p b<p:=aD _ (by omega);have o0:=h.c0;have o1:=h.c1;have C1:=ag (fun x=>rP h x);have C2:=ag (fun w=>nC (rd p a) (rd p b) w (by omega) (by omega));have C4:=ag (fun x y=>rU h x y);have ho:=h.KA;obtain⟨hi,Ka⟩:∃hi,hi=rd p a*rd p b/18446744073709551616:=⟨_,rfl⟩;obtain⟨lo,BH⟩:∃lo,lo=rd p a*rd p b%18446744073709551616:=⟨_,rfl⟩;obtain⟨q,hq⟩:∃q,q=lo*qI p%18446744073709551616:=⟨_,rfl⟩;have C3:=ag (fun w=>nC q p w (by rw[hq];exact aD _ (by omega)) (by omega));obtain⟨top,ht⟩:∃top,top=q*p/18446744073709551616:=⟨_,rfl⟩;have e:sb p hi top=mm p a b:=Y_ ho (by omega) Ka BH hq ht;have hqw:IntKind.u64.wrap ((lo:Int)*(qI p:Nat))=(q:Int):=IC (by rw[<-aG,hq];rfl);have HE:=ag e;rw[<-Ka, <-BH]at C2;rw[<-ht]at C3;clear ho h hq e Ka BH ht;generalize q*p%18446744073709551616=z0 at *;generalize mm p a b=z at *;generalize qI p=I at *;generalize sb p=S at *;generalize rd p=R at *;go_enter Tryz.func219,Tryz.ntmps219
 go_wp2_with fail
 refine(ae C1 a).mono ?_;rintro e w1 ⟨rfl,rfl⟩
 go_wp2_with fail
 refine(ae C1 b).mono ?_;rintro e w1 ⟨rfl,rfl⟩
 go_wp2_with fail
 refine(ae C2 _).mono ?_;rintro e w1 ⟨rfl,rfl⟩
 go_wp2_with fail
 refine(ae C3 _).mono ?_;rintro e w1 ⟨rfl,rfl⟩
 go_wp2_with fail
 refine(ae C4 _ _).mono ?_;rintro e w1 ⟨rfl,rfl⟩;rw[ae HE];go_wp2;go_ret;exact⟨bY rfl,rfl⟩
theorem oT(h:MW w g p)(a:Nat):Calls Tryz.prog 217 #[.pointer (some ⟨g,0,none⟩),.int .u64 (a:Int)] w fun e w'=>e=.returned (.int .u64 (ml p a 18446744073709551616:Int))/\w'=w:=by
 have o2:=h.c2;have C1:=ag (fun x y=>gT h x y);have e:mm p a (18446744073709551616*18446744073709551616%p)=ml p a 18446744073709551616:=Z' a h.KA (by have:=h.high;omega);have HE:=ag e;clear e h;generalize ml p a 18446744073709551616=z at *;generalize 18446744073709551616*18446744073709551616%p=q at *;generalize mm p=M at *;go_enter Tryz.func217,Tryz.ntmps217
 go_wp2_with fail
 refine(ae C1 a q).mono ?_;rintro e w1 ⟨rfl,rfl⟩;rw[ae HE];go_wp2;go_ret;exact⟨bY rfl,rfl⟩
theorem U5(h:MW w g p)(a:Nat):Calls Tryz.prog 237 #[.pointer (some ⟨g,0,none⟩),.int .u64 (a:Int)] w fun e w'=>e=.returned (.int .u64 (mm p a 1:Int))/\w'=w:=by
 have C1:Hid (∀x:Nat,Calls Tryz.prog 219 #[.pointer (some ⟨g,0,none⟩),.int .u64 (x:Int),.int .u64 1] w fun e w'=>e=.returned (.int .u64 (mm p x 1:Int))/\w'=w):=fun x=>gT h x 1;clear h;generalize mm p=M at *;go_enter Tryz.func237,Tryz.ntmps237
 go_wp2_with fail
 refine(ae C1 a).mono ?_;rintro e w1 ⟨rfl,rfl⟩;go_wp2;go_ret;exact⟨bY rfl,rfl⟩
theorem pow_mod(h:MW w g p)(a N:Nat)(hN:N<18446744073709551616):Calls Tryz.prog 229 #[.pointer (some ⟨g,0,none⟩),.int .u64 (a:Int),.int .u64 (N:Int)] w fun e w'=>e=.returned (.int .u64 (pw p a N:Int))/\w'=w:=by
 have CM:=ag (oT h a);have CO:Hid (Calls Tryz.prog 217 #[.pointer (some ⟨g,0,none⟩),.int .u64 1] w fun e w'=>e=.returned (.int .u64 (ml p 1 18446744073709551616:Int))/\w'=w):=oT h 1;have CX:=ag (fun x y=>gT h x y);have CB:=ag (fun x=>U5 h x);have hp:p<18446744073709551616:=by have:=h.high;omega
 have H0:Hid (zr p a N (ml p 1 18446744073709551616) (ml p a 18446744073709551616) N):=SE p a N;have H1:=ag (fun(o s n:Nat)=>aar (a:=a) (N:=N) (o:=o) (s:=s) (n:=n) h.KA hp);have H2:=ag (fun(o s n:Nat)=>XC (a:=a) (N:=N) (o:=o) (s:=s) (n:=n) h.KA hp);have H3:=ag (fun(o s:Nat)=>aaq (a:=a) (N:=N) (o:=o) (s:=s) h.KA hp);clear h hp;generalize ml p 1 18446744073709551616=o1 at *;generalize ml p a 18446744073709551616=s1 at *;generalize pw p a N=z at *;generalize zr p a N=PA at *;generalize mm p=M at *;go_enter Tryz.func229,Tryz.ntmps229
 go_wp2_with fail
 refine(ae CO).mono ?_;rintro e w1 ⟨rfl,rfl⟩
 go_wp2_with fail
 refine(ae CM).mono ?_;rintro e w1 ⟨rfl,rfl⟩;go_wp2
 go_loopw [2,7,8] (fun nv ov sv wr=>∃(n o s:Nat),n<=N/\nv=.int .u64 (n:Int)/\ov=.int .u64 (o:Int)/\sv=.int .u64 (s:Int)/\Hid (PA o s n)/\wr=w1) (fun nv _ _ _=>(intOf nv).toNat)
 case atStart=>exact⟨N,o1,s1,af _,rfl,rfl,rfl,H0,rfl⟩
 case round=>
  obtain⟨n,o,s,hn,rfl,rfl,rfl,hP,rfl⟩:=hrel;by_cases h0:n=0
  ·subst h0;have e:=ae H3 _ _ hP.out;have HE:=ag e;clear e hP
   go_wp2_with fail
   refine(ae CB o).mono ?_;rintro e w1 ⟨rfl,rfl⟩;rw[ae HE];go_wp2;go_ret;exact⟨bY rfl,rfl⟩
  ·obtain⟨k,hk⟩:∃k,k=n/2:=⟨_,rfl⟩;have Zi:IntKind.u64.wrap ((n:Int)/2)=(k:Int):=by rw[aK];omega
   have vo:(0:Int)<(n:Int):=(by omega);have Pq:Hid (k<n):=by show k<n;omega
   by_cases ho:n%2=1
   ·have hm:(n:Int).tmod 2=1:=by have:=xV n 2;rw[ho]at this;exact this
    have e:=ae H1 _ _ _ hP.out ho;rw[<-hk]at e;have HE:=ag e;clear e hP ho hk
    go_wp2_with fail
    refine(ae CX o s).mono ?_;rintro e w1 ⟨rfl,rfl⟩
    go_wp2_with fail
    refine(ae CX s s).mono ?_;rintro e w1 ⟨rfl,rfl⟩;go_wp2
    go_roundw
    case rel=>exact⟨k,_,_,by have:=ae Pq;omega,by go_num,rfl,rfl,HE,by first|rfl|trivial⟩
    case measure=>simp[intOf];exact ae Pq
   ·have hm:(n:Int).tmod 2=0:=by have:=xV n 2;rw[show n%2=0 by omega]at this;exact this
    have e:=ae H2 _ _ _ hP.out ho;rw[<-hk]at e;have HE:=ag e;clear e hP ho hk
    go_wp2_with fail
    refine(ae CX s s).mono ?_;rintro e w1 ⟨rfl,rfl⟩;go_wp2
    go_roundw
    case rel=>exact⟨k,_,_,by have:=ae Pq;omega,by go_num,rfl,rfl,HE,by first|rfl|trivial⟩
    case measure=>simp[intOf];exact ae Pq
theorem Y'(p:Nat)(w:World)(hM:UN p)(hP:G7 p=true)(hT:TB w):Calls Tryz.prog 227 #[.int .u64 (p:Int)] w fun e w'=>∃g,e=.returned (.tuple #[.pointer (some ⟨g,0,none⟩),.int .i64 0])/\MW w' g p/\w.heap.size<=g/\Below w.heap.size w w':=by
 obtain⟨ho,hl,hh⟩:=hM;have CN:=ag (oR p w ho hl hh);have CI:Hid (∀w',Below w.heap.size w w'->Calls Tryz.prog 236 #[.int .u64 (p:Int)] w' fun e sP=>e=.returned (.bool true)/\Below w'.heap.size w' sP):=fun w' b=>by have:=acH p w' (by omega) (hT.next b);rw[hP]at this;exact this
 clear ho hl hh hP hT;go_enter Tryz.func227,Tryz.ntmps227
 go_wp2_with fail
 refine(ae CN).mono ?_;rintro e w1 ⟨g,rfl,h,hg,b⟩;have hM:=ag h;have hG:=ag hg;clear h CN hg
 go_wp2_with fail
 refine(ae CI _ b).mono ?_;rintro e w2 ⟨rfl,b2⟩;go_wp2
 go_ret2
 exact⟨g,rfl,(ae hM).next b2,ae hG,aJ b b2⟩
theorem D9(h:MW w g p)(hX:Et p X):Calls Tryz.prog 230 #[.pointer (some ⟨g,0,none⟩)] w fun e w'=>e=.returned (.int .u64 (X:Int))/\w'=w:=by
 have hl:=h.low;have hp:=h.high;have CP:=ag (tN h);have CW:=ag (fun x=>pow_mod h x ((p-1)/2) (by omega));have x_:=hX.two;have hXl:=hX.lt;have H1:=ag hX.hit;have H2:=ag hX.first;obtain⟨N,hN⟩:∃N,N=p-1:=⟨_,rfl⟩;obtain⟨K,hK⟩:∃K,K=N/2:=⟨_,rfl⟩;rw[<-hN, <-hK]at CW H1 H2;have eN:(p:Int)-1=(N:Int):=by omega
 have eNw:IntKind.u64.wrap (N:Int)=(N:Int):=by rw[aK];omega
 have eK:(N:Int)/2=(K:Int):=by omega
 have eK2:(N:Int).tdiv 2=(K:Int):=by rw[hK];rfl
 have eKw:IntKind.u64.wrap (K:Int)=(K:Int):=by rw[aK];omega
 clear h hX hN hK;generalize pw p=Q at *;go_enter Tryz.func230,Tryz.ntmps230
 go_wp2_with fail
 refine(ae CP).mono ?_;rintro e w1 ⟨rfl,rfl⟩;go_wp2
 go_loopw [4] (fun xv wr=>∃x:Nat,2<=x/\x<=X/\xv=.int .u64 (x:Int)/\Hid (wr=w1)) (fun xv _=>X-(intOf xv).toNat)
 case atStart=>exact⟨2,by omega,by omega,rfl,rfl⟩
 case round=>
  obtain⟨x,Fb,hxX,rfl,hw⟩:=hrel;obtain rfl:=hw.out.symm;by_cases hx:x=X
  ·subst hx;have C:=ae CW x;rw[ae H1]at C;have C:=ag C
   go_wp2_with fail
   refine(ae C).mono ?_;rintro e w2 ⟨rfl,rfl⟩;go_wp2;go_ret;exact⟨bY rfl,rfl⟩
  ·have C:=ae CW x;have hne:=ae H2 x Fb (by omega);generalize Q x K=r at *;have C:=ag C;have hni:((r:Int)!=(N:Int))=true:=by rw[kd];omega
   have vH:Hid (X-(x+1)<X-x):=by show _<_;omega
   clear hne
   go_wp2_with fail
   refine(ae C).mono ?_;rintro e w2 ⟨rfl,rfl⟩;go_wp2
   go_roundw
   case rel=>exact⟨x+1,by omega,by omega,by go_num,trivial⟩
   case measure=>simp[intOf];have:=ae vH;omega
theorem XO(p X l:Nat)(w:World)(hM:UN p)(hP:G7 p=true)(hX:Et p X)(hl:l<=20)(hd:l<=tw p)(hT:TB w):Calls Tryz.prog 210 #[.int .u64 (p:Int),.int .i64 (l:Int)] w fun e w'=>e=.returned (.tuple #[.int .u64 (pw p X ((p-1)/2^l):Int),.int .i64 0])/\Below w.heap.size w w':=by
 have CM:=ag (Y' p w hM hP hT);obtain⟨_,h3,hh⟩:=hM;have acj:=(Iv (n:=p) (by omega) (by omega)).1;have CT:Hid (∀w',Below w.heap.size w w'->Calls Tryz.prog 228 #[.int .u64 ((p-1:Nat):Int)] w' fun e sP=>e=.returned (.int .i64 (tw p:Int))/\sP=w'):=fun w' b=>YE (p-1) w' (by omega) (by omega) (hT.next b);have CN:=ag (fun w' g (h:MW w' g p)=>D9 h hX);have hE:(p-1)/2^l<18446744073709551616:=aN (bT _ _) (by omega);have CW:=ag (fun w' g (h:MW w' g p)=>pow_mod h X ((p-1)/2^l) hE);have es:=nQ (p-1) l;generalize pw p X ((p-1)/2^l)=Z at *;generalize (p-1)/2^l=E at *;obtain⟨N,hN⟩:∃N,N=p-1:=⟨_,rfl⟩;rw[<-hN]at es CT;have eN:(p:Int)-1=(N:Int):=by omega
 have eNw:IntKind.u64.wrap (N:Int)=(N:Int):=by rw[aK];omega
 generalize tw p=t at *;have dh:¬(t:Int)<(l:Int):=by omega
 have vn:¬(l:Int)<0:=by omega
 have afT:¬(20:Int)<(l:Int):=by omega
 clear hT hX hP hN;go_enter Tryz.func210,Tryz.ntmps210
 go_wp2_with fail
 refine(ae CM).mono ?_;rintro e w1 ⟨g,rfl,h,hg,b⟩;have hM:=ag h;clear h CM hg
 go_wp2_with fail
 refine(ae CT _ b).mono ?_;rintro e w2 ⟨rfl,rfl⟩;clear CT;have inst:=gM w2;have CN:Hid (∀u:Old w2,Calls Tryz.prog 230 #[.pointer (some ⟨g,0,none⟩)] u.val fun e w'=>e=.returned (.int .u64 (X:Int))/\w'=u.val):=fun u=>ae CN _ g ((ae hM).next u.jD);have CW:Hid (∀u:Old w2,Calls Tryz.prog 229 #[.pointer (some ⟨g,0,none⟩),.int .u64 (X:Int),.int .u64 (E:Int)] u.val fun e w'=>e=.returned (.int .u64 (Z:Int))/\w'=u.val):=fun u=>ae CW _ g ((ae hM).next u.jD)
 go_wp2_with fail
 refine fo (by kernel_rfl) (by kernel_rfl) ?_
 repeat (go_big_quiet_step (first|(go_at_call 230;exact Calls.gj (ae CN _))|(go_at_call 229;exact Calls.gj (ae CW _))))
 refine wpQuiet_nil ?_;intro w5 tH;obtain⟨u,rfl⟩:=tH;go_wp2
 go_ret2
 exact⟨rfl,aJ b u.jD⟩
end
section
open Go.RowKit
end
section
open Go.RowKit
structure Fld(p X:Nat):Prop where
 KA:UN p
 G7:G7 p=true
 abq:Et p X
theorem XG(p a n:Nat):Cg p (pw p a n:Int) ((a:Int)^n):=by unfold pw;refine(Cg.mod p _).trans (Cg.of_eq ?_);exact km a n
theorem Ql(h3:3<=p)(hp:p<18446744073709551616)(hd:l<=tw p):(p-1)/2^l*2^l=p-1:=by obtain⟨_,_,h2⟩:=Iv (n:=p) (by omega) hp;apply Nat.div_mul_cancel;rw[<-h2];exact Nat.dvd_trans (Nat.pow_dvd_pow 2 hd) (Nat.dvd_mul_left _ _)
theorem Fld.rt(h:Fld p X)(hd:l<=tw p):Rt p (pw p X ((p-1)/2^l):Int) l:=by
 obtain⟨ho,h3,hh⟩:=h.KA;have ox:Cg p ((p-1:Nat):Int) (-1):=⟨1,by omega⟩;have hit:Cg p ((X:Int)^((p-1)/2)) (-1):=by have:=XG p X ((p-1)/2);rw[h.abq.hit]at this;exact this.symm.trans ox
 cases l with
 |zero=>
  show Cg p _ 1;refine(XG p X _).trans ?_;rw[cL,nT];have h2:p-1=(p-1)/2*2:=by omega
  rw[h2,jW];have:=hit.pow 2;rwa [show(-1:Int)^2=1 from rfl]at this
 |succ l=>
  show Cg p _ (-1);refine((XG p X _).pow _).trans ?_;rw[<-jW];have h2:=Ql h3 (by omega) hd;have e:(p-1)/2^(l+1)*2^l=(p-1)/2:=by generalize (p-1)/2^(l+1)=q at *;rw[aE, <-aF]at h2;generalize q*2^l=r at *;omega
  rw[e];exact hit
end
section
theorem acG:G7 180143985094819841=true:=by
 refine AB (by decide) (by decide+kernel) fun j hj=>?_;have e:od 180143985094819841=5:=by decide+kernel
 have e2:tw 180143985094819841=55:=by decide+kernel
 have hb:=xh j hj;unfold pass;rw[e,e2,xM (f:=3) (by decide) (by omega) (by decide)];revert j;decide+kernel
theorem Xx:Et 180143985094819841 3:=⟨by decide,by decide,by rw[xM (f:=57) (by decide) (by decide) (by decide)];decide+kernel,fun y h1 h2=>by rw[xM (f:=57) (by decide) (by omega) (by decide)];revert h1;revert h2;revert y;decide+kernel⟩
theorem ace:Fld 180143985094819841 3:=⟨⟨by decide,by decide,by decide⟩,acG,Xx⟩
theorem O':G7 1945555039024054273=true:=by
 refine AB (by decide) (by decide+kernel) fun j hj=>?_;have e:od 1945555039024054273=27:=by decide+kernel
 have e2:tw 1945555039024054273=56:=by decide+kernel
 have hb:=xh j hj;unfold pass;rw[e,e2,xM (f:=5) (by decide) (by omega) (by decide)];revert j;decide+kernel
theorem Su:Et 1945555039024054273 5:=⟨by decide,by decide,by rw[xM (f:=60) (by decide) (by decide) (by decide)];decide+kernel,fun y h1 h2=>by rw[xM (f:=60) (by decide) (by omega) (by decide)];revert h1;revert h2;revert y;decide+kernel⟩
theorem n_:Fld 1945555039024054273 5:=⟨⟨by decide,by decide,by decide⟩,O',Su⟩
theorem O_:G7 4179340454199820289=true:=by
 refine AB (by decide) (by decide+kernel) fun j hj=>?_;have e:od 4179340454199820289=29:=by decide+kernel
 have e2:tw 4179340454199820289=57:=by decide+kernel
 have hb:=xh j hj;unfold pass;rw[e,e2,xM (f:=5) (by decide) (by omega) (by decide)];revert j;decide+kernel
theorem Sv:Et 4179340454199820289 3:=⟨by decide,by decide,by rw[xM (f:=61) (by decide) (by decide) (by decide)];decide+kernel,fun y h1 h2=>by rw[xM (f:=61) (by decide) (by omega) (by decide)];revert h1;revert h2;revert y;decide+kernel⟩
theorem o_:Fld 4179340454199820289 3:=⟨⟨by decide,by decide,by decide⟩,O_,Sv⟩
end
section
open Go.RowKit
set_option linter.unusedSimpArgs false
def rev:Nat->Nat->Nat
 |0,_=>0
 |L+1,x=>(x%2)*2^L+rev L (x/2)
theorem Cs:∀(L x:Nat),rev L x<2^L
 |0,_=>Nat.zero_lt_one
 |L+1,x=>by have:=Cs L (x/2);have h2:x%2<2:=aD _ (by decide);show x%2*2^L+rev L (x/2)<_;rw[aE];rcases(show x%2=0\/x%2=1 by omega)with h|h<;>rw[h]<;>omega
theorem XN(L q:Nat):rev (L+1) (2*q)=rev L q:=by show(2*q)%2*2^L+rev L (2*q/2)=_;rw[show 2*q%2=0 by omega,show 2*q/2=q by omega];omega
theorem aaA(L q:Nat):rev (L+1) (2*q+1)=rev L q+2^L:=by show(2*q+1)%2*2^L+rev L ((2*q+1)/2)=_;rw[show(2*q+1)%2=1 by omega,show(2*q+1)/2=q by omega];omega
theorem AH:∀(L x i:Nat),(rev L x).testBit i=(decide (i<L)&&x.testBit (L-1-i))
 |0,x,i=>by simp[rev]
 |L+1,x,i=>by
  show(x%2*2^L+rev L (x/2)).testBit i=_;rw[aC];rw[Nat.testBit_two_pow_mul_add _ (Cs L (x/2))];by_cases h:i<L
  ·rw[aW h,AH L (x/2) i,Nat.testBit_div_two];simp[h,show i<L+1 by omega,show L-1-i+1=L-i by omega]
  ·rw[aV h];by_cases h2:i=L
   ·subst h2;simp[Nat.testBit_zero]
   ·have h3:¬i<L+1:=(by omega);rw[aM h3,AO];apply yE;have h4:x%2<2:=aD _ (by decide);have:2^1<=2^(i-L):=aA (by decide) (by omega);omega
theorem rev_rev{x:Nat}(h:x<2^L):rev L (rev L x)=x:=by
 apply adB;intro i;rw[AH,AH];by_cases hi:i<L
 ·simp[hi,show L-1-i<L by omega,show L-1-(L-1-i)=i by omega]
 ·rw[aM hi,AO];symm;exact yE (az h (aA (by decide) (by omega)))
def sw(k m x:Nat):Nat:=(x/2^k&&& m)||| ((x&&& m)*2^k)
def swp(k i:Nat):Nat:=if i/k%2=0 then i+k else i-k
theorem FC{x:Nat}(hm:m<2^(64-k))(hk:k<=64):sw k m x<18446744073709551616:=by
 have e:(18446744073709551616:Nat)=2^64:=by decide
 rw[e];have h1:m<2^64:=az hm (aA (by decide) (by omega));refine Nat.or_lt_two_pow (sX _ h1) ?_;have h2:x&&& m<2^(64-k):=sX _ hm;have:(2:Nat)^64=2^(64-k)*2^k:=by rw[<-aQ];congr 1;omega
 rw[this];exact fb h2 (bR (by decide))
theorem zj(x:Nat)(hk:0<k)(hM:∀i,i<64->m.testBit i=decide (i/k%2=0))(hi:i<64):(sw k m x).testBit i=x.testBit (swp k i):=by
 unfold sw swp;rw[Nat.testBit_or,Nat.testBit_and,abd,Nat.testBit_mul_two_pow,Nat.testBit_and,hM i hi];by_cases h0:i/k%2=0
 ·rw[aW h0];by_cases h1:k<=i
  ·rw[hM (i-k) (by omega)];have h2:(i-k)/k%2=1:=by have e:i=(i-k)+k:=(by omega);rw[e,Nat.add_div_right _ hk]at h0;omega
   simp[h0,h2,Nat.add_comm]
  ·simp[h0,h1,Nat.add_comm]
 ·rw[aV h0];have h1:k<=i:=by apply cG;intro h;rw[bq h]at h0;exact h0 rfl
  rw[hM (i-k) (by omega)];have h2:(i-k)/k%2=0:=by have e:i=(i-k)+k:=(by omega);rw[e,Nat.add_div_right _ hk]at h0;omega
  simp[h0,h1,h2]
def SS(x:Nat):Nat:=sw 32 4294967295 (sw 16 281470681808895 (sw 8 71777214294589695 x))
def r64(x:Nat):Nat:=SS (sw 4 1085102592571150095 (sw 2 3689348814741910323 (sw 1 6148914691236517205 x)))
theorem ac5(x:Nat):r64 x<18446744073709551616:=FC (by decide) (by decide)
theorem aaw(x:Nat)(hi:i<64):(r64 x).testBit i=x.testBit (63-i):=by
 have s1:∀i,i<64->swp 1 i<64:=by decide+kernel
 have s2:∀i,i<64->swp 2 i<64:=by decide+kernel
 have s4:∀i,i<64->swp 4 i<64:=by decide+kernel
 have s8:∀i,i<64->swp 8 i<64:=by decide+kernel
 have s16:∀i,i<64->swp 16 i<64:=by decide+kernel
 have s32:∀i,i<64->swp 32 i<64:=by decide+kernel
 unfold r64 SS;rw[zj _ (by decide) (by decide+kernel) hi,zj _ (by decide) (by decide+kernel) (s32 _ hi),zj _ (by decide) (by decide+kernel) (s16 _ (s32 _ hi)),
  zj _ (by decide) (by decide+kernel) (s8 _ (s16 _ (s32 _ hi))),zj _ (by decide) (by decide+kernel) (s4 _ (s8 _ (s16 _ (s32 _ hi)))),zj _ (by decide) (by decide+kernel) (s2 _ (s4 _ (s8 _ (s16 _ (s32 _ hi)))))]
 have:∀i,i<64->swp 1 (swp 2 (swp 4 (swp 8 (swp 16 (swp 32 i)))))=63-i:=by decide+kernel
 rw[this i hi]
theorem aax(x:Nat)(hL:L<=64):r64 x/2^(64-L)=rev L x:=by
 apply adB;intro i;rw[abd,AH];by_cases hi:i<L
 ·rw[aaw x (by omega)];simp[hi,show 63-(i+(64-L))=L-1-i by omega]
 ·rw[aM hi,AO];apply yE;have h1:=ac5 x;have e:(18446744073709551616:Nat)=2^64:=by decide
  rw[e]at h1;exact az h1 (aA (by decide) (by omega))
theorem Dh(k m K x:Nat)(hx:x<18446744073709551616)(hK:K=2^k)(hk:k<=64)(hm:m<2^(64-k)):bits BinOp.or IntKind.u64 (bits BinOp.and IntKind.u64 ((x:Int)/(K:Int)) (m:Int)) (IntKind.u64.wrap (bits BinOp.and IntKind.u64 (x:Int) (m:Int)*(K:Int)))=(sw k m x:Int):=by
 have e:(18446744073709551616:Nat)=2^64:=by decide
 have Ae:m<18446744073709551616:=by rw[e];exact az hm (aA (by decide) (by omega))
 have hd:x/K<18446744073709551616:=aN (bT _ _) hx;have h3:(x&&& m)*2^k<18446744073709551616:=by
  have h2:x&&& m<2^(64-k):=sX _ hm;have:(2:Nat)^64=2^(64-k)*2^k:=by rw[<-aQ];congr 1;omega
  rw[e,this];exact fb h2 (bR (by decide))
 have h4:x/K&&& m<18446744073709551616:=by rw[e];rw[e]at Ae;exact sX _ Ae
 have e1:((x:Int)/(K:Int))=((x/K:Nat):Int):=rfl;rw[e1,qV _ _ hd Ae,qV _ _ hx Ae];subst hK;have e2:IntKind.u64.wrap (((x&&& m:Nat):Int)*((2^k:Nat):Int))=(((x&&& m)*2^k:Nat):Int):=by rw[aK, <-aG];omega
 rw[e2,nW _ _ h4 h3];rfl
theorem aaP(x:Nat)(hx:x<18446744073709551616):bits BinOp.or IntKind.u64 ((x:Int)/4294967296) (IntKind.u64.wrap ((x:Int)*4294967296))=(sw 32 4294967295 x:Int):=by
 have hd:x/4294967296<18446744073709551616:=by omega
 have h3:x*4294967296%18446744073709551616<18446744073709551616:=aD _ (by decide);have e1:((x:Int)/4294967296)=((x/4294967296:Nat):Int):=rfl;have e2:IntKind.u64.wrap ((x:Int)*4294967296)=((x*4294967296%18446744073709551616:Nat):Int):=by rw[aK];omega
 rw[e1,e2,nW _ _ hd h3];unfold sw;have a1:x/2^32&&& 4294967295=x/4294967296:=by rw[show(4294967295:Nat)=2^32-1 by decide,pV];show x/4294967296%4294967296=_;omega
 have a2:(x&&& 4294967295)*2^32=x*4294967296%18446744073709551616:=by rw[show(4294967295:Nat)=2^32-1 by decide,pV];show x%4294967296*4294967296=_;omega
 rw[a1,a2]
theorem Hw(x:Nat)(w:World)(hx:x<18446744073709551616):Calls Tryz.prog 238 #[.int .u64 (x:Int)] w fun e w'=>e=.returned (.int .u64 (SS x:Int))/\w'=w:=by
 have k1:bits BinOp.or IntKind.u64 (bits BinOp.and IntKind.u64 ((x:Int)/256) 71777214294589695) (IntKind.u64.wrap (bits BinOp.and IntKind.u64 (x:Int) 71777214294589695*256))=(sw 8 71777214294589695 x:Int):=Dh 8 71777214294589695 256 x hx (by decide) (by decide) (by decide);have l1:sw 8 71777214294589695 x<18446744073709551616:=FC (by decide) (by decide);have k2:bits BinOp.or IntKind.u64 (bits BinOp.and IntKind.u64 ((sw 8 71777214294589695 x:Int)/65536) 281470681808895) (IntKind.u64.wrap (bits BinOp.and IntKind.u64 (sw 8 71777214294589695 x:Int) 281470681808895*65536))=(sw 16 281470681808895 (sw 8 71777214294589695 x):Int):=Dh 16 281470681808895 65536 _ l1 (by decide) (by decide) (by decide);have l2:sw 16 281470681808895 (sw 8 71777214294589695 x)<18446744073709551616:=FC (by decide) (by decide);have k3:=aaP _ l2;have HE:Hid (SS x=sw 32 4294967295 (sw 16 281470681808895 (sw 8 71777214294589695 x))):=rfl;generalize sw 32 4294967295 (sw 16 281470681808895 (sw 8 71777214294589695 x))=z at *;generalize sw 16 281470681808895 (sw 8 71777214294589695 x)=y at *;generalize sw 8 71777214294589695 x=v at *;rw[ae HE];go_enter Tryz.func238,Tryz.ntmps238;go_wp2;go_ret;exact⟨rfl,rfl⟩
theorem Ec(x:Nat)(w:World)(hx:x<18446744073709551616):Calls Tryz.prog 232 #[.int .u64 (x:Int)] w fun e w'=>e=.returned (.int .u64 (r64 x:Int))/\w'=w:=by
 have k1:bits BinOp.or IntKind.u64 (bits BinOp.and IntKind.u64 ((x:Int)/2) 6148914691236517205) (IntKind.u64.wrap (bits BinOp.and IntKind.u64 (x:Int) 6148914691236517205*2))=(sw 1 6148914691236517205 x:Int):=Dh 1 6148914691236517205 2 x hx (by decide) (by decide) (by decide);have l1:sw 1 6148914691236517205 x<18446744073709551616:=FC (by decide) (by decide);have k2:bits BinOp.or IntKind.u64 (bits BinOp.and IntKind.u64 ((sw 1 6148914691236517205 x:Int)/4) 3689348814741910323) (IntKind.u64.wrap (bits BinOp.and IntKind.u64 (sw 1 6148914691236517205 x:Int) 3689348814741910323*4))=(sw 2 3689348814741910323 (sw 1 6148914691236517205 x):Int):=Dh 2 3689348814741910323 4 _ l1 (by decide) (by decide) (by decide);have l2:sw 2 3689348814741910323 (sw 1 6148914691236517205 x)<18446744073709551616:=FC (by decide) (by decide);have k3:bits BinOp.or IntKind.u64 (bits BinOp.and IntKind.u64 ((sw 2 3689348814741910323 (sw 1 6148914691236517205 x):Int)/16) 1085102592571150095) (IntKind.u64.wrap (bits BinOp.and IntKind.u64 (sw 2 3689348814741910323 (sw 1 6148914691236517205 x):Int) 1085102592571150095*16))=(sw 4 1085102592571150095 (sw 2 3689348814741910323 (sw 1 6148914691236517205 x)):Int):=Dh 4 1085102592571150095 16 _ l2 (by decide) (by decide) (by decide);have l3:sw 4 1085102592571150095 (sw 2 3689348814741910323 (sw 1 6148914691236517205 x))<18446744073709551616:=FC (by decide) (by decide);have CB:=ag (Hw _ w l3);have HE:Hid (r64 x=SS (sw 4 1085102592571150095 (sw 2 3689348814741910323 (sw 1 6148914691236517205 x)))):=rfl;generalize sw 4 1085102592571150095 (sw 2 3689348814741910323 (sw 1 6148914691236517205 x))=z at *;generalize sw 2 3689348814741910323 (sw 1 6148914691236517205 x)=y at *;generalize sw 1 6148914691236517205 x=v at *;rw[ae HE];generalize SS z=r at *;go_enter Tryz.func232,Tryz.ntmps232
 go_wp2_with fail
 refine(ae CB).mono ?_;rintro e w1 ⟨rfl,rfl⟩;go_wp2;go_ret;exact⟨rfl,rfl⟩
end
section
open Go.RowKit
def F5(p a:Nat)(v:Value):Prop:=(Nat.gcd a p=1/\∃x:Nat,x<p/\ml p a x=1/\v=.tuple #[.int .u64 (x:Int),.bool true])\/(Nat.gcd a p≠1/\v=.tuple #[.int .u64 0,.bool false])
theorem Yp(a b:Nat):(a:Int).tdiv (b:Int)=((a/b:Nat):Int):=rfl
theorem N'(h:MW w g p)(a:Nat):Calls Tryz.prog 235 #[.pointer (some ⟨g,0,none⟩),.int .u64 (a:Int)] w fun e w'=>∃v,e=.returned v/\F5 p a v/\Below w.heap.size w w':=by
 have hl:=h.low;have hp:=h.high;have o0:=Old.cell h.c0;have CR:Hid (∀u:Old w,Calls Tryz.prog 215 #[.pointer (some ⟨g,0,none⟩),.int .u64 (a:Int)] u.val fun e w'=>e=.returned (.int .u64 (rd p a:Int))/\w'=u.val):=fun u=>rP (h.next u.jD) a;have CM:=ag (fun w (h:MW w g p) x y=>mul_mod h x y);have CS:=ag (fun w (h:MW w g p) x y=>rU h x y);have H0:=ag (VK a hl);have H1:=ag (fun up lo ut t=>j_ (a:=a) (up:=up) (lo:=lo) (ut:=ut) (t:=t) (show 0<p by omega));have H2:=ag (fun up ut t=>acb (a:=a) (up:=up) (ut:=ut) (t:=t) hl);have HM:=ag h;have hr:rd p a<p:=aD _ (by omega);clear h;have HG:Hid (∀up ut:Nat,up=Nat.gcd a p/\(up=1->ut<p/\ml p a ut=1)->(up=1->F5 p a (.tuple #[.int .u64 (ut:Int),.bool true]))/\(up≠1->F5 p a (.tuple #[.int .u64 0,.bool false]))):=by intro up ut ⟨e1,e2⟩;exact⟨fun h=>.inl ⟨by rw[<-e1,h],ut,(e2 h).1,(e2 h).2,rfl⟩,fun h=>.inr ⟨by rw[<-e1];exact h,rfl⟩⟩
 generalize F5 p a=IA at *;generalize Nat.gcd a p=G at *;generalize rd p a=r at *;generalize sb p=S at *;generalize ml p=M at *;generalize UB p a=E at *;go_enter Tryz.func235,Tryz.ntmps235
 go_wp2_with fail
 have inst:=gM w;refine fo (by kernel_rfl) (by kernel_rfl) ?_
 repeat (go_big_quiet_step ((go_at_call 215;exact Calls.gj (ae CR _))))
 refine wpQuiet_nil ?_;intro w5 tH;obtain⟨u,rfl⟩:=tH;have b1:=u.jD;have HM:=ag ((ae HM).next u.jD);generalize u.val=w5 at *;clear u inst o0 CR;go_wp2
 go_loopw [6,7,8,9] (fun uv lv utv tv wr=>∃(up lo ut t:Nat),up<=p/\lo<p/\uv=.int .u64 (up:Int)/\lv=.int .u64 (lo:Int)/\utv=.int .u64 (ut:Int)/\tv=.int .u64 (t:Int)/\Hid (E up lo ut t)/\Hid (MW wr g p)/\Below w.heap.size w wr) (fun _ lv _ _ _=>(intOf lv).toNat)
 case atStart=>exact⟨p,r,0,1,by omega,hr,rfl,rfl,rfl,rfl,H0,HM,b1⟩
 case round=>
  clear b1 HM;obtain⟨up,lo,ut,t,hup,BH,rfl,rfl,rfl,rfl,hE,hM,hb⟩:=hrel;by_cases h0:lo=0
  ·subst h0;have e:=ae H2 _ _ _ hE.out;obtain⟨e1,e2⟩:=ae HG up ut e;clear hE e HG H0 H1 H2;by_cases hu:up=1
   ·subst hu;have e:=ag (e1 rfl);clear e1 e2;go_wp2
    go_ret2
    exact⟨_,rfl,ae e,hb⟩
   ·have hne:((up:Int)!=1)=true:=by rw[kd];omega
    have e:=ag (e2 hu);clear e1 e2 hu;go_wp2
    go_ret2
    exact⟨_,rfl,ae e,hb⟩
  ·obtain⟨q,hq⟩:∃q,q=up/lo:=⟨_,rfl⟩;obtain⟨T,hT⟩:∃T,T=q*lo:=⟨_,rfl⟩;obtain⟨l2,uF⟩:∃l2,l2=up%lo:=⟨_,rfl⟩;have e:=ae H1 _ _ _ _ hE.out;rw[<-hq, <-uF]at e;have HE:=ag e;have hdm:=aS up lo;rw[<-hq, <-uF,aC, <-hT]at hdm;have dh:l2<lo:=by rw[uF];exact aD _ (by omega)
   have hqu:q<=up:=by rw[hq];exact bT _ _
   have f1:(up:Int).tdiv (lo:Int)=(q:Int):=by rw[hq];exact Yp up lo
   have f2:(up:Int)/(lo:Int)=(q:Int):=by rw[hq];rfl
   have f3:IntKind.u64.wrap (q:Int)=(q:Int):=by rw[aK];omega
   have f4:(q:Int)*(lo:Int)=(T:Int):=by rw[hT];exact(aG q lo).symm
   have f5:IntKind.u64.wrap (T:Int)=(T:Int):=by rw[aK];omega
   have f6:(up:Int)-(T:Int)=(l2:Int):=(by omega);have f7:IntKind.u64.wrap (l2:Int)=(l2:Int):=by rw[aK];omega
   have vo:(0:Int)<(lo:Int):=(by omega);have RK:¬(lo:Int)=0:=(by omega);clear hq hT uF hE e hdm h0
   go_wp2_with fail
   refine(ae CM _ (ae hM) _ _).mono ?_;rintro e w6 ⟨rfl,b2⟩;have hM:=ag ((ae hM).next b2);have hb:=aJ hb b2;clear b2
   go_wp2_with fail
   refine(ae CS _ (ae hM) _ _).mono ?_;rintro e w7 ⟨rfl,rfl⟩;go_wp2
   go_roundw
   case rel=>exact⟨lo,l2,t,_,by omega,by omega,rfl,by go_num,rfl,rfl,HE,hM,hb⟩
   case measure=>simp[intOf];omega
end
section
theorem AG{Q R d N:Nat}(h:Q*d+R=N)(hr:R<d):Q=N/d/\R=N%d:=by subst h;rw[aC,gC (by omega),bq hr,kq,bc hr];exact⟨rfl,rfl⟩
theorem Tz(u2 u1 u0 d1 d0 D m k:Nat)(sJ:d1<18446744073709551616)(lZ:d0<18446744073709551616)(hD:D=d1*18446744073709551616+d0)(hm:m+D=340282366920938463463374607431768211456)(hu1:u1<18446744073709551616)(hu0:u0<18446744073709551616)(dh:u2<d1\/(u2=d1/\u1<d0))(hk:k<=D)(sK:k<=18446744073709551616*m):18446744073709551616*(u2*k)+18446744073709551616*(u1*m)+340282366920938463463374607431768211456*u0+m*D<340282366920938463463374607431768211456*340282366920938463463374607431768211456:=by
 have emD:m*D+D*D=340282366920938463463374607431768211456*D:=by rw[<-aX,hm]
 rcases dh with h|⟨h2,h⟩
 ·have b1:(u2+1)*k<=d1*D:=aP h hk;have b2:d1*18446744073709551616*D<=D*D:=ax _ (by omega);have b3:u1*m<=18446744073709551615*m:=ax _ (by omega);have b1':u2*k+u2*0+k=(u2+1)*k:=by rw[aX];omega
  have b4:u2*k<=(d1-1)*D:=aP (by omega) hk;have b4':(d1-1)*D+D=d1*D:=by obtain⟨f,rfl⟩:∃f,d1=f+1:=⟨d1-1,by omega⟩;simp only[Nat.add_sub_cancel];rw[aX];omega
  have b2':d1*18446744073709551616*D=18446744073709551616*(d1*D):=by rw[aC d1,aF]
  rw[b2']at b2;clear b1 b1' b2' hD lZ sJ hk sK;generalize d1*D=dD at *;generalize u2*k=uk at *;generalize u1*m=um at *;generalize m*D=mD at *;generalize D*D=DD at *;generalize (d1-1)*D=ee at *;omega
 ·rw[h2];have e1:18446744073709551616*(d1*D)+d0*D=D*D:=by rw[<-aF,aC 18446744073709551616 d1, <-aX, <-hD]
  have e2:d0*m+d0*D=d0*340282366920938463463374607431768211456:=by rw[<-aH,hm]
  have b1:d1*k<=d1*D:=au _ hk;have b2:u1*m<=(d0-1)*m:=ax _ (by omega);have b2':(d0-1)*m+m=d0*m:=by obtain⟨f,rfl⟩:∃f,d0=f+1:=⟨d0-1,by omega⟩;simp only[Nat.add_sub_cancel];rw[aX];omega
  by_cases hmb:18446744073709551616<=m
  ·obtain⟨j,hj⟩:∃j,j+d0=18446744073709551616:=⟨18446744073709551616-d0,by omega⟩;have e3:j*m+d0*m=18446744073709551616*m:=(by rw[<-aX,hj]);have b3:j*18446744073709551616<=j*m:=au _ hmb;clear hD hk sK;generalize d1*D=dD at *;generalize d1*k=dk at *;generalize u1*m=um at *;generalize m*D=mD at *;generalize D*D=DD at *;generalize d0*m=dm at *;generalize d0*D=d0D at *;generalize (d0-1)*m=ee at *;generalize j*m=jm at *;omega
  ·obtain⟨t,ht⟩:∃t,m+t=18446744073709551615:=⟨18446744073709551615-m,by omega⟩;have e3:m*m+m*t=18446744073709551615*m:=(by rw[<-aH,ht,aC]);have e4:m*t+t*t=18446744073709551615*t:=(by rw[<-aX,ht]);have e5:18446744073709551616*(d1*m)+d0*m=m*D:=(by rw[<-aF,aC 18446744073709551616 d1, <-aX, <-hD,aC]);have e6:m*m+m*D=m*340282366920938463463374607431768211456:=(by rw[<-aH,hm]);have b3:d1*k<=18446744073709551616*(d1*m):=by have:=au d1 sK;rw[dW]at this;exact this
   clear hD hk sK e1 e2 b1 emD;generalize d1*k=dk at *;generalize u1*m=um at *;generalize m*D=mD at *;generalize d0*m=dm at *;generalize d1*m=d1m at *;generalize (d0-1)*m=ee at *;generalize m*m=mm at *;generalize m*t=mt at *;generalize t*t=tt at *;omega
theorem Oo(u2 u1 u0 d1 d0 D m k V T L:Nat)(sJ:d1<18446744073709551616)(lZ:d0<18446744073709551616)(hD:D=d1*18446744073709551616+d0)(hm:m+D=340282366920938463463374607431768211456)(hu1:u1<18446744073709551616)(hu0:u0<18446744073709551616)(dh:u2<d1\/(u2=d1/\u1<d0))(hV:18446744073709551616<=V)(hk:V*D+k=340282366920938463463374607431768211456*18446744073709551616)(hkD:k<=D)(V0:T*18446744073709551616+L=V*u2+u1)(hL:L<18446744073709551616):∃rt:Int,rt=(u2:Int)*340282366920938463463374607431768211456+(u1:Int)*18446744073709551616+(u0:Int)-((T*D:Nat):Int)-(D:Int)/\ -(D:Int)<=rt/\(L:Int)*18446744073709551616-340282366920938463463374607431768211456<=rt/\(rt<(m:Int)\/rt<(L:Int)*18446744073709551616):=by
 have sK:k<=18446744073709551616*m:=by have:18446744073709551616*D<=V*D:=ax _ hV;omega
 have key:=Tz u2 u1 u0 d1 d0 D m k sJ lZ hD hm hu1 hu0 dh hkD sK;have e1:V*u2*D+u2*k=u2*(340282366920938463463374607431768211456*18446744073709551616):=by rw[<-hk,aH,aC V u2,aF]
 have e2:T*D*18446744073709551616+L*D=V*u2*D+u1*D:=by rw[<-aX, <-V0,aX,nK]
 have e3:u1*m+u1*D=u1*340282366920938463463374607431768211456:=by rw[<-aH,hm]
 have e4:L*m+L*D=L*340282366920938463463374607431768211456:=by rw[<-aH,hm]
 have b3:L*m<=18446744073709551616*m:=ax _ (by omega);obtain⟨rt,yf⟩:∃rt:Int,rt=(u2:Int)*340282366920938463463374607431768211456+(u1:Int)*18446744073709551616+(u0:Int)-((T*D:Nat):Int)-(D:Int):=⟨_,rfl⟩;refine⟨rt,yf,?_,?_,?_⟩
 ·clear key;generalize V*u2*D=P at *;generalize u2*k=uk at *;generalize T*D=TD at *;generalize L*D=LD at *;generalize u1*D=uD at *;generalize u1*m=um at *;generalize L*m=Lm at *;omega
 ·clear key;generalize V*u2*D=P at *;generalize u2*k=uk at *;generalize T*D=TD at *;generalize L*D=LD at *;generalize u1*D=uD at *;generalize u1*m=um at *;generalize L*m=Lm at *;omega
 ·refine ey fun RJ=>?_;have h1:(m:Int)<=rt:=by omega
  have h2:(L:Int)*18446744073709551616<=rt:=by omega
  obtain⟨n,rfl⟩:=dP (show 0<=rt by omega);have c1:m*m<=n*m:=ax _ (by omega);have c2:L*18446744073709551616*D<=n*D:=ax _ (by omega);have c2':L*18446744073709551616*D=18446744073709551616*(L*D):=by rw[aC L,aF]
  have c3:n*m+n*D=n*340282366920938463463374607431768211456:=by rw[<-aH,hm]
  have c4:m*m+m*D=m*340282366920938463463374607431768211456:=by rw[<-aH,hm]
  rw[c2']at c2;clear RJ c2' hk V0;generalize V*u2*D=P at *;generalize u2*k=uk at *;generalize T*D=TD at *;generalize L*D=LD at *;generalize u1*D=uD at *;generalize u1*m=um at *;generalize L*m=Lm at *;generalize m*m=mm at *;generalize m*D=mD at *;generalize n*m=nm at *;generalize n*D=nD at *;omega
theorem Kt{T D a:Nat}(h:T+a=18446744073709551616):T*D+a*D=18446744073709551616*D:=by rw[<-aX,h]
theorem Sg{u2 u1 u0 D p1 p0 x1 c:Nat}{rt:Int}(RL:p0<340282366920938463463374607431768211456)(RM:p1<340282366920938463463374607431768211456)(hDb:D<340282366920938463463374607431768211456)(Fa:x1=(u1+340282366920938463463374607431768211456-p1)%18446744073709551616)(hy:y=(x1*18446744073709551616+u0+340282366920938463463374607431768211456-p0)%340282366920938463463374607431768211456)(hc:c=(y+340282366920938463463374607431768211456-D)%340282366920938463463374607431768211456)(yf:rt=(u2:Int)*340282366920938463463374607431768211456+(u1:Int)*18446744073709551616+(u0:Int)-((p1*18446744073709551616+p0:Nat):Int)-(D:Int)):c<340282366920938463463374607431768211456/\∃z:Int,rt=(c:Int)+340282366920938463463374607431768211456*z:=by
 have h1:=aS (u1+340282366920938463463374607431768211456-p1) 18446744073709551616;rw[<-Fa]at h1;have h2:=aS (x1*18446744073709551616+u0+340282366920938463463374607431768211456-p0) 340282366920938463463374607431768211456;rw[<-hy]at h2;have h3:=aS (y+340282366920938463463374607431768211456-D) 340282366920938463463374607431768211456;rw[<-hc]at h3;have A':c<340282366920938463463374607431768211456:=by rw[hc];exact aD _ (by omega)
 clear Fa hy hc;generalize (u1+340282366920938463463374607431768211456-p1)/18446744073709551616=a at *;generalize (x1*18446744073709551616+u0+340282366920938463463374607431768211456-p0)/340282366920938463463374607431768211456=b at *;generalize (y+340282366920938463463374607431768211456-D)/340282366920938463463374607431768211456=e at *;exact⟨A',(u2:Int)-18446744073709551616+(a:Int)-1+(b:Int)-1+(e:Int),by omega⟩
theorem acT{c:Nat}{rt z:Int}(hc:c<340282366920938463463374607431768211456)(h:rt=(c:Int)+340282366920938463463374607431768211456*z)(h1: -340282366920938463463374607431768211456<=rt)(h2:rt<340282366920938463463374607431768211456):(rt<0/\(c:Int)=rt+340282366920938463463374607431768211456)\/(0<=rt/\(c:Int)=rt):=by omega
theorem Ly(u2 u1 u0 d1 d0 D m k V T L:Nat)(v9:9223372036854775808<=d1)(sJ:d1<18446744073709551616)(lZ:d0<18446744073709551616)(hD:D=d1*18446744073709551616+d0)(hm:m+D=340282366920938463463374607431768211456)(hu1:u1<18446744073709551616)(hu0:u0<18446744073709551616)(dh:u2<d1\/(u2=d1/\u1<d0))(hV:18446744073709551616<=V)(hk:V*D+k=340282366920938463463374607431768211456*18446744073709551616)(hkD:k<=D)(V0:T*18446744073709551616+L=V*u2+u1)(hL:L<18446744073709551616)(hT:T<18446744073709551616)(p1 p0 x1 y c N:Nat)(DU:p1=T*d1)(DT:p0=T*d0)(RL:p0<340282366920938463463374607431768211456)(RM:p1<340282366920938463463374607431768211456)(Fa:x1=(u1+340282366920938463463374607431768211456-p1)%18446744073709551616)(hy:y=(x1*18446744073709551616+u0+340282366920938463463374607431768211456-p0)%340282366920938463463374607431768211456)(hc:c=(y+340282366920938463463374607431768211456-D)%340282366920938463463374607431768211456)(hN:N=u2*340282366920938463463374607431768211456+u1*18446744073709551616+u0):∃qc:Nat,qc<18446744073709551616/\IntKind.u64.wrap ((T:Int)+1)=(qc:Int)/\((L<=c/18446744073709551616/\IntKind.u64.wrap ((qc:Int)-1)=(T:Int)/\∃R:Nat,R=(c+D)%340282366920938463463374607431768211456/\R<D/\T*D+R=N)\/(L<=c/18446744073709551616/\IntKind.u64.wrap ((qc:Int)-1)=(T:Int)/\c+D<340282366920938463463374607431768211456/\c<D/\qc*D+c=N)\/(¬L<=c/18446744073709551616/\∃Q R:Nat,IntKind.u64.wrap ((qc:Int)+1)=(Q:Int)/\c=R+D/\R<D/\Q*D+R=N)\/(¬L<=c/18446744073709551616/\c<D/\qc*D+c=N)):=by
 obtain⟨rt,yf,b1,b2,b3⟩:=Oo u2 u1 u0 d1 d0 D m k V T L sJ lZ hD hm hu1 hu0 dh hV hk hkD V0 hL;have x':T*D=p1*18446744073709551616+p0:=by rw[hD,aH, <-aF, <-DU, <-DT]
 have hND:N<18446744073709551616*D:=by clear Fa hy hc V0 hk b1 b2 b3 yf x';rw[hN,hD];omega
 have hD2:170141183460469231731687303715884105728<=D:=by clear Fa hy hc V0 hk b1 b2 b3 yf x' dh;omega
 have hDb:D<340282366920938463463374607431768211456:=by clear Fa hy hc V0 hk b1 b2 b3 yf x' dh;omega
 have acB:=yf;rw[x']at acB;obtain⟨A',z,hz⟩:=Sg (rt:=rt) RL RM hDb Fa hy hc acB;clear acB;clear Fa hy hc V0 hk;have hLm:(L:Int)*18446744073709551616<340282366920938463463374607431768211456:=by clear yf dh hz x' b1 b2 b3;omega
 have aei: -340282366920938463463374607431768211456<=rt:=by clear yf dh hz x' b2 b3;omega
 have aej:rt<340282366920938463463374607431768211456:=by clear yf dh hz x' b1 b2;omega
 have hcr:=acT A' hz aei aej;have hrN:rt=(N:Int)-((T*D:Nat):Int)-(D:Int):=by clear hcr hz b1 b2 b3 dh x' aei aej;rw[yf,hN];omega
 clear dh hkD hV DU DT yf x' RL RM hD hz hN hu0 hu1 lZ sJ;have ox:(T+1)*D=T*D+D:=by rw[aX,cX]
 have Ae:(T+2)*D=T*D+2*D:=by rw[aX]
 by_cases afX:rt<0
 ·have hce:(c:Int)=rt+340282366920938463463374607431768211456:=by
   rcases hcr with h|h
   ·exact h.2
   ·omega
  clear hcr b3;by_cases jL:T+1=18446744073709551616
  ·refine⟨0,by omega,by rw[aK];omega,Or.inl ⟨by omega,by rw[aK];omega,(rt+D).toNat,by omega,by omega,?_⟩⟩;generalize T*D=TD at *;omega
  ·refine⟨T+1,by omega,by rw[aK];omega,Or.inl ⟨by omega,by rw[aK];omega,(rt+D).toNat,by omega,by omega,?_⟩⟩;generalize T*D=TD at *;omega
 ·have jL:T+1≠18446744073709551616:=fun h=>by
   clear hcr b1 b2 b3 ox Ae;have hmt:=Kt (D:=D) h;rw[cX]at hmt;generalize T*D=TD at *;omega
  have aem:(D:Int)<=rt->T+2≠18446744073709551616:=fun hr h=>by clear hcr b1 b2 b3 ox Ae;have hmt:=Kt (D:=D) h;generalize T*D=TD at *;omega
  have hce:(c:Int)=rt:=by
   rcases hcr with h|h
   ·omega
   ·exact h.2
  clear hcr;refine⟨T+1,by omega,by rw[aK];omega,Or.inr ?_⟩;rw[ox];by_cases hl:L<=c/18446744073709551616
  ·refine Or.inl ⟨hl,by rw[aK];omega,by omega,by omega,?_⟩;generalize T*D=TD at *;omega
  ·by_cases hd:(D:Int)<=rt
   ·have E8:=aem hd;refine Or.inr (Or.inl ⟨hl,T+2,c-D,by rw[aK];omega,by omega,by omega,?_⟩);rw[Ae];generalize T*D=TD at *;omega
   ·refine Or.inr (Or.inr ⟨hl,by omega,?_⟩);generalize T*D=TD at *;omega
end
section
open Go.RowKit
theorem uu(a1 a0 b1 b0:Nat)(w:World)(h:a1<b1\/(a1=b1/\a0<b0)):Calls Tryz.prog 203 #[.int .u64 (a1:Int),.int .u64 (a0:Int),.int .u64 (b1:Int),.int .u64 (b0:Int)] w fun e w'=>e=.returned (.bool true)/\w'=w:=by
 rcases h with h|⟨h,h'⟩
 ·have h1:decide (a1<b1)=true:=by simp;omega
  have h2:(a1:Int)<(b1:Int):=by omega
  go_enter abP,Za;go_wp2;go_ret;exact⟨rfl,rfl⟩
 ·have h1:decide (a1<b1)=false:=by simp;omega
  have h2:((a1:Int)==(b1:Int))=true:=by rw[h];simp
  have h3:decide (a0<b0)=true:=by simp;omega
  have h4:(a0:Int)<(b0:Int):=by omega
  clear h;go_enter abP,Za;go_wp2;go_ret;exact⟨rfl,rfl⟩
theorem xf(a1 a0 b1 b0:Nat)(w:World)(h:b1<a1\/(a1=b1/\b0<=a0)):Calls Tryz.prog 203 #[.int .u64 (a1:Int),.int .u64 (a0:Int),.int .u64 (b1:Int),.int .u64 (b0:Int)] w fun e w'=>e=.returned (.bool false)/\w'=w:=by
 rcases h with h|⟨h,h'⟩
 ·have h1:decide (a1<b1)=false:=by simp;omega
  have h2:((a1:Int)==(b1:Int))=false:=by rw[dn];omega
  clear h;go_enter abP,Za;go_wp2;go_ret;exact⟨rfl,rfl⟩
 ·have h1:decide (a1<b1)=false:=by simp;omega
  have h2:((a1:Int)==(b1:Int))=true:=by rw[h];simp
  have h3:decide (a0<b0)=false:=by simp;omega
  clear h h';go_enter abP,Za;go_wp2;go_ret;exact⟨rfl,rfl⟩
theorem uM(a1 a0 b1 b0 R1 R0:Nat)(w:World)(ha1:a1<18446744073709551616)(ha0:a0<18446744073709551616)(tE:b1<18446744073709551616)(Ab:b0<18446744073709551616)(h1:R1<18446744073709551616)(h0:R0<18446744073709551616)(hR:R1*18446744073709551616+R0=(a1*18446744073709551616+a0+340282366920938463463374607431768211456-(b1*18446744073709551616+b0))%340282366920938463463374607431768211456):Calls Tryz.prog 204 #[.int .u64 (a1:Int),.int .u64 (a0:Int),.int .u64 (b1:Int),.int .u64 (b0:Int)] w fun e w'=>e=.returned (.tuple #[.int .u64 (R1:Int),.int .u64 (R0:Int)])/\w'=w:=by
 have s1:∀w,(callFunc 206 #[.int .u64 (a0:Int),.int .u64 (b0:Int),.int .u64 0]).run Tryz.prog w=_:=fun w=>wk a0 b0 w;obtain⟨c,hc,MZ⟩:∃c:Nat,c=(if a0<b0+0 then 1 else 0)/\c<=1:=⟨_,rfl,by split<;>omega⟩;rw[<-hc]at s1;have s2:∀w,(callFunc 206 #[.int .u64 (a1:Int),.int .u64 (b1:Int),.int .u64 (c:Int)]).run Tryz.prog w=_:=fun w=>Tw a1 b1 c MZ w;have e0:(a0+18446744073709551616-b0-0)%18446744073709551616=R0:=by split at hc<;>omega
 have e1:(a1+18446744073709551616-b1-c)%18446744073709551616=R1:=by split at hc<;>omega
 rw[e0]at s1;rw[e1]at s2;generalize (if a1<b1+c then 1 else 0:Nat)=c2 at *;clear hR hc e0 e1;go_enter Tryz.func204,Tryz.ntmps204;go_wp2
 go_ret2
 exact⟨iw rfl rfl,rfl⟩
theorem KO(a1 a0 b1 b0 R1 R0:Nat)(w:World)(_ha1:a1<18446744073709551616)(ha0:a0<18446744073709551616)(_hb1:b1<18446744073709551616)(Ab:b0<18446744073709551616)(_h1:R1<18446744073709551616)(h0:R0<18446744073709551616)(hR:R1*18446744073709551616+R0=(a1*18446744073709551616+a0+(b1*18446744073709551616+b0))%340282366920938463463374607431768211456):Calls Tryz.prog 205 #[.int .u64 (a1:Int),.int .u64 (a0:Int),.int .u64 (b1:Int),.int .u64 (b0:Int)] w fun e w'=>e=.returned (.tuple #[.int .u64 (R1:Int),.int .u64 (R0:Int)])/\w'=w:=by
 have s1:∀w,(callFunc 133 #[.int .u64 (a0:Int),.int .u64 (b0:Int),.int .u64 0]).run Tryz.prog w=_:=fun w=>my a0 b0 w;obtain⟨c,hc⟩:∃c:Nat,c=(a0+b0+0)/18446744073709551616:=⟨_,rfl⟩;rw[<-hc]at s1;have s2:∀w,(callFunc 133 #[.int .u64 (a1:Int),.int .u64 (b1:Int),.int .u64 (c:Int)]).run Tryz.prog w=_:=fun w=>Ev a1 b1 c (by omega) w;have e0:(a0+b0+0)%18446744073709551616=R0:=by omega
 have e1:(a1+b1+c)%18446744073709551616=R1:=by omega
 rw[e0]at s1;rw[e1]at s2;generalize (a1+b1+c)/18446744073709551616=c2 at *;clear hR hc e0 e1;go_enter Tryz.func205,Tryz.ntmps205;go_wp2
 go_ret2
 exact⟨iw rfl rfl,rfl⟩
def inv2(D:Nat):Nat:=(340282366920938463463374607431768211456*18446744073709551616-1)/D-18446744073709551616
theorem Ns(D:Nat)(h1:170141183460469231731687303715884105728<=D)(h2:D<340282366920938463463374607431768211456):inv2 D<18446744073709551616/\(340282366920938463463374607431768211456*18446744073709551616-1)/D=inv2 D+18446744073709551616/\∃k,(inv2 D+18446744073709551616)*D+k=340282366920938463463374607431768211456*18446744073709551616/\k<=D/\1<=k:=by
 have BH:18446744073709551616<=(340282366920938463463374607431768211456*18446744073709551616-1)/D:=by rw[dE (by omega)];omega
 have Ka:(340282366920938463463374607431768211456*18446744073709551616-1)/D<18446744073709551616*2:=by rw[aR (by omega)];omega
 have e1:(340282366920938463463374607431768211456*18446744073709551616-1)/D*D<=340282366920938463463374607431768211456*18446744073709551616-1:=cR _ _;have e2:=gR (a:=340282366920938463463374607431768211456*18446744073709551616-1) (b:=D) (by omega);have ev:inv2 D=(340282366920938463463374607431768211456*18446744073709551616-1)/D-18446744073709551616:=rfl;generalize (340282366920938463463374607431768211456*18446744073709551616-1)/D=V at *;have e3:inv2 D+18446744073709551616=V:=by omega
 refine⟨by omega,by omega,340282366920938463463374607431768211456*18446744073709551616-V*D,?_,?_,?_⟩
 ·rw[e3];omega
 ·omega
 ·omega
theorem xO{e f:Int}{p:Bool}(h:a=b)(h':c=d)(h3:e=f)(h'':p=q):Ending.returned (.tuple #[.int .u64 a,.int .u64 c,.int .u64 e,.bool p])=.returned (.tuple #[.int .u64 b,.int .u64 d,.int .u64 f,.bool q]):=by rw[h,h',h3,h'']
theorem Iz(a2 a1 a0 d1 d0 v:Nat)(w:World)(h:d1<9223372036854775808\/(9223372036854775808<=d1/\(d1<a2\/(a2=d1/\d0<=a1)))):Calls Tryz.prog 179 #[.int .u64 (a2:Int),.int .u64 (a1:Int),.int .u64 (a0:Int),.int .u64 (d1:Int),.int .u64 (d0:Int),.int .u64 (v:Int)] w fun e w'=>e=.returned (.tuple #[.int .u64 0,.int .u64 0,.int .u64 0,.bool false])/\w'=w:=by
 rcases h with h|⟨h,h2⟩
 ·have h':(d1:Int)<9223372036854775808:=by omega
  go_enter yI,vG;go_wp2;refine dR (v:=.tuple #[.int .u64 0,.int .u64 0,.int .u64 0,.bool false]) (by simp[results,Tryz.results179,go_sem]) rfl ⟨rfl,rfl⟩
 ·have h':decide ((d1:Int)<9223372036854775808)=false:=by simp;omega
  have C:=ag (fun w=>xf a2 a1 d1 d0 w h2);clear h h2;go_enter yI,vG
  go_wp2_with fail
  refine(ae C _).mono ?_;rintro e w1 ⟨rfl,rfl⟩;go_wp2;refine dR (v:=.tuple #[.int .u64 0,.int .u64 0,.int .u64 0,.bool false]) (by simp[results,Tryz.results179,go_sem]) rfl ⟨rfl,rfl⟩
theorem tO{x:Nat}(hx:x<18446744073709551616)(hy:y<18446744073709551616):x*y<340282366920938463463374607431768211456:=by have:x*y<=18446744073709551615*18446744073709551615:=aP (by omega) (by omega);omega
theorem YV{a x:Nat}(hx:x=(a+340282366920938463463374607431768211456-p)%18446744073709551616)(hp:p<340282366920938463463374607431768211456)(ha:a<18446744073709551616):IntKind.u64.wrap ((a:Int)-IntKind.u64.wrap (p:Int))=(x:Int):=by rw[aK,aK];omega
theorem TC{v a2 a1 d1 d0 D:Nat}(hk:(v+18446744073709551616)*D+k=340282366920938463463374607431768211456*18446744073709551616)(hD:D=d1*18446744073709551616+d0)(dh:a2<d1\/(a2=d1/\a1<d0))(ha1:a1<18446744073709551616)(lZ:d0<18446744073709551616):(v+18446744073709551616)*a2+a1<340282366920938463463374607431768211456:=by
 have h1:a2*18446744073709551616+a1+1<=D:=by omega
 have h2:=au (v+18446744073709551616) h1;rw[aH,aH, <-aF,dG]at h2;have h3:18446744073709551616*a1<=(v+18446744073709551616)*a1:=ax a1 (Nat.le_add_left 18446744073709551616 v);generalize (v+18446744073709551616)*a2=A at *;generalize (v+18446744073709551616)*a1=B at *;generalize (v+18446744073709551616)*D=C at *;omega
theorem og{fn:Func}{t u v x:Tmp}(h:fn.results=#[.tmp t,.tmp u,.tmp v,.tmp x])(tmps:Array Value)(P:Program)(w:World):(results fn tmps).run P w=.ok (.tuple #[tmps.getD t undef,tmps.getD u undef,tmps.getD v undef,tmps.getD x undef]) w:=by
 simp[results,h]
theorem jT(X:Nat):X/18446744073709551616*18446744073709551616+X%18446744073709551616=X:=by omega
theorem mR(h:X<340282366920938463463374607431768211456):X/18446744073709551616<18446744073709551616:=by omega
theorem Cf{d1 d0 D:Nat}(hD:D=d1*18446744073709551616+d0)(lZ:d0<18446744073709551616)(h:X<D):X/18446744073709551616<d1\/(X/18446744073709551616=d1/\X%18446744073709551616<d0):=by omega
theorem Ce{d1 d0 D:Nat}(hD:D=d1*18446744073709551616+d0)(h:D<=X):d1<X/18446744073709551616\/(X/18446744073709551616=d1/\d0<=X%18446744073709551616):=by omega
theorem TQ(a2 a1 a0 d1 d0 v D N Q R:Nat)(w:World)(v9:9223372036854775808<=d1)(sJ:d1<18446744073709551616)(lZ:d0<18446744073709551616)(hD:D=d1*18446744073709551616+d0)(dh:a2<d1\/(a2=d1/\a1<d0))(ha1:a1<18446744073709551616)(ha0:a0<18446744073709551616)(hv:v=inv2 D)(hN:N=a2*340282366920938463463374607431768211456+a1*18446744073709551616+a0)(hQ:Q=N/D)(hR:R=N%D):Calls Tryz.prog 179 #[.int .u64 (a2:Int),.int .u64 (a1:Int),.int .u64 (a0:Int),.int .u64 (d1:Int),.int .u64 (d0:Int),.int .u64 (v:Int)] w fun e w'=>e=.returned (.tuple #[.int .u64 (Q:Int),.int .u64 ((R/18446744073709551616:Nat):Int),.int .u64 ((R%18446744073709551616:Nat):Int),.bool true])/\w'=w:=by
 have adS:170141183460469231731687303715884105728<=D:=by omega
 have adR:D<340282366920938463463374607431768211456:=by omega
 obtain⟨Ww,_,k,hk,hkD,DF⟩:=Ns D adS adR;rw[<-hv]at Ww hk;have CB:=ag (fun w=>uu a2 a1 d1 d0 w dh);have GB:a2<18446744073709551616:=by omega
 -- the afC
 have cM:=fun w=>qK v a2 w Ww GB;have hP:=aS (v*a2) 18446744073709551616;have uF:v*a2%18446744073709551616<18446744073709551616:=aD _ (by omega);have hVU:(v+18446744073709551616)*a2=v*a2+18446744073709551616*a2:=aX _ _ _;have ae1:(v+18446744073709551616)*a2+a1<340282366920938463463374607431768211456:=TC hk hD dh ha1 lZ;generalize v*a2/18446744073709551616=t at *;generalize v*a2%18446744073709551616=l at *;generalize v*a2=P at *;have CM:=ag cM;clear cM;have a1r:=fun w=>my l a1 w;obtain⟨L,hL⟩:∃L,L=(l+a1+0)%18446744073709551616:=⟨_,rfl⟩;obtain⟨c,hc⟩:∃c,c=(l+a1+0)/18446744073709551616:=⟨_,rfl⟩;rw[<-hL, <-hc]at a1r;have afF:∀w,(callFunc 133 #[.int .u64 (l:Int),.int .u64 (a1:Int),.int .u64 0]).run Tryz.prog w=_:=a1r;clear a1r;have hLb:L<18446744073709551616:=by rw[hL];exact aD _ (by omega)
 have a2r:=fun w=>Ev t a2 c (by omega) w;obtain⟨T,hT⟩:∃T,T=(t+a2+c)%18446744073709551616:=⟨_,rfl⟩;obtain⟨c2,rC⟩:∃c2,c2=(t+a2+c)/18446744073709551616:=⟨_,rfl⟩;rw[<-hT, <-rC]at a2r;have hTb:T<18446744073709551616:=by rw[hT];exact aD _ (by omega)
 have V0:T*18446744073709551616+L=(v+18446744073709551616)*a2+a1:=by omega
 clear hT rC hL hc hP hVU ae1 uF
 -- the aeH ads
 have cT:=fun w=>qK T d0 w hTb lZ;obtain⟨p1,DU⟩:∃p1,p1=T*d1:=⟨_,rfl⟩;obtain⟨p0,DT⟩:∃p0,p0=T*d0:=⟨_,rfl⟩;have RM:p1<340282366920938463463374607431768211456:=by rw[DU];exact tO hTb sJ
 have RL:p0<340282366920938463463374607431768211456:=by rw[DT];exact tO hTb lZ
 rw[<-DT]at cT;have CT:=ag cT;obtain⟨x1,Fa⟩:∃x1,x1=(a1+340282366920938463463374607431768211456-p1)%18446744073709551616:=⟨_,rfl⟩;obtain⟨y,hy⟩:∃y,y=(x1*18446744073709551616+a0+340282366920938463463374607431768211456-p0)%340282366920938463463374607431768211456:=⟨_,rfl⟩;obtain⟨cc,qW⟩:∃cc,cc=(y+340282366920938463463374607431768211456-D)%340282366920938463463374607431768211456:=⟨_,rfl⟩;have afw:x1<18446744073709551616:=by rw[Fa];exact aD _ (by omega)
 have hyb:y<340282366920938463463374607431768211456:=by rw[hy];exact aD _ (by omega)
 have ad0:cc<340282366920938463463374607431768211456:=by rw[qW];exact aD _ (by omega)
 have ep1:(T:Int)*(d1:Int)=(p1:Int):=by rw[DU,aG]
 have ex1:IntKind.u64.wrap ((a1:Int)-IntKind.u64.wrap (p1:Int))=(x1:Int):=YV Fa RM ha1;have CY:=ag (fun w=>uM x1 a0 (p0/18446744073709551616) (p0%18446744073709551616) (y/18446744073709551616) (y%18446744073709551616) w afw ha0 (mR RL) (aD _ (by omega)) (mR hyb) (aD _ (by omega)) (by rw[jT,jT];exact hy));have CC:=ag (fun w=>uM (y/18446744073709551616) (y%18446744073709551616) d1 d0 (cc/18446744073709551616) (cc%18446744073709551616) w (mR hyb) (aD _ (by omega)) sJ lZ (mR ad0) (aD _ (by omega)) (by rw[jT,jT, <-hD];exact qW));obtain⟨qc,hqc,eqc,pD⟩:=Ly a2 a1 a0 d1 d0 D (340282366920938463463374607431768211456-D) k (v+18446744073709551616) T L v9 sJ lZ hD (by omega) ha1 ha0 dh (by omega) hk hkD V0 hLb hTb p1 p0 x1 y cc N DU DT RL RM Fa hy qW hN;clear Fa hy qW DU DT cT V0 hk DF hkD hN dh hv;have h4:decide ((d1:Int)<9223372036854775808)=false:=by simp;omega
 have ZY:=mR ad0;have ZX:cc%18446744073709551616<18446744073709551616:=aD _ (by omega);have DD:=ag hD;clear v9;rcases pD with⟨k1,k2,R1,k3,k4,k5⟩|⟨k1,k2,k3,k4,k5⟩|⟨k1,Q1,R1,k3,k4,k5,k6⟩|⟨k1,k2,k3⟩
 ·obtain⟨f1,f2⟩:=AG k5 k4;rw[<-hQ]at f1;rw[<-hR]at f2;subst f1 f2;have xx:R1<340282366920938463463374607431768211456:=by omega
  have CP:=ag (fun w=>KO (cc/18446744073709551616) (cc%18446744073709551616) d1 d0 (R1/18446744073709551616) (R1%18446744073709551616) w ZY ZX sJ lZ (mR xx) (aD _ (by omega)) (by rw[jT,jT, <-ae DD];exact k3));have CL:=ag (fun w=>uu (R1/18446744073709551616) (R1%18446744073709551616) d1 d0 w (Cf (ae DD) lZ k4));have Ur:decide ((L:Int)<=((cc/18446744073709551616:Nat):Int))=true:=by simp;omega
  have af7:decide (L<=cc/18446744073709551616)=true:=by simp;omega
  clear hQ hR k5 k3 k4 hD xx;generalize R1/18446744073709551616=r1 at *;generalize R1%18446744073709551616=r0 at *;generalize cc/18446744073709551616=c1 at *;generalize cc%18446744073709551616=c0 at *;generalize y/18446744073709551616=y1 at *;generalize y%18446744073709551616=y0 at *;generalize p0/18446744073709551616=t1 at *;generalize p0%18446744073709551616=t0 at *;have k1s:(L:Int)<=(c1:Int):=by omega
  go_enter yI,vG
  go_wp2_with fail
  refine(ae CB _).mono ?_;rintro e w1 ⟨rfl,rfl⟩
  go_wp2_with fail
  refine(ae CM _).mono ?_;rintro e w2 ⟨rfl,rfl⟩
  go_wp2_with fail
  refine(ae CT _).mono ?_;rintro e w3 ⟨rfl,rfl⟩
  go_wp2_with fail
  refine(ae CY _).mono ?_;rintro e w4 ⟨rfl,rfl⟩
  go_wp2_with fail
  refine(ae CC _).mono ?_;rintro e w5 ⟨rfl,rfl⟩
  go_wp2_with fail
  refine(ae CP _).mono ?_;rintro e w6 ⟨rfl,rfl⟩
  go_wp2_with fail
  refine(ae CL _).mono ?_;rintro e w7 ⟨rfl,rfl⟩;go_wp2;refine dR (og rfl _ _ _) rfl ?_;exact⟨xO rfl rfl rfl rfl,rfl⟩
 ·obtain⟨f1,f2⟩:=AG k5 k4;rw[<-hQ]at f1;rw[<-hR]at f2;subst f1 f2;obtain⟨P2,Aa⟩:∃P2,P2=cc+D:=⟨_,rfl⟩;have hPb:P2<340282366920938463463374607431768211456:=by omega
  have CP:=ag (fun w=>KO (cc/18446744073709551616) (cc%18446744073709551616) d1 d0 (P2/18446744073709551616) (P2%18446744073709551616) w ZY ZX sJ lZ (mR hPb) (aD _ (by omega)) (by rw[jT,jT, <-ae DD,bc k3];exact Aa));have CL:=ag (fun w=>xf (P2/18446744073709551616) (P2%18446744073709551616) d1 d0 w (Ce (ae DD) (by omega)));have CX:=ag (fun w=>uM (P2/18446744073709551616) (P2%18446744073709551616) d1 d0 (cc/18446744073709551616) (cc%18446744073709551616) w (mR hPb) (aD _ (by omega)) sJ lZ ZY ZX (by rw[jT,jT, <-ae DD];omega));have k1s:(L:Int)<=((cc/18446744073709551616:Nat):Int):=by omega
  clear hQ hR k5 k3 k4 hD hPb Aa;generalize P2/18446744073709551616=r1 at *;generalize P2%18446744073709551616=r0 at *;generalize cc/18446744073709551616=c1 at *;generalize cc%18446744073709551616=c0 at *;generalize y/18446744073709551616=y1 at *;generalize y%18446744073709551616=y0 at *;generalize p0/18446744073709551616=t1 at *;generalize p0%18446744073709551616=t0 at *;go_enter yI,vG
  go_wp2_with fail
  refine(ae CB _).mono ?_;rintro e w1 ⟨rfl,rfl⟩
  go_wp2_with fail
  refine(ae CM _).mono ?_;rintro e w2 ⟨rfl,rfl⟩
  go_wp2_with fail
  refine(ae CT _).mono ?_;rintro e w3 ⟨rfl,rfl⟩
  go_wp2_with fail
  refine(ae CY _).mono ?_;rintro e w4 ⟨rfl,rfl⟩
  go_wp2_with fail
  refine(ae CC _).mono ?_;rintro e w5 ⟨rfl,rfl⟩
  go_wp2_with fail
  refine(ae CP _).mono ?_;rintro e w6 ⟨rfl,rfl⟩
  go_wp2_with fail
  refine(ae CL _).mono ?_;rintro e w7 ⟨rfl,rfl⟩
  go_wp2_with fail
  refine(ae CX _).mono ?_;rintro e w8 ⟨rfl,rfl⟩;go_wp2;refine dR (og rfl _ _ _) rfl ?_;exact⟨xO rfl rfl rfl rfl,rfl⟩
 ·obtain⟨f1,f2⟩:=AG k6 k5;rw[<-hQ]at f1;rw[<-hR]at f2;subst f1 f2;have xx:R1<340282366920938463463374607431768211456:=by omega
  have CL:=ag (fun w=>xf (cc/18446744073709551616) (cc%18446744073709551616) d1 d0 w (Ce (ae DD) (by omega)));have CX:=ag (fun w=>uM (cc/18446744073709551616) (cc%18446744073709551616) d1 d0 (R1/18446744073709551616) (R1%18446744073709551616) w ZY ZX sJ lZ (mR xx) (aD _ (by omega)) (by rw[jT,jT, <-ae DD];omega));have k1d:decide (L<=cc/18446744073709551616)=false:=by simp;omega
  have k1e:decide ((L:Int)<=((cc/18446744073709551616:Nat):Int))=false:=by simp;omega
  clear hQ hR k6 k4 k5 hD xx k1;generalize R1/18446744073709551616=r1 at *;generalize R1%18446744073709551616=r0 at *;generalize cc/18446744073709551616=c1 at *;generalize cc%18446744073709551616=c0 at *;generalize y/18446744073709551616=y1 at *;generalize y%18446744073709551616=y0 at *;generalize p0/18446744073709551616=t1 at *;generalize p0%18446744073709551616=t0 at *;go_enter yI,vG
  go_wp2_with fail
  refine(ae CB _).mono ?_;rintro e w1 ⟨rfl,rfl⟩
  go_wp2_with fail
  refine(ae CM _).mono ?_;rintro e w2 ⟨rfl,rfl⟩
  go_wp2_with fail
  refine(ae CT _).mono ?_;rintro e w3 ⟨rfl,rfl⟩
  go_wp2_with fail
  refine(ae CY _).mono ?_;rintro e w4 ⟨rfl,rfl⟩
  go_wp2_with fail
  refine(ae CC _).mono ?_;rintro e w5 ⟨rfl,rfl⟩
  go_wp2_with fail
  refine(ae CL _).mono ?_;rintro e w7 ⟨rfl,rfl⟩
  go_wp2_with fail
  refine(ae CX _).mono ?_;rintro e w8 ⟨rfl,rfl⟩;go_wp2;refine dR (og rfl _ _ _) rfl ?_;exact⟨xO rfl rfl rfl rfl,rfl⟩
 ·obtain⟨f1,f2⟩:=AG k3 k2;rw[<-hQ]at f1;rw[<-hR]at f2;subst f1 f2;have CL:=ag (fun w=>uu (cc/18446744073709551616) (cc%18446744073709551616) d1 d0 w (Cf (ae DD) lZ k2));have k1d:decide (L<=cc/18446744073709551616)=false:=by simp;omega
  have k1e:decide ((L:Int)<=((cc/18446744073709551616:Nat):Int))=false:=by simp;omega
  clear hQ hR k3 k2 hD k1;generalize cc/18446744073709551616=c1 at *;generalize cc%18446744073709551616=c0 at *;generalize y/18446744073709551616=y1 at *;generalize y%18446744073709551616=y0 at *;generalize p0/18446744073709551616=t1 at *;generalize p0%18446744073709551616=t0 at *;go_enter yI,vG
  go_wp2_with fail
  refine(ae CB _).mono ?_;rintro e w1 ⟨rfl,rfl⟩
  go_wp2_with fail
  refine(ae CM _).mono ?_;rintro e w2 ⟨rfl,rfl⟩
  go_wp2_with fail
  refine(ae CT _).mono ?_;rintro e w3 ⟨rfl,rfl⟩
  go_wp2_with fail
  refine(ae CY _).mono ?_;rintro e w4 ⟨rfl,rfl⟩
  go_wp2_with fail
  refine(ae CC _).mono ?_;rintro e w5 ⟨rfl,rfl⟩
  go_wp2_with fail
  refine(ae CL _).mono ?_;rintro e w7 ⟨rfl,rfl⟩;go_wp2;refine dR (og rfl _ _ _) rfl ?_;exact⟨xO rfl rfl rfl rfl,rfl⟩
theorem Xa(v d1 d0:Nat)(v9:9223372036854775808<=d1)(sJ:d1<18446744073709551616)(lZ:d0<18446744073709551616)(hv:v=inv1 d1):∃k s:Nat,IntKind.u64.wrap ((d1:Int)*(v:Int))=(k:Int)/\k<18446744073709551616/\s=(k+d0)%18446744073709551616/\(((k+d0)/18446744073709551616=0/\∃g,1<=g/\g<=d1/\s+g=18446744073709551616/\(18446744073709551616+v)*d1+d0+g=340282366920938463463374607431768211456)\/((k+d0)/18446744073709551616=1/\s<d1/\1<=v/\∃g,1<=g/\g<=d1/\g+s=d1/\(18446744073709551616+(v-1))*d1+d0+g=340282366920938463463374607431768211456)\/((k+d0)/18446744073709551616=1/\d1<=s/\2<=v/\∃g,1<=g/\g<=d1/\g+s=2*d1/\(18446744073709551616+(v-2))*d1+d0+g=340282366920938463463374607431768211456)):=by
 have DF:v*d1<=18446744073709551616*(18446744073709551615-d1)+18446744073709551615:=by rw[hv];exact cR _ _
 have sK:18446744073709551616*(18446744073709551615-d1)+18446744073709551615<v*d1+d1:=by have:=gR (a:=18446744073709551616*(18446744073709551615-d1)+18446744073709551615) (b:=d1) (by omega);rw[hv];exact this
 have Ww:v<18446744073709551616:=by rw[hv];exact G6 d1 v9 sJ
 clear hv;have e0:(d1:Int)*(v:Int)=((v*d1:Nat):Int):=by rw[aG,fa]
 have m0:(18446744073709551616+v)*d1=18446744073709551616*d1+v*d1:=aX _ _ _;have m1:1<=v->(18446744073709551616+(v-1))*d1+d1=18446744073709551616*d1+v*d1:=fun h=>by obtain⟨f,rfl⟩:∃f,v=f+1:=⟨v-1,by omega⟩;simp only[Nat.add_sub_cancel];rw[aX,aX];omega
 have m2:2<=v->(18446744073709551616+(v-2))*d1+2*d1=18446744073709551616*d1+v*d1:=fun h=>by obtain⟨f,rfl⟩:∃f,v=f+2:=⟨v-2,by omega⟩;simp only[Nat.add_sub_cancel];rw[aX,aX];omega
 have z0:v=0->v*d1=0:=fun h=>by rw[h,gX]
 have z1:v=1->v*d1=d1:=fun h=>by rw[h,cX]
 rw[e0];generalize v*d1=vd at *
 -- what the N_ of the upper word leaves
 obtain⟨k,hk,sj,hkd⟩:∃k,vd+k+18446744073709551616*d1=340282366920938463463374607431768211456/\1<=k/\k<=d1:=⟨340282366920938463463374607431768211456-18446744073709551616*d1-vd,by omega,by omega,by omega⟩;refine⟨18446744073709551616-k,(18446744073709551616-k+d0)%18446744073709551616,by rw[aK];omega,by omega,rfl,?_⟩;by_cases hA:d0<k
 ·exact Or.inl ⟨by omega,k-d0,by omega,by omega,by omega,by rw[m0];omega⟩
 ·have hs:(18446744073709551616-k+d0)%18446744073709551616=d0-k:=by omega
  have hc:(18446744073709551616-k+d0)/18446744073709551616=1:=by omega
  rw[hs,hc];have Mi:1<=v:=by refine Nat.one_le_iff_ne_zero.2 fun h=>?_;have:=z0 h;omega
  by_cases hB:d0-k<d1
  ·have:=m1 Mi;exact Or.inr (Or.inl ⟨rfl,hB,Mi,d1-(d0-k),by omega,by omega,by omega,by omega⟩)
  ·have IK:2<=v:=by
    by_cases h:v=1
    ·have:=z1 h;omega
    ·omega
   have:=m2 IK;exact Or.inr (Or.inr ⟨rfl,by omega,IK,2*d1-(d0-k),by omega,by omega,by omega,by omega⟩)
theorem Km(v d1 d0 D g t:Nat)(v9:9223372036854775808<=d1)(sJ:d1<18446744073709551616)(lZ:d0<18446744073709551616)(hD:D=d1*18446744073709551616+d0)(Po:1<=g)(hg:g<=d1)(he:(18446744073709551616+v)*d1+d0+g=340282366920938463463374607431768211456)(ht:t=v*d0)(htb:t<340282366920938463463374607431768211456):(t/18446744073709551616<g/\v=inv2 D)\/(g<=t/18446744073709551616/\1<=v/\(t-18446744073709551616*g)<D/\v-1=inv2 D)\/(g<=t/18446744073709551616/\2<=v/\D<=(t-18446744073709551616*g)/\v-2=inv2 D):=by
 have adS:170141183460469231731687303715884105728<=D:=by omega
 have adR:D<340282366920938463463374607431768211456:=by omega
 have hVD:(18446744073709551616+v)*D+18446744073709551616*g=340282366920938463463374607431768211456*18446744073709551616+t:=by rw[hD,aH, <-aF,ht];have e1:(18446744073709551616+v)*d0=18446744073709551616*d0+v*d0:=aX _ _ _;rw[e1];generalize (18446744073709551616+v)*d1=A at *;generalize v*d0=B at *;omega
 have key:∀V,V*D<=340282366920938463463374607431768211456*18446744073709551616-1->340282366920938463463374607431768211456*18446744073709551616-1<V*D+D->(340282366920938463463374607431768211456*18446744073709551616-1)/D=V:=fun V h1 h2=>by refine Nat.div_eq_of_lt_le h1 ?_;rw[aX,cX];exact h2
 have hinv:inv2 D=(340282366920938463463374607431768211456*18446744073709551616-1)/D-18446744073709551616:=rfl;have z0:v=0->t=0:=fun h=>by rw[ht,h,gX]
 have z1:v=1->t=d0:=fun h=>by rw[ht,h,cX]
 have m1:1<=v->(18446744073709551616+(v-1))*D+D=(18446744073709551616+v)*D:=fun h=>by obtain⟨f,rfl⟩:∃f,v=f+1:=⟨v-1,by omega⟩;simp only[Nat.add_sub_cancel];rw[<-dt,aX (18446744073709551616+f),cX]
 have m2:2<=v->(18446744073709551616+(v-2))*D+2*D=(18446744073709551616+v)*D:=fun h=>by obtain⟨f,rfl⟩:∃f,v=f+2:=⟨v-2,by omega⟩;simp only[Nat.add_sub_cancel];rw[<-dt,aX (18446744073709551616+f)]
 clear he ht;by_cases hA:t/18446744073709551616<g
 ·left;have:=key (18446744073709551616+v) (by omega) (by omega);exact⟨hA,by omega⟩
 ·right;have IK:2<=v:=by
   by_cases h0:v=0
   ·have:=z0 h0;omega
   ·by_cases h1:v=1
    ·have:=z1 h1;omega
    ·omega
  by_cases hB:t-18446744073709551616*g<D
  ·left;have hm:=m1 (by omega);have:=key (18446744073709551616+(v-1)) (by omega) (by omega);exact⟨by omega,by omega,hB,by omega⟩
  ·right;have hm:=m2 IK;have:=key (18446744073709551616+(v-2)) (by omega) (by omega);exact⟨by omega,IK,by omega,by omega⟩
theorem Ny(v d1 d0:Nat)(v9:9223372036854775808<=d1)(sJ:d1<18446744073709551616)(lZ:d0<18446744073709551616)(hv:v=inv1 d1):∃v1 g rest:Nat,v1<=v/\1<=g/\g<=d1/\rest+g=18446744073709551616/\(18446744073709551616+v1)*d1+d0+g=340282366920938463463374607431768211456/\∀w,Calls Tryz.prog 176 #[.int .u64 (v:Int),.int .u64 (d1:Int),.int .u64 (d0:Int)] w fun e w'=>e=.returned (.tuple #[.int .u64 (v1:Int),.int .u64 (rest:Int)])/\w'=w:=by
 obtain⟨k,s,hk,acv,hs,pD⟩:=Xa v d1 d0 v9 sJ lZ hv;have Ww:v<18446744073709551616:=by rw[hv];exact G6 d1 v9 sJ
 have af3:s<18446744073709551616:=by rw[hs];exact aD _ (by omega)
 have ar:∀w,(callFunc 133 #[.int .u64 (k:Int),.int .u64 (d0:Int),.int .u64 0]).run Tryz.prog w=.ok (.value (.tuple #[.int .u64 (((k+d0)%18446744073709551616:Nat):Int),.int .u64 (((k+d0)/18446744073709551616:Nat):Int)])) w:=fun w=>my k d0 w;rw[<-hs]at ar;clear hv hs v9;rcases pD with⟨hc,g,g1,g2,g3,g4⟩|⟨hc,dh,Mi,g,g1,g2,g3,g4⟩|⟨hc,pE,IK,g,g1,g2,g3,g4⟩
 ·rw[hc]at ar;refine⟨v,g,s,af _,g1,g2,g3,g4,fun w=>?_⟩;have ar':∀w,(callFunc 133 #[.int .u64 (k:Int),.int .u64 (d0:Int),.int .u64 0]).run Tryz.prog w=.ok (.value (.tuple #[.int .u64 (s:Int),.int .u64 0])) w:=ar;clear ar hc g4 g3;go_enter Tryz.func176,Tryz.ntmps176;go_wp2
  go_ret2
  exact⟨iw rfl rfl,rfl⟩
 ·rw[hc]at ar;refine⟨v-1,g,18446744073709551616-g,by omega,g1,g2,by omega,g4,fun w=>?_⟩;have ar':∀w,(callFunc 133 #[.int .u64 (k:Int),.int .u64 (d0:Int),.int .u64 0]).run Tryz.prog w=.ok (.value (.tuple #[.int .u64 (s:Int),.int .u64 1])) w:=ar;have er:IntKind.u64.wrap ((s:Int)-(d1:Int))=((18446744073709551616-g:Nat):Int):=by rw[aK];omega
  have ev:(v:Int)-1=((v-1:Nat):Int):=by omega
  have t1:decide ((d1:Int)<=(s:Int))=false:=by simp;omega
  have t2:decide (d1<=s)=false:=by simp;omega
  have hvb:v-1<18446744073709551616:=by omega
  clear ar hc g4 g3 dh;generalize 18446744073709551616-g=rest at *;generalize v-1=v1 at *;go_enter Tryz.func176,Tryz.ntmps176;go_wp2
  go_ret2
  exact⟨iw rfl rfl,rfl⟩
 ·rw[hc]at ar;refine⟨v-2,g,18446744073709551616-g,by omega,g1,g2,by omega,g4,fun w=>?_⟩;have ar':∀w,(callFunc 133 #[.int .u64 (k:Int),.int .u64 (d0:Int),.int .u64 0]).run Tryz.prog w=.ok (.value (.tuple #[.int .u64 (s:Int),.int .u64 1])) w:=ar;have es:(s:Int)-(d1:Int)=((s-d1:Nat):Int):=by omega
  have er:IntKind.u64.wrap (((s-d1:Nat):Int)-(d1:Int))=((18446744073709551616-g:Nat):Int):=by rw[aK];omega
  have ev:(v:Int)-1=((v-1:Nat):Int):=by omega
  have ev2:((v-1:Nat):Int)-1=((v-2:Nat):Int):=by omega
  have t1:decide ((d1:Int)<=(s:Int))=true:=by simp;omega
  have t2:decide (d1<=s)=true:=by simp;omega
  have t3:(d1:Int)<=(s:Int):=by omega
  have hvb:v-1<18446744073709551616:=by omega
  have hvc:v-2<18446744073709551616:=by omega
  have hsb:s-d1<18446744073709551616:=by omega
  have hvd:1<=v-1:=by omega
  clear ar hc g4 g3 pE;generalize 18446744073709551616-g=rest at *;generalize v-1=v1 at *;generalize v-2=v2 at *;generalize s-d1=sd at *;go_enter Tryz.func176,Tryz.ntmps176;go_wp2
  go_ret2
  exact⟨iw rfl rfl,rfl⟩
theorem D7(v d1 d0 D g rest I:Nat)(v9:9223372036854775808<=d1)(sJ:d1<18446744073709551616)(lZ:d0<18446744073709551616)(hD:D=d1*18446744073709551616+d0)(hv:v<18446744073709551616)(Po:1<=g)(hg:g<=d1)(hr:rest+g=18446744073709551616)(he:(18446744073709551616+v)*d1+d0+g=340282366920938463463374607431768211456)(hI:I=inv2 D)(w:World):Calls Tryz.prog 178 #[.int .u64 (v:Int),.int .u64 (rest:Int),.int .u64 (d1:Int),.int .u64 (d0:Int)] w fun e w'=>e=.returned (.int .u64 (I:Int))/\w'=w:=by
 obtain⟨t,ht⟩:∃t,t=v*d0:=⟨_,rfl⟩;have htb:t<340282366920938463463374607431768211456:=by rw[ht];exact tO hv lZ
 have pD:=Km v d1 d0 D g t v9 sJ lZ hD Po hg he ht htb;rw[<-hI]at pD;have cM:=fun w=>qK v d0 w hv lZ;rw[<-ht]at cM;have CM:=ag cM;have G':=mR htb;have Nm:t%18446744073709551616<18446744073709551616:=aD _ (by omega);have hpt:t/18446744073709551616*18446744073709551616+t%18446744073709551616=t:=jT t;have ar:∀w,(callFunc 133 #[.int .u64 (rest:Int),.int .u64 ((t/18446744073709551616:Nat):Int),.int .u64 0]).run Tryz.prog w=.ok (.value (.tuple #[.int .u64 (((rest+t/18446744073709551616)%18446744073709551616:Nat):Int),.int .u64 (((rest+t/18446744073709551616)/18446744073709551616:Nat):Int)])) w:=fun w=>my rest _ w;clear cM ht he hI v9;generalize t/18446744073709551616=t1 at *;generalize t%18446744073709551616=t0 at *;rcases pD with⟨dh,hI⟩|⟨pE,Mi,hB,hI⟩|⟨pE,IK,hB,hI⟩
 ·have hc:(rest+t1)/18446744073709551616=0:=by omega
  rw[hc]at ar;generalize (rest+t1)%18446744073709551616=r2 at *;have ar':∀w,(callFunc 133 #[.int .u64 (rest:Int),.int .u64 (t1:Int),.int .u64 0]).run Tryz.prog w=.ok (.value (.tuple #[.int .u64 (r2:Int),.int .u64 0])) w:=ar;subst hI;clear ar hc hD hpt dh;go_enter Tryz.func178,Tryz.ntmps178
  go_wp2_with fail
  refine(ae CM _).mono ?_;rintro e w1 ⟨rfl,rfl⟩;go_wp2;go_ret;exact⟨bY rfl,rfl⟩
 ·have hc:(rest+t1)/18446744073709551616=1:=by omega
  rw[hc]at ar;obtain⟨p,hp⟩:∃p,p=(rest+t1)%18446744073709551616:=⟨_,rfl⟩;rw[<-hp]at ar;have ar':∀w,(callFunc 133 #[.int .u64 (rest:Int),.int .u64 (t1:Int),.int .u64 0]).run Tryz.prog w=.ok (.value (.tuple #[.int .u64 (p:Int),.int .u64 1])) w:=ar;have hpe:p+g=t1:=by omega
  have CL:=ag (fun w=>uu p t0 d1 d0 w (by omega));have ev:(v:Int)-1=(I:Int):=by omega
  have hIb:I<18446744073709551616:=by omega
  clear ar hc hD hpt pE hp hpe hB hI;go_enter Tryz.func178,Tryz.ntmps178
  go_wp2_with fail
  refine(ae CM _).mono ?_;rintro e w1 ⟨rfl,rfl⟩
  go_wp2_with fail
  refine(ae CL _).mono ?_;rintro e w2 ⟨rfl,rfl⟩;go_wp2;go_ret;exact⟨bY rfl,rfl⟩
 ·have hc:(rest+t1)/18446744073709551616=1:=by omega
  rw[hc]at ar;obtain⟨p,hp⟩:∃p,p=(rest+t1)%18446744073709551616:=⟨_,rfl⟩;rw[<-hp]at ar;have ar':∀w,(callFunc 133 #[.int .u64 (rest:Int),.int .u64 (t1:Int),.int .u64 0]).run Tryz.prog w=.ok (.value (.tuple #[.int .u64 (p:Int),.int .u64 1])) w:=ar;have hpe:p+g=t1:=by omega
  have CL:=ag (fun w=>xf p t0 d1 d0 w (by omega));obtain⟨v1,Mi⟩:∃v1,v1=v-1:=⟨_,rfl⟩;have ev:(v:Int)-1=(v1:Int):=by omega
  have ev2:(v1:Int)-1=(I:Int):=by omega
  have hIb:I<18446744073709551616:=by omega
  have hvb:v1<18446744073709551616:=by omega
  have hvd:1<=v1:=by omega
  clear ar hc hD hpt pE hp hpe hB hI Mi;go_enter Tryz.func178,Tryz.ntmps178
  go_wp2_with fail
  refine(ae CM _).mono ?_;rintro e w1 ⟨rfl,rfl⟩
  go_wp2_with fail
  refine(ae CL _).mono ?_;rintro e w2 ⟨rfl,rfl⟩;go_wp2;go_ret;exact⟨bY rfl,rfl⟩
theorem Ek(d1 d0 D I:Nat)(w:World)(v9:9223372036854775808<=d1)(sJ:d1<18446744073709551616)(lZ:d0<18446744073709551616)(hD:D=d1*18446744073709551616+d0)(hI:I=inv2 D):Calls Tryz.prog 145 #[.int .u64 (d1:Int),.int .u64 (d0:Int)] w fun e w'=>e=.returned (.tuple #[.int .u64 (I:Int),.bool true])/\Below w.heap.size w w':=by
 have h3:decide ((d1:Int)<9223372036854775808)=false:=by simp;omega
 have C0:=ag (fun w=>IB d1 w v9 sJ);have Ww:=G6 d1 v9 sJ;obtain⟨v1,g,rest,k0,k1,k2,k3,k4,C1⟩:=Ny (inv1 d1) d1 d0 v9 sJ lZ rfl;generalize inv1 d1=v at *;have C1':=ag C1;have C2:=ag (fun w=>D7 v1 d1 d0 D g rest I v9 sJ lZ hD (by omega) k1 k2 k3 k4 hI w);clear C1 k4 hD hI v9;go_enter Tryz.func145,Tryz.ntmps145
 go_wp2_with fail
 refine(ae C0 _).mono ?_;rintro e w1 ⟨rfl,b1⟩
 go_wp2_with fail
 refine(ae C1' _).mono ?_;rintro e w2 ⟨rfl,rfl⟩
 go_wp2_with fail
 refine(ae C2 _).mono ?_;rintro e w3 ⟨rfl,rfl⟩;go_wp2
 go_ret2
 exact⟨ac6 rfl rfl,b1⟩
end
end Go.Proofs.YtkdmippllpekfaaGreatDoor
