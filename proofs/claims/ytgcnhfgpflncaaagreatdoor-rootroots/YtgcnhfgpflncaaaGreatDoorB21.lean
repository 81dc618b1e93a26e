/- Div64 of math/bits, walked over this program. -/
import Derived.Test.YtgcnhfgpflncaaaGreatDoorB13
import Derived.Test.YtgcnhfgpflncaaaGreatDoorB10
import Derived.Deep.QuietTactic
import Derived.BigQuiet
import Derived.WalkSmall
import Derived.Outline
namespace Go.Proofs.YtgcnhfgpflncaaaGreatDoor
open Go.RowKit
theorem mV{m q y:Nat}(hm:m=q*y)(hq:q<=4294967297)(hy:y<4294967296):m<18446744073709551616:=by
 have:q*y<=4294967297*4294967295:=Nat.mul_le_mul hq (by omega)
 omega
theorem fR{a b:Nat}(h:a=b)(h':b<4294967296):(a:Int)<4294967296:=by omega
theorem m9{q r d m:Int}(h:4294967296<=q\/4294967296*r+d<m):4294967296<=q\/(q<4294967296/\4294967296*r+d<m):=by omega
theorem bF{k l:IntKind}{a b c d:Int}(h:a=b)(h':c=d):Ending.returned (.tuple #[.int k a,.int l c])=.returned (.tuple #[.int k b,.int l d]):=by rw[h,h']
set_option maxHeartbeats 1600000 in
theorem vo(lo y:Nat)(w:World)(h1:lo<18446744073709551616)(h2:y<18446744073709551616)(h3:0<y):
  Calls Tryz.prog 142 #[.int .u64 0,.int .u64 (lo:Int),.int .u64 (y:Int)] w fun e w'=>e=.returned (.tuple #[.int .u64 ((lo/y:Nat):Int),.int .u64 ((lo%y:Nat):Int)])/\Below w.heap.size w w':=by
 have hy0:((y:Int)==0)=false:=by rw[beq_eq_false_iff_ne];omega
 go_enter Tryz.func142,Tryz.ntmps142
 go_wp2
 go_quiet (fail)
 go_wp2
 go_ret2
 have hq:lo/y<18446744073709551616:=Nat.lt_of_le_of_lt (Nat.div_le_self _ _) h1
 exact⟨bF (by rw[<-Int.natCast_ediv];generalize lo/y=q at *;rw[IntKind.wrap_u64];omega) (by rw[Int.natCast_emod]),below_drewN (Below.refl _ _) _⟩
set_option maxRecDepth 100000 in
set_option maxHeartbeats 6400000 in
theorem BF(hi lo y:Nat)(w:World)(h0:hi<18446744073709551616)(h1:lo<18446744073709551616)(h2:y<18446744073709551616)(h3:hi<y)(h4:0<hi):
  Calls Tryz.prog 142 #[.int .u64 (hi:Int),.int .u64 (lo:Int),.int .u64 (y:Int)] w fun e w'=>e=.returned (.tuple #[.int .u64 (((18446744073709551616*hi+lo)/y:Nat):Int),.int .u64 (((18446744073709551616*hi+lo)%y:Nat):Int)])/\Below w.heap.size w w':=by
 generalize hQf:(18446744073709551616*hi+lo)/y=Qf
 generalize hRf:(18446744073709551616*hi+lo)%y=Rf
 have HQf:=hide hQf
 have HRf:=hide hRf
 clear hQf hRf
 have hy0:((y:Int)==0)=false:=by rw[beq_eq_false_iff_ne];omega
 have hh0:((hi:Int)==0)=false:=by rw[beq_eq_false_iff_ne];omega
 go_enter Tryz.func142,Tryz.ntmps142
 go_wp2_with fail
 refine(yY (y:Int) _ (by omega) (by omega)).mono ?_
 rintro e w' ⟨s,rfl,hs,ha,hb,rfl⟩
 rw[Int.toNat_natCast]at ha hb
 have hp:(0:Int)<2^s:=by rw[fq];have:0<2^s:=Nat.pow_pos (by omega);omega
 have hhs:hi*2^s<18446744073709551616:=by
  have:=Nat.mul_le_mul_right (2^s) (Nat.le_of_lt h3)
  omega
 have hlt:=Hl lo s hs h1
 have hul:=Jz hi lo y s hs h1 h3
 have hT64:lo/2^(64-s)<18446744073709551616:=Nat.lt_of_le_of_lt (Nat.div_le_self _ _) h1
 have HW:=hide (fun Q1 v Q0 R=>yG (lo:=lo) hs h3 Q1 v Q0 R)
 have eY:=pV y s hb
 have eH:=pV hi s hhs
 have eT:=fC lo (64-s)
 have eO:=PK hi (lo/2^(64-s)) s hlt hhs hT64
 have eM:=tY lo s
 have hM:lo*2^s%18446744073709551616<18446744073709551616:=Nat.mod_lt _ (by omega)
 generalize y*2^s=Y at *
 generalize hi*2^s+lo/2^(64-s)=u at *
 generalize hi*2^s=H at *
 generalize lo/2^(64-s)=T at *
 generalize lo*2^s%18446744073709551616=M at *
 have eyn0:=l9 Y hb
 have eun0:=l9 M hM
 have eyn1:(Y:Int)/4294967296=((Y/4294967296:Nat):Int):=by omega
 have eun1:(M:Int)/4294967296=((M/4294967296:Nat):Int):=by omega
 have hy1:2147483648<=Y/4294967296:=by omega
 have hy1':Y/4294967296<4294967296:=by omega
 have hy0':Y%4294967296<4294967296:=by omega
 have hYs:Y=Y/4294967296*4294967296+Y%4294967296:=by omega
 have hd1:M/4294967296<4294967296:=by omega
 have hd0:M%4294967296<4294967296:=by omega
 generalize Y/4294967296=yn1 at *
 generalize Y%4294967296=yn0 at *
 generalize M/4294967296=un1 at *
 generalize M%4294967296=un0 at *
 have G0:=hide (gR hYs hy1 hy1' hy0' hul hd1)
 have hG0':=gR hYs hy1 hy1' hy0' hul hd1
 have hq0b:=hG0'.le
 have hp0:u/yn1*yn1<=u:=Nat.div_mul_le_self u yn1
 have eq0:(u:Int)/(yn1:Int)=((u/yn1:Nat):Int):=(Int.natCast_ediv u yn1).symm
 have ep0:((u/yn1:Nat):Int)*(yn1:Int)=((u/yn1*yn1:Nat):Int):=(Int.natCast_mul _ _).symm
 have HU0:=hide (zj (v:=u) (yn1:=yn1) (by omega))
 have HYs:=hide hYs
 clear hG0' hYs
 generalize u/yn1*yn1=p0 at *
 generalize u/yn1=q0 at *
 clear hlt hhs hT64 ha
 go_wp2
 clear eY eH eT eO eM eyn0 eun0 eyn1 eun1 eq0 ep0 hy0 hh0
 go_loop [15,16] (fun a b=>∃ q r:Nat,a=.int .u64 (q:Int)/\b=.int .u64 (r:Int)/\q<=4294967297/\r<4294967296/\Hid (jk u Y yn1 yn0 un1 q r)) (fun a _=>(intOf a).toNat)
 case atStart=>exact⟨q0,u-p0,rfl,by go_num,hq0b,by have:=ae HU0;omega,G0.out⟩
 case round=>
  obtain⟨q,r,rfl,rfl,hqb,hrb,hG⟩:=hrel
  obtain⟨m,hm⟩:∃ m,m=q*yn0:=⟨_,rfl⟩
  have em:(q:Int)*(yn0:Int)=(m:Int):=by rw[hm,Int.natCast_mul]
  have h9:m<18446744073709551616:=mV hm hqb hy0'
  by_cases h5:(4294967296:Int)<=(q:Int)\/4294967296*(r:Int)+(un1:Int)<(m:Int)
  ·obtain⟨d1,d2,d3⟩:=lj hG.out (by rw[<-hm];omega)
   have eqn:(q:Int)-1=((q-1:Nat):Int):=by omega
   have ern:(r:Int)+(yn1:Int)=((r+yn1:Nat):Int):=by omega
   have hrn:r+yn1<8589934592:=by omega
   have D2:=hide d2
   clear d2
   generalize hqn:q-1=q1 at *
   generalize r+yn1=rn at *
   have HQN:=hide hqn
   clear hqn hm
   by_cases h6:(4294967296:Int)<=(rn:Int)
   ·have HQ1:=hide (jC D2.out (by omega) (by omega))
    rcases m9 h5 with h7|⟨h7,h8⟩
    all_goals
     clear h5
     have hq1s:(q1:Int)<4294967296:=fR (ae HQ1) (cV (ae G0))
     obtain⟨v,hv⟩:∃ v,v=(u*4294967296+un1)%Y:=⟨_,rfl⟩
     have eL:=eQ hul hd1 hb (ae HQ1) hv
     have hvY:=fQ hul hv
     have HV:=hide hv
     have G1:=hide (gR (ae HYs) hy1 hy1' hy0' hvY hd0)
     have hs0b:=(ae G1).le
     have ht0:v/yn1*yn1<=v:=Nat.div_mul_le_self v yn1
     have HS0:=hide (zj (v:=v) (yn1:=yn1) (by omega))
     have es0:(v:Int)/(yn1:Int)=((v/yn1:Nat):Int):=(Int.natCast_ediv v yn1).symm
     have et0:((v/yn1:Nat):Int)*(yn1:Int)=((v/yn1*yn1:Nat):Int):=(Int.natCast_mul _ _).symm
     clear hv
     generalize v/yn1*yn1=t0 at *
     generalize v/yn1=s0 at *
     go_wp2
     clear eL es0 et0 em
     go_loop [18,16] (fun a b=>∃ q r:Nat,a=.int .u64 (q:Int)/\b=.int .u64 (r:Int)/\q<=4294967297/\r<4294967296/\Hid (jk v Y yn1 yn0 un0 q r)) (fun a _=>(intOf a).toNat)
     case atStart=>exact⟨s0,v-t0,rfl,by go_num,hs0b,by have:=ae HS0;omega,G1.out⟩
     case round=>
      obtain⟨q,r,rfl,rfl,hqb,hrb,hG⟩:=hrel
      obtain⟨m,hm⟩:∃ m,m=q*yn0:=⟨_,rfl⟩
      have em:(q:Int)*(yn0:Int)=(m:Int):=by rw[hm,Int.natCast_mul]
      have h9:m<18446744073709551616:=mV hm hqb hy0'
      by_cases h5:(4294967296:Int)<=(q:Int)\/4294967296*(r:Int)+(un0:Int)<(m:Int)
      ·obtain⟨d1,d2,d3⟩:=lj hG.out (by rw[<-hm];omega)
       have eqn:(q:Int)-1=((q-1:Nat):Int):=by omega
       have ern:(r:Int)+(yn1:Int)=((r+yn1:Nat):Int):=by omega
       have hrn:r+yn1<8589934592:=by omega
       have D2:=hide d2
       clear d2
       generalize hqn:q-1=qz at *
       generalize r+yn1=rn at *
       have HQN:=hide hqn
       clear hqn hm
       by_cases h6:(4294967296:Int)<=(rn:Int)
       ·have HQ0:=hide (jC D2.out (by omega) (by omega))
        rcases m9 h5 with h7|⟨h7,h8⟩
        all_goals
         clear h5
         have hqzs:(qz:Int)<4294967296:=fR (ae HQ0) (cV (ae G1))
         obtain⟨R,hR⟩:∃ R,R=(v*4294967296+un0)%Y:=⟨_,rfl⟩
         have eR:=eQ hvY hd0 hb (ae HQ0) hR
         have hRY:=fQ hvY hR
         have HR:=hide hR
         clear hR
         go_wp2
         go_ret2
         obtain⟨w1,w2⟩:=ae HW q1 v qz R (ae HQ1) (ae HV) (ae HQ0) (ae HR)
         exact⟨bF (by rw[<-ae HQf,w1];omega) (by rw[<-ae HRf,w2,fC]),Below.refl _ _⟩
       ·rcases m9 h5 with h7|⟨h7,h8⟩
        all_goals
         clear h5
         go_wp2
         exact⟨⟨qz,rn,rfl,rfl,by omega,by omega,D2⟩,by have:=HQN.out;simp[intOf];omega⟩
      ·have h7:¬(4294967296:Int)<=(q:Int):=by omega
       have h8:¬4294967296*(r:Int)+(un0:Int)<(m:Int):=by omega
       have HQ0:=hide (iV hG.out (by rw[<-hm];omega))
       clear hm h5
       generalize q=qz at *
       have hqzs:(qz:Int)<4294967296:=fR (ae HQ0) (cV (ae G1))
       obtain⟨R,hR⟩:∃ R,R=(v*4294967296+un0)%Y:=⟨_,rfl⟩
       have eR:=eQ hvY hd0 hb (ae HQ0) hR
       have hRY:=fQ hvY hR
       have HR:=hide hR
       clear hR
       go_wp2
       go_ret2
       obtain⟨w1,w2⟩:=ae HW q1 v qz R (ae HQ1) (ae HV) (ae HQ0) (ae HR)
       exact⟨bF (by rw[<-ae HQf,w1];omega) (by rw[<-ae HRf,w2,fC]),Below.refl _ _⟩
   ·rcases m9 h5 with h7|⟨h7,h8⟩
    all_goals
     clear h5
     go_wp2
     exact⟨⟨q1,rn,rfl,rfl,by omega,by omega,D2⟩,by have:=HQN.out;simp[intOf];omega⟩
  ·have h7:¬(4294967296:Int)<=(q:Int):=by omega
   have h8:¬4294967296*(r:Int)+(un1:Int)<(m:Int):=by omega
   have HQ1:=hide (iV hG.out (by rw[<-hm];omega))
   clear hm h5
   generalize q=q1 at *
   have hq1s:(q1:Int)<4294967296:=fR (ae HQ1) (cV (ae G0))
   obtain⟨v,hv⟩:∃ v,v=(u*4294967296+un1)%Y:=⟨_,rfl⟩
   have eL:=eQ hul hd1 hb (ae HQ1) hv
   have hvY:=fQ hul hv
   have HV:=hide hv
   have G1:=hide (gR (ae HYs) hy1 hy1' hy0' hvY hd0)
   have hs0b:=(ae G1).le
   have ht0:v/yn1*yn1<=v:=Nat.div_mul_le_self v yn1
   have HS0:=hide (zj (v:=v) (yn1:=yn1) (by omega))
   have es0:(v:Int)/(yn1:Int)=((v/yn1:Nat):Int):=(Int.natCast_ediv v yn1).symm
   have et0:((v/yn1:Nat):Int)*(yn1:Int)=((v/yn1*yn1:Nat):Int):=(Int.natCast_mul _ _).symm
   clear hv
   generalize v/yn1*yn1=t0 at *
   generalize v/yn1=s0 at *
   go_wp2
   clear eL es0 et0 em
   go_loop [18,16] (fun a b=>∃ q r:Nat,a=.int .u64 (q:Int)/\b=.int .u64 (r:Int)/\q<=4294967297/\r<4294967296/\Hid (jk v Y yn1 yn0 un0 q r)) (fun a _=>(intOf a).toNat)
   case atStart=>exact⟨s0,v-t0,rfl,by go_num,hs0b,by have:=ae HS0;omega,G1.out⟩
   case round=>
    obtain⟨q,r,rfl,rfl,hqb,hrb,hG⟩:=hrel
    obtain⟨m,hm⟩:∃ m,m=q*yn0:=⟨_,rfl⟩
    have em:(q:Int)*(yn0:Int)=(m:Int):=by rw[hm,Int.natCast_mul]
    have h9:m<18446744073709551616:=mV hm hqb hy0'
    by_cases h5:(4294967296:Int)<=(q:Int)\/4294967296*(r:Int)+(un0:Int)<(m:Int)
    ·obtain⟨d1,d2,d3⟩:=lj hG.out (by rw[<-hm];omega)
     have eqn:(q:Int)-1=((q-1:Nat):Int):=by omega
     have ern:(r:Int)+(yn1:Int)=((r+yn1:Nat):Int):=by omega
     have hrn:r+yn1<8589934592:=by omega
     have D2:=hide d2
     clear d2
     generalize hqn:q-1=qz at *
     generalize r+yn1=rn at *
     have HQN:=hide hqn
     clear hqn hm
     by_cases h6:(4294967296:Int)<=(rn:Int)
     ·have HQ0:=hide (jC D2.out (by omega) (by omega))
      rcases m9 h5 with h7|⟨h7,h8⟩
      all_goals
       clear h5
       have hqzs:(qz:Int)<4294967296:=fR (ae HQ0) (cV (ae G1))
       obtain⟨R,hR⟩:∃ R,R=(v*4294967296+un0)%Y:=⟨_,rfl⟩
       have eR:=eQ hvY hd0 hb (ae HQ0) hR
       have hRY:=fQ hvY hR
       have HR:=hide hR
       clear hR
       go_wp2
       go_ret2
       obtain⟨w1,w2⟩:=ae HW q1 v qz R (ae HQ1) (ae HV) (ae HQ0) (ae HR)
       exact⟨bF (by rw[<-ae HQf,w1];omega) (by rw[<-ae HRf,w2,fC]),Below.refl _ _⟩
     ·rcases m9 h5 with h7|⟨h7,h8⟩
      all_goals
       clear h5
       go_wp2
       exact⟨⟨qz,rn,rfl,rfl,by omega,by omega,D2⟩,by have:=HQN.out;simp[intOf];omega⟩
    ·have h7:¬(4294967296:Int)<=(q:Int):=by omega
     have h8:¬4294967296*(r:Int)+(un0:Int)<(m:Int):=by omega
     have HQ0:=hide (iV hG.out (by rw[<-hm];omega))
     clear hm h5
     generalize q=qz at *
     have hqzs:(qz:Int)<4294967296:=fR (ae HQ0) (cV (ae G1))
     obtain⟨R,hR⟩:∃ R,R=(v*4294967296+un0)%Y:=⟨_,rfl⟩
     have eR:=eQ hvY hd0 hb (ae HQ0) hR
     have hRY:=fQ hvY hR
     have HR:=hide hR
     clear hR
     go_wp2
     go_ret2
     obtain⟨w1,w2⟩:=ae HW q1 v qz R (ae HQ1) (ae HV) (ae HQ0) (ae HR)
     exact⟨bF (by rw[<-ae HQf,w1];omega) (by rw[<-ae HRf,w2,fC]),Below.refl _ _⟩
end Go.Proofs.YtgcnhfgpflncaaaGreatDoor
