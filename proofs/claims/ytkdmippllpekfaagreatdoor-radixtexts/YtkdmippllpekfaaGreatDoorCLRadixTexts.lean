import Derived.Test.YtkdmippllpekfaaGreatDoorB28
import Derived.Test.YtkdmippllpekfaaGreatDoorB22
namespace Go.Proofs.YtkdmippllpekfaaGreatDoor
set_option maxRecDepth 100000
set_option maxHeartbeats 12800000
open Go.RowKit
theorem Cp(SN:mX)(ST:mW)(SP:kJ)(SX:AZ)(T:bJ)(ga:Option Addr)(ba oa ca la:Nat)(xs:List Nat)(w:World)(Pu:xs.length=la)(F4:cH w ga ba oa ca xs)(Pz:∀j,xs.getD j 0<18446744073709551616)(z:Int)(gY: -9223372036854775808<=z)(fX:z<=9223372036854775807)(hT:TB w):Calls Tryz.prog 3 #[T.val,.slice ga la ca,.int .i64 z] w fun e w'=>e=.returned (.bool true)/\Below w.heap.size w w':=by
 obtain⟨n,Ac⟩:∃k,k=min la 24:=⟨_,rfl⟩;have Ca:Hid (∀w,Calls Tryz.prog 9 #[.slice ga la ca,.int .i64 24] w fun e w'=>e=.returned (.slice ga n ca)/\w'=w):=fun w=>uy w ga la ca 24 n (by have:=F4.room;omega) (by omega) Ac;obtain⟨fA,rA⟩:=uz F4 24 n (by rw[Pu];exact Ac);have dx:bG (xs.take n):=mI Pz n;have hma:n<=24:=by omega
 clear Ac F4 Pz Pu;generalize xs.take n=us at *;obtain⟨A,yS⟩:∃k,k=aB us:=⟨_,rfl⟩;have LA:Hid (A<18446744073709551616^24):=by show _<_;rw[yS];exact oX (bF dx) (by omega)
 have BA:Hid (A<4294967296^48):=by have:=ae LA;rw[TS]at this;exact this
 have CFa:=ag (fun W (r:cH W ga ba oa ca us)=>ru W ga ba oa ca n A us fA (by omega) r dx yS);have wlA:wl A<=24:=by rw[yS];exact ak (mN dx) (by omega)
 have IE:=ag fA;have UC:=ag yS;clear yS fA;have bl:=aj w.heap.size w;obtain⟨F,hF⟩:∃F,F=6148914691236517205:=⟨_,rfl⟩;have HF:=ag hF;clear hF;have pD:(∃k:Nat,z=(k:Int)/\2<=k/\k<=36)\/z<2\/36<z:=by
  by_cases h:2<=z/\z<=36
  ·exact Or.inl ⟨z.toNat,by omega,by omega,by omega⟩
  ·exact Or.inr (by omega)
 rcases pD with⟨k,rfl,k1,k2⟩|hz
 ·have CTx:=ag (fun W v (h:jO W v A)=>SR W v A k 48 (ae BA) (by omega) k1 k2 h);obtain⟨X,hX⟩:∃X:ByteArray,X=⟨⟨txt k A⟩⟩:=⟨_,rfl⟩;rw[<-hX]at CTx;have I6:=ag hX;have z1:decide ((k:Int)<2)=false:=aM (by omega);have z2:decide ((36:Int)<(k:Int))=false:=aM (by omega);clear hX gY fX;have b0:Below w.heap.size w (w.alloc (.cells #[.int .i64 T.b,.int .i64 T.t,.int .i64 T.n,.int .i64 T.d,.int .i64 T.r,.int .i64 T.l,.int .i64 T.x,.int .i64 T.p,.int .i64 T.k,.int .i64 T.s,.int .i64 T.e] 23)):=(aj _ _).alloc (af _) _;have tA:=jy w T 23;obtain⟨W1,mP⟩:∃W,w.alloc (.cells #[.int .i64 T.b,.int .i64 T.t,.int .i64 T.n,.int .i64 T.d,.int .i64 T.r,.int .i64 T.l,.int .i64 T.x,.int .i64 T.p,.int .i64 T.k,.int .i64 T.s,.int .i64 T.e] 23)=W:=⟨_,rfl⟩;rw[mP]at b0 tA;obtain⟨P0,ke⟩:∃P,w.heap.size=P:=⟨_,rfl⟩;rw[ke]at tA;have lP:P0<W1.heap.size:=tA.lt;have HT:=ag hT;clear hT;have rA:=rA.next b0;have bl:=aJ bl b0;clear b0;have CN:=ag (fun W=>SN T W);have CK:=ag (fun W h=>gA SN ST SP W h);have HS:=ag ST;have HX:=ag SX;clear SN ST SP SX;unfold bJ.val at CN ⊢;go_enter Jm,Tryz.ntmps3
  go_wp2_with fail
  refine(ae Ca _).mono ?_;rintro e IU ⟨rfl,rfl⟩;clear Ca;have Ip:=tA;obtain⟨p0,p1,p2,p3,p4,p5,p6,p7,p8,p9,wF⟩:=Ip
  go_wp2_with fail
  refine(ae CN _).mono ?_;rintro e w1 ⟨gz,gw,gv,gr,gd,gm,gt,gk,ge,g,rfl,E,hn,b⟩;clear p0 p1 p2 p3 p4 p5 p6 p7 p8 p9 wF;have hg:w.heap.size<=g:=by omega
  clear hn tA lP CN;have rA:=rA.next b;have bl:=aJ bl b;clear b
  go_wp2_with fail
  refine(BO _ ga ba oa ca n us (ae IE) (by omega) rA F (ae HF)).mono ?_;rintro e w2 ⟨rfl,ol,b⟩;obtain⟨rX,tX⟩:=BQ ol (ae IE);clear ol;have rA:=rA.next b;have E:=E.next b;have bl:=aJ bl b;clear b;have ix:=pF rX dx (ae IE) (ae UC) (by omega);clear rX;have CL:=ag (ae HS _ gz gw gv gr gd gm gt gk ge g 0 0 0 T _ A k E ((ae HT).next bl) (by decide) (by decide) (by decide) (by decide) ix (by omega) k1 k2);clear ix;rw[<-ae I6]at CL;obtain⟨g1,Po⟩:∃g1,g1=w1.heap.size:=⟨_,rfl⟩;rw[<-Po]at tX CL ⊢;clear Po
  go_wp2_with fail
  refine(ae CL).mono ?_;rintro e w3 ⟨s',m',rfl,E2,_,o⟩;clear CL;have rA:=E.rep o rA;have tX:=E.rep o tX;have bl:=bl.trans (o.below (B:=w.heap.size) bl.size (fun k hk=>by rw[hk];exact hg));have E:=E2;clear o E2;clear E
  go_wp2_with fail
  refine(ae CFa _ rA).mono ?_;rintro e w4 ⟨v1,rfl,n1,b⟩;have rA:=rA.next b;have tX:=tX.next b;have bl:=aJ bl b;clear b
  go_wp2_with fail
  refine(ae CTx _ _ n1).mono ?_;rintro e w5 ⟨rfl,b⟩;clear n1;have rA:=rA.next b;have tX:=tX.next b;have bl:=aJ bl b;clear b
  go_wp2_with fail
  refine(Nr _ ga g1 ba oa ca n us (ae IE) (by omega) rA F (ae HF) tX).mono ?_;rintro e wi1 ⟨rfl,b⟩;have rA:=rA.next b;have tX:=tX.next b;have bl:=aJ bl b;clear b
  go_wp2_with fail
  refine(ae CK _ ((ae HT).next bl)).mono ?_;rintro e w6 ⟨rfl,b⟩;have bl:=aJ bl b;clear b;go_wp2;go_ret;exact⟨rfl,bl⟩
 ·have zz:=hz;rcases hz with z1|z2
  ·have z3:decide (z<2)=true:=bg z1;clear z1;have b0:Below w.heap.size w (w.alloc (.cells #[.int .i64 T.b,.int .i64 T.t,.int .i64 T.n,.int .i64 T.d,.int .i64 T.r,.int .i64 T.l,.int .i64 T.x,.int .i64 T.p,.int .i64 T.k,.int .i64 T.s,.int .i64 T.e] 23)):=(aj _ _).alloc (af _) _;have tA:=jy w T 23;obtain⟨W1,mP⟩:∃W,w.alloc (.cells #[.int .i64 T.b,.int .i64 T.t,.int .i64 T.n,.int .i64 T.d,.int .i64 T.r,.int .i64 T.l,.int .i64 T.x,.int .i64 T.p,.int .i64 T.k,.int .i64 T.s,.int .i64 T.e] 23)=W:=⟨_,rfl⟩;rw[mP]at b0 tA;obtain⟨P0,ke⟩:∃P,w.heap.size=P:=⟨_,rfl⟩;rw[ke]at tA;have lP:P0<W1.heap.size:=tA.lt;have HT:=ag hT;clear hT;have rA:=rA.next b0;have bl:=aJ bl b0;clear b0;have CN:=ag (fun W=>SN T W);have CK:=ag (fun W h=>gA SN ST SP W h);have HS:=ag ST;have HX:=ag SX;clear SN ST SP SX;unfold bJ.val at CN ⊢;go_enter Jm,Tryz.ntmps3
   go_wp2_with fail
   refine(ae Ca _).mono ?_;rintro e IU ⟨rfl,rfl⟩;clear Ca;have Ip:=tA;obtain⟨p0,p1,p2,p3,p4,p5,p6,p7,p8,p9,wF⟩:=Ip
   go_wp2_with fail
   refine(ae CN _).mono ?_;rintro e w1 ⟨gz,gw,gv,gr,gd,gm,gt,gk,ge,g,rfl,E,hn,b⟩;clear p0 p1 p2 p3 p4 p5 p6 p7 p8 p9 wF;have hg:w.heap.size<=g:=(by omega);clear hn tA lP CN;have rA:=rA.next b;have bl:=aJ bl b;clear b
   go_wp2_with fail
   refine(BO _ ga ba oa ca n us (ae IE) (by omega) rA F (ae HF)).mono ?_;rintro e w2 ⟨rfl,ol,b⟩;obtain⟨rX,tX⟩:=BQ ol (ae IE);clear ol;have rA:=rA.next b;have E:=E.next b;have bl:=aJ bl b;clear b;have ix:=pF rX dx (ae IE) (ae UC) (by omega);clear rX;have CL:=ag (ae HX _ gz gw gv gr gd gm gt gk ge g 0 0 0 T _ A z E ix zz gY fX);clear ix E zz
   go_wp2_with fail
   refine(ae CL).mono ?_;rintro e w3 ⟨rfl,b⟩;clear CL;have rA:=rA.next b;have tX:=tX.next b;have bl:=aJ bl b;clear b
   go_wp2_with fail
   refine(ae CK _ ((ae HT).next bl)).mono ?_;rintro e w4 ⟨rfl,b⟩;have bl:=aJ bl b;clear b;go_wp2;go_ret;exact⟨rfl,bl⟩
  ·have z3:decide (z<2)=false:=aM (by omega);have z4:decide ((36:Int)<z)=true:=bg z2;clear z2;have b0:Below w.heap.size w (w.alloc (.cells #[.int .i64 T.b,.int .i64 T.t,.int .i64 T.n,.int .i64 T.d,.int .i64 T.r,.int .i64 T.l,.int .i64 T.x,.int .i64 T.p,.int .i64 T.k,.int .i64 T.s,.int .i64 T.e] 23)):=(aj _ _).alloc (af _) _;have tA:=jy w T 23;obtain⟨W1,mP⟩:∃W,w.alloc (.cells #[.int .i64 T.b,.int .i64 T.t,.int .i64 T.n,.int .i64 T.d,.int .i64 T.r,.int .i64 T.l,.int .i64 T.x,.int .i64 T.p,.int .i64 T.k,.int .i64 T.s,.int .i64 T.e] 23)=W:=⟨_,rfl⟩;rw[mP]at b0 tA;obtain⟨P0,ke⟩:∃P,w.heap.size=P:=⟨_,rfl⟩;rw[ke]at tA;have lP:P0<W1.heap.size:=tA.lt;have HT:=ag hT;clear hT;have rA:=rA.next b0;have bl:=aJ bl b0;clear b0;have CN:=ag (fun W=>SN T W);have CK:=ag (fun W h=>gA SN ST SP W h);have HS:=ag ST;have HX:=ag SX;clear SN ST SP SX;unfold bJ.val at CN ⊢;go_enter Jm,Tryz.ntmps3
   go_wp2_with fail
   refine(ae Ca _).mono ?_;rintro e IU ⟨rfl,rfl⟩;clear Ca;have Ip:=tA;obtain⟨p0,p1,p2,p3,p4,p5,p6,p7,p8,p9,wF⟩:=Ip
   go_wp2_with fail
   refine(ae CN _).mono ?_;rintro e w1 ⟨gz,gw,gv,gr,gd,gm,gt,gk,ge,g,rfl,E,hn,b⟩;clear p0 p1 p2 p3 p4 p5 p6 p7 p8 p9 wF;have hg:w.heap.size<=g:=(by omega);clear hn tA lP CN;have rA:=rA.next b;have bl:=aJ bl b;clear b
   go_wp2_with fail
   refine(BO _ ga ba oa ca n us (ae IE) (by omega) rA F (ae HF)).mono ?_;rintro e w2 ⟨rfl,ol,b⟩;obtain⟨rX,tX⟩:=BQ ol (ae IE);clear ol;have rA:=rA.next b;have E:=E.next b;have bl:=aJ bl b;clear b;have ix:=pF rX dx (ae IE) (ae UC) (by omega);clear rX;have CL:=ag (ae HX _ gz gw gv gr gd gm gt gk ge g 0 0 0 T _ A z E ix zz gY fX);clear ix E zz
   go_wp2_with fail
   refine(ae CL).mono ?_;rintro e w3 ⟨rfl,b⟩;clear CL;have rA:=rA.next b;have tX:=tX.next b;have bl:=aJ bl b;clear b
   go_wp2_with fail
   refine(ae CK _ ((ae HT).next bl)).mono ?_;rintro e w4 ⟨rfl,b⟩;have bl:=aJ bl b;clear b;go_wp2;go_ret;exact⟨rfl,bl⟩
end Go.Proofs.YtkdmippllpekfaaGreatDoor
