import Derived.Test.YtkdmippllpekfaaGreatDoorB28
import Derived.Test.YtkdmippllpekfaaGreatDoorB14
namespace Go.Proofs.YtkdmippllpekfaaGreatDoor
set_option maxRecDepth 100000
set_option maxHeartbeats 12800000
open Go.RowKit
theorem Aj(SN:mX)(ST:mW)(SP:kJ)(SD:vM)(SX:wS)(T:bJ)(ga:Option Addr)(ba oa ca la:Nat)(xs:List Nat)(w:World)(Pu:xs.length=la)(F4:cH w ga ba oa ca xs)(Pz:∀j,xs.getD j 0<18446744073709551616)(y:Nat)(hy:y<18446744073709551616)(hT:TB w):Calls Tryz.prog 6 #[T.val,.slice ga la ca,.int .u64 (y:Int)] w fun e w'=>e=.returned (.bool true)/\Below w.heap.size w w':=by
 obtain⟨k,Ac⟩:∃k,k=min la 10:=⟨_,rfl⟩;have Ca:Hid (∀w,Calls Tryz.prog 9 #[.slice ga la ca,.int .i64 10] w fun e w'=>e=.returned (.slice ga k ca)/\w'=w):=fun w=>uy w ga la ca 10 k (by have:=F4.room;omega) (by omega) Ac;obtain⟨vn,r0⟩:=uz F4 10 k (by rw[Pu];exact Ac);have d0:bG (xs.take k):=mI Pz k;have hm0:k<=10:=by omega
 clear Ac F4 Pz Pu;generalize xs.take k=zs at *;obtain⟨n,us,fA,rA,dx,hma,hch⟩:∃n us,us.length=n/\cH w ga ba oa ca us/\bG us/\n<=10/\((¬(2<=y/\y<16)/\n=k)\/((2<=y/\y<16)/\Hid (∀w,Calls Tryz.prog 9 #[.slice ga k ca,.int .i64 3] w fun e w'=>e=.returned (.slice ga n ca)/\w'=w))):=by
  by_cases h:2<=y/\y<16
  ·obtain⟨h1,h2⟩:=uz r0 3 (min k 3) (by rw[vn]);exact⟨min k 3,zs.take (min k 3),h1,h2,mI d0 _,by omega,Or.inr ⟨h,fun w=>uy w ga k ca 3 (min k 3) (by have:=r0.room;omega) (by omega) rfl⟩⟩
  ·exact⟨k,zs,vn,r0,d0,by omega,Or.inl ⟨h,rfl⟩⟩
 clear vn r0 d0 hm0;obtain⟨A,yS⟩:∃k,k=aB us:=⟨_,rfl⟩;have LA:Hid (A<18446744073709551616^10):=by show _<_;rw[yS];exact oX (bF dx) (by omega)
 have BA:Hid (A<4294967296^20):=by have:=ae LA;rw[TS]at this;exact this
 have CFa:=ag (fun W (r:cH W ga ba oa ca us)=>ru W ga ba oa ca n A us fA (by omega) r dx yS);have wlA:wl A<=10:=by rw[yS];exact ak (mN dx) (by omega)
 have IE:=ag fA;have UC:=ag yS;clear yS fA;have bl:=aj w.heap.size w;have b0:Below w.heap.size w (w.alloc (.cells #[.int .i64 T.b,.int .i64 T.t,.int .i64 T.n,.int .i64 T.d,.int .i64 T.r,.int .i64 T.l,.int .i64 T.x,.int .i64 T.p,.int .i64 T.k,.int .i64 T.s,.int .i64 T.e] 23)):=(aj _ _).alloc (af _) _;have tA:=jy w T 23;obtain⟨W1,mP⟩:∃W,w.alloc (.cells #[.int .i64 T.b,.int .i64 T.t,.int .i64 T.n,.int .i64 T.d,.int .i64 T.r,.int .i64 T.l,.int .i64 T.x,.int .i64 T.p,.int .i64 T.k,.int .i64 T.s,.int .i64 T.e] 23)=W:=⟨_,rfl⟩;rw[mP]at b0 tA;obtain⟨P0,ke⟩:∃P,w.heap.size=P:=⟨_,rfl⟩;rw[ke]at tA;have lP:P0<W1.heap.size:=tA.lt;have HT:=ag hT;clear hT;have rA:=rA.next b0;have bl:=aJ bl b0;clear b0;have CN:=ag (fun W=>SN T W);have CK:=ag (fun W h=>gA SN ST SP W h);have HD:=ag SD;have HX:=ag SX;clear SN ST SP SD SX;unfold bJ.val at CN ⊢;have b1:decide ((1:Int)<(y:Int))=decide (2<=y):=lT.2 (by omega);have b2:decide ((y:Int)<16)=decide (y<16):=lT.2 (by omega);have b3:decide ((y:Int)<2)=decide (y<2):=lT.2 (by omega);go_enter Tryz.func6,Tryz.ntmps6
 go_wp2_with fail
 refine(ae Ca _).mono ?_;rintro e IU ⟨rfl,rfl⟩;clear Ca;have ad1:(y<2/\n=k)\/(16<=y/\n=k)\/((2<=y/\y<16)/\Hid (∀w,Calls Tryz.prog 9 #[.slice ga k ca,.int .i64 3] w fun e w'=>e=.returned (.slice ga n ca)/\w'=w)):=by
  rcases hch with⟨h1,h2⟩|h
  ·rcases(by omega:y<2\/16<=y)with h|h
   ·exact Or.inl ⟨h,h2⟩
   ·exact Or.inr (Or.inl ⟨h,h2⟩)
  ·exact Or.inr (Or.inr h)
 clear hch;rcases ad1 with⟨hy2,rfl⟩|hch
 ·have b1:decide ((1:Int)<(y:Int))=false:=aM (by omega);have Ip:=tA;obtain⟨p0,p1,p2,p3,p4,p5,p6,p7,p8,p9,wF⟩:=Ip
  go_wp2_with fail
  refine(ae CN _).mono ?_;rintro e w1 ⟨gz,gw,gv,gr,gd,gm,gt,gk,ge,g,rfl,E,hn,b⟩;clear p0 p1 p2 p3 p4 p5 p6 p7 p8 p9 wF;have hg:w.heap.size<=g:=by omega
  clear hn tA lP CN b1 b2;have rA:=rA.next b;have bl:=aJ bl b;clear b;have b3:decide ((y:Int)<2)=true:=bg (by omega);have CL:=ag (ae HX _ gz gw gv gr gd gm gt gk ge g 0 0 0 T _ A y E (pF rA dx (ae IE) (ae UC) (by omega)) hy2);clear E
  go_wp2_with fail
  refine(ae CL).mono ?_;rintro e w2 ⟨qa,qc,rfl,b⟩;clear CL;have rA:=rA.next b;have bl:=aJ bl b;clear b
  go_wp2_with fail
  refine(ae CK _ ((ae HT).next bl)).mono ?_;rintro e w3 ⟨rfl,b⟩;have bl:=aJ bl b;clear b;go_wp2;go_ret;exact⟨rfl,bl⟩
 rcases hch with⟨hy2,rfl⟩|⟨hy2,C3⟩
 case' inl=>
  have b1:decide ((1:Int)<(y:Int))=true:=bg (by omega);have b2:decide ((y:Int)<16)=false:=aM (by omega)
 case' inr=>
  have b1:decide ((1:Int)<(y:Int))=true:=bg (by omega);have b2:decide ((y:Int)<16)=true:=bg (by omega)
  go_wp2_with fail
  refine(ae C3 _).mono ?_;rintro e wcb ⟨rfl,rfl⟩;clear C3
 all_goals
  focus
   have Ip:=tA;obtain⟨p0,p1,p2,p3,p4,p5,p6,p7,p8,p9,wF⟩:=Ip
   go_wp2_with fail
   refine(ae CN _).mono ?_;rintro e w1 ⟨gz,gw,gv,gr,gd,gm,gt,gk,ge,g,rfl,E,hn,b⟩;clear p0 p1 p2 p3 p4 p5 p6 p7 p8 p9 wF;have hg:w.heap.size<=g:=(by omega);clear hn tA lP CN b1 b2;have rA:=rA.next b;have bl:=aJ bl b;clear b;have b3:decide ((y:Int)<2)=false:=aM (by omega);have CL:=ag (ae HD _ gz gw gv gr gd gm gt gk ge g 0 0 0 T _ A y E ((ae HT).next bl) (by decide) (by decide) (by decide) (by decide) (pF rA dx (ae IE) (ae UC) (by omega)) (by omega) (by omega) hy);have CDg:=ag (fun W v (h:jO W v A)=>KT W v A y 20 (ae BA) (by omega) (by omega) hy h);have hQ:=Bm (b:=y) (by omega) 20 A (ae BA);generalize dg y A=ds at *
   go_wp2_with fail
   refine(ae CL).mono ?_;rintro e w2 ⟨qa,qb,qo,qn,qc,s',m',rfl,hq,rQ,_,E2,_,o⟩;clear CL;have rA:=E.rep o rA;have bl:=bl.trans (o.below (B:=w.heap.size) bl.size (fun k hk=>by rw[hk];exact hg));have E:=E2;clear o E2;clear E
   go_wp2_with fail
   refine(ae CFa _ rA).mono ?_;rintro e w3 ⟨v1,rfl,n1,b⟩;have rA:=rA.next b;have rQ:=rQ.next b;have bl:=aJ bl b;clear b
   go_wp2_with fail
   refine(ae CDg _ _ n1).mono ?_;rintro e w4 ⟨ha,hb,hc,hn,rfl,hh,rH,b⟩;clear n1;have rA:=rA.next b;have rQ:=rQ.next b;have bl:=aJ bl b;clear b;obtain rfl:hn=qn:=by omega
   go_wp2_with fail
   refine(xD _ qa ha qb qo qc hb 0 hc hn ds hq (by omega) rQ rH).mono ?_;rintro e w5 ⟨rfl,b⟩;clear rQ rH;have rA:=rA.next b;have bl:=aJ bl b;clear b
   go_wp2_with fail
   refine(ae CK _ ((ae HT).next bl)).mono ?_;rintro e w6 ⟨rfl,b⟩;have bl:=aJ bl b;clear b;go_wp2;go_ret;exact⟨rfl,bl⟩
end Go.Proofs.YtkdmippllpekfaaGreatDoor
