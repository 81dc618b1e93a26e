import Derived.Test.YtkdmippllpekfaaGreatDoorB28
import Derived.Test.YtkdmippllpekfaaGreatDoorB14
namespace Go.Proofs.YtkdmippllpekfaaGreatDoor
set_option maxRecDepth 100000
set_option maxHeartbeats 12800000
open Go.RowKit
theorem TJ{b:Nat}(hb:2<=b)(L n:Nat)(h:n<18446744073709551616^L):(txt b n).length<=64*L+1:=
 aa2 hb (64*L) n (by
  have e:(18446744073709551616:Nat)^L=2^(64*L):=by rw[dH]
  rw[e]at h;exact h)
theorem Eb(SN:mX)(ST:mW)(SP:kJ)(T:bJ)(U:bJ)(ga:Option Addr)(ba oa ca la:Nat)(xs:List Nat)(w:World)(Pu:xs.length=la)(F4:cH w ga ba oa ca xs)(Pz:∀j,xs.getD j 0<18446744073709551616)(z:Int)(gY: -9223372036854775808<=z)(fX:z<=9223372036854775807)(y:Int)(hy1: -9223372036854775808<=y)(hy2:y<=9223372036854775807)(hT:TB w):Calls Tryz.prog 5 #[T.val,U.val,.slice ga la ca,.int .i64 z,.int .i64 y] w fun e w'=>e=.returned (.bool true)/\Below w.heap.size w w':=by
 obtain⟨n,Ac⟩:∃k,k=min la 80:=⟨_,rfl⟩;have Ca:Hid (∀w,Calls Tryz.prog 9 #[.slice ga la ca,.int .i64 80] w fun e w'=>e=.returned (.slice ga n ca)/\w'=w):=fun w=>uy w ga la ca 80 n (by have:=F4.room;omega) (by omega) Ac;obtain⟨fA,rA⟩:=uz F4 80 n (by rw[Pu];exact Ac);have dx:bG (xs.take n):=mI Pz n;have hma:n<=80:=by omega
 clear Ac F4 Pz Pu;generalize xs.take n=us at *;obtain⟨A,yS⟩:∃k,k=aB us:=⟨_,rfl⟩;have LA:Hid (A<18446744073709551616^80):=by show _<_;rw[yS];exact oX (bF dx) (by omega)
 have BA:Hid (A<4294967296^160):=by have:=ae LA;rw[TS]at this;exact this
 have CFa:=ag (fun W (r:cH W ga ba oa ca us)=>ru W ga ba oa ca n A us fA (by omega) r dx yS);have wlA:wl A<=80:=by rw[yS];exact ak (mN dx) (by omega)
 have IE:=ag fA;have UC:=ag yS;clear yS fA;have bl:=aj w.heap.size w;obtain⟨k,hk⟩:∃k:Nat,(k:Int)=z%35:=⟨(z%35).toNat,by omega⟩;have sK:k<35:=by omega
 have CIn:=ag (fun W=>Ds z 35 W gY fX (by omega) (by omega));rw[<-hk]at CIn;obtain⟨M,hM⟩:∃M:Nat,(M:Int)=y%60:=⟨(y%60).toNat,by omega⟩;have hM2:M<60:=by omega
 have abC:=ag (fun W=>Ds y 60 W hy1 hy2 (by omega) (by omega));rw[<-hM]at abC;clear hk gY fX hM hy1 hy2;obtain⟨b,hb⟩:∃b,b=k+2:=⟨_,rfl⟩;have b2:2<=b:=by omega
 have b36:b<=36:=by omega
 have eb:2+(k:Int)=(b:Int):=by omega
 have ew:IntKind.i64.wrap (b:Int)=(b:Int):=by rw[ao];omega
 have hlen:=TJ b2 80 A (ae LA);have Nj:=fun q=>acZ b2 b36 A q;have hhd:=LI b2 b36 A;obtain⟨tx,htx⟩:∃tx,tx=txt b A:=⟨_,rfl⟩;rw[<-htx]at hlen Nj hhd;have HTX:=ag htx;have HPV:=ag Nj;have HHD:=ag hhd;have HLN:Hid (tx.length<=5121):=hlen;have aeF:wl A<=600:=by omega
 have htn:tx≠[]:=fun e=>by rcases hhd with h|⟨c,l,h,_⟩<;>rw[e]at h<;>cases h
 clear hb htx Nj hhd hlen;have b0:Below w.heap.size w ((w.alloc (.cells #[.int .i64 T.b,.int .i64 T.t,.int .i64 T.n,.int .i64 T.d,.int .i64 T.r,.int .i64 T.l,.int .i64 T.x,.int .i64 T.p,.int .i64 T.k,.int .i64 T.s,.int .i64 T.e] 23)).alloc (.cells #[.int .i64 U.b,.int .i64 U.t,.int .i64 U.n,.int .i64 U.d,.int .i64 U.r,.int .i64 U.l,.int .i64 U.x,.int .i64 U.p,.int .i64 U.k,.int .i64 U.s,.int .i64 U.e] 23)):=((aj _ _).alloc (af _) _).alloc (by simp) _;have tA:zx ((w.alloc (.cells #[.int .i64 T.b,.int .i64 T.t,.int .i64 T.n,.int .i64 T.d,.int .i64 T.r,.int .i64 T.l,.int .i64 T.x,.int .i64 T.p,.int .i64 T.k,.int .i64 T.s,.int .i64 T.e] 23)).alloc (.cells #[.int .i64 U.b,.int .i64 U.t,.int .i64 U.n,.int .i64 U.d,.int .i64 U.r,.int .i64 U.l,.int .i64 U.x,.int .i64 U.p,.int .i64 U.k,.int .i64 U.s,.int .i64 U.e] 23)) w.heap.size T:=(jy w T 23).next ((aj _ _).alloc (af _) _);have uA:=jy (w.alloc (.cells #[.int .i64 T.b,.int .i64 T.t,.int .i64 T.n,.int .i64 T.d,.int .i64 T.r,.int .i64 T.l,.int .i64 T.x,.int .i64 T.p,.int .i64 T.k,.int .i64 T.s,.int .i64 T.e] 23)) U 23;rw[show(w.alloc (.cells #[.int .i64 T.b,.int .i64 T.t,.int .i64 T.n,.int .i64 T.d,.int .i64 T.r,.int .i64 T.l,.int .i64 T.x,.int .i64 T.p,.int .i64 T.k,.int .i64 T.s,.int .i64 T.e] 23)).heap.size=w.heap.size+1 by simp]at uA;obtain⟨W1,mP⟩:∃W,(w.alloc (.cells #[.int .i64 T.b,.int .i64 T.t,.int .i64 T.n,.int .i64 T.d,.int .i64 T.r,.int .i64 T.l,.int .i64 T.x,.int .i64 T.p,.int .i64 T.k,.int .i64 T.s,.int .i64 T.e] 23)).alloc (.cells #[.int .i64 U.b,.int .i64 U.t,.int .i64 U.n,.int .i64 U.d,.int .i64 U.r,.int .i64 U.l,.int .i64 U.x,.int .i64 U.p,.int .i64 U.k,.int .i64 U.s,.int .i64 U.e] 23)=W:=⟨_,rfl⟩;rw[mP]at b0 tA uA;obtain⟨P0,ke⟩:∃P,w.heap.size=P:=⟨_,rfl⟩;rw[ke]at tA uA;have lP:P0+1<W1.heap.size:=uA.lt;have HT:=ag hT;clear hT;have rA:=rA.next b0;have bl:=aJ bl b0;clear b0;have CN:=ag (fun W=>SN T W);have CU:=ag (fun W=>SN U W);have HTx:=ag ST;have HPr:=ag SP;have CK:=ag (fun W h=>gA SN ST SP W h);clear SN ST SP;unfold bJ.val at CN CU ⊢;go_enter Tryz.func5,Tryz.ntmps5
 go_wp2_with fail
 refine(ae Ca _).mono ?_;rintro e IU ⟨rfl,rfl⟩;clear Ca;have HC:Hid (∀w',Below IU.heap.size IU w'->w'.cell? ⟨P0,0,none⟩=some (.int .i64 T.b)/\w'.cell? ⟨P0,1,none⟩=some (.int .i64 T.t)/\w'.cell? ⟨P0,2,none⟩=some (.int .i64 T.n)/\w'.cell? ⟨P0,3,none⟩=some (.int .i64 T.d)/\w'.cell? ⟨P0,4,none⟩=some (.int .i64 T.r)/\w'.cell? ⟨P0,5,none⟩=some (.int .i64 T.l)/\w'.cell? ⟨P0,6,none⟩=some (.int .i64 T.x)/\w'.cell? ⟨P0,7,none⟩=some (.int .i64 T.p)/\w'.cell? ⟨P0,8,none⟩=some (.int .i64 T.k)/\w'.cell? ⟨P0,9,none⟩=some (.int .i64 T.s)/\w'.cell? ⟨P0,10,none⟩=some (.int .i64 T.e)/\w'.cell? ⟨P0+1,0,none⟩=some (.int .i64 U.b)/\w'.cell? ⟨P0+1,1,none⟩=some (.int .i64 U.t)/\w'.cell? ⟨P0+1,2,none⟩=some (.int .i64 U.n)/\w'.cell? ⟨P0+1,3,none⟩=some (.int .i64 U.d)/\w'.cell? ⟨P0+1,4,none⟩=some (.int .i64 U.r)/\w'.cell? ⟨P0+1,5,none⟩=some (.int .i64 U.l)/\w'.cell? ⟨P0+1,6,none⟩=some (.int .i64 U.x)/\w'.cell? ⟨P0+1,7,none⟩=some (.int .i64 U.p)/\w'.cell? ⟨P0+1,8,none⟩=some (.int .i64 U.k)/\w'.cell? ⟨P0+1,9,none⟩=some (.int .i64 U.s)/\w'.cell? ⟨P0+1,10,none⟩=some (.int .i64 U.e)):=fun w' q=>by obtain⟨p0,p1,p2,p3,p4,p5,p6,p7,p8,p9,wF⟩:=tA.next q;obtain⟨u0,u1,u2,u3,u4,u5,u6,u7,u8,u9,u10⟩:=uA.next q;exact⟨p0,p1,p2,p3,p4,p5,p6,p7,p8,p9,wF,u0,u1,u2,u3,u4,u5,u6,u7,u8,u9,u10⟩
 obtain⟨p0,p1,p2,p3,p4,p5,p6,p7,p8,p9,wF,u0,u1,u2,u3,u4,u5,u6,u7,u8,u9,u10⟩:=ae HC _ (aj _ _);have b0:Below IU.heap.size IU IU.drew:=(aj _ _).drew;go_wp2
 go_region_held3 (fun w'=>w'.cell? ⟨P0,0,none⟩=some (.int .i64 T.b)/\w'.cell? ⟨P0,1,none⟩=some (.int .i64 T.t)/\w'.cell? ⟨P0,2,none⟩=some (.int .i64 T.n)/\w'.cell? ⟨P0,3,none⟩=some (.int .i64 T.d)/\w'.cell? ⟨P0,4,none⟩=some (.int .i64 T.r)/\w'.cell? ⟨P0,5,none⟩=some (.int .i64 T.l)/\w'.cell? ⟨P0,6,none⟩=some (.int .i64 T.x)/\w'.cell? ⟨P0,7,none⟩=some (.int .i64 T.p)/\w'.cell? ⟨P0,8,none⟩=some (.int .i64 T.k)/\w'.cell? ⟨P0,9,none⟩=some (.int .i64 T.s)/\w'.cell? ⟨P0,10,none⟩=some (.int .i64 T.e)/\w'.cell? ⟨P0+1,0,none⟩=some (.int .i64 U.b)/\w'.cell? ⟨P0+1,1,none⟩=some (.int .i64 U.t)/\w'.cell? ⟨P0+1,2,none⟩=some (.int .i64 U.n)/\w'.cell? ⟨P0+1,3,none⟩=some (.int .i64 U.d)/\w'.cell? ⟨P0+1,4,none⟩=some (.int .i64 U.r)/\w'.cell? ⟨P0+1,5,none⟩=some (.int .i64 U.l)/\w'.cell? ⟨P0+1,6,none⟩=some (.int .i64 U.x)/\w'.cell? ⟨P0+1,7,none⟩=some (.int .i64 U.p)/\w'.cell? ⟨P0+1,8,none⟩=some (.int .i64 U.k)/\w'.cell? ⟨P0+1,9,none⟩=some (.int .i64 U.s)/\w'.cell? ⟨P0+1,10,none⟩=some (.int .i64 U.e)) (first|(with_reducible exact ae HC _ b0)|go_keep) (first
  |(with_reducible refine(ae CN _).mono ?_;rintro e wn1 ⟨gz,gw,gv,gr,gd,gm,gt,gk,ge,g,rfl,E,hn,b⟩;have hg:=ak b0.size hn.2.2.2.2.2.2.2.2.2;have b0:=b0.trans (b.mono b0.size);clear b hn)
  |(with_reducible refine(ae CU _).mono ?_;rintro e wn2 ⟨gz',Zb,Ro,Md,Mc,Gu,Gv,Gt,Gs,g',rfl,F,hn,b⟩;have Az:=ak b0.size hn.2.2.2.2.2.2.2.2.2;have hgg:=az E.met.lt hn.2.2.2.2.2.2.2.2.2;have E:=E.next b;have b0:=b0.trans (b.mono b0.size);clear b hn)
  |fail)
 clear p0 p1 p2 p3 p4 p5 p6 p7 p8 p9 wF u0 u1 u2 u3 u4 u5 u6 u7 u8 u9 u10 HC CN CU tA uA;have bl:=aJ bl b0;have rA:=rA.next b0;clear b0;have hg:w.heap.size<=g:=by omega
 have Az:w.heap.size<=g':=by omega
 go_wp2_with fail
 refine(ae CIn _).mono ?_;rintro e wi ⟨rfl,rfl⟩;clear CIn;have CR:=ag (ae HTx _ gz gw gv gr gd gm gt gk ge g 0 0 0 T _ A b E ((ae HT).next bl) (by decide) (by decide) (by decide) (by decide) (pF rA dx (ae IE) (ae UC) (by omega)) (by omega) b2 b36);rw[<-ae HTX]at CR
 go_wp2_with fail
 with_reducible refine(ae CR).mono ?_
 rintro e wt1 ⟨s1,m1,rfl,E2,⟨sa1,sb1⟩,o⟩;clear CR;have rA:=E.rep o rA;have F:=E.other o F (by omega);have bl:=bl.trans (o.below (B:=w.heap.size) bl.size (fun k hk=>by rw[hk];exact hg));have E:=E2;clear o E2;have CR:=ag (ae HTx _ gz' Zb Ro Md Mc Gu Gv Gt Gs g' 0 0 0 U _ A b F ((ae HT).next bl) (by decide) (by decide) (by decide) (by decide) (pF rA dx (ae IE) (ae UC) (by omega)) (by omega) b2 b36);rw[<-ae HTX]at CR
 go_wp2_with fail
 with_reducible refine(ae CR).mono ?_
 rintro e wt2 ⟨s2,m2,rfl,E2,⟨sa2,sb2⟩,o⟩;clear CR;have rA:=F.rep o rA;have E:=F.other o E (by omega);have bl:=bl.trans (o.below (B:=w.heap.size) bl.size (fun k hk=>by rw[hk];exact Az));have F:=E2;clear o E2
 go_wp2_with fail
 refine(ae abC _).mono ?_;rintro e wj ⟨rfl,rfl⟩;clear abC;have o0:Below wj.heap.size wj wj:=aj _ _;go_wp2
 go_loopw [15,17] (fun rv iv wr=>∃(q:Nat),q<=M/\iv=.int .i64 ((M:Int)-(q:Int))/\rv=.string ⟨⟨List.replicate q 48++tx⟩⟩/\wr=wj) (fun _ iv _=>(intOf iv).toNat)
 case atStart=>exact⟨0,aO _,by first|rfl|go_num,rfl,rfl⟩
 case round=>
  obtain⟨q,hq,rfl,rfl,hw⟩:=hrel;obtain rfl:=hw.symm;clear hw;by_cases h1:q<M
  ·have c1:decide ((0:Int)<(M:Int)-(q:Int))=true:=bg (by omega);obtain⟨S,hS⟩:∃S:ByteArray,S=⟨⟨List.replicate q 48++tx⟩⟩:=⟨_,rfl⟩;rw[<-hS];have hSz:S.size=q+tx.length:=by rw[hS];simp[ByteArray.size]
   have ae0:S.size<=6000:=by have:=ae HLN;omega
   have ae5:(({ data:=#[48] }:ByteArray)++S)=⟨⟨List.replicate (q+1) 48++tx⟩⟩:=by rw[hS];apply ByteArray.ext;simp[List.replicate_succ]
   clear hS;go_wp2;clear ae5 hSz ae0
   go_roundw
   case rel=>exact⟨q+1,by omega,by first|rfl|exact gi (Value.int .i64) (by omega),rfl,by first|rfl|trivial⟩
   case measure=>simp[intOf];omega
  ·obtain rfl:M=q:=(by omega);have c1:decide ((0:Int)<(M:Int)-(M:Int))=false:=aM (by omega);have c2:¬(0:Int)<(M:Int)-(M:Int):=(by omega);have lg:=F.met.lt;have lg0:g<wj.heap.size:=E.met.lt;obtain⟨S1,hS1⟩:∃S1,S1=wj.heap.size:=⟨_,rfl⟩;rw[<-hS1]at lg lg0;have sz:S1<=wj.heap.size:=gV hS1;clear hS1;have CR:=ag (ae HPr _ gz gw gv gr gd gm gt gk ge g s1 0 m1 T (List.replicate M 48++tx) A b E ((ae HT).next bl) sa1 (by omega) (by decide) (by decide) b2 b36 (fun e=>htn (List.append_eq_nil_iff.1 e).2) (by rw[bU,adr];have:=ae HLN;omega) (ae HPV M) aeF);clear o0
   go_wp2_with fail
   with_reducible refine(ae CR).mono ?_
   rintro e wp ⟨v,s3,m3,rfl,nv,E2,_,o⟩;clear CR c1 c2;have nv:=nv.mono sz;have rA:=E.rep o rA;have F:=E.other o F (by omega);have sz:=ak sz o.size;have bl:=bl.trans (o.below (B:=w.heap.size) bl.size (fun k hk=>by rw[hk];exact hg));have E:=E2;clear o E2;clear E;obtain⟨va,vl1,vc,rfl⟩:=nv.shape;have CR:=ag (ae HPr _ gz' Zb Ro Md Mc Gu Gv Gt Gs g' s2 0 m2 U tx A b F ((ae HT).next bl) sa2 (by omega) (by decide) (by decide) b2 b36 htn (by have:=ae HLN;omega) (by have:=ae HPV 0;rw[mj,nG]at this;exact this) aeF)
   go_wp2_with fail
   with_reducible refine(ae CR).mono ?_
   rintro e wq ⟨u,s4,m4,rfl,nu,E2,_,o⟩;clear CR;have nu:=nu.mono sz;have rA:=F.rep o rA;have nv:=o.mb nv (fun k e=>by rw[e];exact lg);have sz:=ak sz o.size;have bl:=bl.trans (o.below (B:=w.heap.size) bl.size (fun k hk=>by rw[hk];exact Az));have F:=E2;clear o E2;clear F;obtain⟨ua,ul,uc,rfl⟩:=nu.shape
   go_wp2_with fail
   refine(ae CFa _ rA).mono ?_;rintro e wx ⟨v1,rfl,n1,b⟩;have rA:=rA.next b;have nv:=nv.next b;have nu:=nu.next b;have sz:=ak sz b.size;have bl:=aJ bl b;clear b
   go_wp2_with fail
   refine(pe _ _ _ _ _ 80 (by omega) (ae LA) n1 nv).mono ?_;rintro e wy ⟨rfl,b⟩;clear n1 nv;have rA:=rA.next b;have nu:=nu.next b;have sz:=ak sz b.size;have bl:=aJ bl b;clear b
   go_wp2_with fail
   refine(ae CFa _ rA).mono ?_;rintro e wx ⟨v2,rfl,n1,b⟩;have rA:=rA.next b;have nu:=nu.next b;have sz:=ak sz b.size;have bl:=aJ bl b;clear b;rcases ae HHD with hh|⟨c,l,hh,hc⟩
   ·subst hh
    go_wp2_with fail
    refine(pe _ _ _ _ _ 80 (by omega) (ae LA) n1 nu).mono ?_;rintro e wy ⟨rfl,b⟩;clear n1 nu;have rA:=rA.next b;have sz:=ak sz b.size;have bl:=aJ bl b;clear b
    go_wp2_with fail
    refine(ae CK _ ((ae HT).next bl)).mono ?_;rintro e w1 ⟨rfl,b⟩;have bl:=aJ bl b;clear b;go_wp2;go_ret;exact⟨rfl,bl⟩
   ·subst hh;have c48:c.toNat≠48:=fun e=>hc (UInt8.toNat_inj.1 (by rw[e];rfl))
    go_wp2_with fail
    refine(pe _ _ _ _ _ 80 (by omega) (ae LA) n1 nu).mono ?_;rintro e wy ⟨rfl,b⟩;clear n1 nu;have rA:=rA.next b;have sz:=ak sz b.size;have bl:=aJ bl b;clear b
    go_wp2_with fail
    ·rename_i h48;exact absurd (show(c.toNat:Int)=48 from h48) (by omega)
    refine(ae CK _ ((ae HT).next bl)).mono ?_;rintro e wz ⟨rfl,b⟩;have bl:=aJ bl b;clear b;have hne:(((c.toNat:Nat):Int)!=48)=true:=by simp only[bne_iff_ne];omega
    go_wp2;go_ret;refine⟨?_,bl⟩;show Ending.returned (.bool (c==48&&l.isEmpty||(((c.toNat:Nat):Int)!=48)))=_;rw[hne,Bool.or_true]
end Go.Proofs.YtkdmippllpekfaaGreatDoor
