import Derived.Test.YtkdmippllpekfaaGreatDoorB28
import Derived.Test.YtkdmippllpekfaaGreatDoorB14
namespace Go.Proofs.YtkdmippllpekfaaGreatDoor
set_option maxRecDepth 100000
set_option maxHeartbeats 12800000
open Go.RowKit
theorem Co(SN:mX)(ST:mW)(SP:kJ)(SD:vM)(SV:yG)(T:bJ)(U:bJ)(ga:Option Addr)(ba oa ca la:Nat)(xs:List Nat)(w:World)(Pu:xs.length=la)(F4:cH w ga ba oa ca xs)(Pz:∀j,xs.getD j 0<18446744073709551616)(y:Nat)(hy:y<18446744073709551616)(hT:TB w):Calls Tryz.prog 8 #[T.val,U.val,.slice ga la ca,.int .u64 (y:Int)] w fun e w'=>e=.returned (.bool true)/\Below w.heap.size w w':=by
 obtain⟨n,Ac⟩:∃k,k=min la 40:=⟨_,rfl⟩;have Ca:Hid (∀w,Calls Tryz.prog 9 #[.slice ga la ca,.int .i64 40] w fun e w'=>e=.returned (.slice ga n ca)/\w'=w):=fun w=>uy w ga la ca 40 n (by have:=F4.room;omega) (by omega) Ac;obtain⟨fA,rA⟩:=uz F4 40 n (by rw[Pu];exact Ac);have dx:bG (xs.take n):=mI Pz n;have hma:n<=40:=by omega
 clear Ac F4 Pz Pu;generalize xs.take n=us at *;obtain⟨A,yS⟩:∃k,k=aB us:=⟨_,rfl⟩;have LA:Hid (A<18446744073709551616^40):=by show _<_;rw[yS];exact oX (bF dx) (by omega)
 have BA:Hid (A<4294967296^80):=by have:=ae LA;rw[TS]at this;exact this
 have CFa:=ag (fun W (r:cH W ga ba oa ca us)=>ru W ga ba oa ca n A us fA (by omega) r dx yS);have wlA:wl A<=40:=by rw[yS];exact ak (mN dx) (by omega)
 have IE:=ag fA;have UC:=ag yS;clear yS fA;have bl:=aj w.heap.size w;obtain⟨B,hB⟩:∃B,B=max y 256:=⟨_,rfl⟩;have wa:256<=B:=by omega
 have Zc:B<18446744073709551616:=by omega
 have eB:max (y:Int) 256=(B:Int):=by omega
 have HBx:=ag hB;clear hB;have wE:=Bm (b:=B) (by omega) 80 A (ae BA);have acp:=Pd (b:=B) (by omega) A;have Mk:=YK (b:=B) (by omega) A;have jL:=Gl (b:=B) (by omega) A;have Ui:=f_ wa 40 A (ae LA);obtain⟨ds,Uh⟩:∃ds,ds=dg B A:=⟨_,rfl⟩;rw[<-Uh]at acp Mk jL Ui;have HD:=ag Uh;have HLT:=ag acp;have HVL:=ag Mk;have aeL:Hid (ds=[]\/∃l d,ds=l++[d]/\d≠0):=by
  rcases fh A with h|h
  ·exact Or.inl (jL.1 h)
  ·exact Or.inr (jL.2 (by omega))
 clear wE acp Mk jL Uh;have b0:Below w.heap.size w ((w.alloc (.cells #[.int .i64 T.b,.int .i64 T.t,.int .i64 T.n,.int .i64 T.d,.int .i64 T.r,.int .i64 T.l,.int .i64 T.x,.int .i64 T.p,.int .i64 T.k,.int .i64 T.s,.int .i64 T.e] 23)).alloc (.cells #[.int .i64 U.b,.int .i64 U.t,.int .i64 U.n,.int .i64 U.d,.int .i64 U.r,.int .i64 U.l,.int .i64 U.x,.int .i64 U.p,.int .i64 U.k,.int .i64 U.s,.int .i64 U.e] 23)):=((aj _ _).alloc (af _) _).alloc (by simp) _;have tA:zx ((w.alloc (.cells #[.int .i64 T.b,.int .i64 T.t,.int .i64 T.n,.int .i64 T.d,.int .i64 T.r,.int .i64 T.l,.int .i64 T.x,.int .i64 T.p,.int .i64 T.k,.int .i64 T.s,.int .i64 T.e] 23)).alloc (.cells #[.int .i64 U.b,.int .i64 U.t,.int .i64 U.n,.int .i64 U.d,.int .i64 U.r,.int .i64 U.l,.int .i64 U.x,.int .i64 U.p,.int .i64 U.k,.int .i64 U.s,.int .i64 U.e] 23)) w.heap.size T:=(jy w T 23).next ((aj _ _).alloc (af _) _);have uA:=jy (w.alloc (.cells #[.int .i64 T.b,.int .i64 T.t,.int .i64 T.n,.int .i64 T.d,.int .i64 T.r,.int .i64 T.l,.int .i64 T.x,.int .i64 T.p,.int .i64 T.k,.int .i64 T.s,.int .i64 T.e] 23)) U 23;rw[show(w.alloc (.cells #[.int .i64 T.b,.int .i64 T.t,.int .i64 T.n,.int .i64 T.d,.int .i64 T.r,.int .i64 T.l,.int .i64 T.x,.int .i64 T.p,.int .i64 T.k,.int .i64 T.s,.int .i64 T.e] 23)).heap.size=w.heap.size+1 by simp]at uA;obtain⟨W1,mP⟩:∃W,(w.alloc (.cells #[.int .i64 T.b,.int .i64 T.t,.int .i64 T.n,.int .i64 T.d,.int .i64 T.r,.int .i64 T.l,.int .i64 T.x,.int .i64 T.p,.int .i64 T.k,.int .i64 T.s,.int .i64 T.e] 23)).alloc (.cells #[.int .i64 U.b,.int .i64 U.t,.int .i64 U.n,.int .i64 U.d,.int .i64 U.r,.int .i64 U.l,.int .i64 U.x,.int .i64 U.p,.int .i64 U.k,.int .i64 U.s,.int .i64 U.e] 23)=W:=⟨_,rfl⟩;rw[mP]at b0 tA uA;obtain⟨P0,ke⟩:∃P,w.heap.size=P:=⟨_,rfl⟩;rw[ke]at tA uA;have lP:P0+1<W1.heap.size:=uA.lt;have HT:=ag hT;clear hT;have rA:=rA.next b0;have bl:=aJ bl b0;clear b0;have CN:=ag (fun W=>SN T W);have CU:=ag (fun W=>SN U W);have HDg:=ag SD;have HV:=ag SV;have CK:=ag (fun W h=>gA SN ST SP W h);clear SN ST SP SD SV;unfold bJ.val at CN CU ⊢;go_enter Tryz.func8,Tryz.ntmps8
 go_wp2_with fail
 refine(ae Ca _).mono ?_;rintro e IU ⟨rfl,rfl⟩;clear Ca;have HC:Hid (∀w',Below IU.heap.size IU w'->w'.cell? ⟨P0,0,none⟩=some (.int .i64 T.b)/\w'.cell? ⟨P0,1,none⟩=some (.int .i64 T.t)/\w'.cell? ⟨P0,2,none⟩=some (.int .i64 T.n)/\w'.cell? ⟨P0,3,none⟩=some (.int .i64 T.d)/\w'.cell? ⟨P0,4,none⟩=some (.int .i64 T.r)/\w'.cell? ⟨P0,5,none⟩=some (.int .i64 T.l)/\w'.cell? ⟨P0,6,none⟩=some (.int .i64 T.x)/\w'.cell? ⟨P0,7,none⟩=some (.int .i64 T.p)/\w'.cell? ⟨P0,8,none⟩=some (.int .i64 T.k)/\w'.cell? ⟨P0,9,none⟩=some (.int .i64 T.s)/\w'.cell? ⟨P0,10,none⟩=some (.int .i64 T.e)/\w'.cell? ⟨P0+1,0,none⟩=some (.int .i64 U.b)/\w'.cell? ⟨P0+1,1,none⟩=some (.int .i64 U.t)/\w'.cell? ⟨P0+1,2,none⟩=some (.int .i64 U.n)/\w'.cell? ⟨P0+1,3,none⟩=some (.int .i64 U.d)/\w'.cell? ⟨P0+1,4,none⟩=some (.int .i64 U.r)/\w'.cell? ⟨P0+1,5,none⟩=some (.int .i64 U.l)/\w'.cell? ⟨P0+1,6,none⟩=some (.int .i64 U.x)/\w'.cell? ⟨P0+1,7,none⟩=some (.int .i64 U.p)/\w'.cell? ⟨P0+1,8,none⟩=some (.int .i64 U.k)/\w'.cell? ⟨P0+1,9,none⟩=some (.int .i64 U.s)/\w'.cell? ⟨P0+1,10,none⟩=some (.int .i64 U.e)):=fun w' q=>by obtain⟨p0,p1,p2,p3,p4,p5,p6,p7,p8,p9,wF⟩:=tA.next q;obtain⟨u0,u1,u2,u3,u4,u5,u6,u7,u8,u9,u10⟩:=uA.next q;exact⟨p0,p1,p2,p3,p4,p5,p6,p7,p8,p9,wF,u0,u1,u2,u3,u4,u5,u6,u7,u8,u9,u10⟩
 obtain⟨p0,p1,p2,p3,p4,p5,p6,p7,p8,p9,wF,u0,u1,u2,u3,u4,u5,u6,u7,u8,u9,u10⟩:=ae HC _ (aj _ _);have b0:Below IU.heap.size IU IU.drew:=(aj _ _).drew;go_wp2
 go_region_held3 (fun w'=>w'.cell? ⟨P0,0,none⟩=some (.int .i64 T.b)/\w'.cell? ⟨P0,1,none⟩=some (.int .i64 T.t)/\w'.cell? ⟨P0,2,none⟩=some (.int .i64 T.n)/\w'.cell? ⟨P0,3,none⟩=some (.int .i64 T.d)/\w'.cell? ⟨P0,4,none⟩=some (.int .i64 T.r)/\w'.cell? ⟨P0,5,none⟩=some (.int .i64 T.l)/\w'.cell? ⟨P0,6,none⟩=some (.int .i64 T.x)/\w'.cell? ⟨P0,7,none⟩=some (.int .i64 T.p)/\w'.cell? ⟨P0,8,none⟩=some (.int .i64 T.k)/\w'.cell? ⟨P0,9,none⟩=some (.int .i64 T.s)/\w'.cell? ⟨P0,10,none⟩=some (.int .i64 T.e)/\w'.cell? ⟨P0+1,0,none⟩=some (.int .i64 U.b)/\w'.cell? ⟨P0+1,1,none⟩=some (.int .i64 U.t)/\w'.cell? ⟨P0+1,2,none⟩=some (.int .i64 U.n)/\w'.cell? ⟨P0+1,3,none⟩=some (.int .i64 U.d)/\w'.cell? ⟨P0+1,4,none⟩=some (.int .i64 U.r)/\w'.cell? ⟨P0+1,5,none⟩=some (.int .i64 U.l)/\w'.cell? ⟨P0+1,6,none⟩=some (.int .i64 U.x)/\w'.cell? ⟨P0+1,7,none⟩=some (.int .i64 U.p)/\w'.cell? ⟨P0+1,8,none⟩=some (.int .i64 U.k)/\w'.cell? ⟨P0+1,9,none⟩=some (.int .i64 U.s)/\w'.cell? ⟨P0+1,10,none⟩=some (.int .i64 U.e)) (first|(with_reducible exact ae HC _ b0)|go_keep) (first
  |(with_reducible refine(ae CN _).mono ?_;rintro e wn1 ⟨gz,gw,gv,gr,gd,gm,gt,gk,ge,g,rfl,E,hn,b⟩;have hg:=ak b0.size hn.2.2.2.2.2.2.2.2.2;have b0:=b0.trans (b.mono b0.size);clear b hn)
  |(with_reducible refine(ae CU _).mono ?_;rintro e wn2 ⟨gz',Zb,Ro,Md,Mc,Gu,Gv,Gt,Gs,g',rfl,F,hn,b⟩;have Az:=ak b0.size hn.2.2.2.2.2.2.2.2.2;have hgg:=az E.met.lt hn.2.2.2.2.2.2.2.2.2;have E:=E.next b;have b0:=b0.trans (b.mono b0.size);clear b hn)
  |fail)
 clear p0 p1 p2 p3 p4 p5 p6 p7 p8 p9 wF u0 u1 u2 u3 u4 u5 u6 u7 u8 u9 u10 HC CN CU tA uA;have bl:=aJ bl b0;have rA:=rA.next b0;clear b0;have hg:w.heap.size<=g:=by omega
 have Az:w.heap.size<=g':=by omega
 have CR:=ag (ae HDg _ gz gw gv gr gd gm gt gk ge g 0 0 0 T _ A B E ((ae HT).next bl) (by decide) (by decide) (by decide) (by decide) (pF rA dx (ae IE) (ae UC) (by omega)) (by omega) (by omega) Zc);rw[<-ae HD]at CR
 go_wp2_with fail
 with_reducible refine(ae CR).mono ?_
 rintro e wd ⟨qa,qb,qo,qn,qc,s',m',rfl,hq,rQ,_,E2,_,o⟩;clear CR;have rA:=E.rep o rA;have F:=E.other o F (by omega);have bl:=bl.trans (o.below (B:=w.heap.size) bl.size (fun k hk=>by rw[hk];exact hg));have E:=E2;clear o E2;clear E;have CR:=ag (ae HV _ gz' Zb Ro Md Mc Gu Gv Gt Gs g' 0 0 0 U qa qb qo qc qn B ds F ((ae HT).next bl) (by decide) (by decide) (by decide) (by decide) hq (by omega) rQ (by omega) Zc (ae HLT));rw[ae HVL]at CR;have lg:=F.met.lt
 go_wp2_with fail
 with_reducible refine(ae CR).mono ?_
 rintro e wv ⟨v,s2,m2,rfl,nv,E2,_,o⟩;clear CR;have rA:=F.rep o rA;have rQ:=F.rep o rQ;have bl:=bl.trans (o.below (B:=w.heap.size) bl.size (fun k hk=>by rw[hk];exact Az));have F:=E2;clear o E2;clear F;obtain⟨va,vl1,vc,rfl⟩:=nv.shape;rcases ae aeL with GM|⟨ls,d,hls,lZ⟩
 case' inl=>
  have zK:qn=0:=by rw[<-hq,GM];rfl
  subst zK
 case' inr=>
  have sL:qn=ls.length+1:=by rw[<-hq,hls];simp
  obtain rfl:=rQ.head (by omega);have hc:=rQ.cell ls.length (by omega);have B_:ds.getD ls.length 0=d:=by rw[hls];simp
  rw[B_]at hc;have hz:((d:Int)==0)=false:=by simp only[beq_eq_false_iff_ne];omega
  clear B_ hls;generalize ls.length=p at *;subst sL;have e1:((p+1:Nat):Int)-1=(p:Int):=by omega
  have e2:IntKind.i64.wrap (p:Int)=(p:Int):=by rw[ao];omega
  have i0:(0:Int)<=(p:Int):=by omega
  have i1:(p:Int)<((p+1:Nat):Int):=by omega
  have i2:(0:Int)<((p+1:Nat):Int):=by omega
 all_goals
  focus
   clear hq rQ
   go_wp2_with fail
   refine(ae CFa _ rA).mono ?_;rintro e wx ⟨v1,rfl,n1,b⟩;have rA:=rA.next b;have nv:=nv.next b;have bl:=aJ bl b;clear b
   go_wp2_with fail
   refine(pe _ _ _ _ _ 40 (by omega) (ae LA) n1 nv).mono ?_;rintro e wy ⟨rfl,b⟩;clear n1 nv;have rA:=rA.next b;have bl:=aJ bl b;clear b
   go_wp2_with fail
   refine(ae CK _ ((ae HT).next bl)).mono ?_;rintro e w1 ⟨rfl,b⟩;have bl:=aJ bl b;clear b;go_wp2;go_ret;exact⟨rfl,bl⟩
end Go.Proofs.YtkdmippllpekfaaGreatDoor
