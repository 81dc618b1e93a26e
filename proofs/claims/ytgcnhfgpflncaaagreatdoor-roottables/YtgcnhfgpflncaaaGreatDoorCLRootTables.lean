/- RootTables: what the law's walk comes to, once the code is what the document asks. Written by gen_root.py. -/
import Derived.Deep.RegionHeld3
import Derived.Test.YtgcnhfgpflncaaaGreatDoorB40
import Derived.Test.YtgcnhfgpflncaaaGreatDoorB12
import Derived.Test.YtgcnhfgpflncaaaGreatDoorB14
import Derived.Test.YtgcnhfgpflncaaaGreatDoorB5
namespace Go.Proofs.YtgcnhfgpflncaaaGreatDoor
open Go.RowKit
set_option maxRecDepth 100000 in
set_option maxHeartbeats 12800000 in
theorem pP(SN:fS)(SS:fU)(SR:lH)(T:Tab)(U:Tab)(ga:Option Addr)(ba oa ca la:Nat)(xs:List Nat)(w:World)(hxs:xs.length=la)(HrA:Rep w ga ba oa ca xs)(kxs:∀ j,xs.getD j 0<18446744073709551616)(z:Int)(hz1: -9223372036854775808<=z)(hz2:z<=9223372036854775807)(hT:TB w):
  Calls Tryz.prog 7 #[T.val,U.val,.slice ga la ca,.int .i64 z] w fun e w'=>e=.returned (.bool true)/\Below w.heap.size w w':=by
 obtain⟨n,hca⟩:∃ k,k=min la 50:=⟨_,rfl⟩
 have Ca:Hid (∀ w,Calls Tryz.prog 8 #[.slice ga la ca,.int .i64 50] w fun e w'=>e=.returned (.slice ga n ca)/\w'=w):=fun w=>lT w ga la ca 50 n (by have:=HrA.room;omega) (by omega) hca
 obtain⟨hla,rA⟩:=lV HrA 50 n (by rw[hxs];exact hca)
 have dx:ao (xs.take n):=gB kxs n
 have hma:n<=50:=by omega
 clear hca HrA kxs hxs
 generalize xs.take n=us at *
 obtain⟨A,hva⟩:∃ k,k=af us:=⟨_,rfl⟩
 have LA:Hid (A<18446744073709551616^50):=by show _<_;rw[hva];exact fB (ak dx) (by omega)
 have BA:Hid (A<4294967296^100):=by have:=ae LA;rw[lF]at this;exact this
 have CFa:=hide (fun W (r:Rep W ga ba oa ca us)=>fN W ga ba oa ca n A us hla (by omega) r dx hva)
 have wlA:wl A<=50:=by rw[hva];exact Nat.le_trans (dq dx) (by omega)
 have HLa:=hide hla
 have HEa:=hide hva
 clear hva hla
 have bl:=Below.refl w.heap.size w
 obtain⟨k,hk⟩:∃ k:Nat,(k:Int)=z%64:=⟨(z%64).toNat,by omega⟩
 have hk2:k<64:=by omega
 have CIn:=hide (fun W=>zI z 64 W hz1 hz2 (by omega) (by omega))
 rw[<-hk]at CIn
 have k1w:IntKind.i64.wrap (1+(k:Int))=((k+1:Nat):Int):=by rw[IntKind.wrap_i64];omega
 have k1v:1+(k:Int)=((k+1:Nat):Int):=by omega
 have k1x:IntKind.i64.wrap ((k+1:Nat):Int)=((k+1:Nat):Int):=by rw[IntKind.wrap_i64];omega
 clear hk hz1 hz2
 obtain⟨S,hS⟩:=fg (k:=2) (by decide) A
 obtain⟨C,hC⟩:=fg (k:=k+1) (by omega) A
 have HSb:Hid (S<18446744073709551616^50):=Nat.lt_of_le_of_lt (pR (by decide) hS) (ae LA)
 have HCb:Hid (C<18446744073709551616^50):=Nat.lt_of_le_of_lt (pR (by omega) hC) (ae LA)
 obtain⟨P,hP⟩:∃ P,P=S*S:=⟨_,rfl⟩
 obtain⟨R,hR⟩:∃ R,R=A-P:=⟨_,rfl⟩
 have LR:Hid (R<18446744073709551616^50):=Nat.lt_of_le_of_lt (by omega) (ae LA)
 have HSS:=hide hS
 have HCC:=hide hC
 have HP:=hide hP
 have HR:=hide hR
 clear hS hC hP hR
 have b0:Below w.heap.size w ((w.alloc (.cells #[.int .i64 T.b,.int .i64 T.t,.int .i64 T.n,.int .i64 T.d,.int .i64 T.r,.int .i64 T.l,.int .i64 T.x,.int .i64 T.p,.int .i64 T.k,.int .i64 T.s,.int .i64 T.e] 23)).alloc (.cells #[.int .i64 U.b,.int .i64 U.t,.int .i64 U.n,.int .i64 U.d,.int .i64 U.r,.int .i64 U.l,.int .i64 U.x,.int .i64 U.p,.int .i64 U.k,.int .i64 U.s,.int .i64 U.e] 23)):=((Below.refl _ _).alloc (Nat.le_refl _) _).alloc (by simp) _
 have tA:TabAt ((w.alloc (.cells #[.int .i64 T.b,.int .i64 T.t,.int .i64 T.n,.int .i64 T.d,.int .i64 T.r,.int .i64 T.l,.int .i64 T.x,.int .i64 T.p,.int .i64 T.k,.int .i64 T.s,.int .i64 T.e] 23)).alloc (.cells #[.int .i64 U.b,.int .i64 U.t,.int .i64 U.n,.int .i64 U.d,.int .i64 U.r,.int .i64 U.l,.int .i64 U.x,.int .i64 U.p,.int .i64 U.k,.int .i64 U.s,.int .i64 U.e] 23)) w.heap.size T:=(dK w T 23).next ((Below.refl _ _).alloc (Nat.le_refl _) _)
 have uA:=dK (w.alloc (.cells #[.int .i64 T.b,.int .i64 T.t,.int .i64 T.n,.int .i64 T.d,.int .i64 T.r,.int .i64 T.l,.int .i64 T.x,.int .i64 T.p,.int .i64 T.k,.int .i64 T.s,.int .i64 T.e] 23)) U 23
 rw[show(w.alloc (.cells #[.int .i64 T.b,.int .i64 T.t,.int .i64 T.n,.int .i64 T.d,.int .i64 T.r,.int .i64 T.l,.int .i64 T.x,.int .i64 T.p,.int .i64 T.k,.int .i64 T.s,.int .i64 T.e] 23)).heap.size=w.heap.size+1 by simp]at uA
 obtain⟨W1,hW1⟩:∃ W,(w.alloc (.cells #[.int .i64 T.b,.int .i64 T.t,.int .i64 T.n,.int .i64 T.d,.int .i64 T.r,.int .i64 T.l,.int .i64 T.x,.int .i64 T.p,.int .i64 T.k,.int .i64 T.s,.int .i64 T.e] 23)).alloc (.cells #[.int .i64 U.b,.int .i64 U.t,.int .i64 U.n,.int .i64 U.d,.int .i64 U.r,.int .i64 U.l,.int .i64 U.x,.int .i64 U.p,.int .i64 U.k,.int .i64 U.s,.int .i64 U.e] 23)=W:=⟨_,rfl⟩
 rw[hW1]at b0 tA uA
 obtain⟨P0,hP0⟩:∃ P,w.heap.size=P:=⟨_,rfl⟩
 rw[hP0]at tA uA
 have lP:P0+1<W1.heap.size:=uA.lt
 have HT:=hide hT
 clear hT
 have rA:=rA.next b0
 have bl:=ag bl b0
 clear b0
 have CN:=hide (fun W=>SN T W)
 have CU:=hide (fun W=>SN U W)
 have HS:=hide SS
 have HRt:=hide SR
 have CK:=hide (fun W h=>bM SN SS W h)
 clear SN SS SR
 unfold Tab.val at CN CU ⊢
 go_enter Tryz.func7,Tryz.ntmps7
 go_wp2_with fail
 refine(ae Ca _).mono ?_
 rintro e wca ⟨rfl,rfl⟩
 clear Ca
 have HC:Hid (∀ w',Below wca.heap.size wca w'->w'.cell? ⟨P0,0,none⟩=some (.int .i64 T.b)/\w'.cell? ⟨P0,1,none⟩=some (.int .i64 T.t)/\w'.cell? ⟨P0,2,none⟩=some (.int .i64 T.n)/\w'.cell? ⟨P0,3,none⟩=some (.int .i64 T.d)/\w'.cell? ⟨P0,4,none⟩=some (.int .i64 T.r)/\w'.cell? ⟨P0,5,none⟩=some (.int .i64 T.l)/\w'.cell? ⟨P0,6,none⟩=some (.int .i64 T.x)/\w'.cell? ⟨P0,7,none⟩=some (.int .i64 T.p)/\w'.cell? ⟨P0,8,none⟩=some (.int .i64 T.k)/\w'.cell? ⟨P0,9,none⟩=some (.int .i64 T.s)/\w'.cell? ⟨P0,10,none⟩=some (.int .i64 T.e)/\w'.cell? ⟨P0+1,0,none⟩=some (.int .i64 U.b)/\w'.cell? ⟨P0+1,1,none⟩=some (.int .i64 U.t)/\w'.cell? ⟨P0+1,2,none⟩=some (.int .i64 U.n)/\w'.cell? ⟨P0+1,3,none⟩=some (.int .i64 U.d)/\w'.cell? ⟨P0+1,4,none⟩=some (.int .i64 U.r)/\w'.cell? ⟨P0+1,5,none⟩=some (.int .i64 U.l)/\w'.cell? ⟨P0+1,6,none⟩=some (.int .i64 U.x)/\w'.cell? ⟨P0+1,7,none⟩=some (.int .i64 U.p)/\w'.cell? ⟨P0+1,8,none⟩=some (.int .i64 U.k)/\w'.cell? ⟨P0+1,9,none⟩=some (.int .i64 U.s)/\w'.cell? ⟨P0+1,10,none⟩=some (.int .i64 U.e)):=fun w' q=>by
  obtain⟨p0,p1,p2,p3,p4,p5,p6,p7,p8,p9,p10⟩:=tA.next q
  obtain⟨u0,u1,u2,u3,u4,u5,u6,u7,u8,u9,u10⟩:=uA.next q
  exact⟨p0,p1,p2,p3,p4,p5,p6,p7,p8,p9,p10,u0,u1,u2,u3,u4,u5,u6,u7,u8,u9,u10⟩
 obtain⟨p0,p1,p2,p3,p4,p5,p6,p7,p8,p9,p10,u0,u1,u2,u3,u4,u5,u6,u7,u8,u9,u10⟩:=ae HC _ (Below.refl _ _)
 have b0:Below wca.heap.size wca wca.drew:=(Below.refl _ _).drew
 go_wp2
 go_region_held3 (fun w'=>w'.cell? ⟨P0,0,none⟩=some (.int .i64 T.b)/\w'.cell? ⟨P0,1,none⟩=some (.int .i64 T.t)/\w'.cell? ⟨P0,2,none⟩=some (.int .i64 T.n)/\w'.cell? ⟨P0,3,none⟩=some (.int .i64 T.d)/\w'.cell? ⟨P0,4,none⟩=some (.int .i64 T.r)/\w'.cell? ⟨P0,5,none⟩=some (.int .i64 T.l)/\w'.cell? ⟨P0,6,none⟩=some (.int .i64 T.x)/\w'.cell? ⟨P0,7,none⟩=some (.int .i64 T.p)/\w'.cell? ⟨P0,8,none⟩=some (.int .i64 T.k)/\w'.cell? ⟨P0,9,none⟩=some (.int .i64 T.s)/\w'.cell? ⟨P0,10,none⟩=some (.int .i64 T.e)/\w'.cell? ⟨P0+1,0,none⟩=some (.int .i64 U.b)/\w'.cell? ⟨P0+1,1,none⟩=some (.int .i64 U.t)/\w'.cell? ⟨P0+1,2,none⟩=some (.int .i64 U.n)/\w'.cell? ⟨P0+1,3,none⟩=some (.int .i64 U.d)/\w'.cell? ⟨P0+1,4,none⟩=some (.int .i64 U.r)/\w'.cell? ⟨P0+1,5,none⟩=some (.int .i64 U.l)/\w'.cell? ⟨P0+1,6,none⟩=some (.int .i64 U.x)/\w'.cell? ⟨P0+1,7,none⟩=some (.int .i64 U.p)/\w'.cell? ⟨P0+1,8,none⟩=some (.int .i64 U.k)/\w'.cell? ⟨P0+1,9,none⟩=some (.int .i64 U.s)/\w'.cell? ⟨P0+1,10,none⟩=some (.int .i64 U.e)) (first|(with_reducible exact ae HC _ b0)|go_keep) (first
  |(with_reducible refine(ae CN _).mono ?_;rintro e wn1 ⟨gw,gv,gr,gd,gm,gt,gk,ge,g,rfl,E,hn,b⟩;have hg:=Nat.le_trans b0.size hn.2.2.2.2.2.2.2.2;have b0:=b0.trans (b.mono b0.size);clear b hn)
  |(with_reducible refine(ae CU _).mono ?_;rintro e wn2 ⟨gw',gv',gr',gd',gm',gt',gk',ge',g',rfl,F,hn,b⟩;have hg':=Nat.le_trans b0.size hn.2.2.2.2.2.2.2.2;have hgg:=Nat.lt_of_lt_of_le E.met.lt hn.2.2.2.2.2.2.2.2;have E:=E.next b;have b0:=b0.trans (b.mono b0.size);clear b hn)
  |fail)
 clear p0 p1 p2 p3 p4 p5 p6 p7 p8 p9 p10 u0 u1 u2 u3 u4 u5 u6 u7 u8 u9 u10 HC CN CU tA uA
 have bl:=ag bl b0
 have rA:=rA.next b0
 clear b0
 have hg:w.heap.size<=g:=by omega
 have hg':w.heap.size<=g':=by omega
 go_wp2_with fail
 refine(ae CIn _).mono ?_
 rintro e wi ⟨rfl,rfl⟩
 clear CIn
 have lg:=F.met.lt
 obtain⟨S1,hS1⟩:∃ S1,S1=wi.heap.size:=⟨_,rfl⟩
 rw[<-hS1]at lg
 have sz:S1<=wi.heap.size:=Nat.le_of_eq hS1
 have lg0:g<S1:=by rw[hS1];exact E.met.lt
 clear hS1
 have CR:=hide (ae HS _ gw gv gr gd gm gt gk ge g 0 0 0 T _ A S E ((ae HT).next bl) (by decide) (by decide) (by decide) (by decide) (fb rA dx (ae HLa) (ae HEa) (by omega)) (ae HSS) (by omega))
 rw[<-ae HP, <-ae HR]at CR
 go_wp2_with fail
 refine(ae CR).mono ?_
 rintro e w1 ⟨q,r,gq,gx,s1,m1,rfl,nq,nr,⟨_,hq4,hr4⟩,E2,⟨sa1,sb1⟩,o⟩
 clear CR
 have nq:=nq.toW.mono (Nat.le_trans sz hq4)
 have nr:=nr.toW.mono (Nat.le_trans sz hr4)
 clear hq4 hr4
 have rA:=E.rep o rA
 have F:=E.other o F (by omega)
 have sz:=Nat.le_trans sz o.size
 have bl:=bl.trans (o.below (B:=w.heap.size) bl.size (fun k hk=>by rw[hk];exact hg))
 have E:=E2
 clear o E2
 obtain⟨qa,ql,qc,rfl⟩:=nq.shape
 obtain⟨ra,rl,rc,rfl⟩:=nr.shape
 have CR:=hide (ae HS _ gw' gv' gr' gd' gm' gt' gk' ge' g' 0 0 0 U _ A S F ((ae HT).next bl) (by decide) (by decide) (by decide) (by decide) (fb rA dx (ae HLa) (ae HEa) (by omega)) (ae HSS) (by omega))
 rw[<-ae HP, <-ae HR]at CR
 go_wp2_with fail
 refine(ae CR).mono ?_
 rintro e w2 ⟨x,y,gq2,gx2,s2,m2,rfl,nx,ny,⟨_,hq4,hr4⟩,E2,⟨sa2,sb2⟩,o⟩
 clear CR
 have nx:=nx.toW.mono (Nat.le_trans sz hq4)
 have ny:=ny.toW.mono (Nat.le_trans sz hr4)
 clear hq4 hr4
 have rA:=F.rep o rA
 have E:=F.other o E (by omega)
 have nq:=o.newW nq (fun k e=>by rw[e];exact lg)
 have nr:=o.newW nr (fun k e=>by rw[e];exact lg)
 have sz:=Nat.le_trans sz o.size
 have bl:=bl.trans (o.below (B:=w.heap.size) bl.size (fun k hk=>by rw[hk];exact hg'))
 have F:=E2
 clear o E2
 obtain⟨xa,xl,xc,rfl⟩:=nx.shape
 obtain⟨ya,yl,yc,rfl⟩:=ny.shape
 have CR:=hide (ae HRt _ gw gv gr gd gm gt gk ge g s1 0 m1 T _ A C (k+1) E ((ae HT).next bl) sa1 (by omega) (by decide) (by decide) (fb rA dx (ae HLa) (ae HEa) (by omega)) (by omega) (by omega) (ae HCC) (by omega))
 go_wp2_with fail
 refine(ae CR).mono ?_
 rintro e w3 ⟨c,s3,m3,rfl,nc,E2,_,o⟩
 clear CR
 have nc:=nc.mono sz
 have rA:=E.rep o rA
 have F:=E.other o F (by omega)
 have nq:=o.newW nq (fun k e=>by rw[e];exact lg0)
 have nr:=o.newW nr (fun k e=>by rw[e];exact lg0)
 have nx:=o.newW nx (fun k e=>by rw[e];exact lg0)
 have ny:=o.newW ny (fun k e=>by rw[e];exact lg0)
 have sz:=Nat.le_trans sz o.size
 have bl:=bl.trans (o.below (B:=w.heap.size) bl.size (fun k hk=>by rw[hk];exact hg))
 have E:=E2
 clear o E2
 clear E
 obtain⟨ua,ul,uc,rfl⟩:=nc.shape
 have CR:=hide (ae HRt _ gw' gv' gr' gd' gm' gt' gk' ge' g' s2 0 m2 U _ A C (k+1) F ((ae HT).next bl) sa2 (by omega) (by decide) (by decide) (fb rA dx (ae HLa) (ae HEa) (by omega)) (by omega) (by omega) (ae HCC) (by omega))
 go_wp2_with fail
 refine(ae CR).mono ?_
 rintro e w4 ⟨d,s4,m4,rfl,nd,E2,_,o⟩
 clear CR
 have nd:=nd.mono sz
 have rA:=F.rep o rA
 have nq:=o.newW nq (fun k e=>by rw[e];exact lg)
 have nr:=o.newW nr (fun k e=>by rw[e];exact lg)
 have nx:=o.newW nx (fun k e=>by rw[e];exact lg)
 have ny:=o.newW ny (fun k e=>by rw[e];exact lg)
 have nc:=o.newW nc (fun k e=>by rw[e];exact lg)
 have sz:=Nat.le_trans sz o.size
 have bl:=bl.trans (o.below (B:=w.heap.size) bl.size (fun k hk=>by rw[hk];exact hg'))
 have F:=E2
 clear o E2
 clear F
 obtain⟨va,vl,vc,rfl⟩:=nd.shape
 go_wp2_with fail
 refine(pS _ _ _ _ _ _ _ 50 (by omega) (ae HSb) rfl nq nx).mono ?_
 rintro e w5 ⟨rfl,b⟩
 clear nq nx
 have rA:=rA.next b
 have nr:=nr.next b
 have ny:=ny.next b
 have nc:=nc.next b
 have nd:=nd.next b
 have sz:=Nat.le_trans sz b.size
 have bl:=ag bl b
 clear b
 go_wp2_with fail
 refine(pS _ _ _ _ _ _ _ 50 (by omega) (ae LR) rfl nr ny).mono ?_
 rintro e w6 ⟨rfl,b⟩
 clear nr ny
 have rA:=rA.next b
 have nc:=nc.next b
 have nd:=nd.next b
 have sz:=Nat.le_trans sz b.size
 have bl:=ag bl b
 clear b
 go_wp2_with fail
 refine(pS _ _ _ _ _ _ _ 50 (by omega) (ae HCb) rfl nc nd).mono ?_
 rintro e w7 ⟨rfl,b⟩
 clear nc nd
 have rA:=rA.next b
 have sz:=Nat.le_trans sz b.size
 have bl:=ag bl b
 clear b
 go_wp2_with fail
 refine(ae CK _ ((ae HT).next bl)).mono ?_
 rintro e w8 ⟨rfl,b⟩
 have bl:=ag bl b
 clear b
 go_wp2
 go_ret
 exact⟨rfl,bl⟩
end Go.Proofs.YtgcnhfgpflncaaaGreatDoor
