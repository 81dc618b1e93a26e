/- DivBack: what the law's walk comes to, once the code is what the document asks. Written by gen_div.py. -/
import Derived.Test.YtpdpnomocbehkaaGreatDoorB42
import Derived.Test.YtpdpnomocbehkaaGreatDoorB9
import Derived.Test.YtpdpnomocbehkaaGreatDoorB13
import Derived.Test.YtpdpnomocbehkaaGreatDoorB3
import Derived.Test.YtpdpnomocbehkaaGreatDoorB32
import Derived.Test.YtpdpnomocbehkaaGreatDoorB8
namespace Go.Proofs.YtpdpnomocbehkaaGreatDoor
open Go.RowKit
set_option maxRecDepth 100000 in
set_option maxHeartbeats 12800000 in
theorem vW(SN:fw)(SD:df)(SE:mY)(SM:px)(T:Tab)(ga:Option Addr)(ba oa ca la:Nat)(xs:List Nat)(gb:Option Addr)(bb ob cb lb:Nat)(ys:List Nat)(gd:Option Addr)(bd od cd ld:Nat)(zs:List Nat)(w:World)(hxs:xs.length=la)(HrA:Rep w ga ba oa ca xs)(kxs:∀ j,xs.getD j 0<18446744073709551616)(hys:ys.length=lb)(HrB:Rep w gb bb ob cb ys)(kys:∀ j,ys.getD j 0<18446744073709551616)(hzs:zs.length=ld)(HrD:Rep w gd bd od cd zs)(kzs:∀ j,zs.getD j 0<18446744073709551616)(hT:TB w):
  Calls Tryz.prog 8 #[T.val,.slice ga la ca,.slice gb lb cb,.slice gd ld cd] w fun e w'=>e=.returned (.bool true)/\Below w.heap.size w w':=by
 obtain⟨n,hca⟩:∃ k,k=min la 60:=⟨_,rfl⟩
 have Ca:Hid (∀ w,Calls Tryz.prog 9 #[.slice ga la ca,.int .i64 60] w fun e w'=>e=.returned (.slice ga n ca)/\w'=w):=fun w=>dG w ga la ca 60 n (by have:=HrA.room;omega) (by omega) hca
 obtain⟨hla,rA⟩:=dH HrA 60 n (by rw[hxs];exact hca)
 have dx:ao (xs.take n):=bq kxs n
 have hma:n<=60:=by omega
 clear hca HrA kxs hxs
 generalize xs.take n=us at *
 obtain⟨m,hcb⟩:∃ k,k=min lb 60:=⟨_,rfl⟩
 have Cb:Hid (∀ w,Calls Tryz.prog 9 #[.slice gb lb cb,.int .i64 60] w fun e w'=>e=.returned (.slice gb m cb)/\w'=w):=fun w=>dG w gb lb cb 60 m (by have:=HrB.room;omega) (by omega) hcb
 obtain⟨hlb,rB⟩:=dH HrB 60 m (by rw[hys];exact hcb)
 have dy:ao (ys.take m):=bq kys m
 have hmb:m<=60:=by omega
 clear hcb HrB kys hys
 generalize ys.take m=vs at *
 obtain⟨q,hcd⟩:∃ k,k=min ld 60:=⟨_,rfl⟩
 have Cd:Hid (∀ w,Calls Tryz.prog 9 #[.slice gd ld cd,.int .i64 60] w fun e w'=>e=.returned (.slice gd q cd)/\w'=w):=fun w=>dG w gd ld cd 60 q (by have:=HrD.room;omega) (by omega) hcd
 obtain⟨hld,rD⟩:=dH HrD 60 q (by rw[hzs];exact hcd)
 have dz:ao (zs.take q):=bq kzs q
 have hmd:q<=60:=by omega
 clear hcd HrD kzs hzs
 generalize zs.take q=ts at *
 obtain⟨A,hva⟩:∃ k,k=af us:=⟨_,rfl⟩
 have LA:Hid (A<18446744073709551616^60):=by show _<_;rw[hva];exact aP (ak dx) (by omega)
 have BA:Hid (A<4294967296^120):=by have:=ae LA;rw[fo]at this;exact this
 have CFa:=hide (fun W (r:Rep W ga ba oa ca us)=>bR W ga ba oa ca n A us hla (by omega) r dx hva)
 have CWa:=hide (fun W (r:Rep W ga ba oa ca us)=>bo W ga ba oa ca n A us hla (by omega) r dx hva)
 have wlA:wl A<=60:=by rw[hva];exact Nat.le_trans (aW dx) (by omega)
 have HLa:=hide hla
 have HEa:=hide hva
 clear hva hla
 obtain⟨D,hvb⟩:∃ k,k=af vs:=⟨_,rfl⟩
 have LD:Hid (D<18446744073709551616^60):=by show _<_;rw[hvb];exact aP (ak dy) (by omega)
 have BD:Hid (D<4294967296^120):=by have:=ae LD;rw[fo]at this;exact this
 have CFb:=hide (fun W (r:Rep W gb bb ob cb vs)=>bR W gb bb ob cb m D vs hlb (by omega) r dy hvb)
 have CWb:=hide (fun W (r:Rep W gb bb ob cb vs)=>bo W gb bb ob cb m D vs hlb (by omega) r dy hvb)
 have wlD:wl D<=60:=by rw[hvb];exact Nat.le_trans (aW dy) (by omega)
 have HLb:=hide hlb
 have HEb:=hide hvb
 clear hvb hlb
 obtain⟨H,hvd⟩:∃ k,k=af ts:=⟨_,rfl⟩
 have LH:Hid (H<18446744073709551616^60):=by show _<_;rw[hvd];exact aP (ak dz) (by omega)
 have BH:Hid (H<4294967296^120):=by have:=ae LH;rw[fo]at this;exact this
 have CFd:=hide (fun W (r:Rep W gd bd od cd ts)=>bR W gd bd od cd q H ts hld (by omega) r dz hvd)
 have CWd:=hide (fun W (r:Rep W gd bd od cd ts)=>bo W gd bd od cd q H ts hld (by omega) r dz hvd)
 have wlH:wl H<=60:=by rw[hvd];exact Nat.le_trans (aW dz) (by omega)
 have HLd:=hide hld
 have HEd:=hide hvd
 clear hvd hld
 have bl:=Below.refl w.heap.size w
 rcases Nat.eq_zero_or_pos D with hD0|h0
 case inl=>
  subst hD0
  rw[aZ]at CWb
  have HM:=hide (wh SM)
  clear SM
  have b0:Below w.heap.size w (w.alloc (.cells #[.int .i64 T.b,.int .i64 T.t,.int .i64 T.n,.int .i64 T.d,.int .i64 T.r,.int .i64 T.l,.int .i64 T.x,.int .i64 T.p,.int .i64 T.k,.int .i64 T.s,.int .i64 T.e] 23)):=(Below.refl _ _).alloc (Nat.le_refl _) _
  have tA:=bg w T 23
  obtain⟨W1,hW1⟩:∃ W,w.alloc (.cells #[.int .i64 T.b,.int .i64 T.t,.int .i64 T.n,.int .i64 T.d,.int .i64 T.r,.int .i64 T.l,.int .i64 T.x,.int .i64 T.p,.int .i64 T.k,.int .i64 T.s,.int .i64 T.e] 23)=W:=⟨_,rfl⟩
  rw[hW1]at b0 tA
  obtain⟨P0,hP0⟩:∃ P,w.heap.size=P:=⟨_,rfl⟩
  rw[hP0]at tA
  have lP:P0<W1.heap.size:=tA.lt
  have HT:=hide hT
  clear hT
  have rA:=rA.next b0
  have rB:=rB.next b0
  have rD:=rD.next b0
  have bl:=ag bl b0
  clear b0
  have CN:=hide (fun W=>SN T W)
  have CK:=hide (fun W h=>aM SN SD W h)
  have HE:=hide SE
  have HD:=hide SD
  clear SN SE SD
  unfold Tab.val at CN ⊢
  go_enter Tryz.func8,Tryz.ntmps8
  go_wp2_with fail
  refine(ae Ca _).mono ?_
  rintro e wca ⟨rfl,rfl⟩
  clear Ca
  go_wp2_with fail
  refine(ae Cb _).mono ?_
  rintro e wcb ⟨rfl,rfl⟩
  clear Cb
  go_wp2_with fail
  refine(ae Cd _).mono ?_
  rintro e wcd ⟨rfl,rfl⟩
  clear Cd
  have tX0:=tA
  obtain⟨p0,p1,p2,p3,p4,p5,p6,p7,p8,p9,p10⟩:=tX0
  go_wp2_with fail
  refine(ae CN _).mono ?_
  rintro e w1 ⟨gv,gr,gw,gm,gt,gk,ge,g,rfl,E,hn,b⟩
  clear p0 p1 p2 p3 p4 p5 p6 p7 p8 p9 p10
  have hg:w.heap.size<=g:=by omega
  clear hn tA lP CN
  have rA:=rA.next b
  have rB:=rB.next b
  have rD:=rD.next b
  have bl:=ag bl b
  clear b
  have lg:=E.met.lt
  obtain⟨S1,hS1⟩:∃ S1,S1=w1.heap.size:=⟨_,rfl⟩
  rw[<-hS1]at lg
  have sz:S1<=w1.heap.size:=Nat.le_of_eq hS1
  clear hS1
  go_wp2_with fail
  refine(ae CWb _ rB).mono ?_
  rintro e wb ⟨rfl,rfl⟩
  go_wp2_with fail
  refine(ae CK _ ((ae HT).next bl)).mono ?_
  rintro e w2 ⟨rfl,b⟩
  have bl:=ag bl b
  clear b
  go_wp2
  go_ret
  exact⟨rfl,bl⟩
 case inr=>
  have hwD:wl D≠0:=fun e=>by have:=ay.1 e;omega
  have hwI:((wl D:Int)==0)=false:=by simp only[beq_eq_false_iff_ne];omega
  obtain⟨R,hR⟩:∃ R,R=H%D:=⟨_,rfl⟩
  have hRD:R<D:=by rw[hR];exact Nat.mod_lt _ h0
  have LR:Hid (R<18446744073709551616^60):=Nat.lt_trans hRD (ae LD)
  have LAD:Hid (A*D<18446744073709551616^120):=by have:=Nat.mul_lt_mul'' (ae LA) (ae LD);rwa [<-Nat.pow_add]at this
  obtain⟨V,hV⟩:∃ V,V=A*D+R:=⟨_,rfl⟩
  have LV:Hid (V<18446744073709551616^121):=by
   have h1:=ae LAD
   have h2:=aP (ae LR) (show 60<=120 by decide)
   show _<_
   rw[hV,show(121:Nat)=120+1 from rfl,Nat.pow_succ]
   generalize 18446744073709551616^120=p at *
   omega
  have eV:V/D=A/\V%D=R:=by
   have h3:=Kw (u:=V) (v:=D) (h:=A) (by omega) (by rw[hV,Nat.add_mul,Nat.one_mul];omega)
   exact⟨h3.1,by rw[h3.2];omega⟩
  have wV:wl V<=121:=cI _ _ (ae LV)
  have wAD:wl (A*D)<=120:=cI _ _ (ae LAD)
  have c1:wl H*wl H<=60*60:=Nat.mul_le_mul wlH wlH
  have c2:wl V*wl V<=121*121:=Nat.mul_le_mul wV wV
  have UAD:Hid (A*D<4294967296^242):=Jz (L:=121) (ae LAD) (by decide)
  have UR:Hid (R<4294967296^242):=Jz (L:=121) (ae LR) (by decide)
  have HR:=hide hR
  have HV:=hide hV
  have HEV:=hide eV
  have H0:=hide h0
  have QIa:Hid (∀ W,Rep W ga ba oa ca us->aX W (.slice ga n ca) A):=fun W q=>aF q dx (ae HLa) (ae HEa) (by omega)
  have QIb:Hid (∀ W,Rep W gb bb ob cb vs->aX W (.slice gb m cb) D):=fun W q=>aF q dy (ae HLb) (ae HEb) (by omega)
  have QId:Hid (∀ W,Rep W gd bd od cd ts->aX W (.slice gd q cd) H):=fun W r=>aF r dz (ae HLd) (ae HEd) (by omega)
  clear hR hV eV h0 hRD
  have HM:=hide (wh SM)
  clear SM
  have b0:Below w.heap.size w (w.alloc (.cells #[.int .i64 T.b,.int .i64 T.t,.int .i64 T.n,.int .i64 T.d,.int .i64 T.r,.int .i64 T.l,.int .i64 T.x,.int .i64 T.p,.int .i64 T.k,.int .i64 T.s,.int .i64 T.e] 23)):=(Below.refl _ _).alloc (Nat.le_refl _) _
  have tA:=bg w T 23
  obtain⟨W1,hW1⟩:∃ W,w.alloc (.cells #[.int .i64 T.b,.int .i64 T.t,.int .i64 T.n,.int .i64 T.d,.int .i64 T.r,.int .i64 T.l,.int .i64 T.x,.int .i64 T.p,.int .i64 T.k,.int .i64 T.s,.int .i64 T.e] 23)=W:=⟨_,rfl⟩
  rw[hW1]at b0 tA
  obtain⟨P0,hP0⟩:∃ P,w.heap.size=P:=⟨_,rfl⟩
  rw[hP0]at tA
  have lP:P0<W1.heap.size:=tA.lt
  have HT:=hide hT
  clear hT
  have rA:=rA.next b0
  have rB:=rB.next b0
  have rD:=rD.next b0
  have bl:=ag bl b0
  clear b0
  have CN:=hide (fun W=>SN T W)
  have CK:=hide (fun W h=>aM SN SD W h)
  have HE:=hide SE
  have HD:=hide SD
  clear SN SE SD
  unfold Tab.val at CN ⊢
  go_enter Tryz.func8,Tryz.ntmps8
  go_wp2_with fail
  refine(ae Ca _).mono ?_
  rintro e wca ⟨rfl,rfl⟩
  clear Ca
  go_wp2_with fail
  refine(ae Cb _).mono ?_
  rintro e wcb ⟨rfl,rfl⟩
  clear Cb
  go_wp2_with fail
  refine(ae Cd _).mono ?_
  rintro e wcd ⟨rfl,rfl⟩
  clear Cd
  have tX0:=tA
  obtain⟨p0,p1,p2,p3,p4,p5,p6,p7,p8,p9,p10⟩:=tX0
  go_wp2_with fail
  refine(ae CN _).mono ?_
  rintro e w1 ⟨gv,gr,gw,gm,gt,gk,ge,g,rfl,E,hn,b⟩
  clear p0 p1 p2 p3 p4 p5 p6 p7 p8 p9 p10
  have hg:w.heap.size<=g:=by omega
  clear hn tA lP CN
  have rA:=rA.next b
  have rB:=rB.next b
  have rD:=rD.next b
  have bl:=ag bl b
  clear b
  have lg:=E.met.lt
  obtain⟨S1,hS1⟩:∃ S1,S1=w1.heap.size:=⟨_,rfl⟩
  rw[<-hS1]at lg
  have sz:S1<=w1.heap.size:=Nat.le_of_eq hS1
  clear hS1
  go_wp2_with fail
  refine(ae CWb _ rB).mono ?_
  rintro e wb ⟨rfl,rfl⟩
  clear CWa CWb CWd
  have CL:=hide (ae HD _ gv gr gw gm gt gk ge g 0 0 0 T _ _ H D E ((ae HT).next bl) (by decide) (by decide) (by decide) (by decide) (ae QId _ rD) (ae QIb _ rB) (ae H0) (by omega) (by omega))
  rw[<-ae HR]at CL
  go_wp2_with fail
  refine(ae CL).mono ?_
  rintro e w2 ⟨q1,r1,gq,gx,s1,m1,rfl,nq,nr,⟨_,_,hr4⟩,E2,⟨sa1,sb1⟩,_,o⟩
  clear CL nq
  have nr:=nr.toW.mono (Nat.le_trans sz hr4)
  clear hr4
  have rA:=E.rep o rA
  have rB:=E.rep o rB
  have rD:=E.rep o rD
  have sz:=Nat.le_trans sz o.size
  have bl:=bl.trans (o.below (B:=w.heap.size) bl.size (fun k hk=>by rw[hk];exact hg))
  have E:=E2
  clear o E2
  obtain⟨ra1,rl1,rc1,rfl⟩:=nr.shape
  have z0:=E.ptr
  have z1:=E.rcp.ptr
  have z2:=E.rcp.div.ptr
  go_wp2_with fail
  refine(ae HM _ gm gt gk ge g s1 0 m1 T _ _ A D E.rcp.div.mul ((ae HT).next bl) sa1 (by omega) (by decide) (by decide) (ae QIa _ rA) (ae QIb _ rB)).mono ?_
  rintro e w3 ⟨rnp,s2,m2,rfl,np,E3,sa2,sb2,o⟩
  clear z0 z1 z2
  have np:=np.mono sz
  have E2:=E.kept o (E.rcp.kept o (E.rcp.div.kept o E3))
  clear E3
  have rA:=E.rep o rA
  have rB:=E.rep o rB
  have rD:=E.rep o rD
  have nr:=o.newW nr (fun k e=>by rw[e];exact lg)
  have sz:=Nat.le_trans sz o.size
  have bl:=bl.trans (o.below (B:=w.heap.size) bl.size (fun k hk=>by rw[hk];exact hg))
  have E:=E2
  clear o E2
  obtain⟨anp,lnp,cnp,rfl⟩:=np.shape
  go_wp2_with fail
  refine(kA _ _ _ _ 120 (by decide) (ae LAD) np).mono ?_
  rintro e w4 ⟨v1,rfl,m1n,b⟩
  clear np
  have rA:=rA.next b
  have rB:=rB.next b
  have rD:=rD.next b
  have E:=E.next b
  have nr:=nr.next b
  have sz:=Nat.le_trans sz b.size
  have bl:=ag bl b
  clear b
  go_wp2_with fail
  refine(kA _ _ _ _ 60 (by decide) (ae LR) nr).mono ?_
  rintro e w5 ⟨v2,rfl,m2n,b⟩
  have rA:=rA.next b
  have rB:=rB.next b
  have rD:=rD.next b
  have E:=E.next b
  have nr:=nr.next b
  have m1n:=m1n.next b
  have sz:=Nat.le_trans sz b.size
  have bl:=ag bl b
  clear b
  go_wp2_with fail
  refine(add_any _ _ _ _ _ 242 (by omega) (ae UAD) (ae UR) m1n m2n).mono ?_
  rintro e w6 ⟨v3,rfl,m3n,b⟩
  clear m1n m2n
  have rA:=rA.next b
  have rB:=rB.next b
  have rD:=rD.next b
  have E:=E.next b
  have nr:=nr.next b
  have sz:=Nat.le_trans sz b.size
  have bl:=ag bl b
  clear b
  rw[<-ae HV]at m3n
  go_wp2_with fail
  refine(qH _ _ _ 121 (by decide) (ae LV) m3n).mono ?_
  rintro e w7 ⟨rs,rfl,is,b⟩
  clear m3n
  have rA:=rA.next b
  have rB:=rB.next b
  have rD:=rD.next b
  have E:=E.next b
  have nr:=nr.next b
  have sz:=Nat.le_trans sz b.size
  have bl:=ag bl b
  clear b
  obtain⟨ta,tl,tc,rfl⟩:=is.inW.shp
  have CL:=hide (ae HD _ gv gr gw gm gt gk ge g s2 0 m2 T _ _ V D E ((ae HT).next bl) sa2 (by omega) (by decide) (by decide) is (ae QIb _ rB) (ae H0) (by omega) (by omega))
  rw[(ae HEV).1,(ae HEV).2]at CL
  go_wp2_with fail
  refine(ae CL).mono ?_
  rintro e w8 ⟨q3,r3,gq3,gx3,s3,m3,rfl,nq,nd,⟨_,hq5,hr5⟩,E2,⟨sa3,sb3⟩,_,o⟩
  clear CL is
  have nq:=nq.toW.mono (Nat.le_trans sz hq5)
  have nd:=nd.toW.mono (Nat.le_trans sz hr5)
  clear hq5 hr5
  have rA:=E.rep o rA
  have rB:=E.rep o rB
  have rD:=E.rep o rD
  have nr:=o.newW nr (fun k e=>by rw[e];exact lg)
  have sz:=Nat.le_trans sz o.size
  have bl:=bl.trans (o.below (B:=w.heap.size) bl.size (fun k hk=>by rw[hk];exact hg))
  have E:=E2
  clear o E2
  obtain⟨ra3,rl3,rc3,rfl⟩:=nq.shape
  obtain⟨ra4,rl4,rc4,rfl⟩:=nd.shape
  have z0:=E.ptr
  have z1:=E.rcp.ptr
  have z2:=E.rcp.div.ptr
  go_wp2_with fail
  refine(ae HM _ gm gt gk ge g s3 0 m3 T _ _ A D E.rcp.div.mul ((ae HT).next bl) sa3 (by omega) (by decide) (by decide) (ae QIa _ rA) (ae QIb _ rB)).mono ?_
  rintro e w9 ⟨rnp,s4,m4,rfl,np,E3,sa4,sb4,o⟩
  clear z0 z1 z2
  have np:=np.mono sz
  have E2:=E.kept o (E.rcp.kept o (E.rcp.div.kept o E3))
  clear E3
  have rA:=E.rep o rA
  have rB:=E.rep o rB
  have rD:=E.rep o rD
  have nr:=o.newW nr (fun k e=>by rw[e];exact lg)
  have nq:=o.newW nq (fun k e=>by rw[e];exact lg)
  have nd:=o.newW nd (fun k e=>by rw[e];exact lg)
  have sz:=Nat.le_trans sz o.size
  have bl:=bl.trans (o.below (B:=w.heap.size) bl.size (fun k hk=>by rw[hk];exact hg))
  have E:=E2
  clear o E2
  obtain⟨anp,lnp,cnp,rfl⟩:=np.shape
  have CL:=hide (ae HE _ gv gr gw gm gt gk ge g s4 0 m4 T _ _ (A*D) D E ((ae HT).next bl) sa4 (by omega) (by decide) (by decide) (np.toM (ae LAD) (by decide)) (ae QIb _ rB) (ae H0) (by omega) (by omega) (Nat.mul_mod_left _ _))
  rw[Nat.mul_div_cancel _ (ae H0)]at CL
  go_wp2_with fail
  refine(ae CL).mono ?_
  rintro e w10 ⟨q5,gq5,s5,m5,rfl,nh,hq5,E2,_,o⟩
  clear CL np
  have nh:=nh.toW.mono (Nat.le_trans sz hq5)
  clear hq5
  have rA:=E.rep o rA
  have rB:=E.rep o rB
  have rD:=E.rep o rD
  have nr:=o.newW nr (fun k e=>by rw[e];exact lg)
  have nq:=o.newW nq (fun k e=>by rw[e];exact lg)
  have nd:=o.newW nd (fun k e=>by rw[e];exact lg)
  have sz:=Nat.le_trans sz o.size
  have bl:=bl.trans (o.below (B:=w.heap.size) bl.size (fun k hk=>by rw[hk];exact hg))
  have E:=E2
  clear o E2
  clear E
  obtain⟨ra5,rl5,rc5,rfl⟩:=nh.shape
  go_wp2_with fail
  refine(ae CFa _ rA).mono ?_
  rintro e w11 ⟨v4,rfl,m4n,b⟩
  have rA:=rA.next b
  have rB:=rB.next b
  have rD:=rD.next b
  have nr:=nr.next b
  have nq:=nq.next b
  have nd:=nd.next b
  have nh:=nh.next b
  have sz:=Nat.le_trans sz b.size
  have bl:=ag bl b
  clear b
  go_wp2_with fail
  refine(eE _ _ _ _ _ 60 (by decide) (ae LA) m4n nq).mono ?_
  rintro e w12 ⟨rfl,b⟩
  clear m4n
  have rA:=rA.next b
  have rB:=rB.next b
  have rD:=rD.next b
  have nr:=nr.next b
  have nq:=nq.next b
  have nd:=nd.next b
  have nh:=nh.next b
  have sz:=Nat.le_trans sz b.size
  have bl:=ag bl b
  clear b
  go_wp2_with fail
  refine(fH _ _ _ _ _ _ _ 60 (by decide) (ae LR) rfl nd nr).mono ?_
  rintro e w13 ⟨rfl,b⟩
  clear nd nr
  have rA:=rA.next b
  have rB:=rB.next b
  have rD:=rD.next b
  have nq:=nq.next b
  have nh:=nh.next b
  have sz:=Nat.le_trans sz b.size
  have bl:=ag bl b
  clear b
  go_wp2_with fail
  refine(fH _ _ _ _ _ _ _ 60 (by decide) (ae LA) rfl nh nq).mono ?_
  rintro e w14 ⟨rfl,b⟩
  clear nh nq
  have rA:=rA.next b
  have rB:=rB.next b
  have rD:=rD.next b
  have sz:=Nat.le_trans sz b.size
  have bl:=ag bl b
  clear b
  go_wp2_with fail
  refine(ae CK _ ((ae HT).next bl)).mono ?_
  rintro e w15 ⟨rfl,b⟩
  have bl:=ag bl b
  clear b
  go_wp2
  go_ret
  exact⟨rfl,bl⟩
end Go.Proofs.YtpdpnomocbehkaaGreatDoor
