/- RootBounds: what the law's walk comes to, once the code is what the document asks. Written by gen_root.py. -/
import Derived.Test.YtgcnhfgpflncaaaGreatDoorB40
import Derived.Test.YtgcnhfgpflncaaaGreatDoorB27
import Derived.Test.YtgcnhfgpflncaaaGreatDoorB12
import Derived.Test.YtgcnhfgpflncaaaGreatDoorB14
import Derived.Test.YtgcnhfgpflncaaaGreatDoorB5
import Derived.Test.YtgcnhfgpflncaaaGreatDoorB3
import Derived.Test.YtgcnhfgpflncaaaGreatDoorB36
namespace Go.Proofs.YtgcnhfgpflncaaaGreatDoor
open Go.RowKit
set_option maxRecDepth 100000 in
set_option maxHeartbeats 12800000 in
theorem pO(SN:fS)(SS:fU)(SR:lH)(T:Tab)(ga:Option Addr)(ba oa ca la:Nat)(xs:List Nat)(w:World)(hxs:xs.length=la)(HrA:Rep w ga ba oa ca xs)(kxs:∀ j,xs.getD j 0<18446744073709551616)(hT:TB w):
  Calls Tryz.prog 6 #[T.val,.slice ga la ca] w fun e w'=>e=.returned (.bool true)/\Below w.heap.size w w':=by
 obtain⟨n,hca⟩:∃ k,k=min la 60:=⟨_,rfl⟩
 have Ca:Hid (∀ w,Calls Tryz.prog 8 #[.slice ga la ca,.int .i64 60] w fun e w'=>e=.returned (.slice ga n ca)/\w'=w):=fun w=>lT w ga la ca 60 n (by have:=HrA.room;omega) (by omega) hca
 obtain⟨hla,rA⟩:=lV HrA 60 n (by rw[hxs];exact hca)
 have dx:ao (xs.take n):=gB kxs n
 have hma:n<=60:=by omega
 clear hca HrA kxs hxs
 generalize xs.take n=us at *
 obtain⟨A,hva⟩:∃ k,k=af us:=⟨_,rfl⟩
 have LA:Hid (A<18446744073709551616^60):=by show _<_;rw[hva];exact fB (ak dx) (by omega)
 have BA:Hid (A<4294967296^120):=by have:=ae LA;rw[lF]at this;exact this
 have CFa:=hide (fun W (r:Rep W ga ba oa ca us)=>fN W ga ba oa ca n A us hla (by omega) r dx hva)
 have wlA:wl A<=60:=by rw[hva];exact Nat.le_trans (dq dx) (by omega)
 have HLa:=hide hla
 have HEa:=hide hva
 clear hva hla
 have bl:=Below.refl w.heap.size w
 obtain⟨S,hS⟩:=fg (k:=2) (by decide) A
 obtain⟨C,hC⟩:=fg (k:=3) (by decide) A
 have HSb:Hid (S<18446744073709551616^60):=Nat.lt_of_le_of_lt (pR (by decide) hS) (ae LA)
 have HCb:Hid (C<18446744073709551616^60):=Nat.lt_of_le_of_lt (pR (by decide) hC) (ae LA)
 have HSb2:Hid (S<4294967296^120):=by have:=ae HSb;rw[lF]at this;exact this
 have HCb2:Hid (C<4294967296^121):=by have:=ae HCb;rw[lF]at this;exact Nat.lt_of_lt_of_le this (Nat.pow_le_pow_right (by omega) (by omega))
 have HCb3:Hid (C+1<4294967296^121):=by
  have:=ae HCb
  rw[lF]at this
  show _<_
  rw[show(121:Nat)=120+1 from rfl,Nat.pow_succ]
  have h1:1<=(4294967296:Nat)^120:=Nat.one_le_pow _ _ (by omega)
  omega
 obtain⟨P,hP⟩:∃ P,P=S*S:=⟨_,rfl⟩
 obtain⟨R,hR⟩:∃ R,R=A-P:=⟨_,rfl⟩
 have hPA:P<=A:=by rw[hP];exact rR hS
 have hPR:P+R=A:=by omega
 have hRS:R<=S+S:=by rw[hR,hP];exact AD hS
 have BP:Hid (P<4294967296^120):=Nat.lt_of_le_of_lt hPA (ae BA)
 have LR:Hid (R<18446744073709551616^60):=Nat.lt_of_le_of_lt (by omega) (ae LA)
 have BR:Hid (R<4294967296^120):=Nat.lt_of_le_of_lt (by omega) (ae BA)
 have CMu:=hide (fun W u v (h:aY W u S) (k:aY W v S)=>mul_any W u v S S 120 (by omega) (ae HSb2) (ae HSb2) h k)
 rw[<-hP]at CMu
 have CAd:=hide (fun W u v (h:aY W u P) (k:aY W v R)=>add_any W u v P R 120 (by omega) (ae BP) (ae BR) h k)
 rw[hPR]at CAd
 have CC1:=hide (fun W u v (h:aY W u A) (k:aY W v A)=>jY W u v A A 120 (by omega) (ae BA) (ae BA) h k)
 rw[de rfl]at CC1
 have CA2:=hide (fun W u v (h:aY W u S) (k:aY W v S)=>add_any W u v S S 120 (by omega) (ae HSb2) (ae HSb2) h k)
 have HSS3:Hid (S+S<4294967296^121):=by
  have:=ae HSb2
  show _<_
  rw[show(121:Nat)=120+1 from rfl,Nat.pow_succ]
  omega
 obtain⟨c2,hc2⟩:∃ c,c=aV R (S+S):=⟨_,rfl⟩
 have g2:decide (0<c2)=false:=by
  rw[hc2]
  refine decide_eq_false ?_
  rcases Nat.lt_or_ge R (S+S)with h|h
  ·rw[cK h];decide
  ·rw[de (by omega)];decide
 have BR3:Hid (R<4294967296^121):=Nat.lt_of_lt_of_le (ae BR) (Nat.pow_le_pow_right (by omega) (by omega))
 have CC2:Hid (∀ W u v,aY W u R->aY W v (S+S)->Calls Tryz.prog 23 #[u,v] W fun e w'=>e=.returned (.int .i64 c2)/\Below W.heap.size W w'):=fun W u v h k=>by rw[hc2];exact jY W u v R (S+S) 121 (by omega) (ae BR3) (ae HSS3) h k
 obtain⟨X,hX⟩:∃ X,X=S+S:=⟨_,rfl⟩
 rw[<-hX]at CC2 CA2
 have CP1:=hide (fun W v (h:aY W v C)=>pM W v C 3 121 (by omega) (by omega) (ae HCb2) h)
 have CP2:=hide (fun W v (h:aY W v (C+1))=>pM W v (C+1) 3 121 (by omega) (by omega) (ae HCb3) h)
 have CSm:=hide (fun W=>iw 1 (by omega) (by omega) W)
 have CA3:=hide (fun W u v (h:aY W u C) (k:aY W v 1)=>add_any W u v C 1 121 (by omega) (ae HCb2) (by show 1<_;exact Nat.one_lt_pow (by omega) (by omega)) h k)
 obtain⟨Y,hY⟩:∃ Y,Y=C^3:=⟨_,rfl⟩
 obtain⟨Z,hZ⟩:∃ Z,Z=(C+1)^3:=⟨_,rfl⟩
 have hYA:Y<=A:=by rw[hY];exact hC.1
 have hZA:A<Z:=by rw[hZ];exact hC.2
 obtain⟨E1,hE1⟩:∃ E1,E1=121:=⟨_,rfl⟩
 obtain⟨E3,hE3⟩:∃ E3,E3=E1*3:=⟨_,rfl⟩
 have BA3:Hid (A<4294967296^E3):=Nat.lt_of_lt_of_le (ae BA) (Nat.pow_le_pow_right (by decide) (by omega))
 have BY:Hid (Y<4294967296^E3):=Nat.lt_of_le_of_lt hYA (ae BA3)
 have BZ:Hid (Z<4294967296^E3):=by
  show _<_
  rw[hZ,hE3,Nat.pow_mul,hE1]
  exact Nat.pow_lt_pow_left (ae HCb3) (by omega)
 obtain⟨c3,hc3⟩:∃ c,c=aV Y A:=⟨_,rfl⟩
 have g3:decide (c3<=0)=true:=by
  rw[hc3]
  refine decide_eq_true ?_
  rcases Nat.lt_or_ge Y A with h|h
  ·rw[cK h];decide
  ·rw[de (by omega)];decide
 have CC3:Hid (∀ W u v,aY W u Y->aY W v A->Calls Tryz.prog 23 #[u,v] W fun e w'=>e=.returned (.int .i64 c3)/\Below W.heap.size W w'):=fun W u v h k=>by rw[hc3];exact jY W u v Y A E3 (by omega) (ae BY) (ae BA3) h k
 have CC4:Hid (∀ W u v,aY W u Z->aY W v A->Calls Tryz.prog 23 #[u,v] W fun e w'=>e=.returned (.int .i64 1)/\Below W.heap.size W w'):=fun W u v h k=>by rw[<-cJ hZA];exact jY W u v Z A E3 (by omega) (ae BZ) (ae BA3) h k
 rw[<-hY]at CP1
 rw[<-hZ]at CP2
 have HSS:=hide hS
 have HCC:=hide hC
 have HP:=hide hP
 have HR:=hide hR
 clear hS hC hP hR hPA hPR hRS hc2 hX hY hZ hYA hZA hc3
 generalize hC1:C+1=C1 at *
 clear hC1
 have b0:Below w.heap.size w (w.alloc (.cells #[.int .i64 T.b,.int .i64 T.t,.int .i64 T.n,.int .i64 T.d,.int .i64 T.r,.int .i64 T.l,.int .i64 T.x,.int .i64 T.p,.int .i64 T.k,.int .i64 T.s,.int .i64 T.e] 23)):=(Below.refl _ _).alloc (Nat.le_refl _) _
 have tA:=dK w T 23
 obtain⟨W1,hW1⟩:∃ W,w.alloc (.cells #[.int .i64 T.b,.int .i64 T.t,.int .i64 T.n,.int .i64 T.d,.int .i64 T.r,.int .i64 T.l,.int .i64 T.x,.int .i64 T.p,.int .i64 T.k,.int .i64 T.s,.int .i64 T.e] 23)=W:=⟨_,rfl⟩
 rw[hW1]at b0 tA
 obtain⟨P0,hP0⟩:∃ P,w.heap.size=P:=⟨_,rfl⟩
 rw[hP0]at tA
 have lP:P0<W1.heap.size:=tA.lt
 have HT:=hide hT
 clear hT
 have rA:=rA.next b0
 have bl:=ag bl b0
 clear b0
 have CN:=hide (fun W=>SN T W)
 have CK:=hide (fun W h=>bM SN SS W h)
 have HS:=hide SS
 have HR2:=hide SR
 clear SN SS SR
 unfold Tab.val at CN ⊢
 go_enter Tryz.func6,Tryz.ntmps6
 go_wp2_with fail
 refine(ae Ca _).mono ?_
 rintro e wca ⟨rfl,rfl⟩
 clear Ca
 have tX0:=tA
 obtain⟨p0,p1,p2,p3,p4,p5,p6,p7,p8,p9,p10⟩:=tX0
 go_wp2_with fail
 refine(ae CN _).mono ?_
 rintro e w1 ⟨gw,gv,gr,gd,gm,gt,gk,ge,g,rfl,E,hn,b⟩
 clear p0 p1 p2 p3 p4 p5 p6 p7 p8 p9 p10
 have hg:w.heap.size<=g:=by omega
 clear hn tA lP CN
 have rA:=rA.next b
 have bl:=ag bl b
 clear b
 have lg:=E.met.lt
 obtain⟨S1,hS1⟩:∃ S1,S1=w1.heap.size:=⟨_,rfl⟩
 rw[<-hS1]at lg
 have sz:S1<=w1.heap.size:=Nat.le_of_eq hS1
 clear hS1
 have CL:=hide (ae HS _ gw gv gr gd gm gt gk ge g 0 0 0 T _ A S E ((ae HT).next bl) (by decide) (by decide) (by decide) (by decide) (fb rA dx (ae HLa) (ae HEa) (by omega)) (ae HSS) (by omega))
 rw[<-ae HP, <-ae HR]at CL
 go_wp2_with fail
 refine(ae CL).mono ?_
 rintro e w2 ⟨q,r,gq,gx,s1,m1,rfl,nq,nr,⟨_,hq4,hr4⟩,E2,⟨sa1,sb1⟩,o⟩
 clear CL
 have nq:=nq.toW.mono (Nat.le_trans sz hq4)
 have nr:=nr.toW.mono (Nat.le_trans sz hr4)
 clear hq4 hr4
 have rA:=E.rep o rA
 have sz:=Nat.le_trans sz o.size
 have bl:=bl.trans (o.below (B:=w.heap.size) bl.size (fun k hk=>by rw[hk];exact hg))
 have E:=E2
 clear o E2
 obtain⟨qa,ql,qc,rfl⟩:=nq.shape
 obtain⟨ra,rl,rc,rfl⟩:=nr.shape
 go_wp2_with fail
 refine(dI _ _ _ _ 60 (by omega) (ae HSb) nq).mono ?_
 rintro e w3 ⟨v1,rfl,n1,b⟩
 have rA:=rA.next b
 have E:=E.next b
 have nq:=nq.next b
 have nr:=nr.next b
 have sz:=Nat.le_trans sz b.size
 have bl:=ag bl b
 clear b
 go_wp2_with fail
 refine(dI _ _ _ _ 60 (by omega) (ae HSb) nq).mono ?_
 rintro e w4 ⟨v2,rfl,n2,b⟩
 have rA:=rA.next b
 have E:=E.next b
 have nq:=nq.next b
 have nr:=nr.next b
 have n1:=n1.next b
 have sz:=Nat.le_trans sz b.size
 have bl:=ag bl b
 clear b
 go_wp2_with fail
 refine(ae CMu _ _ _ n1 n2).mono ?_
 rintro e w5 ⟨v3,rfl,n3,b⟩
 clear n1 n2
 have rA:=rA.next b
 have E:=E.next b
 have nq:=nq.next b
 have nr:=nr.next b
 have sz:=Nat.le_trans sz b.size
 have bl:=ag bl b
 clear b
 go_wp2_with fail
 refine(dI _ _ _ _ 60 (by omega) (ae LR) nr).mono ?_
 rintro e w6 ⟨v4,rfl,n4,b⟩
 have rA:=rA.next b
 have E:=E.next b
 have nq:=nq.next b
 have nr:=nr.next b
 have n3:=n3.next b
 have sz:=Nat.le_trans sz b.size
 have bl:=ag bl b
 clear b
 go_wp2_with fail
 refine(ae CAd _ _ _ n3 n4).mono ?_
 rintro e w7 ⟨v5,rfl,n5,b⟩
 clear n3 n4
 have rA:=rA.next b
 have E:=E.next b
 have nq:=nq.next b
 have nr:=nr.next b
 have sz:=Nat.le_trans sz b.size
 have bl:=ag bl b
 clear b
 go_wp2_with fail
 refine(ae CFa _ rA).mono ?_
 rintro e w8 ⟨v6,rfl,n6,b⟩
 have rA:=rA.next b
 have E:=E.next b
 have nq:=nq.next b
 have nr:=nr.next b
 have n5:=n5.next b
 have sz:=Nat.le_trans sz b.size
 have bl:=ag bl b
 clear b
 go_wp2_with fail
 refine(ae CC1 _ _ _ n5 n6).mono ?_
 rintro e w9 ⟨rfl,b⟩
 clear n5 n6
 have rA:=rA.next b
 have E:=E.next b
 have nq:=nq.next b
 have nr:=nr.next b
 have sz:=Nat.le_trans sz b.size
 have bl:=ag bl b
 clear b
 go_wp2_with fail
 refine(dI _ _ _ _ 60 (by omega) (ae LR) nr).mono ?_
 rintro e w10 ⟨v7,rfl,n7,b⟩
 clear nr
 have rA:=rA.next b
 have E:=E.next b
 have nq:=nq.next b
 have sz:=Nat.le_trans sz b.size
 have bl:=ag bl b
 clear b
 go_wp2_with fail
 refine(dI _ _ _ _ 60 (by omega) (ae HSb) nq).mono ?_
 rintro e w11 ⟨v8,rfl,n8,b⟩
 have rA:=rA.next b
 have E:=E.next b
 have nq:=nq.next b
 have n7:=n7.next b
 have sz:=Nat.le_trans sz b.size
 have bl:=ag bl b
 clear b
 go_wp2_with fail
 refine(dI _ _ _ _ 60 (by omega) (ae HSb) nq).mono ?_
 rintro e w12 ⟨v9,rfl,n9,b⟩
 clear nq
 have rA:=rA.next b
 have E:=E.next b
 have n7:=n7.next b
 have n8:=n8.next b
 have sz:=Nat.le_trans sz b.size
 have bl:=ag bl b
 clear b
 go_wp2_with fail
 refine(ae CA2 _ _ _ n8 n9).mono ?_
 rintro e w13 ⟨v10,rfl,n10,b⟩
 clear n8 n9
 have rA:=rA.next b
 have E:=E.next b
 have n7:=n7.next b
 have sz:=Nat.le_trans sz b.size
 have bl:=ag bl b
 clear b
 go_wp2_with fail
 refine(ae CC2 _ _ _ n7 n10).mono ?_
 rintro e w14 ⟨rfl,b⟩
 clear n7 n10
 have rA:=rA.next b
 have E:=E.next b
 have sz:=Nat.le_trans sz b.size
 have bl:=ag bl b
 clear b
 clear CMu CAd CC1 CA2 CC2
 have CL:=hide (ae HR2 _ gw gv gr gd gm gt gk ge g s1 0 m1 T _ A C 3 E ((ae HT).next bl) sa1 (by omega) (by decide) (by decide) (fb rA dx (ae HLa) (ae HEa) (by omega)) (by decide) (by decide) (ae HCC) (by omega))
 go_wp2_with fail
 refine(ae CL).mono ?_
 rintro e w15 ⟨c,s2,m2,rfl,nc,E2,_,o⟩
 clear CL
 have nc:=nc.mono sz
 have rA:=E.rep o rA
 have sz:=Nat.le_trans sz o.size
 have bl:=bl.trans (o.below (B:=w.heap.size) bl.size (fun k hk=>by rw[hk];exact hg))
 have E:=E2
 clear o E2
 clear E sa1 sb1
 obtain⟨xa,xl,xc,rfl⟩:=nc.shape
 go_wp2_with fail
 refine(dI _ _ _ _ 60 (by omega) (ae HCb) nc).mono ?_
 rintro e w16 ⟨v11,rfl,n11,b⟩
 have rA:=rA.next b
 have nc:=nc.next b
 have sz:=Nat.le_trans sz b.size
 have bl:=ag bl b
 clear b
 go_wp2_with fail
 refine(ae CP1 _ _ n11).mono ?_
 rintro e w17 ⟨v12,rfl,n12,b⟩
 clear n11
 have rA:=rA.next b
 have nc:=nc.next b
 have sz:=Nat.le_trans sz b.size
 have bl:=ag bl b
 clear b
 go_wp2_with fail
 refine(dI _ _ _ _ 60 (by omega) (ae HCb) nc).mono ?_
 rintro e w18 ⟨v13,rfl,n13,b⟩
 clear nc
 have rA:=rA.next b
 have n12:=n12.next b
 have sz:=Nat.le_trans sz b.size
 have bl:=ag bl b
 clear b
 go_wp2_with fail
 refine(ae CSm _).mono ?_
 rintro e w19 ⟨v14,rfl,n14,b⟩
 have rA:=rA.next b
 have n12:=n12.next b
 have n13:=n13.next b
 have sz:=Nat.le_trans sz b.size
 have bl:=ag bl b
 clear b
 go_wp2_with fail
 refine(ae CA3 _ _ _ n13 n14).mono ?_
 rintro e w20 ⟨v15,rfl,n15,b⟩
 clear n13 n14
 have rA:=rA.next b
 have n12:=n12.next b
 have sz:=Nat.le_trans sz b.size
 have bl:=ag bl b
 clear b
 go_wp2_with fail
 refine(ae CP2 _ _ n15).mono ?_
 rintro e w21 ⟨v16,rfl,n16,b⟩
 clear n15
 have rA:=rA.next b
 have n12:=n12.next b
 have sz:=Nat.le_trans sz b.size
 have bl:=ag bl b
 clear b
 go_wp2_with fail
 refine(ae CFa _ rA).mono ?_
 rintro e w22 ⟨v17,rfl,n17,b⟩
 have rA:=rA.next b
 have n12:=n12.next b
 have n16:=n16.next b
 have sz:=Nat.le_trans sz b.size
 have bl:=ag bl b
 clear b
 go_wp2_with fail
 refine(ae CC3 _ _ _ n12 n17).mono ?_
 rintro e w23 ⟨rfl,b⟩
 clear n12 n17
 have rA:=rA.next b
 have n16:=n16.next b
 have sz:=Nat.le_trans sz b.size
 have bl:=ag bl b
 clear b
 go_wp2_with fail
 refine(ae CFa _ rA).mono ?_
 rintro e w24 ⟨v18,rfl,n18,b⟩
 have rA:=rA.next b
 have n16:=n16.next b
 have sz:=Nat.le_trans sz b.size
 have bl:=ag bl b
 clear b
 go_wp2_with fail
 refine(ae CC4 _ _ _ n16 n18).mono ?_
 rintro e w25 ⟨rfl,b⟩
 clear n16 n18
 have rA:=rA.next b
 have sz:=Nat.le_trans sz b.size
 have bl:=ag bl b
 clear b
 go_wp2_with fail
 refine(ae CK _ ((ae HT).next bl)).mono ?_
 rintro e w26 ⟨rfl,b⟩
 have bl:=ag bl b
 clear b
 go_wp2
 go_ret
 exact⟨rfl,bl⟩
end Go.Proofs.YtgcnhfgpflncaaaGreatDoor
