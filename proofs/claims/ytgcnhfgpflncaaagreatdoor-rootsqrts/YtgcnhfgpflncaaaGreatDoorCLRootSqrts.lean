/- RootSqrts: what the law's walk comes to, once the code is what the document asks. Written by gen_root.py. -/
import Derived.Test.YtgcnhfgpflncaaaGreatDoorB40
import Derived.Test.YtgcnhfgpflncaaaGreatDoorB27
import Derived.Test.YtgcnhfgpflncaaaGreatDoorB12
import Derived.Test.YtgcnhfgpflncaaaGreatDoorB33
import Derived.Test.YtgcnhfgpflncaaaGreatDoorB14
import Derived.Test.YtgcnhfgpflncaaaGreatDoorB5
import Derived.Test.YtgcnhfgpflncaaaGreatDoorB3
namespace Go.Proofs.YtgcnhfgpflncaaaGreatDoor
open Go.RowKit
set_option maxRecDepth 100000 in
set_option maxHeartbeats 12800000 in
theorem qL(SN:fS)(SS:fU)(T:Tab)(ga:Option Addr)(ba oa ca la:Nat)(xs:List Nat)(w:World)(hxs:xs.length=la)(HrA:Rep w ga ba oa ca xs)(kxs:∀ j,xs.getD j 0<18446744073709551616)(hT:TB w):
  Calls Tryz.prog 3 #[T.val,.slice ga la ca] w fun e w'=>e=.returned (.bool true)/\Below w.heap.size w w':=by
 obtain⟨n,hca⟩:∃ k,k=min la 16:=⟨_,rfl⟩
 have Ca:Hid (∀ w,Calls Tryz.prog 8 #[.slice ga la ca,.int .i64 16] w fun e w'=>e=.returned (.slice ga n ca)/\w'=w):=fun w=>lT w ga la ca 16 n (by have:=HrA.room;omega) (by omega) hca
 obtain⟨hla,rA⟩:=lV HrA 16 n (by rw[hxs];exact hca)
 have dx:ao (xs.take n):=gB kxs n
 have hma:n<=16:=by omega
 clear hca HrA kxs hxs
 generalize xs.take n=us at *
 obtain⟨A,hva⟩:∃ k,k=af us:=⟨_,rfl⟩
 have LA:Hid (A<18446744073709551616^16):=by show _<_;rw[hva];exact fB (ak dx) (by omega)
 have BA:Hid (A<4294967296^32):=by have:=ae LA;rw[lF]at this;exact this
 have CFa:=hide (fun W (r:Rep W ga ba oa ca us)=>fN W ga ba oa ca n A us hla (by omega) r dx hva)
 have wlA:wl A<=16:=by rw[hva];exact Nat.le_trans (dq dx) (by omega)
 have HLa:=hide hla
 have HEa:=hide hva
 clear hva hla
 have bl:=Below.refl w.heap.size w
 obtain⟨F,hF⟩:∃ F,F=6148914691236517205:=⟨_,rfl⟩
 have HF:=hide hF
 clear hF
 obtain⟨S,hS⟩:=fg (k:=2) (by decide) A
 have HSb:Hid (S<18446744073709551616^16):=Nat.lt_of_le_of_lt (pR (by decide) hS) (ae LA)
 have HSb2:Hid (S<4294967296^32):=by have:=ae HSb;rw[lF]at this;exact this
 have CSq:=hide (fun W v (h:aY W v A)=>nM W v A S 32 (ae BA) (by omega) h hS)
 have CMu:=hide (fun W u v (h:aY W u S) (k:aY W v S)=>mul_any W u v S S 32 (by omega) (ae HSb2) (ae HSb2) h k)
 have CSu:=hide (fun W u v (h:aY W u A) (k:aY W v (S*S))=>AM W u v A (S*S) 32 (by omega) (ae BA) (rR hS) h k)
 have HRb:Hid (A-S*S<18446744073709551616^16):=Nat.lt_of_le_of_lt (Nat.sub_le _ _) (ae LA)
 have HSS:=hide hS
 obtain⟨P,hP⟩:∃ P,P=S*S:=⟨_,rfl⟩
 obtain⟨R,hR⟩:∃ R,R=A-P:=⟨_,rfl⟩
 rw[<-hP]at CMu CSu HRb
 rw[<-hR]at CSu HRb
 have HP:=hide hP
 have HR:=hide hR
 clear hS hP hR
 have b0:Below w.heap.size w (w.alloc (.cells #[.int .i64 T.b,.int .i64 T.t,.int .i64 T.n,.int .i64 T.d,.int .i64 T.r,.int .i64 T.l,.int .i64 T.x,.int .i64 T.p,.int .i64 T.k,.int .i64 T.s,.int .i64 T.e] 23)):=(Below.refl _ _).alloc (Nat.le_refl _) _
 have tA:=dK w T 23
 obtain⟨W1,hW1⟩:∃ W,w.alloc (.cells #[.int .i64 T.b,.int .i64 T.t,.int .i64 T.n,.int .i64 T.d,.int .i64 T.r,.int .i64 T.l,.int .i64 T.x,.int .i64 T.p,.int .i64 T.k,.int .i64 T.s,.int .i64 T.e] 23)=W:=⟨_,rfl⟩
 rw[hW1]at b0 tA
 obtain⟨P0,hP0⟩:∃ P,w.heap.size=P:=⟨_,rfl⟩
 rw[hP0]at tA
 have lP:P0<W1.heap.size:=tA.lt
 have HT:=hide hT
 clear hT
 have rA:=rA.next b0
 have bl:=ag bl b0
 clear b0
 have CN:=hide (fun W=>SN T W)
 have CK:=hide (fun W h=>bM SN SS W h)
 have HS:=hide SS
 clear SN SS
 unfold Tab.val at CN ⊢
 go_enter Tryz.func3,Tryz.ntmps3
 go_wp2_with fail
 refine(ae Ca _).mono ?_
 rintro e wca ⟨rfl,rfl⟩
 clear Ca
 have tX0:=tA
 obtain⟨p0,p1,p2,p3,p4,p5,p6,p7,p8,p9,p10⟩:=tX0
 go_wp2_with fail
 refine(ae CN _).mono ?_
 rintro e w1 ⟨gw,gv,gr,gd,gm,gt,gk,ge,g,rfl,E,hn,b⟩
 clear p0 p1 p2 p3 p4 p5 p6 p7 p8 p9 p10
 have hg:w.heap.size<=g:=by omega
 clear hn tA lP CN
 have rA:=rA.next b
 have bl:=ag bl b
 clear b
 go_wp2_with fail
 refine(Hh _ ga ba oa ca n us (ae HLa) (by omega) rA F (ae HF)).mono ?_
 rintro e w2 ⟨rfl,ol,b⟩
 obtain⟨rX,tX⟩:=Hj ol (ae HLa)
 clear ol
 have rA:=rA.next b
 have E:=E.next b
 have bl:=ag bl b
 clear b
 have ix:=fb rX dx (ae HLa) (ae HEa) (by omega)
 clear rX
 have CL:=hide (ae HS _ gw gv gr gd gm gt gk ge g 0 0 0 T _ A S E ((ae HT).next bl) (by decide) (by decide) (by decide) (by decide) ix (ae HSS) (by omega))
 clear ix
 rw[<-ae HP, <-ae HR]at CL
 obtain⟨g1,hg1⟩:∃ g1,g1=w1.heap.size:=⟨_,rfl⟩
 rw[<-hg1]at tX CL ⊢
 obtain⟨S4,hS4⟩:∃ S4,S4=w2.heap.size:=⟨_,rfl⟩
 have hl1:g1<S4:=by rw[hS4];exact tX.lt (by simp)
 have hSw:w.heap.size<=S4:=by rw[hS4];exact bl.size
 have hAb:Hid (0<us.length->ba<S4):=fun h=>by rw[hS4];exact rA.lt h
 rw[<-hS4]at CL
 clear hg1 hS4
 go_wp2_with fail
 refine(ae CL).mono ?_
 rintro e w3 ⟨q,r,gq,gx,s',m',rfl,nq,nr,⟨nqr,hq4,hr4⟩,E2,_,o⟩
 clear CL
 have rA:=E.rep o rA
 have tX:=E.rep o tX
 have bl:=bl.trans (o.below (B:=w.heap.size) bl.size (fun k hk=>by rw[hk];exact hg))
 have E:=E2
 clear o E2
 clear E
 have nqW:=nq.toW
 obtain⟨qa,ql,qc,rfl⟩:=nqW.shape
 have nrW:=nr.toW
 obtain⟨ra,rl,rc,rfl⟩:=nrW.shape
 clear nqW nrW
 go_wp2_with fail
 refine(ae CFa _ rA).mono ?_
 rintro e w4 ⟨v1,rfl,n1,b⟩
 have rA:=rA.next b
 have tX:=tX.next b
 have nq:=nq.next b
 have nr:=nr.next b
 have bl:=ag bl b
 clear b
 go_wp2_with fail
 refine(ae CSq _ _ n1).mono ?_
 rintro e w5 ⟨v2,rfl,n2,b⟩
 clear n1
 have rA:=rA.next b
 have tX:=tX.next b
 have nq:=nq.next b
 have nr:=nr.next b
 have bl:=ag bl b
 clear b
 go_wp2_with fail
 refine(mz _ _ _ _ _ 16 (by omega) (ae HSb) n2 nq.toW).mono ?_
 rintro e w6 ⟨rfl,b⟩
 have rA:=rA.next b
 have tX:=tX.next b
 have nq:=nq.next b
 have nr:=nr.next b
 have n2:=n2.next b
 have bl:=ag bl b
 clear b
 go_wp2_with fail
 refine(ae CFa _ rA).mono ?_
 rintro e w7 ⟨v3,rfl,n3,b⟩
 have rA:=rA.next b
 have tX:=tX.next b
 have nq:=nq.next b
 have nr:=nr.next b
 have n2:=n2.next b
 have bl:=ag bl b
 clear b
 go_wp2_with fail
 refine(ae CMu _ _ _ n2 n2).mono ?_
 rintro e w8 ⟨v4,rfl,n4,b⟩
 clear n2
 have rA:=rA.next b
 have tX:=tX.next b
 have nq:=nq.next b
 have nr:=nr.next b
 have n3:=n3.next b
 have bl:=ag bl b
 clear b
 go_wp2_with fail
 refine(ae CSu _ _ _ n3 n4).mono ?_
 rintro e w9 ⟨v5,rfl,n5,b⟩
 clear n3 n4
 have rA:=rA.next b
 have tX:=tX.next b
 have nq:=nq.next b
 have nr:=nr.next b
 have bl:=ag bl b
 clear b
 go_wp2_with fail
 refine(mz _ _ _ _ _ 16 (by omega) (ae HRb) n5 nr.toW).mono ?_
 rintro e w10 ⟨rfl,b⟩
 clear n5
 have rA:=rA.next b
 have tX:=tX.next b
 have nq:=nq.next b
 have nr:=nr.next b
 have bl:=ag bl b
 clear b
 go_wp2_with fail
 refine(rU _ _ _ _ _ nq).mono ?_
 rintro e ws1 ⟨rfl,sp⟩
 have rA:=rA.spoilt sp (fun h=>Or.inl (Nat.lt_of_lt_of_le (ae hAb h) hq4))
 have tX:=tX.spoilt sp (fun h=>Or.inl (Nat.lt_of_lt_of_le hl1 hq4))
 have nr:=nr.spoilt sp (by omega)
 have bl:=lN bl sp (by omega) bl.size
 clear nq sp
 go_wp2_with fail
 refine(rU _ _ _ _ _ nr).mono ?_
 rintro e ws2 ⟨rfl,sp⟩
 have rA:=rA.spoilt sp (fun h=>Or.inl (Nat.lt_of_lt_of_le (ae hAb h) hr4))
 have tX:=tX.spoilt sp (fun h=>Or.inl (Nat.lt_of_lt_of_le hl1 hr4))
 have bl:=lN bl sp (by omega) bl.size
 clear nr sp
 go_wp2_with fail
 refine(yP _ ga g1 ba oa ca n us (ae HLa) (by omega) rA F (ae HF) tX).mono ?_
 rintro e wi1 ⟨rfl,b⟩
 have rA:=rA.next b
 have tX:=tX.next b
 have bl:=ag bl b
 clear b
 go_wp2_with fail
 refine(ae CK _ ((ae HT).next bl)).mono ?_
 rintro e w11 ⟨rfl,b⟩
 have bl:=ag bl b
 clear b
 go_wp2
 go_ret
 exact⟨rfl,bl⟩
end Go.Proofs.YtgcnhfgpflncaaaGreatDoor
