import Derived.Test.YtkdmippllpekfaaGreatDoorB28
import Derived.Test.YtkdmippllpekfaaGreatDoorB25
namespace Go.Proofs.YtkdmippllpekfaaGreatDoor
set_option maxRecDepth 100000
set_option maxHeartbeats 6400000
open Go.RowKit
variable{l m s:Int}{xs ys:List Nat}{M b b' bM cap g ge gk gm gt h la lb o o':Nat}{ga gb:Option Addr}{a w:World}
theorem aaX(w:World)(gt gk ge g:Nat)(s l m:Int)(T:bJ)(ga gb:Option Addr)(b o cap la b' o' bM lb h:Nat)(xs ys:List Nat)(k:Nat)(fs cs:Array Value)(D:Nat->Prop)(St:Nat->World->Prop)(hE:jH w gt gk ge g s l m T)(vn:0<=l)(qk:l<=1000000)(jw:xs.length=la)(hR:cH w ga b o cap xs)(mB:bG xs)(_hbD:0<la->¬D b)(kt:ys.length=lb)(kV:cH w gb b' o' bM ys)(vm:bG ys)(_hbD':0<lb->¬D b')(fA:la<=16384)(kl:lb<=16384)(hh:h=(max la lb+2)/3)(dh:2*h<min la lb)(_nt:¬D gt)(_nk:¬D gk)(_ne:¬D ge)(_ng:¬D g)(hD:∀j,D j->j<w.heap.size)(hI:abF w.heap.size gt gk ge g l T (max la lb) (min la lb) h k fs cs D St)(hS:∀W,Out (·=g) w W->jH W gt gk ge g s (l+1) (max m (l+1)) T->St 0 W)(Wt:¬la<lb):Calls Tryz.prog 138 #[.pointer (some ⟨gt,0,none⟩),.slice ga la cap,.slice gb lb bM,.func (.func k) fs cs] w fun e w'=>∃v W,e=.returned (.tuple #[v,.bool true])/\aU w.heap.size w' v (aB xs*aB ys)/\St 5 W/\Out (·=g) W w'/\(∀s' m',jH W gt gk ge g s' (l+1) m' T->jH w' gt gk ge g s' l m' T)/\Out (fun j=>D j\/j=g) w w':=by
 have hn:max la lb=la:=by omega
 have hm:min la lb=lb:=by omega
 rw[hn,hm]at hI;rw[hn]at hh;rw[hm]at dh;have CH:=ag (fun w=>za w ga la cap h (by omega) hh);have hM:=hE.fY.iG.met;have nV:=hM.lt;have CE:=ag (jS (l+1) (max m (l+1)) hM rfl rfl (by omega) (by omega));have e0:=hE.ptr;have e1:=hE.fY.ptr;have e2:=hE.fY.iG.ptr;have HE:=ag hE;obtain⟨K2,xt⟩:∃K2,2*h=K2:=⟨_,rfl⟩;have j1:2*(h:Int)=(K2:Int):=by omega
 have j2:IntKind.i64.wrap (K2:Int)=(K2:Int):=by rw[ao];omega
 have ngt:¬lb<=K2:=by omega
 have Ug:=hI.go;have HI:=ag hI;have HS:=ag hS;have HD:=ag hD;have HR:=ag hR;have IG:=ag kV;have h3:la<=3*h:=by omega
 have h3':lb<=3*h:=by omega
 have RF:2*h<la:=by omega
 have h1:0<h:=by omega
 clear hE hM hI hS hD hR kV hh hn hm _ng _nt _nk _ne _hbD _hbD'
 go_enter_defers Tryz.func138,Tryz.ntmps138
 go_wp2_with fail
 refine(ae CH _).mono ?_;rintro e w1 ⟨rfl,DX⟩;obtain rfl:=DX.symm;clear DX CH
 go_wp2_with fail
 refine(ae CE).mono ?_;rintro e w1 ⟨rfl,M1,T1⟩;have K1:=(ae HE).step M1 T1;have r1:=(ae HR).iy (ae HE).fY.iG.met T1;have XL:=(ae IG).iy (ae HE).fY.iG.met T1;have e0:=K1.ptr;have e1:=K1.fY.ptr;have e2:=K1.fY.iG.ptr;have s1:=T1.grown.size;have O1:=ag (Out.bX T1.grown);clear CE M1 T1;obtain⟨a0,q0⟩:∃a0,a0=aB xs%18446744073709551616^h:=⟨_,rfl⟩;obtain⟨a1,q1⟩:∃a1,a1=aB xs/18446744073709551616^h%18446744073709551616^h:=⟨_,rfl⟩;obtain⟨a2,q2⟩:∃a2,a2=aB xs/18446744073709551616^h/18446744073709551616^h:=⟨_,rfl⟩;obtain⟨b0,q0'⟩:∃b0,b0=aB ys%18446744073709551616^h:=⟨_,rfl⟩;obtain⟨b1,q1'⟩:∃b1,b1=aB ys/18446744073709551616^h%18446744073709551616^h:=⟨_,rfl⟩;obtain⟨b2,q2'⟩:∃b2,b2=aB ys/18446744073709551616^h/18446744073709551616^h:=⟨_,rfl⟩;have CV:=ag (ud w1 _ _ _ _ _ h xs a0 a1 a2 jw fA h1 RF h3 r1 mB q0 q1 q2);have Zs:=ag (fun W (bb:Below w1.heap.size w1 W)=>ud W _ _ _ _ _ h ys b0 b1 b2 kt kl h1 dh h3' (XL.next bb) vm q0' q1' q2');clear r1 XL
 go_wp2_with fail
 refine(ae CV).mono ?_;rintro e w2 ⟨v2,rfl,p2,ZT⟩;have Zs:=ag (ae Zs _ ZT);clear CV
 go_wp2_with fail
 refine(ae Zs).mono ?_;rintro e w3 ⟨v3,rfl,p3,My⟩;obtain⟨g0,g1,g2,g3,g4,z0,z1,z2,z3,z4,rfl,t0,t1,t2,t3,t4⟩:=p2.out;obtain⟨sD,sE,sF,Gq,Gr,Uw,z1',z2',z3',z4',rfl,Ls,Il,Im,Am,Io⟩:=p3.out;have s2:=ZT.size;have t0:=t0.next My;have t1:=t1.next My;have t2:=t2.next My;have t3:=t3.next My;have t4:=t4.next My;have Ls:=Ls.mono s2;have Il:=Il.mono s2;have Im:=Im.mono s2;have Am:=Am.mono s2;have Io:=Io.mono s2;have b3:=aJ ZT My;have s3:=b3.size;have O3:=ag ((ae O1).next b3);have K3:=K1.next b3;clear p2 p3 e0 e1 e2 Zs ZT My;obtain⟨H1,lV⟩:∃H1,h+1=H1:=⟨_,rfl⟩;obtain⟨n1,qH⟩:∃n1,la-2*h=n1:=⟨_,rfl⟩;obtain⟨m1,ox⟩:∃m1,lb-2*h=m1:=⟨_,rfl⟩;rw[lV,qH,ox];rw[lV]at t1 t2 t3 Il Im Am;rw[qH]at t4;rw[ox]at Io;have OH:=Bt a0 a1 a2 b0 b1 b2
 -- mark
 generalize decide (a0+a2<a1)=ba at *;generalize decide (b0+b2<b1)=bb at *;obtain⟨bz,hbz⟩:∃bz,(!(ba==bb))=bz:=⟨_,rfl⟩;have OH:zX (!(ba==bb)) _ _ _ _ _ _ _ _:=OH;rw[hbz]at OH;have bB:Below w3.heap.size w3 (((w3.alloc (.cells #[.slice (some ⟨g0,0,none⟩) h h,.slice (some ⟨g1,0,none⟩) H1 H1,.slice (some ⟨g2,0,none⟩) H1 H1,.slice (some ⟨g3,0,none⟩) H1 H1,.slice (some ⟨g4,0,none⟩) n1 n1,.bool ba] 201)).alloc (.cells #[.slice (some ⟨sD,0,none⟩) h h,.slice (some ⟨sE,0,none⟩) H1 H1,.slice (some ⟨sF,0,none⟩) H1 H1,.slice (some ⟨Gq,0,none⟩) H1 H1,.slice (some ⟨Gr,0,none⟩) m1 m1,.bool bb] 201)).alloc (.cells #[.slice none 0 0,.slice none 0 0,.slice none 0 0,.slice none 0 0,.slice none 0 0,.bool bz] 201)):=(((aj _ _).alloc (af _) _).alloc (by simp) _).alloc (by simp;omega) _;obtain⟨kX,kY,kZ⟩:=Mx w3 (.cells #[.slice (some ⟨g0,0,none⟩) h h,.slice (some ⟨g1,0,none⟩) H1 H1,.slice (some ⟨g2,0,none⟩) H1 H1,.slice (some ⟨g3,0,none⟩) H1 H1,.slice (some ⟨g4,0,none⟩) n1 n1,.bool ba] 201) (.cells #[.slice (some ⟨sD,0,none⟩) h h,.slice (some ⟨sE,0,none⟩) H1 H1,.slice (some ⟨sF,0,none⟩) H1 H1,.slice (some ⟨Gq,0,none⟩) H1 H1,.slice (some ⟨Gr,0,none⟩) m1 m1,.bool bb] 201) (.cells #[.slice none 0 0,.slice none 0 0,.slice none 0 0,.slice none 0 0,.slice none 0 0,.bool bz] 201);have sB:(((w3.alloc (.cells #[.slice (some ⟨g0,0,none⟩) h h,.slice (some ⟨g1,0,none⟩) H1 H1,.slice (some ⟨g2,0,none⟩) H1 H1,.slice (some ⟨g3,0,none⟩) H1 H1,.slice (some ⟨g4,0,none⟩) n1 n1,.bool ba] 201)).alloc (.cells #[.slice (some ⟨sD,0,none⟩) h h,.slice (some ⟨sE,0,none⟩) H1 H1,.slice (some ⟨sF,0,none⟩) H1 H1,.slice (some ⟨Gq,0,none⟩) H1 H1,.slice (some ⟨Gr,0,none⟩) m1 m1,.bool bb] 201)).alloc (.cells #[.slice none 0 0,.slice none 0 0,.slice none 0 0,.slice none 0 0,.slice none 0 0,.bool bz] 201)).heap.size=w3.heap.size+1+1+1:=by simp
 obtain⟨W0,GA⟩:∃W0,((w3.alloc (.cells #[.slice (some ⟨g0,0,none⟩) h h,.slice (some ⟨g1,0,none⟩) H1 H1,.slice (some ⟨g2,0,none⟩) H1 H1,.slice (some ⟨g3,0,none⟩) H1 H1,.slice (some ⟨g4,0,none⟩) n1 n1,.bool ba] 201)).alloc (.cells #[.slice (some ⟨sD,0,none⟩) h h,.slice (some ⟨sE,0,none⟩) H1 H1,.slice (some ⟨sF,0,none⟩) H1 H1,.slice (some ⟨Gq,0,none⟩) H1 H1,.slice (some ⟨Gr,0,none⟩) m1 m1,.bool bb] 201)).alloc (.cells #[.slice none 0 0,.slice none 0 0,.slice none 0 0,.slice none 0 0,.slice none 0 0,.bool bz] 201)=W0:=⟨_,rfl⟩;rw[GA]at bB kX kY kZ sB;obtain⟨X,hX⟩:∃X,w3.heap.size=X:=⟨_,rfl⟩;rw[hX]at kX kY kZ sB;have sW:=bB.size;have l0:g0<X:=by rw[<-hX];exact t0.kM.lt
 have l1:g1<X:=by rw[<-hX];exact t1.kM.lt
 have l2:g2<X:=by rw[<-hX];exact t2.kM.lt
 have l3:g3<X:=by rw[<-hX];exact t3.kM.lt
 have l4:g4<X:=by rw[<-hX];exact t4.kM.lt
 have t0:=t0.next bB;have t1:=t1.next bB;have t2:=t2.next bB;have t3:=t3.next bB;have t4:=t4.next bB;have y0:=t0.ge;have y1:=t1.ge;have y2:=t2.ge;have y3:=t3.ge;have y4:=t4.ge;have l0':sD<X:=by rw[<-hX];exact Ls.kM.lt
 have l1':sE<X:=by rw[<-hX];exact Il.kM.lt
 have l2':sF<X:=by rw[<-hX];exact Im.kM.lt
 have l3':Gq<X:=by rw[<-hX];exact Am.kM.lt
 have l4':Gr<X:=by rw[<-hX];exact Io.kM.lt
 have Ls:=Ls.next bB;have Il:=Il.next bB;have Im:=Im.next bB;have Am:=Am.next bB;have Io:=Io.next bB;have y0':=Ls.ge;have y1':=Il.ge;have y2':=Im.ge;have y3':=Am.ge;have y4':=Io.ge;have O3:=ag ((ae O3).next bB);have S0:=ag (ae HS _ (ae O3) (K3.next bB));have DN:∀q,w.heap.size<=q->¬(D q\/q=g):=fun q hq x=>by
  rcases x with x|x
  ·have:=ae HD q x;omega
  ·omega
 have sS:Hid (¬(D (X+1+1)\/X+1+1=g)):=DN _ (by omega);have Eo:Hid (∀q,(D q\/q=g)\/q=X+1+1->q<X+1+1+1):=fun q x=>by
  rcases x with(x|x)|x
  ·have:=ae HD q x;omega
  ·omega
  ·omega
 have Dz:Hid (w.heap.size<=X+1+1):=by show _<=_;omega
 have uZ:=ag ((ae HI).next);have HN:Hid (∀q,w.heap.size<=q->q<X+1+1->¬((D q\/q=g)\/q=X+1+1)):=fun q hq hz x=>by
  rcases x with x|x
  ·exact DN q hq x
  ·omega
 have LY:Hid (∀W,Out (fun j=>(D j\/j=g)\/j=X+1+1) W0 W->W.cell? ⟨X,0,none⟩=some (.slice (some ⟨g0,0,none⟩) h h)):=fun W q=>ay _ X 0 _ _ (0,0) ((q.block X (ah.1 kX).1 (ae HN _ (by omega) (by omega))).trans kX);have OK:Hid (∀W,Out (fun j=>(D j\/j=g)\/j=X+1+1) W0 W->W.cell? ⟨X+1,0,none⟩=some (.slice (some ⟨sD,0,none⟩) h h)):=fun W q=>ay _ (X+1) 0 _ _ (0,0) ((q.block (X+1) (ah.1 kY).1 (ae HN _ (by omega) (by omega))).trans kY);have I5:Hid (∀W,Out (fun j=>(D j\/j=g)\/j=X+1+1) W0 W->W.cell? ⟨X,1,none⟩=some (.slice (some ⟨g1,0,none⟩) H1 H1)):=fun W q=>ay _ X 1 _ _ (0,0) ((q.block X (ah.1 kX).1 (ae HN _ (by omega) (by omega))).trans kX);have HY1:Hid (∀W,Out (fun j=>(D j\/j=g)\/j=X+1+1) W0 W->W.cell? ⟨X+1,1,none⟩=some (.slice (some ⟨sE,0,none⟩) H1 H1)):=fun W q=>ay _ (X+1) 1 _ _ (0,0) ((q.block (X+1) (ah.1 kY).1 (ae HN _ (by omega) (by omega))).trans kY);have I6:Hid (∀W,Out (fun j=>(D j\/j=g)\/j=X+1+1) W0 W->W.cell? ⟨X,2,none⟩=some (.slice (some ⟨g2,0,none⟩) H1 H1)):=fun W q=>ay _ X 2 _ _ (0,0) ((q.block X (ah.1 kX).1 (ae HN _ (by omega) (by omega))).trans kX);have HY2:Hid (∀W,Out (fun j=>(D j\/j=g)\/j=X+1+1) W0 W->W.cell? ⟨X+1,2,none⟩=some (.slice (some ⟨sF,0,none⟩) H1 H1)):=fun W q=>ay _ (X+1) 2 _ _ (0,0) ((q.block (X+1) (ah.1 kY).1 (ae HN _ (by omega) (by omega))).trans kY);have Y6:Hid (∀W,Out (fun j=>(D j\/j=g)\/j=X+1+1) W0 W->W.cell? ⟨X,3,none⟩=some (.slice (some ⟨g3,0,none⟩) H1 H1)):=fun W q=>ay _ X 3 _ _ (0,0) ((q.block X (ah.1 kX).1 (ae HN _ (by omega) (by omega))).trans kX);have HY3:Hid (∀W,Out (fun j=>(D j\/j=g)\/j=X+1+1) W0 W->W.cell? ⟨X+1,3,none⟩=some (.slice (some ⟨Gq,0,none⟩) H1 H1)):=fun W q=>ay _ (X+1) 3 _ _ (0,0) ((q.block (X+1) (ah.1 kY).1 (ae HN _ (by omega) (by omega))).trans kY);have Y8:Hid (∀W,Out (fun j=>(D j\/j=g)\/j=X+1+1) W0 W->W.cell? ⟨X,4,none⟩=some (.slice (some ⟨g4,0,none⟩) n1 n1)):=fun W q=>ay _ X 4 _ _ (0,0) ((q.block X (ah.1 kX).1 (ae HN _ (by omega) (by omega))).trans kX);have HY4:Hid (∀W,Out (fun j=>(D j\/j=g)\/j=X+1+1) W0 W->W.cell? ⟨X+1,4,none⟩=some (.slice (some ⟨Gr,0,none⟩) m1 m1)):=fun W q=>ay _ (X+1) 4 _ _ (0,0) ((q.block (X+1) (ah.1 kY).1 (ae HN _ (by omega) (by omega))).trans kY);have Q0:Hid (∀W,Out (fun j=>(D j\/j=g)\/j=X+1+1) W0 W->St 0 W->Calls Tryz.prog k (fs++(#[.slice (some ⟨g0,0,none⟩) h h,.slice (some ⟨sD,0,none⟩) h h]++cs)) W fun e W'=>∃r,e=.returned r/\ft (X+1+1+1) W' r (a0*b0)/\St 1 W'/\Out (fun j=>D j\/j=g) W W'):=fun W q st=>by have sz:=q.size;rw[<-ck];refine((ae HI).call 0 W _ _ _ _ (by omega) st (by rw[show(me la lb h 0).1=h from rfl];exact t0.Ah q (ae HN _ (by omega) (by omega)) (DN _ (by omega))) (by rw[show(me la lb h 0).2=h from rfl];exact Ls.Ah q (ae HN _ (by omega) (by omega)) (DN _ (by omega)))).mono ?_;rintro e W' ⟨r,rfl,n,kg,q'⟩;exact⟨r,rfl,n.mono (by omega),kg,q'⟩
 have Q1:Hid (∀W,Out (fun j=>(D j\/j=g)\/j=X+1+1) W0 W->St 1 W->Calls Tryz.prog k (fs++(#[.slice (some ⟨g1,0,none⟩) H1 H1,.slice (some ⟨sE,0,none⟩) H1 H1]++cs)) W fun e W'=>∃r,e=.returned r/\ft (X+1+1+1) W' r ((a0+a1+a2)*(b0+b1+b2))/\St 2 W'/\Out (fun j=>D j\/j=g) W W'):=fun W q st=>by have sz:=q.size;rw[<-ck];refine((ae HI).call 1 W _ _ _ _ (by omega) st (by rw[show(me la lb h 1).1=H1 from lV];exact t1.Ah q (ae HN _ (by omega) (by omega)) (DN _ (by omega))) (by rw[show(me la lb h 1).2=H1 from lV];exact Il.Ah q (ae HN _ (by omega) (by omega)) (DN _ (by omega)))).mono ?_;rintro e W' ⟨r,rfl,n,kg,q'⟩;exact⟨r,rfl,n.mono (by omega),kg,q'⟩
 have Q2:Hid (∀W,Out (fun j=>(D j\/j=g)\/j=X+1+1) W0 W->St 2 W->Calls Tryz.prog k (fs++(#[.slice (some ⟨g2,0,none⟩) H1 H1,.slice (some ⟨sF,0,none⟩) H1 H1]++cs)) W fun e W'=>∃r,e=.returned r/\ft (X+1+1+1) W' r (nd (a0+a2) a1*nd (b0+b2) b1)/\St 3 W'/\Out (fun j=>D j\/j=g) W W'):=fun W q st=>by have sz:=q.size;rw[<-ck];refine((ae HI).call 2 W _ _ _ _ (by omega) st (by rw[show(me la lb h 2).1=H1 from lV];exact t2.Ah q (ae HN _ (by omega) (by omega)) (DN _ (by omega))) (by rw[show(me la lb h 2).2=H1 from lV];exact Im.Ah q (ae HN _ (by omega) (by omega)) (DN _ (by omega)))).mono ?_;rintro e W' ⟨r,rfl,n,kg,q'⟩;exact⟨r,rfl,n.mono (by omega),kg,q'⟩
 have Q3:Hid (∀W,Out (fun j=>(D j\/j=g)\/j=X+1+1) W0 W->St 3 W->Calls Tryz.prog k (fs++(#[.slice (some ⟨g3,0,none⟩) H1 H1,.slice (some ⟨Gq,0,none⟩) H1 H1]++cs)) W fun e W'=>∃r,e=.returned r/\ft (X+1+1+1) W' r ((a0+2*a1+4*a2)*(b0+2*b1+4*b2))/\St 4 W'/\Out (fun j=>D j\/j=g) W W'):=fun W q st=>by have sz:=q.size;rw[<-ck];refine((ae HI).call 3 W _ _ _ _ (by omega) st (by rw[show(me la lb h 3).1=H1 from lV];exact t3.Ah q (ae HN _ (by omega) (by omega)) (DN _ (by omega))) (by rw[show(me la lb h 3).2=H1 from lV];exact Am.Ah q (ae HN _ (by omega) (by omega)) (DN _ (by omega)))).mono ?_;rintro e W' ⟨r,rfl,n,kg,q'⟩;exact⟨r,rfl,n.mono (by omega),kg,q'⟩
 have Q4:Hid (∀W,Out (fun j=>(D j\/j=g)\/j=X+1+1) W0 W->St 4 W->Calls Tryz.prog k (fs++(#[.slice (some ⟨g4,0,none⟩) n1 n1,.slice (some ⟨Gr,0,none⟩) m1 m1]++cs)) W fun e W'=>∃r,e=.returned r/\ft (X+1+1+1) W' r (a2*b2)/\St 5 W'/\Out (fun j=>D j\/j=g) W W'):=fun W q st=>by have sz:=q.size;rw[<-ck];refine((ae HI).call 4 W _ _ _ _ (by omega) st (by rw[show(me la lb h 4).1=n1 from qH];exact t4.Ah q (ae HN _ (by omega) (by omega)) (DN _ (by omega))) (by rw[show(me la lb h 4).2=m1 from ox];exact Io.Ah q (ae HN _ (by omega) (by omega)) (DN _ (by omega)))).mono ?_;rintro e W' ⟨r,rfl,n,kg,q'⟩;exact⟨r,rfl,n.mono (by omega),kg,q'⟩
 have R0:Hid (mY (X+1+1+1) D g (X+1+1) bz St W0 W0 0 (.slice none 0 0) (.slice none 0 0) (.slice none 0 0) (.slice none 0 0) (.slice none 0 0) (a0*b0) ((a0+a1+a2)*(b0+b1+b2)) (nd (a0+a2) a1*nd (b0+b2) b1) ((a0+2*a1+4*a2)*(b0+2*b1+4*b2)) (a2*b2)):=⟨ae S0,kZ,Out.refl _ _,fun h=>absurd h (by decide),fun h=>absurd h (by decide),fun h=>absurd h (by decide),fun h=>absurd h (by decide),fun h=>absurd h (by decide)⟩;have CJ:Hid (∀W u0 u1 u2 u3 u4,fI W u0 (a0*b0)->fI W u1 ((a0+a1+a2)*(b0+b1+b2))->fI W u2 (nd (a0+a2) a1*nd (b0+b2) b1)->fI W u3 ((a0+2*a1+4*a2)*(b0+2*b1+4*b2))->fI W u4 (a2*b2)->Calls Tryz.prog 160 #[.agg #[u0,u1,u2,u3,u4,.bool bz],.int .i64 (h:Int)] W fun e w'=>∃r,e=.returned r/\aU W.heap.size w' r (Ik h (a0*b0) (a0*b1+a1*b0) (a0*b2+a1*b1+a2*b0) (a1*b2+a2*b1) (a2*b2))/\Below W.heap.size W w'):=fun W u0 u1 u2 u3 u4 i0 i1 i2 i3 i4=>zn W u0 u1 u2 u3 u4 bz _ _ _ _ _ _ _ _ h (h+1+(h+1)+1) (by omega) (by omega) OH (zl (by rw[<-t3.val];have:=bF t3.MK;rw[t3.len, <-lV]at this;exact this) (by rw[<-Am.val];have:=bF Am.MK;rw[Am.len, <-lV]at this;exact this)) i0 i1 i2 i3 i4;have HV:=ag (Dg h (aB xs) (aB ys) a0 a1 a2 b0 b1 b2 q0 q1 q2 q0' q1' q2');have HF:Hid (∀i,(D i\/i=g)\/i=X+1+1->(D i\/i=g)\/w.heap.size<=i):=fun i x=>by
  rcases x with x|x
  ·exact Or.inl x
  ·exact Or.inr (by omega)
 have Ia:Hid (w.heap.size<=W0.heap.size):=by show _<=_;omega
 have sW1:Hid (X+1+1+1<=W0.heap.size):=by show _<=_;omega
 have uF:=ag vn;have Ng:=ag qk;clear HS HD HR IG HE S0 O1 K3 K1 DN HN kX kY kZ bB b3 t0 t1 t2 t3 t4 l0 l1 l2 l3 l4 y0 y1 y2 y3 y4 Ls Il Im Am Io l0' l1' l2' l3' l4' y0' y1' y2' y3' y4' OH q0 q1 q2 q0' q1' q2' s1 s2 s3 sW sB lV qH ox vn qk h1 h3 h3' dh RF nV xt fA kl jw kt mB vm;generalize a0*b0=P0 at *;generalize (a0+a1+a2)*(b0+b1+b2)=P1 at *;generalize nd (a0+a2) a1*nd (b0+b2) b1=P2 at *;generalize (a0+2*a1+4*a2)*(b0+2*b1+4*b2)=P3 at *;generalize a2*b2=P4 at *;go_wp2;clear GA
 go_loopw [66] (fun iv wr=>∃(i:Nat) (v0 v1 v2 v3 v4:Value),i<=5/\iv=.int .i64 (i:Int)/\mY (X+1+1+1) D g (X+1+1) bz St W0 wr i v0 v1 v2 v3 v4 P0 P1 P2 P3 P4) (fun iv _=>5-(intOf iv).toNat)
 case atStart=>exact⟨0,_,_,_,_,_,by decide,rfl,ae R0⟩
 case round=>
  clear R0;obtain⟨i,v0,v1,v2,v3,v4,hi,rfl,hr⟩:=hrel;have hi6:i=0\/i=1\/i=2\/i=3\/i=4\/i=5:=by omega
  clear hi;rcases hi6 with rfl|rfl|rfl|rfl|rfl|rfl
  ·have hd:=hr.drew (ae uZ);have cx:=ae LY _ hr.out;have cy:=ae OK _ hr.out;have od:=hd.out;have HK:Hid (∀W,Out (fun j=>(D j\/j=g)\/j=X+1+1) W0 W->W.cell? ⟨X,0,none⟩=some (.slice (some ⟨g0,0,none⟩) h h)/\W.cell? ⟨X+1,0,none⟩=some (.slice (some ⟨sD,0,none⟩) h h)):=fun W q=>⟨ae LY W q,ae OK W q⟩;have CC:=ag (ae Q0 _ hd.out hd.st);have kC:=ag hd;clear hr hd;go_wp2
   go_region_held3 (fun w'=>w'.cell? ⟨X,0,none⟩=some (.slice (some ⟨g0,0,none⟩) h h)/\w'.cell? ⟨X+1,0,none⟩=some (.slice (some ⟨sD,0,none⟩) h h)) (first|(with_reducible exact ae HK _ od)|(with_reducible exact ae HK _ ow)|(with_reducible exact ae HK _ (ae R5).out)|go_keep) (first
    |(with_reducible refine(ae CC).mono ?_;rintro e w5 ⟨r,rfl,nr,pO,o5⟩;obtain⟨sa,sn,sc,rfl⟩:=nr.gE.is;have Z5:=(ae kC).qy o5 (ae sS);have cz:=OX Z5;have fz:=Z5.frozen 0;have R5:=ag ((ae kC).Yd (ae uZ) (ae Dz) (ae sS) (ae Eo) nr pO o5);have ow:=od.trans (o5.mono (fun k e=>Or.inl e));clear nr pO o5 Z5 cx cy;obtain⟨cx,cy⟩:=ae HK _ ow)
    |fail)
   all_goals
    focus
     clear CC kC cx cy od ow HK;go_wp2
     go_roundw
     case rel=>exact⟨1,_,_,_,_,_,by decide,rfl,ae R5⟩
     case measure=>simp[intOf]
  ·have hd:=hr.drew (ae uZ);have cx:=ae I5 _ hr.out;have cy:=ae HY1 _ hr.out;have od:=hd.out;have HK:Hid (∀W,Out (fun j=>(D j\/j=g)\/j=X+1+1) W0 W->W.cell? ⟨X,1,none⟩=some (.slice (some ⟨g1,0,none⟩) H1 H1)/\W.cell? ⟨X+1,1,none⟩=some (.slice (some ⟨sE,0,none⟩) H1 H1)):=fun W q=>⟨ae I5 W q,ae HY1 W q⟩;have CC:=ag (ae Q1 _ hd.out hd.st);have kC:=ag hd;clear hr hd;go_wp2
   go_region_held3 (fun w'=>w'.cell? ⟨X,1,none⟩=some (.slice (some ⟨g1,0,none⟩) H1 H1)/\w'.cell? ⟨X+1,1,none⟩=some (.slice (some ⟨sE,0,none⟩) H1 H1)) (first|(with_reducible exact ae HK _ od)|(with_reducible exact ae HK _ ow)|(with_reducible exact ae HK _ (ae R5).out)|go_keep) (first
    |(with_reducible refine(ae CC).mono ?_;rintro e w5 ⟨r,rfl,nr,pO,o5⟩;obtain⟨sa,sn,sc,rfl⟩:=nr.gE.is;have Z5:=(ae kC).qy o5 (ae sS);have cz:=OY Z5;have fz:=Z5.frozen 1;have R5:=ag ((ae kC).Ye (ae uZ) (ae Dz) (ae sS) (ae Eo) nr pO o5);have ow:=od.trans (o5.mono (fun k e=>Or.inl e));clear nr pO o5 Z5 cx cy;obtain⟨cx,cy⟩:=ae HK _ ow)
    |fail)
   all_goals
    focus
     clear CC kC cx cy od ow HK;go_wp2
     go_roundw
     case rel=>exact⟨2,_,_,_,_,_,by decide,rfl,ae R5⟩
     case measure=>simp[intOf]
  ·have hd:=hr.drew (ae uZ);have cx:=ae I6 _ hr.out;have cy:=ae HY2 _ hr.out;have od:=hd.out;have HK:Hid (∀W,Out (fun j=>(D j\/j=g)\/j=X+1+1) W0 W->W.cell? ⟨X,2,none⟩=some (.slice (some ⟨g2,0,none⟩) H1 H1)/\W.cell? ⟨X+1,2,none⟩=some (.slice (some ⟨sF,0,none⟩) H1 H1)):=fun W q=>⟨ae I6 W q,ae HY2 W q⟩;have CC:=ag (ae Q2 _ hd.out hd.st);have kC:=ag hd;clear hr hd;go_wp2
   go_region_held3 (fun w'=>w'.cell? ⟨X,2,none⟩=some (.slice (some ⟨g2,0,none⟩) H1 H1)/\w'.cell? ⟨X+1,2,none⟩=some (.slice (some ⟨sF,0,none⟩) H1 H1)) (first|(with_reducible exact ae HK _ od)|(with_reducible exact ae HK _ ow)|(with_reducible exact ae HK _ (ae R5).out)|go_keep) (first
    |(with_reducible refine(ae CC).mono ?_;rintro e w5 ⟨r,rfl,nr,pO,o5⟩;obtain⟨sa,sn,sc,rfl⟩:=nr.gE.is;have Z5:=(ae kC).qy o5 (ae sS);have cz:=OZ Z5;have fz:=Z5.frozen 2;have R5:=ag ((ae kC).Yf (ae uZ) (ae Dz) (ae sS) (ae Eo) nr pO o5);have ow:=od.trans (o5.mono (fun k e=>Or.inl e));clear nr pO o5 Z5 cx cy;obtain⟨cx,cy⟩:=ae HK _ ow)
    |fail)
   all_goals
    focus
     clear CC kC cx cy od ow HK;go_wp2
     go_roundw
     case rel=>exact⟨3,_,_,_,_,_,by decide,rfl,ae R5⟩
     case measure=>simp[intOf]
  ·have hd:=hr.drew (ae uZ);have cx:=ae Y6 _ hr.out;have cy:=ae HY3 _ hr.out;have od:=hd.out;have HK:Hid (∀W,Out (fun j=>(D j\/j=g)\/j=X+1+1) W0 W->W.cell? ⟨X,3,none⟩=some (.slice (some ⟨g3,0,none⟩) H1 H1)/\W.cell? ⟨X+1,3,none⟩=some (.slice (some ⟨Gq,0,none⟩) H1 H1)):=fun W q=>⟨ae Y6 W q,ae HY3 W q⟩;have CC:=ag (ae Q3 _ hd.out hd.st);have kC:=ag hd;clear hr hd;go_wp2
   go_region_held3 (fun w'=>w'.cell? ⟨X,3,none⟩=some (.slice (some ⟨g3,0,none⟩) H1 H1)/\w'.cell? ⟨X+1,3,none⟩=some (.slice (some ⟨Gq,0,none⟩) H1 H1)) (first|(with_reducible exact ae HK _ od)|(with_reducible exact ae HK _ ow)|(with_reducible exact ae HK _ (ae R5).out)|go_keep) (first
    |(with_reducible refine(ae CC).mono ?_;rintro e w5 ⟨r,rfl,nr,pO,o5⟩;obtain⟨sa,sn,sc,rfl⟩:=nr.gE.is;have Z5:=(ae kC).qy o5 (ae sS);have cz:=O2 Z5;have fz:=Z5.frozen 3;have R5:=ag ((ae kC).Yg (ae uZ) (ae Dz) (ae sS) (ae Eo) nr pO o5);have ow:=od.trans (o5.mono (fun k e=>Or.inl e));clear nr pO o5 Z5 cx cy;obtain⟨cx,cy⟩:=ae HK _ ow)
    |fail)
   all_goals
    focus
     clear CC kC cx cy od ow HK;go_wp2
     go_roundw
     case rel=>exact⟨4,_,_,_,_,_,by decide,rfl,ae R5⟩
     case measure=>simp[intOf]
  ·have hd:=hr.drew (ae uZ);have cx:=ae Y8 _ hr.out;have cy:=ae HY4 _ hr.out;have od:=hd.out;have HK:Hid (∀W,Out (fun j=>(D j\/j=g)\/j=X+1+1) W0 W->W.cell? ⟨X,4,none⟩=some (.slice (some ⟨g4,0,none⟩) n1 n1)/\W.cell? ⟨X+1,4,none⟩=some (.slice (some ⟨Gr,0,none⟩) m1 m1)):=fun W q=>⟨ae Y8 W q,ae HY4 W q⟩;have CC:=ag (ae Q4 _ hd.out hd.st);have kC:=ag hd;clear hr hd;go_wp2
   go_region_held3 (fun w'=>w'.cell? ⟨X,4,none⟩=some (.slice (some ⟨g4,0,none⟩) n1 n1)/\w'.cell? ⟨X+1,4,none⟩=some (.slice (some ⟨Gr,0,none⟩) m1 m1)) (first|(with_reducible exact ae HK _ od)|(with_reducible exact ae HK _ ow)|(with_reducible exact ae HK _ (ae R5).out)|go_keep) (first
    |(with_reducible refine(ae CC).mono ?_;rintro e w5 ⟨r,rfl,nr,pO,o5⟩;obtain⟨sa,sn,sc,rfl⟩:=nr.gE.is;have Z5:=(ae kC).qy o5 (ae sS);have cz:=O4 Z5;have fz:=Z5.frozen 4;have R5:=ag ((ae kC).Yh (ae uZ) (ae Dz) (ae sS) (ae Eo) nr pO o5);have ow:=od.trans (o5.mono (fun k e=>Or.inl e));clear nr pO o5 Z5 cx cy;obtain⟨cx,cy⟩:=ae HK _ ow)
    |fail)
   all_goals
    focus
     clear CC kC cx cy od ow HK;go_wp2
     go_roundw
     case rel=>exact⟨5,_,_,_,_,_,by decide,rfl,ae R5⟩
     case measure=>simp[intOf]
  ·have c0:wr.cell? ⟨X+1+1,0,none⟩=some v0:=hr.box.cell 0 (by simp);have c1:wr.cell? ⟨X+1+1,1,none⟩=some v1:=hr.box.cell 1 (by simp);have c2:wr.cell? ⟨X+1+1,2,none⟩=some v2:=hr.box.cell 2 (by simp);have c3:wr.cell? ⟨X+1+1,3,none⟩=some v3:=hr.box.cell 3 (by simp);have c4:wr.cell? ⟨X+1+1,4,none⟩=some v4:=hr.box.cell 4 (by simp);have c5:wr.cell? ⟨X+1+1,5,none⟩=some (.bool bz):=hr.box.cell 5 (by simp);have CJ:=ag (ae CJ wr v0 v1 v2 v3 v4 (hr.r0 (by decide)).gE (hr.r1 (by decide)).gE (hr.r2 (by decide)).gE (hr.r3 (by decide)).gE (hr.r4 (by decide)).gE);have ST:=ag hr.st;have OW:=ag hr.out;clear hr Q0 Q1 Q2 Q3 Q4 LY I5 I6 Y6 Y8 OK HY1 HY2 HY3 HY4 sS Dz
   go_wp2_with fail
   refine(ae CJ).mono ?_;rintro e w8 ⟨r8,rfl,n8,b8⟩;have Dd:=ae uZ 5 wr w8 (ae ST) (Out.bQ b8);obtain⟨s8,m8,K8⟩:=(ae HI).iG 5 w8 Dd;rw[ae HV]at n8;have UO:=ag Dd;have M8:=ag K8.fY.iG.met;have OA:=ag ((((ae O3).mono (fun k e=>Or.inr e)).fresh (ae OW) (ae HF)).next b8);have N8:=ag n8;have SZ:=ag (ak (ae Ia) (ae OW).size);have GL:=ag (az (ae Eo g (Or.inl (Or.inr rfl))) (ak (ae sW1) (ae OW).size));clear n8 Dd K8 HV CJ c0 c1 c2 c3 c4 c5 b8 HI uZ ST OW Ug;go_wp2;refine sm (f:=125) (args:=#[.pointer (some ⟨g,0,none⟩)]) (by simp) (by simp[go_sem]) ?_;refine(hU l .returning (ae M8) (by have:=ae uF;omega) (by have:=ae uF;omega) (by have:=ae Ng;omega)).mono ?_;rintro e u' w9 ⟨rfl,rfl,M9,T9⟩;have O9:=Out.bX T9.grown;refine⟨_,gG rfl _ _ _,r8,w8,rfl,?_,ae UO,O9,?_,?_⟩
   ·exact(O9.mb (ae N8) (fun k e=>by rw[e];exact ae GL)).mono (ae SZ)
   ·intro s' m' K;obtain⟨rfl,_,rfl⟩:=K.fY.iG.met.one (ae M8);exact K.step M9 T9
   ·exact(ae OA).trans (O9.mono (fun k e=>Or.inr e))
theorem Ts:QG:=by
 intro w gt gk ge g s l m T ga b o cap la h xs k fs cs D St hE vn qk jw hR mB hbD fA hh dh nt nk ne ng hD hI hS;have CH:=ag (fun w=>za w ga la cap h (by omega) hh);have hM:=hE.fY.iG.met;have nV:=hM.lt;have CE:=ag (jS (l+1) (max m (l+1)) hM rfl rfl (by omega) (by omega));have e0:=hE.ptr;have e1:=hE.fY.ptr;have e2:=hE.fY.iG.ptr;have HE:=ag hE;obtain⟨K2,xt⟩:∃K2,2*h=K2:=⟨_,rfl⟩;have j1:2*(h:Int)=(K2:Int):=by omega
 have j2:IntKind.i64.wrap (K2:Int)=(K2:Int):=by rw[ao];omega
 have ngt:¬la<=K2:=by omega
 have Ug:=hI.go;have HI:=ag hI;have HS:=ag hS;have HD:=ag hD;have HR:=ag hR;have h3:la<=3*h:=by omega
 have h1:0<h:=by omega
 clear hE hM hI hS hD hR hh nt nk ne ng hbD
 go_enter_defers Tryz.func131,Tryz.ntmps131
 go_wp2_with fail
 refine(ae CH _).mono ?_;rintro e w1 ⟨rfl,DX⟩;obtain rfl:=DX.symm;clear DX CH
 go_wp2_with fail
 refine(ae CE).mono ?_;rintro e w1 ⟨rfl,M1,T1⟩;have K1:=(ae HE).step M1 T1;have r1:=(ae HR).iy (ae HE).fY.iG.met T1;have e0:=K1.ptr;have e1:=K1.fY.ptr;have e2:=K1.fY.iG.ptr;have s1:=T1.grown.size;have O1:=ag (Out.bX T1.grown);clear CE M1 T1;obtain⟨a0,q0⟩:∃a0,a0=aB xs%18446744073709551616^h:=⟨_,rfl⟩;obtain⟨a1,q1⟩:∃a1,a1=aB xs/18446744073709551616^h%18446744073709551616^h:=⟨_,rfl⟩;obtain⟨a2,q2⟩:∃a2,a2=aB xs/18446744073709551616^h/18446744073709551616^h:=⟨_,rfl⟩;have CV:=ag (ud w1 _ _ _ _ _ h xs a0 a1 a2 jw fA h1 dh h3 r1 mB q0 q1 q2)
 go_wp2_with fail
 refine(ae CV).mono ?_;rintro e w3 ⟨v2,rfl,p2,b3⟩;clear CV;obtain⟨g0,g1,g2,g3,g4,z0,z1,z2,z3,z4,rfl,t0,t1,t2,t3,t4⟩:=p2.out;have s3:=b3.size;have O3:=ag ((ae O1).next b3);have K3:=K1.next b3;clear r1 p2 e0 e1 e2;obtain⟨H1,lV⟩:∃H1,h+1=H1:=⟨_,rfl⟩;obtain⟨n1,qH⟩:∃n1,la-2*h=n1:=⟨_,rfl⟩;rw[lV,qH];rw[lV]at t1 t2 t3;rw[qH]at t4;generalize decide (a0+a2<a1)=bl;have OH:=VR a0 a1 a2;have bb:Below w3.heap.size w3 ((w3.alloc (.cells #[.slice (some ⟨g0,0,none⟩) h h,.slice (some ⟨g1,0,none⟩) H1 H1,.slice (some ⟨g2,0,none⟩) H1 H1,.slice (some ⟨g3,0,none⟩) H1 H1,.slice (some ⟨g4,0,none⟩) n1 n1,.bool bl] 201)).alloc (.cells #[.slice none 0 0,.slice none 0 0,.slice none 0 0,.slice none 0 0,.slice none 0 0,.bool false] 201)):=((aj _ _).alloc (af _) _).alloc (by simp) _;have kX:=(((aj _ _).alloc (af _) (.cells #[.slice none 0 0,.slice none 0 0,.slice none 0 0,.slice none 0 0,.slice none 0 0,.bool false] 201)).block w3.heap.size (by simp)).trans (aI w3 (.cells #[.slice (some ⟨g0,0,none⟩) h h,.slice (some ⟨g1,0,none⟩) H1 H1,.slice (some ⟨g2,0,none⟩) H1 H1,.slice (some ⟨g3,0,none⟩) H1 H1,.slice (some ⟨g4,0,none⟩) n1 n1,.bool bl] 201));have kZ:=aI (w3.alloc (.cells #[.slice (some ⟨g0,0,none⟩) h h,.slice (some ⟨g1,0,none⟩) H1 H1,.slice (some ⟨g2,0,none⟩) H1 H1,.slice (some ⟨g3,0,none⟩) H1 H1,.slice (some ⟨g4,0,none⟩) n1 n1,.bool bl] 201)) (.cells #[.slice none 0 0,.slice none 0 0,.slice none 0 0,.slice none 0 0,.slice none 0 0,.bool false] 201);have sQ:(w3.alloc (.cells #[.slice (some ⟨g0,0,none⟩) h h,.slice (some ⟨g1,0,none⟩) H1 H1,.slice (some ⟨g2,0,none⟩) H1 H1,.slice (some ⟨g3,0,none⟩) H1 H1,.slice (some ⟨g4,0,none⟩) n1 n1,.bool bl] 201)).heap.size=w3.heap.size+1:=by simp
 rw[sQ]at kZ;clear sQ;have sB:((w3.alloc (.cells #[.slice (some ⟨g0,0,none⟩) h h,.slice (some ⟨g1,0,none⟩) H1 H1,.slice (some ⟨g2,0,none⟩) H1 H1,.slice (some ⟨g3,0,none⟩) H1 H1,.slice (some ⟨g4,0,none⟩) n1 n1,.bool bl] 201)).alloc (.cells #[.slice none 0 0,.slice none 0 0,.slice none 0 0,.slice none 0 0,.slice none 0 0,.bool false] 201)).heap.size=w3.heap.size+1+1:=by simp
 obtain⟨W0,GA⟩:∃W0,(w3.alloc (.cells #[.slice (some ⟨g0,0,none⟩) h h,.slice (some ⟨g1,0,none⟩) H1 H1,.slice (some ⟨g2,0,none⟩) H1 H1,.slice (some ⟨g3,0,none⟩) H1 H1,.slice (some ⟨g4,0,none⟩) n1 n1,.bool bl] 201)).alloc (.cells #[.slice none 0 0,.slice none 0 0,.slice none 0 0,.slice none 0 0,.slice none 0 0,.bool false] 201)=W0:=⟨_,rfl⟩;rw[GA]at bb kX kZ sB;obtain⟨X,hX⟩:∃X,w3.heap.size=X:=⟨_,rfl⟩;rw[hX]at kX kZ sB;have sW:=bb.size;have l0:g0<X:=by rw[<-hX];exact t0.kM.lt
 have l1:g1<X:=by rw[<-hX];exact t1.kM.lt
 have l2:g2<X:=by rw[<-hX];exact t2.kM.lt
 have l3:g3<X:=by rw[<-hX];exact t3.kM.lt
 have l4:g4<X:=by rw[<-hX];exact t4.kM.lt
 have t0:=t0.next bb;have t1:=t1.next bb;have t2:=t2.next bb;have t3:=t3.next bb;have t4:=t4.next bb;have y0:=t0.ge;have y1:=t1.ge;have y2:=t2.ge;have y3:=t3.ge;have y4:=t4.ge;have O3:=ag ((ae O3).next bb);have S0:=ag (ae HS _ (ae O3) (K3.next bb));have DN:∀q,w.heap.size<=q->¬(D q\/q=g):=fun q hq x=>by
  rcases x with x|x
  ·have:=ae HD q x;omega
  ·omega
 have sS:Hid (¬(D (X+1)\/X+1=g)):=DN _ (by omega);have Eo:Hid (∀q,(D q\/q=g)\/q=X+1->q<X+1+1):=fun q x=>by
  rcases x with(x|x)|x
  ·have:=ae HD q x;omega
  ·omega
  ·omega
 have Dz:Hid (w.heap.size<=X+1):=by show _<=_;omega
 have uZ:=ag ((ae HI).next);have HN:Hid (∀q,w.heap.size<=q->q<X+1->¬((D q\/q=g)\/q=X+1)):=fun q hq hz x=>by
  rcases x with x|x
  ·exact DN q hq x
  ·omega
 have LY:Hid (∀W,Out (fun j=>(D j\/j=g)\/j=X+1) W0 W->W.cell? ⟨X,0,none⟩=some (.slice (some ⟨g0,0,none⟩) h h)):=fun W q=>ay _ X 0 _ _ (0,0) ((q.block X (ah.1 kX).1 (ae HN _ (by omega) (by omega))).trans kX);have I5:Hid (∀W,Out (fun j=>(D j\/j=g)\/j=X+1) W0 W->W.cell? ⟨X,1,none⟩=some (.slice (some ⟨g1,0,none⟩) H1 H1)):=fun W q=>ay _ X 1 _ _ (0,0) ((q.block X (ah.1 kX).1 (ae HN _ (by omega) (by omega))).trans kX);have I6:Hid (∀W,Out (fun j=>(D j\/j=g)\/j=X+1) W0 W->W.cell? ⟨X,2,none⟩=some (.slice (some ⟨g2,0,none⟩) H1 H1)):=fun W q=>ay _ X 2 _ _ (0,0) ((q.block X (ah.1 kX).1 (ae HN _ (by omega) (by omega))).trans kX);have Y6:Hid (∀W,Out (fun j=>(D j\/j=g)\/j=X+1) W0 W->W.cell? ⟨X,3,none⟩=some (.slice (some ⟨g3,0,none⟩) H1 H1)):=fun W q=>ay _ X 3 _ _ (0,0) ((q.block X (ah.1 kX).1 (ae HN _ (by omega) (by omega))).trans kX);have Y8:Hid (∀W,Out (fun j=>(D j\/j=g)\/j=X+1) W0 W->W.cell? ⟨X,4,none⟩=some (.slice (some ⟨g4,0,none⟩) n1 n1)):=fun W q=>ay _ X 4 _ _ (0,0) ((q.block X (ah.1 kX).1 (ae HN _ (by omega) (by omega))).trans kX);have Q0:Hid (∀W,Out (fun j=>(D j\/j=g)\/j=X+1) W0 W->St 0 W->Calls Tryz.prog k (fs.push (.slice (some ⟨g0,0,none⟩) h h)++cs) W fun e W'=>∃r,e=.returned r/\ft (X+1+1) W' r (a0*a0)/\St 1 W'/\Out (fun j=>D j\/j=g) W W'):=fun W q st=>by have sz:=q.size;rw[ln];refine((ae HI).call 0 W _ _ (by omega) st (by rw[show(me la la h 0).1=h from rfl];exact t0.Ah q (ae HN _ (by omega) (by omega)) (DN _ (by omega)))).mono ?_;rintro e W' ⟨r,rfl,n,kg,q'⟩;exact⟨r,rfl,n.mono (by omega),kg,q'⟩
 have Q1:Hid (∀W,Out (fun j=>(D j\/j=g)\/j=X+1) W0 W->St 1 W->Calls Tryz.prog k (fs.push (.slice (some ⟨g1,0,none⟩) H1 H1)++cs) W fun e W'=>∃r,e=.returned r/\ft (X+1+1) W' r ((a0+a1+a2)*(a0+a1+a2))/\St 2 W'/\Out (fun j=>D j\/j=g) W W'):=fun W q st=>by have sz:=q.size;rw[ln];refine((ae HI).call 1 W _ _ (by omega) st (by rw[show(me la la h 1).1=H1 from lV];exact t1.Ah q (ae HN _ (by omega) (by omega)) (DN _ (by omega)))).mono ?_;rintro e W' ⟨r,rfl,n,kg,q'⟩;exact⟨r,rfl,n.mono (by omega),kg,q'⟩
 have Q2:Hid (∀W,Out (fun j=>(D j\/j=g)\/j=X+1) W0 W->St 2 W->Calls Tryz.prog k (fs.push (.slice (some ⟨g2,0,none⟩) H1 H1)++cs) W fun e W'=>∃r,e=.returned r/\ft (X+1+1) W' r (nd (a0+a2) a1*nd (a0+a2) a1)/\St 3 W'/\Out (fun j=>D j\/j=g) W W'):=fun W q st=>by have sz:=q.size;rw[ln];refine((ae HI).call 2 W _ _ (by omega) st (by rw[show(me la la h 2).1=H1 from lV];exact t2.Ah q (ae HN _ (by omega) (by omega)) (DN _ (by omega)))).mono ?_;rintro e W' ⟨r,rfl,n,kg,q'⟩;exact⟨r,rfl,n.mono (by omega),kg,q'⟩
 have Q3:Hid (∀W,Out (fun j=>(D j\/j=g)\/j=X+1) W0 W->St 3 W->Calls Tryz.prog k (fs.push (.slice (some ⟨g3,0,none⟩) H1 H1)++cs) W fun e W'=>∃r,e=.returned r/\ft (X+1+1) W' r ((a0+2*a1+4*a2)*(a0+2*a1+4*a2))/\St 4 W'/\Out (fun j=>D j\/j=g) W W'):=fun W q st=>by have sz:=q.size;rw[ln];refine((ae HI).call 3 W _ _ (by omega) st (by rw[show(me la la h 3).1=H1 from lV];exact t3.Ah q (ae HN _ (by omega) (by omega)) (DN _ (by omega)))).mono ?_;rintro e W' ⟨r,rfl,n,kg,q'⟩;exact⟨r,rfl,n.mono (by omega),kg,q'⟩
 have Q4:Hid (∀W,Out (fun j=>(D j\/j=g)\/j=X+1) W0 W->St 4 W->Calls Tryz.prog k (fs.push (.slice (some ⟨g4,0,none⟩) n1 n1)++cs) W fun e W'=>∃r,e=.returned r/\ft (X+1+1) W' r (a2*a2)/\St 5 W'/\Out (fun j=>D j\/j=g) W W'):=fun W q st=>by have sz:=q.size;rw[ln];refine((ae HI).call 4 W _ _ (by omega) st (by rw[show(me la la h 4).1=n1 from qH];exact t4.Ah q (ae HN _ (by omega) (by omega)) (DN _ (by omega)))).mono ?_;rintro e W' ⟨r,rfl,n,kg,q'⟩;exact⟨r,rfl,n.mono (by omega),kg,q'⟩
 have R0:Hid (mY (X+1+1) D g (X+1) false St W0 W0 0 (.slice none 0 0) (.slice none 0 0) (.slice none 0 0) (.slice none 0 0) (.slice none 0 0) (a0*a0) ((a0+a1+a2)*(a0+a1+a2)) (nd (a0+a2) a1*nd (a0+a2) a1) ((a0+2*a1+4*a2)*(a0+2*a1+4*a2)) (a2*a2)):=⟨ae S0,kZ,Out.refl _ _,fun h=>absurd h (by decide),fun h=>absurd h (by decide),fun h=>absurd h (by decide),fun h=>absurd h (by decide),fun h=>absurd h (by decide)⟩;have CJ:Hid (∀W u0 u1 u2 u3 u4,fI W u0 (a0*a0)->fI W u1 ((a0+a1+a2)*(a0+a1+a2))->fI W u2 (nd (a0+a2) a1*nd (a0+a2) a1)->fI W u3 ((a0+2*a1+4*a2)*(a0+2*a1+4*a2))->fI W u4 (a2*a2)->Calls Tryz.prog 160 #[.agg #[u0,u1,u2,u3,u4,.bool false],.int .i64 (h:Int)] W fun e w'=>∃r,e=.returned r/\aU W.heap.size w' r (Ik h (a0*a0) (a0*a1+a1*a0) (a0*a2+a1*a1+a2*a0) (a1*a2+a2*a1) (a2*a2))/\Below W.heap.size W w'):=fun W u0 u1 u2 u3 u4 i0 i1 i2 i3 i4=>zn W u0 u1 u2 u3 u4 false _ _ _ _ _ _ _ _ h (h+1+(h+1)+1) (by omega) (by omega) OH (zl (by rw[<-t3.val];have:=bF t3.MK;rw[t3.len, <-lV]at this;exact this) (by rw[<-t3.val];have:=bF t3.MK;rw[t3.len, <-lV]at this;exact this)) i0 i1 i2 i3 i4;have HV:=ag (Dg h (aB xs) (aB xs) a0 a1 a2 a0 a1 a2 q0 q1 q2 q0 q1 q2);have HF:Hid (∀i,(D i\/i=g)\/i=X+1->(D i\/i=g)\/w.heap.size<=i):=fun i x=>by
  rcases x with x|x
  ·exact Or.inl x
  ·exact Or.inr (by omega)
 have Ia:Hid (w.heap.size<=W0.heap.size):=by show _<=_;omega
 have sW1:Hid (X+1+1<=W0.heap.size):=by show _<=_;omega
 have uF:=ag vn;have Ng:=ag qk;clear HS HD HR HE S0 O1 K3 K1 DN HN kX kZ bb b3 t0 t1 t2 t3 t4 l0 l1 l2 l3 l4 y0 y1 y2 y3 y4 OH q0 q1 q2 s1 s3 sW sB lV qH vn qk h1 h3 dh nV xt fA jw mB;generalize a0*a0=P0 at *;generalize (a0+a1+a2)*(a0+a1+a2)=P1 at *;generalize nd (a0+a2) a1*nd (a0+a2) a1=P2 at *;generalize (a0+2*a1+4*a2)*(a0+2*a1+4*a2)=P3 at *;generalize a2*a2=P4 at *;go_wp2;clear GA
 go_loopw [47] (fun iv wr=>∃(i:Nat) (v0 v1 v2 v3 v4:Value),i<=5/\iv=.int .i64 (i:Int)/\mY (X+1+1) D g (X+1) false St W0 wr i v0 v1 v2 v3 v4 P0 P1 P2 P3 P4) (fun iv _=>5-(intOf iv).toNat)
 case atStart=>exact⟨0,_,_,_,_,_,by decide,rfl,ae R0⟩
 case round=>
  clear R0;obtain⟨i,v0,v1,v2,v3,v4,hi,rfl,hr⟩:=hrel;have hi6:i=0\/i=1\/i=2\/i=3\/i=4\/i=5:=by omega
  clear hi;rcases hi6 with rfl|rfl|rfl|rfl|rfl|rfl
  ·have cx:=ae LY _ hr.out;have CC:=ag (ae Q0 _ hr.out hr.st);have kC:=ag hr;clear hr
   go_wp2_with fail
   refine(ae CC).mono ?_;rintro e w5 ⟨r,rfl,nr,pO,o5⟩;obtain⟨sa,sn,sc,rfl⟩:=nr.gE.is;have Z5:=(ae kC).qy o5 (ae sS);have cz:w5.cell? ⟨X+1,0,none⟩=some v0:=Z5.cell 0 (by simp);have fz:=Z5.frozen 0;have R5:=ag ((ae kC).Yd (ae uZ) (ae Dz) (ae sS) (ae Eo) nr pO o5);clear nr pO o5 Z5 CC kC cx;go_wp2
   go_roundw
   case rel=>exact⟨1,_,_,_,_,_,by decide,rfl,ae R5⟩
   case measure=>simp[intOf]
  ·have cx:=ae I5 _ hr.out;have CC:=ag (ae Q1 _ hr.out hr.st);have kC:=ag hr;clear hr
   go_wp2_with fail
   refine(ae CC).mono ?_;rintro e w5 ⟨r,rfl,nr,pO,o5⟩;obtain⟨sa,sn,sc,rfl⟩:=nr.gE.is;have Z5:=(ae kC).qy o5 (ae sS);have cz:w5.cell? ⟨X+1,1,none⟩=some v1:=Z5.cell 1 (by simp);have fz:=Z5.frozen 1;have R5:=ag ((ae kC).Ye (ae uZ) (ae Dz) (ae sS) (ae Eo) nr pO o5);clear nr pO o5 Z5 CC kC cx;go_wp2
   go_roundw
   case rel=>exact⟨2,_,_,_,_,_,by decide,rfl,ae R5⟩
   case measure=>simp[intOf]
  ·have cx:=ae I6 _ hr.out;have CC:=ag (ae Q2 _ hr.out hr.st);have kC:=ag hr;clear hr
   go_wp2_with fail
   refine(ae CC).mono ?_;rintro e w5 ⟨r,rfl,nr,pO,o5⟩;obtain⟨sa,sn,sc,rfl⟩:=nr.gE.is;have Z5:=(ae kC).qy o5 (ae sS);have cz:w5.cell? ⟨X+1,2,none⟩=some v2:=Z5.cell 2 (by simp);have fz:=Z5.frozen 2;have R5:=ag ((ae kC).Yf (ae uZ) (ae Dz) (ae sS) (ae Eo) nr pO o5);clear nr pO o5 Z5 CC kC cx;go_wp2
   go_roundw
   case rel=>exact⟨3,_,_,_,_,_,by decide,rfl,ae R5⟩
   case measure=>simp[intOf]
  ·have cx:=ae Y6 _ hr.out;have CC:=ag (ae Q3 _ hr.out hr.st);have kC:=ag hr;clear hr
   go_wp2_with fail
   refine(ae CC).mono ?_;rintro e w5 ⟨r,rfl,nr,pO,o5⟩;obtain⟨sa,sn,sc,rfl⟩:=nr.gE.is;have Z5:=(ae kC).qy o5 (ae sS);have cz:w5.cell? ⟨X+1,3,none⟩=some v3:=Z5.cell 3 (by simp);have fz:=Z5.frozen 3;have R5:=ag ((ae kC).Yg (ae uZ) (ae Dz) (ae sS) (ae Eo) nr pO o5);clear nr pO o5 Z5 CC kC cx;go_wp2
   go_roundw
   case rel=>exact⟨4,_,_,_,_,_,by decide,rfl,ae R5⟩
   case measure=>simp[intOf]
  ·have cx:=ae Y8 _ hr.out;have CC:=ag (ae Q4 _ hr.out hr.st);have kC:=ag hr;clear hr
   go_wp2_with fail
   refine(ae CC).mono ?_;rintro e w5 ⟨r,rfl,nr,pO,o5⟩;obtain⟨sa,sn,sc,rfl⟩:=nr.gE.is;have Z5:=(ae kC).qy o5 (ae sS);have cz:w5.cell? ⟨X+1,4,none⟩=some v4:=Z5.cell 4 (by simp);have fz:=Z5.frozen 4;have R5:=ag ((ae kC).Yh (ae uZ) (ae Dz) (ae sS) (ae Eo) nr pO o5);clear nr pO o5 Z5 CC kC cx;go_wp2
   go_roundw
   case rel=>exact⟨5,_,_,_,_,_,by decide,rfl,ae R5⟩
   case measure=>simp[intOf]
  ·have c0:wr.cell? ⟨X+1,0,none⟩=some v0:=hr.box.cell 0 (by simp);have c1:wr.cell? ⟨X+1,1,none⟩=some v1:=hr.box.cell 1 (by simp);have c2:wr.cell? ⟨X+1,2,none⟩=some v2:=hr.box.cell 2 (by simp);have c3:wr.cell? ⟨X+1,3,none⟩=some v3:=hr.box.cell 3 (by simp);have c4:wr.cell? ⟨X+1,4,none⟩=some v4:=hr.box.cell 4 (by simp);have c5:wr.cell? ⟨X+1,5,none⟩=some (.bool false):=hr.box.cell 5 (by simp);have CJ:=ag (ae CJ wr v0 v1 v2 v3 v4 (hr.r0 (by decide)).gE (hr.r1 (by decide)).gE (hr.r2 (by decide)).gE (hr.r3 (by decide)).gE (hr.r4 (by decide)).gE);have ST:=ag hr.st;have OW:=ag hr.out;clear hr Q0 Q1 Q2 Q3 Q4 LY I5 I6 Y6 Y8 sS Dz
   go_wp2_with fail
   refine(ae CJ).mono ?_;rintro e w8 ⟨r8,rfl,n8,b8⟩;have Dd:=ae uZ 5 wr w8 (ae ST) (Out.bQ b8);obtain⟨s8,m8,K8⟩:=(ae HI).iG 5 w8 Dd;rw[ae HV]at n8;have UO:=ag Dd;have M8:=ag K8.fY.iG.met;have OA:=ag ((((ae O3).mono (fun k e=>Or.inr e)).fresh (ae OW) (ae HF)).next b8);have N8:=ag n8;have SZ:=ag (ak (ae Ia) (ae OW).size);have GL:=ag (az (ae Eo g (Or.inl (Or.inr rfl))) (ak (ae sW1) (ae OW).size));clear n8 Dd K8 HV CJ c0 c1 c2 c3 c4 c5 b8 HI uZ ST OW Ug;go_wp2;refine sm (f:=125) (args:=#[.pointer (some ⟨g,0,none⟩)]) (by simp) (by simp[go_sem]) ?_;refine(hU l .returning (ae M8) (by have:=ae uF;omega) (by have:=ae uF;omega) (by have:=ae Ng;omega)).mono ?_;rintro e u' w9 ⟨rfl,rfl,M9,T9⟩;have O9:=Out.bX T9.grown;refine⟨_,gG rfl _ _ _,r8,w8,rfl,?_,ae UO,O9,?_,?_⟩
   ·exact(O9.mb (ae N8) (fun k e=>by rw[e];exact ae GL)).mono (ae SZ)
   ·intro s' m' K;obtain⟨rfl,_,rfl⟩:=K.fY.iG.met.one (ae M8);exact K.step M9 T9
   ·exact(ae OA).trans (O9.mono (fun k e=>Or.inr e))
theorem aaY(w:World)(gt gk ge g:Nat)(s l m:Int)(T:bJ)(ga gb:Option Addr)(b o cap la b' o' bM lb h:Nat)(xs ys:List Nat)(k:Nat)(fs cs:Array Value)(D:Nat->Prop)(St:Nat->World->Prop)(hE:jH w gt gk ge g s l m T)(vn:0<=l)(qk:l<=1000000)(jw:xs.length=la)(hR:cH w ga b o cap xs)(mB:bG xs)(_hbD:0<la->¬D b)(kt:ys.length=lb)(kV:cH w gb b' o' bM ys)(vm:bG ys)(_hbD':0<lb->¬D b')(fA:la<=16384)(kl:lb<=16384)(hh:h=(max la lb+2)/3)(dh:2*h<min la lb)(_nt:¬D gt)(_nk:¬D gk)(_ne:¬D ge)(_ng:¬D g)(hD:∀j,D j->j<w.heap.size)(hI:abF w.heap.size gt gk ge g l T (max la lb) (min la lb) h k fs cs D St)(hS:∀W,Out (·=g) w W->jH W gt gk ge g s (l+1) (max m (l+1)) T->St 0 W)(Wt:la<lb):Calls Tryz.prog 138 #[.pointer (some ⟨gt,0,none⟩),.slice ga la cap,.slice gb lb bM,.func (.func k) fs cs] w fun e w'=>∃v W,e=.returned (.tuple #[v,.bool true])/\aU w.heap.size w' v (aB xs*aB ys)/\St 5 W/\Out (·=g) W w'/\(∀s' m',jH W gt gk ge g s' (l+1) m' T->jH w' gt gk ge g s' l m' T)/\Out (fun j=>D j\/j=g) w w':=by
 have hn:max la lb=lb:=by omega
 have hm:min la lb=la:=by omega
 rw[hn,hm]at hI;rw[hn]at hh;rw[hm]at dh;have CH:=ag (fun w=>za w gb lb bM h (by omega) hh);have hM:=hE.fY.iG.met;have nV:=hM.lt;have CE:=ag (jS (l+1) (max m (l+1)) hM rfl rfl (by omega) (by omega));have e0:=hE.ptr;have e1:=hE.fY.ptr;have e2:=hE.fY.iG.ptr;have HE:=ag hE;obtain⟨K2,xt⟩:∃K2,2*h=K2:=⟨_,rfl⟩;have j1:2*(h:Int)=(K2:Int):=by omega
 have j2:IntKind.i64.wrap (K2:Int)=(K2:Int):=by rw[ao];omega
 have ngt:¬la<=K2:=by omega
 have Ug:=hI.go;have HI:=ag hI;have HS:=ag hS;have HD:=ag hD;have IG:=ag kV;have HR:=ag hR;have h3:lb<=3*h:=by omega
 have h3':la<=3*h:=by omega
 have RF:2*h<lb:=by omega
 have h1:0<h:=by omega
 clear hE hM hI hS hD kV hR hh hn hm _ng _nt _nk _ne _hbD' _hbD
 go_enter_defers Tryz.func138,Tryz.ntmps138
 go_wp2_with fail
 refine(ae CH _).mono ?_;rintro e w1 ⟨rfl,DX⟩;obtain rfl:=DX.symm;clear DX CH
 go_wp2_with fail
 refine(ae CE).mono ?_;rintro e w1 ⟨rfl,M1,T1⟩;have K1:=(ae HE).step M1 T1;have r1:=(ae IG).iy (ae HE).fY.iG.met T1;have XL:=(ae HR).iy (ae HE).fY.iG.met T1;have e0:=K1.ptr;have e1:=K1.fY.ptr;have e2:=K1.fY.iG.ptr;have s1:=T1.grown.size;have O1:=ag (Out.bX T1.grown);clear CE M1 T1;obtain⟨a0,q0⟩:∃a0,a0=aB ys%18446744073709551616^h:=⟨_,rfl⟩;obtain⟨a1,q1⟩:∃a1,a1=aB ys/18446744073709551616^h%18446744073709551616^h:=⟨_,rfl⟩;obtain⟨a2,q2⟩:∃a2,a2=aB ys/18446744073709551616^h/18446744073709551616^h:=⟨_,rfl⟩;obtain⟨b0,q0'⟩:∃b0,b0=aB xs%18446744073709551616^h:=⟨_,rfl⟩;obtain⟨b1,q1'⟩:∃b1,b1=aB xs/18446744073709551616^h%18446744073709551616^h:=⟨_,rfl⟩;obtain⟨b2,q2'⟩:∃b2,b2=aB xs/18446744073709551616^h/18446744073709551616^h:=⟨_,rfl⟩;have CV:=ag (ud w1 _ _ _ _ _ h ys a0 a1 a2 kt kl h1 RF h3 r1 vm q0 q1 q2);have Zs:=ag (fun W (bb:Below w1.heap.size w1 W)=>ud W _ _ _ _ _ h xs b0 b1 b2 jw fA h1 dh h3' (XL.next bb) mB q0' q1' q2');clear r1 XL
 go_wp2_with fail
 refine(ae CV).mono ?_;rintro e w2 ⟨v2,rfl,p2,ZT⟩;have Zs:=ag (ae Zs _ ZT);clear CV
 go_wp2_with fail
 refine(ae Zs).mono ?_;rintro e w3 ⟨v3,rfl,p3,My⟩;obtain⟨g0,g1,g2,g3,g4,z0,z1,z2,z3,z4,rfl,t0,t1,t2,t3,t4⟩:=p2.out;obtain⟨sD,sE,sF,Gq,Gr,Uw,z1',z2',z3',z4',rfl,Ls,Il,Im,Am,Io⟩:=p3.out;have s2:=ZT.size;have t0:=t0.next My;have t1:=t1.next My;have t2:=t2.next My;have t3:=t3.next My;have t4:=t4.next My;have Ls:=Ls.mono s2;have Il:=Il.mono s2;have Im:=Im.mono s2;have Am:=Am.mono s2;have Io:=Io.mono s2;have b3:=aJ ZT My;have s3:=b3.size;have O3:=ag ((ae O1).next b3);have K3:=K1.next b3;clear p2 p3 e0 e1 e2 Zs ZT My;obtain⟨H1,lV⟩:∃H1,h+1=H1:=⟨_,rfl⟩;obtain⟨n1,qH⟩:∃n1,lb-2*h=n1:=⟨_,rfl⟩;obtain⟨m1,ox⟩:∃m1,la-2*h=m1:=⟨_,rfl⟩;rw[lV,qH,ox];rw[lV]at t1 t2 t3 Il Im Am;rw[qH]at t4;rw[ox]at Io;have OH:=Bt a0 a1 a2 b0 b1 b2
 -- mark
 generalize decide (a0+a2<a1)=ba at *;generalize decide (b0+b2<b1)=bb at *;obtain⟨bz,hbz⟩:∃bz,(!(ba==bb))=bz:=⟨_,rfl⟩;have OH:zX (!(ba==bb)) _ _ _ _ _ _ _ _:=OH;rw[hbz]at OH;have bB:Below w3.heap.size w3 (((w3.alloc (.cells #[.slice (some ⟨g0,0,none⟩) h h,.slice (some ⟨g1,0,none⟩) H1 H1,.slice (some ⟨g2,0,none⟩) H1 H1,.slice (some ⟨g3,0,none⟩) H1 H1,.slice (some ⟨g4,0,none⟩) n1 n1,.bool ba] 201)).alloc (.cells #[.slice (some ⟨sD,0,none⟩) h h,.slice (some ⟨sE,0,none⟩) H1 H1,.slice (some ⟨sF,0,none⟩) H1 H1,.slice (some ⟨Gq,0,none⟩) H1 H1,.slice (some ⟨Gr,0,none⟩) m1 m1,.bool bb] 201)).alloc (.cells #[.slice none 0 0,.slice none 0 0,.slice none 0 0,.slice none 0 0,.slice none 0 0,.bool bz] 201)):=(((aj _ _).alloc (af _) _).alloc (by simp) _).alloc (by simp;omega) _;obtain⟨kX,kY,kZ⟩:=Mx w3 (.cells #[.slice (some ⟨g0,0,none⟩) h h,.slice (some ⟨g1,0,none⟩) H1 H1,.slice (some ⟨g2,0,none⟩) H1 H1,.slice (some ⟨g3,0,none⟩) H1 H1,.slice (some ⟨g4,0,none⟩) n1 n1,.bool ba] 201) (.cells #[.slice (some ⟨sD,0,none⟩) h h,.slice (some ⟨sE,0,none⟩) H1 H1,.slice (some ⟨sF,0,none⟩) H1 H1,.slice (some ⟨Gq,0,none⟩) H1 H1,.slice (some ⟨Gr,0,none⟩) m1 m1,.bool bb] 201) (.cells #[.slice none 0 0,.slice none 0 0,.slice none 0 0,.slice none 0 0,.slice none 0 0,.bool bz] 201);have sB:(((w3.alloc (.cells #[.slice (some ⟨g0,0,none⟩) h h,.slice (some ⟨g1,0,none⟩) H1 H1,.slice (some ⟨g2,0,none⟩) H1 H1,.slice (some ⟨g3,0,none⟩) H1 H1,.slice (some ⟨g4,0,none⟩) n1 n1,.bool ba] 201)).alloc (.cells #[.slice (some ⟨sD,0,none⟩) h h,.slice (some ⟨sE,0,none⟩) H1 H1,.slice (some ⟨sF,0,none⟩) H1 H1,.slice (some ⟨Gq,0,none⟩) H1 H1,.slice (some ⟨Gr,0,none⟩) m1 m1,.bool bb] 201)).alloc (.cells #[.slice none 0 0,.slice none 0 0,.slice none 0 0,.slice none 0 0,.slice none 0 0,.bool bz] 201)).heap.size=w3.heap.size+1+1+1:=by simp
 obtain⟨W0,GA⟩:∃W0,((w3.alloc (.cells #[.slice (some ⟨g0,0,none⟩) h h,.slice (some ⟨g1,0,none⟩) H1 H1,.slice (some ⟨g2,0,none⟩) H1 H1,.slice (some ⟨g3,0,none⟩) H1 H1,.slice (some ⟨g4,0,none⟩) n1 n1,.bool ba] 201)).alloc (.cells #[.slice (some ⟨sD,0,none⟩) h h,.slice (some ⟨sE,0,none⟩) H1 H1,.slice (some ⟨sF,0,none⟩) H1 H1,.slice (some ⟨Gq,0,none⟩) H1 H1,.slice (some ⟨Gr,0,none⟩) m1 m1,.bool bb] 201)).alloc (.cells #[.slice none 0 0,.slice none 0 0,.slice none 0 0,.slice none 0 0,.slice none 0 0,.bool bz] 201)=W0:=⟨_,rfl⟩;rw[GA]at bB kX kY kZ sB;obtain⟨X,hX⟩:∃X,w3.heap.size=X:=⟨_,rfl⟩;rw[hX]at kX kY kZ sB;have sW:=bB.size;have l0:g0<X:=by rw[<-hX];exact t0.kM.lt
 have l1:g1<X:=by rw[<-hX];exact t1.kM.lt
 have l2:g2<X:=by rw[<-hX];exact t2.kM.lt
 have l3:g3<X:=by rw[<-hX];exact t3.kM.lt
 have l4:g4<X:=by rw[<-hX];exact t4.kM.lt
 have t0:=t0.next bB;have t1:=t1.next bB;have t2:=t2.next bB;have t3:=t3.next bB;have t4:=t4.next bB;have y0:=t0.ge;have y1:=t1.ge;have y2:=t2.ge;have y3:=t3.ge;have y4:=t4.ge;have l0':sD<X:=by rw[<-hX];exact Ls.kM.lt
 have l1':sE<X:=by rw[<-hX];exact Il.kM.lt
 have l2':sF<X:=by rw[<-hX];exact Im.kM.lt
 have l3':Gq<X:=by rw[<-hX];exact Am.kM.lt
 have l4':Gr<X:=by rw[<-hX];exact Io.kM.lt
 have Ls:=Ls.next bB;have Il:=Il.next bB;have Im:=Im.next bB;have Am:=Am.next bB;have Io:=Io.next bB;have y0':=Ls.ge;have y1':=Il.ge;have y2':=Im.ge;have y3':=Am.ge;have y4':=Io.ge;have O3:=ag ((ae O3).next bB);have S0:=ag (ae HS _ (ae O3) (K3.next bB));have DN:∀q,w.heap.size<=q->¬(D q\/q=g):=fun q hq x=>by
  rcases x with x|x
  ·have:=ae HD q x;omega
  ·omega
 have sS:Hid (¬(D (X+1+1)\/X+1+1=g)):=DN _ (by omega);have Eo:Hid (∀q,(D q\/q=g)\/q=X+1+1->q<X+1+1+1):=fun q x=>by
  rcases x with(x|x)|x
  ·have:=ae HD q x;omega
  ·omega
  ·omega
 have Dz:Hid (w.heap.size<=X+1+1):=by show _<=_;omega
 have uZ:=ag ((ae HI).next);have HN:Hid (∀q,w.heap.size<=q->q<X+1+1->¬((D q\/q=g)\/q=X+1+1)):=fun q hq hz x=>by
  rcases x with x|x
  ·exact DN q hq x
  ·omega
 have LY:Hid (∀W,Out (fun j=>(D j\/j=g)\/j=X+1+1) W0 W->W.cell? ⟨X,0,none⟩=some (.slice (some ⟨g0,0,none⟩) h h)):=fun W q=>ay _ X 0 _ _ (0,0) ((q.block X (ah.1 kX).1 (ae HN _ (by omega) (by omega))).trans kX);have OK:Hid (∀W,Out (fun j=>(D j\/j=g)\/j=X+1+1) W0 W->W.cell? ⟨X+1,0,none⟩=some (.slice (some ⟨sD,0,none⟩) h h)):=fun W q=>ay _ (X+1) 0 _ _ (0,0) ((q.block (X+1) (ah.1 kY).1 (ae HN _ (by omega) (by omega))).trans kY);have I5:Hid (∀W,Out (fun j=>(D j\/j=g)\/j=X+1+1) W0 W->W.cell? ⟨X,1,none⟩=some (.slice (some ⟨g1,0,none⟩) H1 H1)):=fun W q=>ay _ X 1 _ _ (0,0) ((q.block X (ah.1 kX).1 (ae HN _ (by omega) (by omega))).trans kX);have HY1:Hid (∀W,Out (fun j=>(D j\/j=g)\/j=X+1+1) W0 W->W.cell? ⟨X+1,1,none⟩=some (.slice (some ⟨sE,0,none⟩) H1 H1)):=fun W q=>ay _ (X+1) 1 _ _ (0,0) ((q.block (X+1) (ah.1 kY).1 (ae HN _ (by omega) (by omega))).trans kY);have I6:Hid (∀W,Out (fun j=>(D j\/j=g)\/j=X+1+1) W0 W->W.cell? ⟨X,2,none⟩=some (.slice (some ⟨g2,0,none⟩) H1 H1)):=fun W q=>ay _ X 2 _ _ (0,0) ((q.block X (ah.1 kX).1 (ae HN _ (by omega) (by omega))).trans kX);have HY2:Hid (∀W,Out (fun j=>(D j\/j=g)\/j=X+1+1) W0 W->W.cell? ⟨X+1,2,none⟩=some (.slice (some ⟨sF,0,none⟩) H1 H1)):=fun W q=>ay _ (X+1) 2 _ _ (0,0) ((q.block (X+1) (ah.1 kY).1 (ae HN _ (by omega) (by omega))).trans kY);have Y6:Hid (∀W,Out (fun j=>(D j\/j=g)\/j=X+1+1) W0 W->W.cell? ⟨X,3,none⟩=some (.slice (some ⟨g3,0,none⟩) H1 H1)):=fun W q=>ay _ X 3 _ _ (0,0) ((q.block X (ah.1 kX).1 (ae HN _ (by omega) (by omega))).trans kX);have HY3:Hid (∀W,Out (fun j=>(D j\/j=g)\/j=X+1+1) W0 W->W.cell? ⟨X+1,3,none⟩=some (.slice (some ⟨Gq,0,none⟩) H1 H1)):=fun W q=>ay _ (X+1) 3 _ _ (0,0) ((q.block (X+1) (ah.1 kY).1 (ae HN _ (by omega) (by omega))).trans kY);have Y8:Hid (∀W,Out (fun j=>(D j\/j=g)\/j=X+1+1) W0 W->W.cell? ⟨X,4,none⟩=some (.slice (some ⟨g4,0,none⟩) n1 n1)):=fun W q=>ay _ X 4 _ _ (0,0) ((q.block X (ah.1 kX).1 (ae HN _ (by omega) (by omega))).trans kX);have HY4:Hid (∀W,Out (fun j=>(D j\/j=g)\/j=X+1+1) W0 W->W.cell? ⟨X+1,4,none⟩=some (.slice (some ⟨Gr,0,none⟩) m1 m1)):=fun W q=>ay _ (X+1) 4 _ _ (0,0) ((q.block (X+1) (ah.1 kY).1 (ae HN _ (by omega) (by omega))).trans kY);have Q0:Hid (∀W,Out (fun j=>(D j\/j=g)\/j=X+1+1) W0 W->St 0 W->Calls Tryz.prog k (fs++(#[.slice (some ⟨g0,0,none⟩) h h,.slice (some ⟨sD,0,none⟩) h h]++cs)) W fun e W'=>∃r,e=.returned r/\ft (X+1+1+1) W' r (a0*b0)/\St 1 W'/\Out (fun j=>D j\/j=g) W W'):=fun W q st=>by have sz:=q.size;rw[<-ck];refine((ae HI).call 0 W _ _ _ _ (by omega) st (by rw[show(me lb la h 0).1=h from rfl];exact t0.Ah q (ae HN _ (by omega) (by omega)) (DN _ (by omega))) (by rw[show(me lb la h 0).2=h from rfl];exact Ls.Ah q (ae HN _ (by omega) (by omega)) (DN _ (by omega)))).mono ?_;rintro e W' ⟨r,rfl,n,kg,q'⟩;exact⟨r,rfl,n.mono (by omega),kg,q'⟩
 have Q1:Hid (∀W,Out (fun j=>(D j\/j=g)\/j=X+1+1) W0 W->St 1 W->Calls Tryz.prog k (fs++(#[.slice (some ⟨g1,0,none⟩) H1 H1,.slice (some ⟨sE,0,none⟩) H1 H1]++cs)) W fun e W'=>∃r,e=.returned r/\ft (X+1+1+1) W' r ((a0+a1+a2)*(b0+b1+b2))/\St 2 W'/\Out (fun j=>D j\/j=g) W W'):=fun W q st=>by have sz:=q.size;rw[<-ck];refine((ae HI).call 1 W _ _ _ _ (by omega) st (by rw[show(me lb la h 1).1=H1 from lV];exact t1.Ah q (ae HN _ (by omega) (by omega)) (DN _ (by omega))) (by rw[show(me lb la h 1).2=H1 from lV];exact Il.Ah q (ae HN _ (by omega) (by omega)) (DN _ (by omega)))).mono ?_;rintro e W' ⟨r,rfl,n,kg,q'⟩;exact⟨r,rfl,n.mono (by omega),kg,q'⟩
 have Q2:Hid (∀W,Out (fun j=>(D j\/j=g)\/j=X+1+1) W0 W->St 2 W->Calls Tryz.prog k (fs++(#[.slice (some ⟨g2,0,none⟩) H1 H1,.slice (some ⟨sF,0,none⟩) H1 H1]++cs)) W fun e W'=>∃r,e=.returned r/\ft (X+1+1+1) W' r (nd (a0+a2) a1*nd (b0+b2) b1)/\St 3 W'/\Out (fun j=>D j\/j=g) W W'):=fun W q st=>by have sz:=q.size;rw[<-ck];refine((ae HI).call 2 W _ _ _ _ (by omega) st (by rw[show(me lb la h 2).1=H1 from lV];exact t2.Ah q (ae HN _ (by omega) (by omega)) (DN _ (by omega))) (by rw[show(me lb la h 2).2=H1 from lV];exact Im.Ah q (ae HN _ (by omega) (by omega)) (DN _ (by omega)))).mono ?_;rintro e W' ⟨r,rfl,n,kg,q'⟩;exact⟨r,rfl,n.mono (by omega),kg,q'⟩
 have Q3:Hid (∀W,Out (fun j=>(D j\/j=g)\/j=X+1+1) W0 W->St 3 W->Calls Tryz.prog k (fs++(#[.slice (some ⟨g3,0,none⟩) H1 H1,.slice (some ⟨Gq,0,none⟩) H1 H1]++cs)) W fun e W'=>∃r,e=.returned r/\ft (X+1+1+1) W' r ((a0+2*a1+4*a2)*(b0+2*b1+4*b2))/\St 4 W'/\Out (fun j=>D j\/j=g) W W'):=fun W q st=>by have sz:=q.size;rw[<-ck];refine((ae HI).call 3 W _ _ _ _ (by omega) st (by rw[show(me lb la h 3).1=H1 from lV];exact t3.Ah q (ae HN _ (by omega) (by omega)) (DN _ (by omega))) (by rw[show(me lb la h 3).2=H1 from lV];exact Am.Ah q (ae HN _ (by omega) (by omega)) (DN _ (by omega)))).mono ?_;rintro e W' ⟨r,rfl,n,kg,q'⟩;exact⟨r,rfl,n.mono (by omega),kg,q'⟩
 have Q4:Hid (∀W,Out (fun j=>(D j\/j=g)\/j=X+1+1) W0 W->St 4 W->Calls Tryz.prog k (fs++(#[.slice (some ⟨g4,0,none⟩) n1 n1,.slice (some ⟨Gr,0,none⟩) m1 m1]++cs)) W fun e W'=>∃r,e=.returned r/\ft (X+1+1+1) W' r (a2*b2)/\St 5 W'/\Out (fun j=>D j\/j=g) W W'):=fun W q st=>by have sz:=q.size;rw[<-ck];refine((ae HI).call 4 W _ _ _ _ (by omega) st (by rw[show(me lb la h 4).1=n1 from qH];exact t4.Ah q (ae HN _ (by omega) (by omega)) (DN _ (by omega))) (by rw[show(me lb la h 4).2=m1 from ox];exact Io.Ah q (ae HN _ (by omega) (by omega)) (DN _ (by omega)))).mono ?_;rintro e W' ⟨r,rfl,n,kg,q'⟩;exact⟨r,rfl,n.mono (by omega),kg,q'⟩
 have R0:Hid (mY (X+1+1+1) D g (X+1+1) bz St W0 W0 0 (.slice none 0 0) (.slice none 0 0) (.slice none 0 0) (.slice none 0 0) (.slice none 0 0) (a0*b0) ((a0+a1+a2)*(b0+b1+b2)) (nd (a0+a2) a1*nd (b0+b2) b1) ((a0+2*a1+4*a2)*(b0+2*b1+4*b2)) (a2*b2)):=⟨ae S0,kZ,Out.refl _ _,fun h=>absurd h (by decide),fun h=>absurd h (by decide),fun h=>absurd h (by decide),fun h=>absurd h (by decide),fun h=>absurd h (by decide)⟩;have CJ:Hid (∀W u0 u1 u2 u3 u4,fI W u0 (a0*b0)->fI W u1 ((a0+a1+a2)*(b0+b1+b2))->fI W u2 (nd (a0+a2) a1*nd (b0+b2) b1)->fI W u3 ((a0+2*a1+4*a2)*(b0+2*b1+4*b2))->fI W u4 (a2*b2)->Calls Tryz.prog 160 #[.agg #[u0,u1,u2,u3,u4,.bool bz],.int .i64 (h:Int)] W fun e w'=>∃r,e=.returned r/\aU W.heap.size w' r (Ik h (a0*b0) (a0*b1+a1*b0) (a0*b2+a1*b1+a2*b0) (a1*b2+a2*b1) (a2*b2))/\Below W.heap.size W w'):=fun W u0 u1 u2 u3 u4 i0 i1 i2 i3 i4=>zn W u0 u1 u2 u3 u4 bz _ _ _ _ _ _ _ _ h (h+1+(h+1)+1) (by omega) (by omega) OH (zl (by rw[<-t3.val];have:=bF t3.MK;rw[t3.len, <-lV]at this;exact this) (by rw[<-Am.val];have:=bF Am.MK;rw[Am.len, <-lV]at this;exact this)) i0 i1 i2 i3 i4;have HV:=ag (Dg h (aB ys) (aB xs) a0 a1 a2 b0 b1 b2 q0 q1 q2 q0' q1' q2');rw[aC (aB ys) (aB xs)]at HV;have HF:Hid (∀i,(D i\/i=g)\/i=X+1+1->(D i\/i=g)\/w.heap.size<=i):=fun i x=>by
  rcases x with x|x
  ·exact Or.inl x
  ·exact Or.inr (by omega)
 have Ia:Hid (w.heap.size<=W0.heap.size):=by show _<=_;omega
 have sW1:Hid (X+1+1+1<=W0.heap.size):=by show _<=_;omega
 have uF:=ag vn;have Ng:=ag qk;clear HS HD IG HR HE S0 O1 K3 K1 DN HN kX kY kZ bB b3 t0 t1 t2 t3 t4 l0 l1 l2 l3 l4 y0 y1 y2 y3 y4 Ls Il Im Am Io l0' l1' l2' l3' l4' y0' y1' y2' y3' y4' OH q0 q1 q2 q0' q1' q2' s1 s2 s3 sW sB lV qH ox vn qk h1 h3 h3' dh RF nV xt kl fA kt jw vm mB;generalize a0*b0=P0 at *;generalize (a0+a1+a2)*(b0+b1+b2)=P1 at *;generalize nd (a0+a2) a1*nd (b0+b2) b1=P2 at *;generalize (a0+2*a1+4*a2)*(b0+2*b1+4*b2)=P3 at *;generalize a2*b2=P4 at *;go_wp2;clear GA
 go_loopw [66] (fun iv wr=>∃(i:Nat) (v0 v1 v2 v3 v4:Value),i<=5/\iv=.int .i64 (i:Int)/\mY (X+1+1+1) D g (X+1+1) bz St W0 wr i v0 v1 v2 v3 v4 P0 P1 P2 P3 P4) (fun iv _=>5-(intOf iv).toNat)
 case atStart=>exact⟨0,_,_,_,_,_,by decide,rfl,ae R0⟩
 case round=>
  clear R0;obtain⟨i,v0,v1,v2,v3,v4,hi,rfl,hr⟩:=hrel;have hi6:i=0\/i=1\/i=2\/i=3\/i=4\/i=5:=by omega
  clear hi;rcases hi6 with rfl|rfl|rfl|rfl|rfl|rfl
  ·have hd:=hr.drew (ae uZ);have cx:=ae LY _ hr.out;have cy:=ae OK _ hr.out;have od:=hd.out;have HK:Hid (∀W,Out (fun j=>(D j\/j=g)\/j=X+1+1) W0 W->W.cell? ⟨X,0,none⟩=some (.slice (some ⟨g0,0,none⟩) h h)/\W.cell? ⟨X+1,0,none⟩=some (.slice (some ⟨sD,0,none⟩) h h)):=fun W q=>⟨ae LY W q,ae OK W q⟩;have CC:=ag (ae Q0 _ hd.out hd.st);have kC:=ag hd;clear hr hd;go_wp2
   go_region_held3 (fun w'=>w'.cell? ⟨X,0,none⟩=some (.slice (some ⟨g0,0,none⟩) h h)/\w'.cell? ⟨X+1,0,none⟩=some (.slice (some ⟨sD,0,none⟩) h h)) (first|(with_reducible exact ae HK _ od)|(with_reducible exact ae HK _ ow)|(with_reducible exact ae HK _ (ae R5).out)|go_keep) (first
    |(with_reducible refine(ae CC).mono ?_;rintro e w5 ⟨r,rfl,nr,pO,o5⟩;obtain⟨sa,sn,sc,rfl⟩:=nr.gE.is;have Z5:=(ae kC).qy o5 (ae sS);have cz:=OX Z5;have fz:=Z5.frozen 0;have R5:=ag ((ae kC).Yd (ae uZ) (ae Dz) (ae sS) (ae Eo) nr pO o5);have ow:=od.trans (o5.mono (fun k e=>Or.inl e));clear nr pO o5 Z5 cx cy;obtain⟨cx,cy⟩:=ae HK _ ow)
    |fail)
   all_goals
    focus
     clear CC kC cx cy od ow HK;go_wp2
     go_roundw
     case rel=>exact⟨1,_,_,_,_,_,by decide,rfl,ae R5⟩
     case measure=>simp[intOf]
  ·have hd:=hr.drew (ae uZ);have cx:=ae I5 _ hr.out;have cy:=ae HY1 _ hr.out;have od:=hd.out;have HK:Hid (∀W,Out (fun j=>(D j\/j=g)\/j=X+1+1) W0 W->W.cell? ⟨X,1,none⟩=some (.slice (some ⟨g1,0,none⟩) H1 H1)/\W.cell? ⟨X+1,1,none⟩=some (.slice (some ⟨sE,0,none⟩) H1 H1)):=fun W q=>⟨ae I5 W q,ae HY1 W q⟩;have CC:=ag (ae Q1 _ hd.out hd.st);have kC:=ag hd;clear hr hd;go_wp2
   go_region_held3 (fun w'=>w'.cell? ⟨X,1,none⟩=some (.slice (some ⟨g1,0,none⟩) H1 H1)/\w'.cell? ⟨X+1,1,none⟩=some (.slice (some ⟨sE,0,none⟩) H1 H1)) (first|(with_reducible exact ae HK _ od)|(with_reducible exact ae HK _ ow)|(with_reducible exact ae HK _ (ae R5).out)|go_keep) (first
    |(with_reducible refine(ae CC).mono ?_;rintro e w5 ⟨r,rfl,nr,pO,o5⟩;obtain⟨sa,sn,sc,rfl⟩:=nr.gE.is;have Z5:=(ae kC).qy o5 (ae sS);have cz:=OY Z5;have fz:=Z5.frozen 1;have R5:=ag ((ae kC).Ye (ae uZ) (ae Dz) (ae sS) (ae Eo) nr pO o5);have ow:=od.trans (o5.mono (fun k e=>Or.inl e));clear nr pO o5 Z5 cx cy;obtain⟨cx,cy⟩:=ae HK _ ow)
    |fail)
   all_goals
    focus
     clear CC kC cx cy od ow HK;go_wp2
     go_roundw
     case rel=>exact⟨2,_,_,_,_,_,by decide,rfl,ae R5⟩
     case measure=>simp[intOf]
  ·have hd:=hr.drew (ae uZ);have cx:=ae I6 _ hr.out;have cy:=ae HY2 _ hr.out;have od:=hd.out;have HK:Hid (∀W,Out (fun j=>(D j\/j=g)\/j=X+1+1) W0 W->W.cell? ⟨X,2,none⟩=some (.slice (some ⟨g2,0,none⟩) H1 H1)/\W.cell? ⟨X+1,2,none⟩=some (.slice (some ⟨sF,0,none⟩) H1 H1)):=fun W q=>⟨ae I6 W q,ae HY2 W q⟩;have CC:=ag (ae Q2 _ hd.out hd.st);have kC:=ag hd;clear hr hd;go_wp2
   go_region_held3 (fun w'=>w'.cell? ⟨X,2,none⟩=some (.slice (some ⟨g2,0,none⟩) H1 H1)/\w'.cell? ⟨X+1,2,none⟩=some (.slice (some ⟨sF,0,none⟩) H1 H1)) (first|(with_reducible exact ae HK _ od)|(with_reducible exact ae HK _ ow)|(with_reducible exact ae HK _ (ae R5).out)|go_keep) (first
    |(with_reducible refine(ae CC).mono ?_;rintro e w5 ⟨r,rfl,nr,pO,o5⟩;obtain⟨sa,sn,sc,rfl⟩:=nr.gE.is;have Z5:=(ae kC).qy o5 (ae sS);have cz:=OZ Z5;have fz:=Z5.frozen 2;have R5:=ag ((ae kC).Yf (ae uZ) (ae Dz) (ae sS) (ae Eo) nr pO o5);have ow:=od.trans (o5.mono (fun k e=>Or.inl e));clear nr pO o5 Z5 cx cy;obtain⟨cx,cy⟩:=ae HK _ ow)
    |fail)
   all_goals
    focus
     clear CC kC cx cy od ow HK;go_wp2
     go_roundw
     case rel=>exact⟨3,_,_,_,_,_,by decide,rfl,ae R5⟩
     case measure=>simp[intOf]
  ·have hd:=hr.drew (ae uZ);have cx:=ae Y6 _ hr.out;have cy:=ae HY3 _ hr.out;have od:=hd.out;have HK:Hid (∀W,Out (fun j=>(D j\/j=g)\/j=X+1+1) W0 W->W.cell? ⟨X,3,none⟩=some (.slice (some ⟨g3,0,none⟩) H1 H1)/\W.cell? ⟨X+1,3,none⟩=some (.slice (some ⟨Gq,0,none⟩) H1 H1)):=fun W q=>⟨ae Y6 W q,ae HY3 W q⟩;have CC:=ag (ae Q3 _ hd.out hd.st);have kC:=ag hd;clear hr hd;go_wp2
   go_region_held3 (fun w'=>w'.cell? ⟨X,3,none⟩=some (.slice (some ⟨g3,0,none⟩) H1 H1)/\w'.cell? ⟨X+1,3,none⟩=some (.slice (some ⟨Gq,0,none⟩) H1 H1)) (first|(with_reducible exact ae HK _ od)|(with_reducible exact ae HK _ ow)|(with_reducible exact ae HK _ (ae R5).out)|go_keep) (first
    |(with_reducible refine(ae CC).mono ?_;rintro e w5 ⟨r,rfl,nr,pO,o5⟩;obtain⟨sa,sn,sc,rfl⟩:=nr.gE.is;have Z5:=(ae kC).qy o5 (ae sS);have cz:=O2 Z5;have fz:=Z5.frozen 3;have R5:=ag ((ae kC).Yg (ae uZ) (ae Dz) (ae sS) (ae Eo) nr pO o5);have ow:=od.trans (o5.mono (fun k e=>Or.inl e));clear nr pO o5 Z5 cx cy;obtain⟨cx,cy⟩:=ae HK _ ow)
    |fail)
   all_goals
    focus
     clear CC kC cx cy od ow HK;go_wp2
     go_roundw
     case rel=>exact⟨4,_,_,_,_,_,by decide,rfl,ae R5⟩
     case measure=>simp[intOf]
  ·have hd:=hr.drew (ae uZ);have cx:=ae Y8 _ hr.out;have cy:=ae HY4 _ hr.out;have od:=hd.out;have HK:Hid (∀W,Out (fun j=>(D j\/j=g)\/j=X+1+1) W0 W->W.cell? ⟨X,4,none⟩=some (.slice (some ⟨g4,0,none⟩) n1 n1)/\W.cell? ⟨X+1,4,none⟩=some (.slice (some ⟨Gr,0,none⟩) m1 m1)):=fun W q=>⟨ae Y8 W q,ae HY4 W q⟩;have CC:=ag (ae Q4 _ hd.out hd.st);have kC:=ag hd;clear hr hd;go_wp2
   go_region_held3 (fun w'=>w'.cell? ⟨X,4,none⟩=some (.slice (some ⟨g4,0,none⟩) n1 n1)/\w'.cell? ⟨X+1,4,none⟩=some (.slice (some ⟨Gr,0,none⟩) m1 m1)) (first|(with_reducible exact ae HK _ od)|(with_reducible exact ae HK _ ow)|(with_reducible exact ae HK _ (ae R5).out)|go_keep) (first
    |(with_reducible refine(ae CC).mono ?_;rintro e w5 ⟨r,rfl,nr,pO,o5⟩;obtain⟨sa,sn,sc,rfl⟩:=nr.gE.is;have Z5:=(ae kC).qy o5 (ae sS);have cz:=O4 Z5;have fz:=Z5.frozen 4;have R5:=ag ((ae kC).Yh (ae uZ) (ae Dz) (ae sS) (ae Eo) nr pO o5);have ow:=od.trans (o5.mono (fun k e=>Or.inl e));clear nr pO o5 Z5 cx cy;obtain⟨cx,cy⟩:=ae HK _ ow)
    |fail)
   all_goals
    focus
     clear CC kC cx cy od ow HK;go_wp2
     go_roundw
     case rel=>exact⟨5,_,_,_,_,_,by decide,rfl,ae R5⟩
     case measure=>simp[intOf]
  ·have c0:wr.cell? ⟨X+1+1,0,none⟩=some v0:=hr.box.cell 0 (by simp);have c1:wr.cell? ⟨X+1+1,1,none⟩=some v1:=hr.box.cell 1 (by simp);have c2:wr.cell? ⟨X+1+1,2,none⟩=some v2:=hr.box.cell 2 (by simp);have c3:wr.cell? ⟨X+1+1,3,none⟩=some v3:=hr.box.cell 3 (by simp);have c4:wr.cell? ⟨X+1+1,4,none⟩=some v4:=hr.box.cell 4 (by simp);have c5:wr.cell? ⟨X+1+1,5,none⟩=some (.bool bz):=hr.box.cell 5 (by simp);have CJ:=ag (ae CJ wr v0 v1 v2 v3 v4 (hr.r0 (by decide)).gE (hr.r1 (by decide)).gE (hr.r2 (by decide)).gE (hr.r3 (by decide)).gE (hr.r4 (by decide)).gE);have ST:=ag hr.st;have OW:=ag hr.out;clear hr Q0 Q1 Q2 Q3 Q4 LY I5 I6 Y6 Y8 OK HY1 HY2 HY3 HY4 sS Dz
   go_wp2_with fail
   refine(ae CJ).mono ?_;rintro e w8 ⟨r8,rfl,n8,b8⟩;have Dd:=ae uZ 5 wr w8 (ae ST) (Out.bQ b8);obtain⟨s8,m8,K8⟩:=(ae HI).iG 5 w8 Dd;rw[ae HV]at n8;have UO:=ag Dd;have M8:=ag K8.fY.iG.met;have OA:=ag ((((ae O3).mono (fun k e=>Or.inr e)).fresh (ae OW) (ae HF)).next b8);have N8:=ag n8;have SZ:=ag (ak (ae Ia) (ae OW).size);have GL:=ag (az (ae Eo g (Or.inl (Or.inr rfl))) (ak (ae sW1) (ae OW).size));clear n8 Dd K8 HV CJ c0 c1 c2 c3 c4 c5 b8 HI uZ ST OW Ug;go_wp2;refine sm (f:=125) (args:=#[.pointer (some ⟨g,0,none⟩)]) (by simp) (by simp[go_sem]) ?_;refine(hU l .returning (ae M8) (by have:=ae uF;omega) (by have:=ae uF;omega) (by have:=ae Ng;omega)).mono ?_;rintro e u' w9 ⟨rfl,rfl,M9,T9⟩;have O9:=Out.bX T9.grown;refine⟨_,gG rfl _ _ _,r8,w8,rfl,?_,ae UO,O9,?_,?_⟩
   ·exact(O9.mb (ae N8) (fun k e=>by rw[e];exact ae GL)).mono (ae SZ)
   ·intro s' m' K;obtain⟨rfl,_,rfl⟩:=K.fY.iG.met.one (ae M8);exact K.step M9 T9
   ·exact(ae OA).trans (O9.mono (fun k e=>Or.inr e))
theorem Tr:QH:=by
 intro w gt gk ge g s l m T ga gb b o cap la b' o' bM lb h xs ys k fs cs D St h1 h2 h3 h4 h5 h6 h7 h8 h9 h10 h11 h12 h13 h14 h15 h16 h17 h18 h19 h20 h21 h22;by_cases Wt:la<lb
 ·exact aaY w gt gk ge g s l m T ga gb b o cap la b' o' bM lb h xs ys k fs cs D St h1 h2 h3 h4 h5 h6 h7 h8 h9 h10 h11 h12 h13 h14 h15 h16 h17 h18 h19 h20 h21 h22 Wt
 ·exact aaX w gt gk ge g s l m T ga gb b o cap la b' o' bM lb h xs ys k fs cs D St h1 h2 h3 h4 h5 h6 h7 h8 h9 h10 h11 h12 h13 h14 h15 h16 h17 h18 h19 h20 h21 h22 Wt
theorem Tk:Jf:=by
 intro w gk ge g s l m T ga b o cap la h xs k fs cs D St hE vn qk jw hR mB hbD fA hh dh nk ne ng hD hI hS;have CH:=ag (fun w=>Bw w ga la cap h fA hh);have hM:=hE.iG.met;have nV:=hM.lt;have CE:=ag (jS (l+1) (max m (l+1)) hM rfl rfl (by omega) (by omega));have e0:=hE.ptr;have e1:=hE.iG.ptr;have HE:=ag hE;have ngt:¬la<=h:=by omega
 have Ug:=hI.go;have HI:=ag hI;have HS:=ag hS;have HD:=ag hD;have HR:=ag hR;have h2:la<=2*h:=by omega
 clear hE hM hI hS hD hR hh nk ne ng hbD
 go_enter_defers Tryz.func130,Tryz.ntmps130
 go_wp2_with fail
 refine(ae CH _).mono ?_;rintro e w1 ⟨rfl,DX⟩;obtain rfl:=DX.symm;clear DX CH
 go_wp2_with fail
 refine(ae CE).mono ?_;rintro e w1 ⟨rfl,M1,T1⟩;have K1:=(ae HE).step M1 T1;have r1:=(ae HR).iy (ae HE).iG.met T1;have e0:=K1.ptr;have e1:=K1.iG.ptr;have s1:=T1.grown.size;have O1:=ag (Out.bX T1.grown);clear CE M1 T1
 go_wp2_with fail
 refine(tL _ _ _ _ _ _ h xs jw fA (by omega) (by omega) (by omega) r1 mB).mono ?_;rintro e w3 ⟨v2,rfl,p2,b3⟩;obtain⟨g0,g1,g2,zs,rfl,i0,i1,i2,k0,k1,k2,z0,z1,z2⟩:=p2.out;rw[jw];have s3:=b3.size;have O3:=ag ((ae O1).next b3);have K3:=K1.next b3;clear r1 p2 b3 e0 e1;obtain⟨H1,lV⟩:∃H1,h+1=H1:=⟨_,rfl⟩;obtain⟨n1,qH⟩:∃n1,la-h=n1:=⟨_,rfl⟩;have lx0:(xs.take h).length=h:=by simp;omega
 have lx1:(xs.drop h).length=n1:=by simp;omega
 have dx0:=gH mB h;have dx1:=fJ mB h;rw[lV,qH];rw[lV]at z0;have HV:=ag (yV xs xs h);have HL:Hid (aB (xs.take h)*aB (xs.take h)+aB (xs.drop h)*aB (xs.drop h)<=aB zs*aB zs):=by show _<=_;rw[z2];exact G8 _ _ _ _
 have HP:Hid (aB zs*aB zs<18446744073709551616^(H1+H1)):=by show _<_;rw[aQ];have q1:=bF z1;rw[z0]at q1;exact eU q1 q1
 rw[<-z2]at HV;clear z2
 -- the box
 have bb:Below w3.heap.size w3 (w3.alloc (.cells #[.slice (some ⟨g0,0,none⟩) h h,.slice (some ⟨g1,0,none⟩) n1 n1,.slice (some ⟨g2,0,none⟩) H1 H1] 196)):=(aj _ _).alloc (af _) _;have kP:=aI w3 (.cells #[.slice (some ⟨g0,0,none⟩) h h,.slice (some ⟨g1,0,none⟩) n1 n1,.slice (some ⟨g2,0,none⟩) H1 H1] 196);obtain⟨W0,GA⟩:∃W0,w3.alloc (.cells #[.slice (some ⟨g0,0,none⟩) h h,.slice (some ⟨g1,0,none⟩) n1 n1,.slice (some ⟨g2,0,none⟩) H1 H1] 196)=W0:=⟨_,rfl⟩;rw[GA]at bb kP;obtain⟨P0,ke⟩:∃P0,w3.heap.size=P0:=⟨_,rfl⟩;rw[ke]at kP;have sW:=bb.size;have k0:cW W0 g0 _:=(bb.block _ k0.lt).trans k0;have k1:cW W0 g1 _:=(bb.block _ k1.lt).trans k1;have k2:cW W0 g2 _:=(bb.block _ k2.lt).trans k2;have O3:=ag ((ae O3).next bb);have S0:=ag (ae HS _ (ae O3) (K3.next bb));have DN:∀q,w.heap.size<=q->¬(D q\/q=g):=fun q hq x=>by
  rcases x with x|x
  ·have:=ae HD q x;omega
  ·omega
 have DB:∀q,(D q\/q=g)->q<W0.heap.size:=fun q x=>by
  rcases x with x|x
  ·have:=ae HD q x;omega
  ·omega
 have HC:Hid (∀W,Out (fun j=>D j\/j=g) W0 W->W.cell? ⟨P0,0,none⟩=some (.slice (some ⟨g0,0,none⟩) h h)/\W.cell? ⟨P0,1,none⟩=some (.slice (some ⟨g1,0,none⟩) n1 n1)/\W.cell? ⟨P0,2,none⟩=some (.slice (some ⟨g2,0,none⟩) H1 H1)):=fun W q=>by have j0:=(q.block P0 (ah.1 kP).1 (DN P0 (by omega))).trans kP;exact⟨ay _ P0 0 _ _ (0,0) j0,ay _ P0 1 _ _ (0,0) j0,ay _ P0 2 _ _ (0,0) j0⟩
 have Q0:Hid (∀W,Out (fun j=>D j\/j=g) W0 W->St 0 W->Calls Tryz.prog k (fs.push (.slice (some ⟨g0,0,none⟩) h h)++cs) W fun e W'=>∃r,e=.returned r/\ft W0.heap.size W' r (aB (xs.take h)*aB (xs.take h))/\St 1 W'/\Out (fun j=>D j\/j=g) W0 W'/\Out (fun j=>D j\/j=g) W W'):=fun W q st=>by rw[<-yv];refine((ae HI).call 0 W _ _ (by omega) st (iL (q.kM k0 (DN _ (by omega))) lx0 dx0 (DN _ (by omega)))).mono ?_;rintro e W' ⟨r,rfl,n,kg,q'⟩;exact⟨r,rfl,n.mono q.size,kg,q.trans q',q'⟩
 have Q1:Hid (∀W,Out (fun j=>D j\/j=g) W0 W->St 1 W->Calls Tryz.prog k (fs.push (.slice (some ⟨g1,0,none⟩) n1 n1)++cs) W fun e W'=>∃r,e=.returned r/\ft W0.heap.size W' r (aB (xs.drop h)*aB (xs.drop h))/\St 2 W'/\Out (fun j=>D j\/j=g) W0 W'/\Out (fun j=>D j\/j=g) W W'):=fun W q st=>by rw[<-yv];refine((ae HI).call 1 W _ _ (by omega) st (by rw[show(yY la la h 1).1=n1 from qH];exact iL (q.kM k1 (DN _ (by omega))) lx1 dx1 (DN _ (by omega)))).mono ?_;rintro e W' ⟨r,rfl,n,kg,q'⟩;exact⟨r,rfl,n.mono q.size,kg,q.trans q',q'⟩
 have Q2:Hid (∀W,Out (fun j=>D j\/j=g) W0 W->St 2 W->Calls Tryz.prog k (fs.push (.slice (some ⟨g2,0,none⟩) H1 H1)++cs) W fun e W'=>∃r,e=.returned r/\ft W0.heap.size W' r (aB zs*aB zs)/\St 3 W'/\Out (fun j=>D j\/j=g) W0 W'/\Out (fun j=>D j\/j=g) W W'):=fun W q st=>by rw[<-yv];refine((ae HI).call 2 W _ _ (by omega) st (by rw[show(yY la la h 2).1=H1 from lV];exact iL (q.kM k2 (DN _ (by omega))) z0 z1 (DN _ (by omega)))).mono ?_;rintro e W' ⟨r,rfl,n,kg,q'⟩;exact⟨r,rfl,n.mono q.size,kg,q.trans q',q'⟩
 have DB:=ag DB;have h16:h<=16384:=by omega
 have HH1:Hid (H1+H1<=1073741824):=by show _<=_;omega
 have Ia:=ag (show w.heap.size<=W0.heap.size by omega);have uF:=ag vn;have Ng:=ag qk;generalize aB (xs.take h)=X0 at *;generalize aB (xs.drop h)=X1 at *;generalize aB zs=X2 at *;clear k0 k1 k2 kP K3 K1 HE HS HR HD lx0 lx1 dx0 dx1 z0 z1 DN bb O1 i0 i1 i2 s1 s3 sW nV lV qH vn qk;go_wp2;clear GA;obtain⟨p0,p1,p2⟩:=ae HC W0 (Out.refl _ _);have st0:=(ae HI).next 0 W0 W0.drew (ae S0) ((aj _ _).drew);have o0:Out (fun j=>D j\/j=g) W0 W0.drew:=Out.bQ ((aj _ _).drew)
 go_region_held3 (fun w'=>w'.cell? ⟨P0,0,none⟩=some (.slice (some ⟨g0,0,none⟩) h h)/\w'.cell? ⟨P0,1,none⟩=some (.slice (some ⟨g1,0,none⟩) n1 n1)/\w'.cell? ⟨P0,2,none⟩=some (.slice (some ⟨g2,0,none⟩) H1 H1)) (first|(exact ae HC _ o4)|(exact ae HC _ o3)|(exact ae HC _ o2)|(exact ae HC _ o1)|(exact ae HC _ o0)|go_keep) (first
  |(refine(ae Q0 _ o0 st0).mono ?_;rintro e w5 ⟨r5,rfl,n5,Uu,o1,q1⟩;obtain⟨p0,p1,p2⟩:=ae HC _ o1)
  |(refine(ae Q1 _ o1 Uu).mono ?_;rintro e w6 ⟨r6,rfl,n6,IP,o2,q2⟩;have n5:=n5.out q2 (ae DB);obtain⟨p0,p1,p2⟩:=ae HC _ o2)
  |(refine(ae Q2 _ o2 IP).mono ?_;rintro e w7 ⟨r7,rfl,n7,st3,o3,q3⟩;have n5:=n5.out q3 (ae DB);have n6:=n6.out q3 (ae DB);obtain⟨p0,p1,p2⟩:=ae HC _ o3)
  |(go_at_call 157;refine(yX _ _ _ _ _ _ _ h (H1+H1) h16 (ae HH1) (ae HP) (ae HL) n5.gE n6.gE n7.gE).mono ?_;rintro e w8 ⟨r8,rfl,n8,b8⟩;have o4:=o3.next b8;obtain⟨p0,p1,p2⟩:=ae HC _ o4)
  |fail)
 have Dd:=(ae HI).next 3 w7 w8 st3 b8;obtain⟨s8,m8,K8⟩:=(ae HI).iG 3 w8 Dd;rw[ae HV]at n8;have UO:=ag Dd;have M8:=ag K8.iG.met;have OA:=ag (((ae O3).mono (fun k e=>Or.inr e)).trans o4);have N8:=ag n8;have SZ:=ag (ak (ae Ia) o3.size);have GL:=ag (az (ae DB g (Or.inr rfl)) o3.size);clear p0 p1 p2 n5 n6 n7 n8 Dd st3 IP Uu st0 o4 o3 o2 o1 o0 q1 q2 q3 b8 K8 HV HL HP HC Q0 Q1 Q2 Ug S0;go_wp2;refine sm (f:=125) (args:=#[.pointer (some ⟨g,0,none⟩)]) (by simp) (by simp[go_sem]) ?_;refine(hU l .returning (ae M8) (by have:=ae uF;omega) (by have:=ae uF;omega) (by have:=ae Ng;omega)).mono ?_;rintro e u' w9 ⟨rfl,rfl,M9,T9⟩;have O9:=Out.bX T9.grown;refine⟨_,gG rfl _ _ _,r8,w8,rfl,?_,ae UO,O9,?_,?_⟩
 ·exact(O9.mb (ae N8) (fun k e=>by rw[e];exact ae GL)).mono (ae SZ)
 ·intro s' m' K;obtain⟨rfl,_,rfl⟩:=K.iG.met.one (ae M8);exact K.step M9 T9
 ·exact(ae OA).trans (O9.mono (fun k e=>Or.inr e))
theorem JZ(args:Array Value)(W:World):(callFunc 87 args).run Tryz.prog W=.ok (.enter 87 args) W:=by kernel_rfl
theorem EO(args:Array Value)(W:World):(callFunc 106 args).run Tryz.prog W=.ok (.enter 106 args) W:=by kernel_rfl
theorem Jt(p u v:Value):#[p]++#[u,v]++#[]=#[p,u,v]:=by simp
theorem Js(p u:Value):#[p]++#[u]++#[]=#[p,u]:=by simp
theorem Hm{b:World}(o:Out (·=g) a b):Out (fun j=>False\/j=g) a b:=o.mono (fun _ e=>Or.inr e)
theorem Hn{b:World}(o:Out (fun j=>False\/j=g) a b):Out (·=g) a b:=o.mono (fun _ e=>e.resolve_left id)
theorem Nw(IH:kK M)(hM:M<=16384){T:bJ}(hE:dI w gm gt gk ge g s l m T)(hT:TB w)(h0:0<=s)(h1:s+35184372088832*((M:Int)+2)<=2305843009213693952)(h2:0<=l)(h3:l+1+(M:Int)<=100000)(jw:xs.length=la)(hR:cH w ga b o cap xs)(mB:bG xs)(kt:ys.length=lb)(kV:cH w gb b' o' bM ys)(vm:bG ys)(fA:la<=16384)(kl:lb<=16384)(hh:h=(max la lb+1)/2)(dh:h<min la lb)(hp:h+1<=M):Calls Tryz.prog 137 #[.pointer (some ⟨gk,0,none⟩),.slice ga la cap,.slice gb lb bM,.func (.func 87) #[.pointer (some ⟨gm,0,none⟩)] #[]] w (rf w gm gt gk ge g s l m T (aB xs*aB ys) (nN T.B T.D T.N 3 (max la lb) (min la lb)) (sr M+1)):=by
 have ac:=Bc (WV T.MP (n:=max la lb) (m:=min la lb) (h:=h) (by omega) (by omega) (by omega));refine(Ti w gk ge g s l m T ga gb b o cap la b' o' bM lb h xs ys 87 #[.pointer (some ⟨gm,0,none⟩)] #[] (fun _=>False) (LZ gm gt gk ge g s l m T (sr M) (Ki T.B T.D T.N (max la lb) (min la lb) h))
  hE.jf.fY h2 (by omega) jw hR mB (fun _ x=>x) kt kV vm (fun _ x=>x) fA kl hh dh (fun x=>x) (fun x=>x) (fun x=>x) (fun _ x=>x.elim) ⟨JZ,fun i W W' st b=>st.next b,fun i W st=>?_,fun i W u v a c hi st iu iv=>?_⟩ (fun W oo K=>?_)).mono ?_
 ·obtain⟨m1,E,_,_,_⟩:=st;exact⟨_,m1,E.jf.fY⟩
 ·rw[Jt];have ai:=ac i;have zI:i*2147483648<=3*2147483648:=ax _ (by omega);refine(st.call IH hM h0 h1 h2 h3 (by omega) (af _) iu iv ?_ ?_ ?_).mono ?_
  ·clear ai zI ac st
   match i,hi with
   |0,_=>show h<=M;omega
   |1,_=>show max la lb-h<=M;omega
   |2,_=>show h+1<=M;omega
  ·clear ai zI ac st
   match i,hi with
   |0,_=>show h<=h;omega
   |1,_=>show min la lb-h<=max la lb-h;omega
   |2,_=>show h+1<=h+1;omega
  ·clear ai zI ac st
   match i,hi with
   |0,_=>rfl
   |1,_=>rfl
   |2,_=>rfl
  ·rintro e W' ⟨r,rfl,nr,kg,oo⟩;exact⟨r,rfl,nr,kg,Hm oo⟩
 ·exact⟨_,by rw[acc,gN,fK];exact hE.kept oo (hE.jf.kept oo K),dK _,by omega,hE.tb oo hT⟩
 ·rintro e w' ⟨v,W,rfl,nv,⟨m1,E,q1,q2,tb⟩,o1,hk,o2⟩;have o3:=Hn o2;have K':=hk _ _ E.jf.fY;have ec:acc (Ki T.B T.D T.N (max la lb) (min la lb) h) 3=nN T.B T.D T.N 3 (max la lb) (min la lb):=by subst hh;simp[acc,Ki,nN]
  rw[ec]at K';exact⟨v,m1,rfl,nv,hE.kept o3 (hE.jf.kept o3 K'),by omega,by omega,o3⟩
theorem Ot(IH:kK M)(hM:M<=16384){T:bJ}(hE:dI w gm gt gk ge g s l m T)(hT:TB w)(h0:0<=s)(h1:s+35184372088832*((M:Int)+2)<=2305843009213693952)(h2:0<=l)(h3:l+1+(M:Int)<=100000)(jw:xs.length=la)(hR:cH w ga b o cap xs)(mB:bG xs)(kt:ys.length=lb)(kV:cH w gb b' o' bM ys)(vm:bG ys)(fA:la<=16384)(kl:lb<=16384)(hh:h=(max la lb+2)/3)(dh:2*h<min la lb)(hp:h+1<=M):Calls Tryz.prog 138 #[.pointer (some ⟨gt,0,none⟩),.slice ga la cap,.slice gb lb bM,.func (.func 87) #[.pointer (some ⟨gm,0,none⟩)] #[]] w (rf w gm gt gk ge g s l m T (aB xs*aB ys) (nN T.B T.D T.N 4 (max la lb) (min la lb)) (sr M+1)):=by
 have ac:=Bc (Yn T.MP (n:=max la lb) (m:=min la lb) (h:=h) (by omega) (by omega) (by omega));refine(Tr w gt gk ge g s l m T ga gb b o cap la b' o' bM lb h xs ys 87 #[.pointer (some ⟨gm,0,none⟩)] #[] (fun _=>False) (LZ gm gt gk ge g s l m T (sr M) (Lu T.B T.D T.N (max la lb) (min la lb) h))
  hE.jf h2 (by omega) jw hR mB (fun _ x=>x) kt kV vm (fun _ x=>x) fA kl hh dh (fun x=>x) (fun x=>x) (fun x=>x) (fun x=>x) (fun _ x=>x.elim) ⟨JZ,fun i W W' st oo=>st.vV hE hT oo,fun i W st=>?_,fun i W u v a c hi st iu iv=>?_⟩ (fun W oo K=>?_)).mono ?_
 ·obtain⟨m1,E,_,_,_⟩:=st;exact⟨_,m1,E.jf⟩
 ·rw[Jt];have ai:=ac i;have zI:i*2147483648<=5*2147483648:=ax _ (by omega);refine(st.call IH hM h0 h1 h2 h3 (by omega) (af _) iu iv ?_ ?_ ?_).mono ?_
  ·clear ai zI ac st
   match i,hi with
   |0,_=>show h<=M;omega
   |1,_=>show h+1<=M;omega
   |2,_=>show h+1<=M;omega
   |3,_=>show h+1<=M;omega
   |4,_=>show max la lb-2*h<=M;omega
  ·clear ai zI ac st
   match i,hi with
   |0,_=>show h<=h;omega
   |1,_=>show h+1<=h+1;omega
   |2,_=>show h+1<=h+1;omega
   |3,_=>show h+1<=h+1;omega
   |4,_=>show min la lb-2*h<=max la lb-2*h;omega
  ·clear ai zI ac st
   match i,hi with
   |0,_=>rfl
   |1,_=>rfl
   |2,_=>rfl
   |3,_=>rfl
   |4,_=>rfl
  ·rintro e W' ⟨r,rfl,nr,kg,oo⟩;exact⟨r,rfl,nr,kg,Hm oo⟩
 ·exact⟨_,by rw[acc,gN,fK];exact hE.kept oo K,dK _,by omega,hE.tb oo hT⟩
 ·rintro e w' ⟨v,W,rfl,nv,⟨m1,E,q1,q2,tb⟩,o1,hk,o2⟩;have o3:=Hn o2;have K':=hk _ _ E.jf;have ec:acc (Lu T.B T.D T.N (max la lb) (min la lb) h) 5=nN T.B T.D T.N 4 (max la lb) (min la lb):=by subst hh;simp[acc,Lu,nN];omega
  rw[ec]at K';exact⟨v,m1,rfl,nv,hE.kept o3 K',by omega,by omega,o3⟩
theorem Kn(n m:Nat):max n m*min n m=n*m:=by
 by_cases hc:m<=n
 ·rw[nH hc,iF hc]
 ·rw[pX (by omega),bu (by omega),aC]
theorem aeB(n m k:Nat):tf (max n m) (min n m) k=tf n m k:=by
 by_cases hc:m<=n
 ·rw[nH hc,iF hc]
 ·rw[pX (by omega),bu (by omega),aaS]
theorem Ib{T:bJ}(hE:dI w gm gt gk ge g s l m T)(h0:0<=s)(h1:s<=2305843009213693952)(jw:xs.length=la)(hR:cH w ga b o cap xs)(mB:bG xs)(kt:ys.length=lb)(kV:cH w gb b' o' bM ys)(vm:bG ys)(fA:la<=16384)(kl:lb<=16384):Calls Tryz.prog 136 #[.pointer (some ⟨ge,0,none⟩),.slice ga la cap,.slice gb lb bM] w fun e w'=>∃r,e=.returned r/\ik w gm gt gk ge g s l m T (aB xs*aB ys) (nN T.B T.D T.N 1 (max la lb) (min la lb)) 0 r w':=by
 have iu:InG g w (.slice ga la cap) (aB xs) la:=⟨_,_,_,_,xs,rfl,jw,hR,mB,rfl,by rw[<-jw];exact hE.iG.QQ hR⟩;have iv:InG g w (.slice gb lb bM) (aB ys) lb:=⟨_,_,_,_,ys,rfl,kt,kV,vm,rfl,by rw[<-kt];exact hE.iG.QQ kV⟩;refine(K7 hE.iG _ _ _ _ la lb iu iv (by omega) (by omega) h0 (by omega)).mono ?_;rintro e w' ⟨r,rfl,k1,k2,k3⟩;have ec:nN T.B T.D T.N 1 (max la lb) (min la lb)=la*lb:=by simp only[nN,if_true];exact Kn la lb
 rw[ec];exact⟨r,rfl,m,k1,hE.step k2.met k3,dK _,by omega,Out.bX k3.grown⟩
theorem MF{T:bJ}(hE:dI w gm gt gk ge g s l m T)(hT:TB w)(h0:0<=s)(h1:s<=2305843009213693952)(jw:xs.length=la)(hR:cH w ga b o cap xs)(mB:bG xs)(kt:ys.length=lb)(kV:cH w gb b' o' bM ys)(vm:bG ys)(fA:la<=16384)(kl:lb<=16384)(ha:1<=la)(hb:1<=lb):Calls Tryz.prog 139 #[.pointer (some ⟨g,0,none⟩),.slice ga la cap,.slice gb lb bM] w (rf w gm gt gk ge g s l m T (aB xs*aB ys) (nN T.B T.D T.N 5 (max la lb) (min la lb)) 0):=by
 refine(JD w g 0 s l m ga gb b o cap la b' o' bM lb xs ys hT hE.met h0 h1 jw hR mB kt kV vm ha fA hb kl).mono ?_;rintro e w' ⟨r,rfl,k1,k2,k3⟩;have ec:nN T.B T.D T.N 5 (max la lb) (min la lb)=tf la lb 3:=by simp[nN];exact aeB la lb 3
 rw[rf,ec];exact⟨r,m,rfl,k1,hE.step k2 k3,dK _,by omega,Out.bX k3.grown⟩
def vQ(B D N r n:Nat):Nat:=
 if r=1 then n*(n+1)/2
 else if r=3 then qZ B D N ((n+1)/2)+qZ B D N (n-(n+1)/2)+qZ B D N ((n+1)/2+1)
 else if r=4 then qZ B D N ((n+2)/3)+3*qZ B D N ((n+2)/3+1)+qZ B D N (n-2*((n+2)/3))
 else if r=5 then tf n n 2 else 0
theorem T_(IH:rj M)(hM:M<=16384){T:bJ}(hE:dI w gm gt gk ge g s l m T)(hT:TB w)(h0:0<=s)(h1:s+35184372088832*((M:Int)+2)<=2305843009213693952)(h2:0<=l)(h3:l+1+(M:Int)<=100000)(jw:xs.length=la)(hR:cH w ga b o cap xs)(mB:bG xs)(fA:la<=16384)(hh:h=(la+1)/2)(dh:2<=la)(hp:h+1<=M):Calls Tryz.prog 130 #[.pointer (some ⟨gk,0,none⟩),.slice ga la cap,.func (.func 106) #[.pointer (some ⟨gm,0,none⟩)] #[]] w (rf w gm gt gk ge g s l m T (aB xs*aB xs) (vQ T.B T.D T.N 3 la) (sr M+1)):=by
 have ac:=Bc (acL T.MP (n:=la) (h:=h) fA (by omega));refine(Tk w gk ge g s l m T ga b o cap la h xs 106 #[.pointer (some ⟨gm,0,none⟩)] #[] (fun _=>False) (LZ gm gt gk ge g s l m T (sr M) (ksq T.B T.D T.N la h))
  hE.jf.fY h2 (by omega) jw hR mB (fun _ x=>x) fA hh dh (fun x=>x) (fun x=>x) (fun x=>x) (fun _ x=>x.elim) ⟨EO,fun i W W' st b=>st.next b,fun i W st=>?_,fun i W u a hi st iu=>?_⟩ (fun W oo K=>?_)).mono ?_
 ·obtain⟨m1,E,_,_,_⟩:=st;exact⟨_,m1,E.jf.fY⟩
 ·rw[Js];have ai:=ac i;have zI:i*2147483648<=3*2147483648:=ax _ (by omega);refine(st.sqr IH hM h0 h1 h2 h3 (by omega) (af _) iu ?_ ?_).mono ?_
  ·clear ai zI ac st
   match i,hi with
   |0,_=>show h<=M;omega
   |1,_=>show la-h<=M;omega
   |2,_=>show h+1<=M;omega
  ·clear ai zI ac st
   match i,hi with
   |0,_=>rfl
   |1,_=>rfl
   |2,_=>rfl
  ·rintro e W' ⟨r,rfl,nr,kg,oo⟩;exact⟨r,rfl,nr,kg,Hm oo⟩
 ·exact⟨_,by rw[acc,gN,fK];exact hE.kept oo (hE.jf.kept oo K),dK _,by omega,hE.tb oo hT⟩
 ·rintro e w' ⟨v,W,rfl,nv,⟨m1,E,q1,q2,tb⟩,o1,hk,o2⟩;have o3:=Hn o2;have K':=hk _ _ E.jf.fY;have ec:acc (ksq T.B T.D T.N la h) 3=vQ T.B T.D T.N 3 la:=by subst hh;simp[acc,ksq,vQ]
  rw[ec]at K';exact⟨v,m1,rfl,nv,hE.kept o3 (hE.jf.kept o3 K'),by omega,by omega,o3⟩
theorem aaZ(IH:rj M)(hM:M<=16384){T:bJ}(hE:dI w gm gt gk ge g s l m T)(hT:TB w)(h0:0<=s)(h1:s+35184372088832*((M:Int)+2)<=2305843009213693952)(h2:0<=l)(h3:l+1+(M:Int)<=100000)(jw:xs.length=la)(hR:cH w ga b o cap xs)(mB:bG xs)(fA:la<=16384)(hh:h=(la+2)/3)(dh:2*h<la)(hp:h+1<=M):Calls Tryz.prog 131 #[.pointer (some ⟨gt,0,none⟩),.slice ga la cap,.func (.func 106) #[.pointer (some ⟨gm,0,none⟩)] #[]] w (rf w gm gt gk ge g s l m T (aB xs*aB xs) (vQ T.B T.D T.N 4 la) (sr M+1)):=by
 have ac:=Bc (adi T.MP (n:=la) (h:=h) fA (by omega));refine(Ts w gt gk ge g s l m T ga b o cap la h xs 106 #[.pointer (some ⟨gm,0,none⟩)] #[] (fun _=>False) (LZ gm gt gk ge g s l m T (sr M) (tsq T.B T.D T.N la h))
  hE.jf h2 (by omega) jw hR mB (fun _ x=>x) fA hh dh (fun x=>x) (fun x=>x) (fun x=>x) (fun x=>x) (fun _ x=>x.elim) ⟨EO,fun i W W' st oo=>st.vV hE hT oo,fun i W st=>?_,fun i W u a hi st iu=>?_⟩ (fun W oo K=>?_)).mono ?_
 ·obtain⟨m1,E,_,_,_⟩:=st;exact⟨_,m1,E.jf⟩
 ·rw[Js];have ai:=ac i;have zI:i*2147483648<=5*2147483648:=ax _ (by omega);refine(st.sqr IH hM h0 h1 h2 h3 (by omega) (af _) iu ?_ ?_).mono ?_
  ·clear ai zI ac st
   match i,hi with
   |0,_=>show h<=M;omega
   |1,_=>show h+1<=M;omega
   |2,_=>show h+1<=M;omega
   |3,_=>show h+1<=M;omega
   |4,_=>show la-2*h<=M;omega
  ·clear ai zI ac st
   match i,hi with
   |0,_=>rfl
   |1,_=>rfl
   |2,_=>rfl
   |3,_=>rfl
   |4,_=>rfl
  ·rintro e W' ⟨r,rfl,nr,kg,oo⟩;exact⟨r,rfl,nr,kg,Hm oo⟩
 ·exact⟨_,by rw[acc,gN,fK];exact hE.kept oo K,dK _,by omega,hE.tb oo hT⟩
 ·rintro e w' ⟨v,W,rfl,nv,⟨m1,E,q1,q2,tb⟩,o1,hk,o2⟩;have o3:=Hn o2;have K':=hk _ _ E.jf;have ec:acc (tsq T.B T.D T.N la h) 5=vQ T.B T.D T.N 4 la:=by subst hh;simp[acc,tsq,vQ];omega
  rw[ec]at K';exact⟨v,m1,rfl,nv,hE.kept o3 K',by omega,by omega,o3⟩
theorem S9{T:bJ}(hE:dI w gm gt gk ge g s l m T)(h0:0<=s)(h1:s<=2305843009213693952)(jw:xs.length=la)(hR:cH w ga b o cap xs)(mB:bG xs)(fA:la<=16384):Calls Tryz.prog 129 #[.pointer (some ⟨ge,0,none⟩),.slice ga la cap] w fun e w'=>∃r,e=.returned r/\ik w gm gt gk ge g s l m T (aB xs*aB xs) (vQ T.B T.D T.N 1 la) 0 r w':=by
 have iu:InG g w (.slice ga la cap) (aB xs) la:=⟨_,_,_,_,xs,rfl,jw,hR,mB,rfl,by rw[<-jw];exact hE.iG.QQ hR⟩;refine(La hE.iG _ _ la _ iu (by omega) h0 (by omega) rfl).mono ?_;rintro e w' ⟨r,rfl,k1,k2,k3⟩;have ec:vQ T.B T.D T.N 1 la=la*(la+1)/2:=by simp[vQ]
 rw[ec];exact⟨r,rfl,m,k1,hE.step k2.met k3,dK _,by omega,Out.bX k3.grown⟩
theorem Z8{T:bJ}(hE:dI w gm gt gk ge g s l m T)(hT:TB w)(h0:0<=s)(h1:s<=2305843009213693952)(jw:xs.length=la)(hR:cH w ga b o cap xs)(mB:bG xs)(fA:la<=16384)(ha:1<=la):Calls Tryz.prog 132 #[.pointer (some ⟨g,0,none⟩),.slice ga la cap] w (rf w gm gt gk ge g s l m T (aB xs*aB xs) (vQ T.B T.D T.N 5 la) 0):=by
 refine(JG w g 0 s l m ga b o cap la xs hT hE.met h0 h1 jw hR mB ha fA).mono ?_;rintro e w' ⟨r,rfl,k1,k2,k3⟩;have ec:vQ T.B T.D T.N 5 la=tf la la 2:=by simp[vQ]
 rw[rf,ec];exact⟨r,m,rfl,k1,hE.step k2 k3,dK _,by omega,Out.bX k3.grown⟩
def OM(w:World)(g o M D:Nat)(zs:List Nat)(e:Ending)(w':World):Prop:=
 ∃(q:Nat) (sM:List Nat),e=.returned (.int .u64 (q:Int))/\q<18446744073709551616/\si zs sM o M/\bG sM/\cW w' g sM/\Out (·=g) w w'/\(lj zs o (M+1)<D*18446744073709551616->q=lj zs o (M+1)/D/\lj sM o M=lj zs o (M+1)%D)
theorem si.trans{a b c:List Nat}{m:Nat}(h:si a b o m)(k:si b c o m):si a c o m:=⟨k.1.trans h.1,fun j hj=>(k.2 j hj).trans (h.2 j hj)⟩
theorem adF(w:World)(u v:Value):(w.alloc (.cells #[u,v] 172)).cell? ⟨w.heap.size,0,none⟩=some u/\(w.alloc (.cells #[u,v] 172)).cell? ⟨w.heap.size,1,none⟩=some v:=by have:=aI w (.cells #[u,v] 172);exact⟨ay _ _ _ _ _ (0,0) this,ay _ _ _ _ _ (0,0) this⟩
theorem Ei(w:World)(g o n cap bb ob cb m M v D:Nat)(gb:Option Addr)(zs ds:List Nat)(hz:o+n<=zs.length)(wE:ds.length=M)(hM:M=m+2)(kl:M+1<=n)(hn:o+n<=1099511627776)(hZ:cW w g zs)(dz:bG zs)(hB:cH w gb bb ob cb ds)(dd:bG ds)(v9:9223372036854775808<=ds.getD (m+1) 0)(hv:v=inv2 (ds.getD (m+1) 0*18446744073709551616+ds.getD m 0))(hD:D=aB ds)(hne:bb≠g):Calls Tryz.prog 116 #[.agg #[.slice gb M cb,.int .u64 (v:Int)],.slice (some ⟨g,o,none⟩) n cap] w (OM w g o M D zs):=by
 obtain rfl:=hB.head (by omega);obtain⟨P0,ke⟩:∃P0,w.heap.size=P0:=⟨_,rfl⟩;have bA:Below w.heap.size w (w.alloc (.cells #[.slice (some ⟨bb,ob,none⟩) M cb,.int .u64 (v:Int)] 172)):=(aj _ w).alloc (af _) _;obtain⟨x0,x1⟩:=adF w (.slice (some ⟨bb,ob,none⟩) M cb) (.int .u64 (v:Int));have xB:(w.alloc (.cells #[.slice (some ⟨bb,ob,none⟩) M cb,.int .u64 (v:Int)] 172)).heap.size=P0+1:=by simp[ke]
 obtain⟨W1,mP⟩:∃W1,w.alloc (.cells #[.slice (some ⟨bb,ob,none⟩) M cb,.int .u64 (v:Int)] 172)=W1:=⟨_,rfl⟩;rw[mP]at bA x0 x1 xB;rw[ke]at x0 x1;have nV:=hZ.lt;rw[ke]at nV;obtain⟨h,hh⟩:∃h,h=Ud (zs.getD (o+m+2) 0) (zs.getD (o+m+1) 0) (zs.getD (o+m) 0) (ds.getD (m+1) 0) (ds.getD m 0):=⟨_,rfl⟩;have hhb:h<18446744073709551616:=by rw[hh];exact VV (dz _) (dz _) (dd _)
 have CG:=ag (Rn W1 g o n cap bb ob cb m M v h (some ⟨bb,ob,none⟩) zs ds hz wE hM kl hn (hZ.next bA) dz (hB.next bA) dd v9 hv hh);obtain⟨top,jL⟩:∃top,top=zs.getD (o+M) 0:=⟨_,rfl⟩;have Zu:Hid (∀c Em,Gc zs Em ds h o M c->lj zs o (M+1)<D*18446744073709551616->(c<=top->h=lj zs o (M+1)/D/\lj Em o M=lj zs o (M+1)%D)/\(top<c->∀c' YZ,Jc Em YZ ds o M c'->(h+18446744073709551615)%18446744073709551616=lj zs o (M+1)/D/\lj YZ o M=lj zs o (M+1)%D)):=by
  intro c Em ht hu;subst hM;have hDp:0<D:=by rw[hD];have:=Ic ds 0 m;rw[Lc ds (m+2) (by omega)]at this;simp only[Nat.zero_add]at this;have h1:1*1<=(ds.getD (m+1) 0*18446744073709551616+ds.getD m 0)*18446744073709551616^m:=aP (by omega) (iZ m);omega
  have hDm:D<=18446744073709551616^(m+2):=by have:=bF dd;rw[wE, <-hD]at this;omega
  obtain⟨g1,g2⟩:=acg (o:=o) dz dd wE hD v9 rfl hu;rw[<-hh]at g1 g2;refine⟨fun hc=>On ht (by omega) hD hDm hDp rfl g1 (by rw[<-jL];exact hc),fun hc c' YZ hb=>?_⟩;obtain⟨t1,t2,t3⟩:=Ty ht hb (by omega) hD hDm hDp rfl g2 (by rw[<-jL];exact hc);exact⟨by omega,t3⟩
 have HT:Hid (∀W,Out (·=g) W1 W->cW W g zs->Calls Tryz.prog 147 #[.slice (some ⟨g,o,none⟩) n cap,.slice (some ⟨bb,ob,none⟩) M cb,.int .u64 (h:Int)] W fun e w'=>∃(c:Nat) (Em:List Nat),e=.returned (.int .u64 (c:Int))/\Gc zs Em ds h o M c/\cW w' g Em/\Out (·=g) W1 w'/\(w'.cell? ⟨P0,0,none⟩=some (.slice (some ⟨bb,ob,none⟩) M cb)/\w'.cell? ⟨g,o+M,none⟩=some (.int .u64 (top:Int)))):=by intro W oW bW;refine(Ej W g o n cap bb ob cb M h _ zs ds hz wE (by omega) hn hhb bW dz (oW.rep (hB.next bA) (fun _=>hne)) dd (fun _=>hne)).mono ?_;rintro e w' ⟨c,Em,rfl,ht,hb,hg⟩;have o2:=oW.trans (Out.bX hg);refine⟨c,Em,rfl,ht,hb,o2,o2.cell x0 (by show ¬P0=g;omega),?_⟩;rw[hb.cell (o+M) (by rw[ht.1.1];omega),ht.1.2 (o+M) (Or.inr (af _)), <-jL]
 have HP:Hid (∀W Em,Out (·=g) W1 W->cW W g Em->bG Em->Em.length=zs.length->Calls Tryz.prog 148 #[.slice (some ⟨g,o,none⟩) n cap,.slice (some ⟨bb,ob,none⟩) M cb] W fun e w'=>∃(c:Nat) (YZ:List Nat),e=.returned (.tuple #[])/\Jc Em YZ ds o M c/\cW w' g YZ/\Out (·=g) W1 w'):=by intro W Em oW bW d1 hl;refine(KQ W g o n cap bb ob cb M _ Em ds (by rw[hl];exact hz) wE (by omega) hn bW d1 (oW.rep (hB.next bA) (fun _=>hne)) dd (fun _=>hne)).mono ?_;rintro e w' ⟨c,YZ,rfl,ht,hb,hg⟩;exact⟨c,YZ,rfl,ht,hb,oW.trans (Out.bX hg)⟩
 have oA:Hid (Out (·=g) w W1):=Out.bQ bA;have hZ1:=hZ.next bA;have jK:=(hZ.next bA).cell (o+M) (by omega);rw[<-jL]at jK;have hMn:M<n:=by omega
 have Mb:M<=1099511627776:=by omega
 have eh:IntKind.u64.wrap ((h:Int)-1)=(((h+18446744073709551615)%18446744073709551616:Nat):Int):=by rw[aK];omega
 have ehb:(h+18446744073709551615)%18446744073709551616<18446744073709551616:=aD _ (by omega);generalize (h+18446744073709551615)%18446744073709551616=h1 at *;have hPg:¬P0=g:=by omega
 clear hh hv hM hZ dd v9 hD wE hz kl hn jL hB bA;have dz:=ag dz;go_enter Tryz.func116,Tryz.ntmps116
 go_wp2_with fail
 refine(ae CG).mono ?_;rintro e w2 ⟨rfl,b2⟩;have x0:=(b2.cell (p:=⟨P0,0,none⟩) (by show P0<_;omega)).trans x0;have jK:=(b2.cell (p:=⟨g,o+M,none⟩) hZ1.lt).trans jK;have oB:Out (·=g) W1 w2.drew:=(Out.bQ b2).next (aj _ _).drew;have hZ2:cW w2.drew g zs:=cW.drewN (hZ1.next b2) 1;clear CG hZ1 b2 x1;go_wp2
 go_region_held3 (fun w'=>w'.cell? ⟨P0,0,none⟩=some (.slice (some ⟨bb,ob,none⟩) M cb)/\w'.cell? ⟨g,o+M,none⟩=some (.int .u64 (top:Int))) (first|(assumption)|go_keep) (first
  |(go_at_call 147;with_reducible refine(ae HT _ oB hZ2).mono ?_;rintro e w3 ⟨c,Em,rfl,ht,hb,o3,hS⟩))
 have hS0:=hS.1;have DG:=ag ht;have ID:=ag hb;clear hS HT oB hZ2 x0 jK;by_cases hc:top<c
 ·have CP:=ag (ae HP _ Em o3 hb ht.2.1 ht.1.1);have hci:(top:Int)<(c:Int):=by omega
  clear ht hb
  go_wp2_with fail
  refine(ae CP).mono ?_;rintro e w4 ⟨c',YZ,rfl,hp,jA,o4⟩;have HF:=ag (fun hu=>((ae Zu) c Em (ae DG) hu).2 hc c' YZ hp);have Y5:=ag hp;clear hp CP Zu;go_wp2;go_ret;exact⟨h1,YZ,bY rfl,ehb,(ae DG).1.trans (ae Y5).1,(ae Y5).2.1,jA,(ae oA).trans o4,ae HF⟩
 ·have hci:¬(top:Int)<(c:Int):=by omega
  have HF:=ag (fun hu=>((ae Zu) c Em (ae DG) hu).1 (by omega));clear ht hb Zu;go_wp2;go_ret;exact⟨h,Em,rfl,hhb,(ae DG).1,(ae DG).2.1,ae ID,(ae oA).trans o3,ae HF⟩
theorem yP(w:World)(ga:Option Addr)(b o cap n m:Nat)(xs:List Nat)(hl:xs.length=n)(hn:n<=1099511627776)(hR:cH w ga b o cap xs)(hm:m=fV xs n):Calls Tryz.prog 92 #[.slice ga n cap] w fun e w'=>e=.returned (.slice ga m cap)/\w'=w:=by
 have hmn:m<=n:=by rw[hm];exact fZ xs n
 have ks:n<=cap:=by have:=hR.room;omega
 have CL:=ag (fun w' (h:w'=w)=>h▸pG w ga b o cap n xs hl hn hR);rw[<-hm]at CL;clear hm hR;go_enter Tryz.func92,Tryz.ntmps92
 go_wp2_with fail
 refine(ae CL _ rfl).mono ?_;rintro e w' ⟨rfl,rfl⟩;go_wp2;go_ret;exact⟨fg rfl,rfl⟩
theorem DQ(w:World)(gb:Option Addr)(bb ob cb m M v:Nat)(ds:List Nat)(wE:ds.length=M)(hM:M=m+2)(hn:M<=1099511627776)(hB:cH w gb bb ob cb ds)(dd:bG ds)(v9:9223372036854775808<=ds.getD (m+1) 0)(hv:v=inv2 (ds.getD (m+1) 0*18446744073709551616+ds.getD m 0)):Calls Tryz.prog 115 #[.slice gb M cb] w fun e w'=>e=.returned (.agg #[.slice gb M cb,.int .u64 (v:Int)])/\Below w.heap.size w w':=by
 obtain rfl:=hB.head (by omega);obtain⟨m1,ox⟩:∃m1,m1=m+1:=⟨_,rfl⟩;obtain⟨W1,mP⟩:∃W1,w.alloc (.cells #[.slice none 0 0,.int .u64 0] 172)=W1:=⟨_,rfl⟩;have bA:Below w.heap.size w (w.alloc (.cells #[.slice none 0 0,.int .u64 0] 172)):=(aj _ w).alloc (af _) _;rw[mP]at bA;have b1:=(hB.next bA).cell m1 (by omega);have b0:=(hB.next bA).cell m (by omega);rw[ox]at b1;have p1:=dd (m+1);have p0:=dd m;generalize ds.getD (m+1) 0=d1 at *;generalize ds.getD m 0=d0 at *;rw[<-ox]at b1;have CI:=ag (fun w=>Ek d1 d0 _ v w v9 p1 p0 rfl hv);have i1:(M:Int)-1=(m1:Int):=by omega
 have i2:(M:Int)-2=(m:Int):=by omega
 have j1:m1<M/\m<M:=by omega
 obtain⟨j1,j2⟩:=j1;have k1:IntKind.i64.wrap (m1:Int)=(m1:Int):=by rw[ao];omega
 have k2:IntKind.i64.wrap (m:Int)=(m:Int):=by rw[ao];omega
 have xB:W1.heap.size=w.heap.size+1:=by rw[<-mP];simp
 obtain⟨P0,ke⟩:∃P0,w.heap.size=P0:=⟨_,rfl⟩;have hbx:Hid (W1.heap[P0]?=some (.cells #[.slice none 0 0,.int .u64 0] 172 (0,0))):=by show _=_;rw[<-mP, <-ke];exact aI w _
 have HL:=ag (aw _ _ b0);have BA:=ag bA;have HC:Hid (∀W,Below W1.heap.size W1 W->W.cell? ⟨bb,ob+m1,none⟩=some (.int .u64 (d1:Int))/\W.cell? ⟨bb,ob+m,none⟩=some (.int .u64 (d0:Int))):=fun W b=>⟨(b.cell (p:=⟨bb,ob+m1,none⟩) (ae HL)).trans b1,(b.cell (p:=⟨bb,ob+m,none⟩) (ae HL)).trans b0⟩;clear hv hM ox hB dd wE v9 p1 p0 bA;go_enter Tryz.func115,Tryz.ntmps115
 go_wp2_with fail
 have bl:Below W1.heap.size W1 W1.drew:=(aj _ _).drew
 go_region_held3 (fun w'=>w'.cell? ⟨bb,ob+m1,none⟩=some (.int .u64 (d1:Int))/\w'.cell? ⟨bb,ob+m,none⟩=some (.int .u64 (d0:Int))) (first|(exact ae HC _ bl)|go_keep) (first
  |(go_at_call 145;with_reducible refine(ae CI _).mono ?_;rintro e w3 ⟨rfl,b3⟩;have bl:=bl.trans (b3.mono bl.size)))
 have hk:=(bl.block P0 (by rw[xB];omega)).trans (ae hbx);have c0:w3.cell? ⟨P0,0,none⟩=some (.slice none 0 0):=ay _ _ _ _ _ (0,0) hk;have c1:w3.cell? ⟨P0,1,none⟩=some (.int .u64 0):=ay _ _ _ _ _ (0,0) hk;have f0:w3.frozen? ⟨P0,0,none⟩=false:=bZ _ _ _ _ _ hk;have f1:w3.frozen? ⟨P0,1,none⟩=false:=bZ _ _ _ _ _ hk;have z0:(w3.setCell ⟨P0,0,none⟩ (.slice (some ⟨bb,ob,none⟩) M cb)).cell? ⟨P0,0,none⟩=some (.slice (some ⟨bb,ob,none⟩) M cb):=abS _ _ _ (by rw[c0];rfl);have d1':(w3.setCell ⟨P0,0,none⟩ (.slice (some ⟨bb,ob,none⟩) M cb)).cell? ⟨P0,1,none⟩=some (.int .u64 0):=by rw[eE _ _ _ _ (by simp)];exact c1
 have z1:((w3.setCell ⟨P0,0,none⟩ (.slice (some ⟨bb,ob,none⟩) M cb)).setCell ⟨P0,1,none⟩ (.int .u64 (v:Int))).cell? ⟨P0,1,none⟩=some (.int .u64 (v:Int)):=abS _ _ _ (by rw[d1'];rfl);clear hk d1';go_wp2;refine dR (v:=.agg #[.slice (some ⟨bb,ob,none⟩) M cb,.int .u64 (v:Int)]) (by simp[results,Tryz.results115,go_sem,z0,z1]) rfl ?_;exact⟨rfl,(((ae BA).trans (bl.mono (ae BA).size)).setCell (by show w.heap.size<=P0;omega) _).setCell (by show w.heap.size<=P0;omega) _⟩
end Go.Proofs.YtkdmippllpekfaaGreatDoor
