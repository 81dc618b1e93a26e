/- RootSquares: what the law's walk comes to, once the code is what the document asks. Written by gen_root.py. -/
import Derived.Test.YtgcnhfgpflncaaaGreatDoorB40
import Derived.Test.YtgcnhfgpflncaaaGreatDoorB27
import Derived.Test.YtgcnhfgpflncaaaGreatDoorB12
import Derived.Test.YtgcnhfgpflncaaaGreatDoorB14
import Derived.Test.YtgcnhfgpflncaaaGreatDoorB5
import Derived.Test.YtgcnhfgpflncaaaGreatDoorB3
namespace Go.Proofs.YtgcnhfgpflncaaaGreatDoor
open Go.RowKit
set_option maxRecDepth 100000 in
set_option maxHeartbeats 12800000 in
theorem nW(SN:fS)(SS:fU)(SQ:oL)(SX:lI)(T:Tab)(ga:Option Addr)(ba oa ca la:Nat)(xs:List Nat)(w:World)(hxs:xs.length=la)(HrA:Rep w ga ba oa ca xs)(kxs:∀ j,xs.getD j 0<18446744073709551616)(ev:Bool)(y:Nat)(hy:y<18446744073709551616)(hT:TB w):
  Calls Tryz.prog 4 #[T.val,.slice ga la ca,.bool ev,.int .u64 (y:Int)] w fun e w'=>e=.returned (.bool true)/\Below w.heap.size w w':=by
 obtain⟨n,hca⟩:∃ k,k=min la 12:=⟨_,rfl⟩
 have Ca:Hid (∀ w,Calls Tryz.prog 8 #[.slice ga la ca,.int .i64 12] w fun e w'=>e=.returned (.slice ga n ca)/\w'=w):=fun w=>lT w ga la ca 12 n (by have:=HrA.room;omega) (by omega) hca
 obtain⟨hla,rA⟩:=lV HrA 12 n (by rw[hxs];exact hca)
 have dx:ao (xs.take n):=gB kxs n
 have hma:n<=12:=by omega
 clear hca HrA kxs hxs
 generalize xs.take n=us at *
 obtain⟨A,hva⟩:∃ k,k=af us:=⟨_,rfl⟩
 have LA:Hid (A<18446744073709551616^12):=by show _<_;rw[hva];exact fB (ak dx) (by omega)
 have BA:Hid (A<4294967296^24):=by have:=ae LA;rw[lF]at this;exact this
 have CFa:=hide (fun W (r:Rep W ga ba oa ca us)=>fN W ga ba oa ca n A us hla (by omega) r dx hva)
 have wlA:wl A<=12:=by rw[hva];exact Nat.le_trans (dq dx) (by omega)
 have HLa:=hide hla
 have HEa:=hide hva
 clear hva hla
 have bl:=Below.refl w.heap.size w
 obtain⟨u,hu⟩:∃ u,u=y%3:=⟨_,rfl⟩
 have yu:(y:Int)%3=(u:Int):=by omega
 have yu2:(y:Int).tmod 3=(u:Int):=by rw[Int.tmod_eq_emod_of_nonneg (by omega)];exact yu
 have hu3:u<3:=by omega
 have A2b:A*A<18446744073709551616^24:=by have:=Nat.mul_lt_mul'' (ae LA) (ae LA);rwa [<-Nat.pow_add]at this
 have A2d:Hid (A*A<4294967296^49):=by have:=A2b;rw[lF]at this;exact Nat.lt_of_lt_of_le this (Nat.pow_le_pow_right (by omega) (by omega))
 have A2c:(18446744073709551616:Nat)^25=18446744073709551616^24*18446744073709551616:=Nat.pow_succ _ _
 obtain⟨N,hN⟩:∃ N,N=if ev then (if u=1 then A*A-1 else if u=2 then A*A+1 else A*A) else A:=⟨_,rfl⟩
 have LN:Hid (N<18446744073709551616^25):=by
  show _<_
  have h1:=ae LA
  have h2:(18446744073709551616:Nat)^12<=18446744073709551616^24:=Nat.pow_le_pow_right (by omega) (by omega)
  have h3:1<=(18446744073709551616:Nat)^24:=Nat.one_le_pow _ _ (by omega)
  rw[hN]
  generalize (18446744073709551616:Nat)^25=X at *
  generalize (18446744073709551616:Nat)^24=Y at *
  generalize (18446744073709551616:Nat)^12=Z at *
  split<;>(try split)<;>(try split)<;>omega
 have BN:Hid (N<4294967296^50):=by have:=ae LN;rw[lF]at this;exact this
 have wlN:wl N<=25:=bQ _ _ (ae LN)
 clear A2b A2c hu hy
 obtain⟨S,hS⟩:=fg (k:=2) (by decide) N
 have HSb:Hid (S<18446744073709551616^25):=Nat.lt_of_le_of_lt (pR (by decide) hS) (ae LN)
 have HSb2:Hid (S<4294967296^50):=by have:=ae HSb;rw[lF]at this;exact this
 have CSq:=hide (fun W v (h:aY W v N)=>nM W v N S 50 (ae BN) (by omega) h hS)
 have CMu:=hide (fun W u v (h:aY W u S) (k:aY W v S)=>mul_any W u v S S 50 (by omega) (ae HSb2) (ae HSb2) h k)
 have BP:Hid (S*S<4294967296^50):=Nat.lt_of_le_of_lt (rR hS) (ae BN)
 have CMa:=hide (fun W u v (h:aY W u A) (k:aY W v A)=>mul_any W u v A A 24 (by omega) (ae BA) (ae BA) h k)
 have CSm:=hide (fun W=>iw 1 (by omega) (by omega) W)
 have CSu:Hid (0<A*A->∀ W u v,aY W u (A*A)->aY W v 1->Calls Tryz.prog 15 #[u,v] W fun e w'=>∃ r,e=.returned r/\aY w' r (A*A-1)/\Below W.heap.size W w'):=fun h0 W u v h k=>AM W u v (A*A) 1 49 (by omega) (ae A2d) h0 h k
 have CAd:Hid (∀ W u v,aY W u (A*A)->aY W v 1->Calls Tryz.prog 22 #[u,v] W fun e w'=>∃ r,e=.returned r/\aY w' r (A*A+1)/\Below W.heap.size W w'):=fun W u v h k=>add_any W u v (A*A) 1 49 (by omega) (ae A2d) (by show 1<_;exact Nat.one_lt_pow (by omega) (by omega)) h k
 obtain⟨M,hM⟩:∃ M,M=A*A:=⟨_,rfl⟩
 rw[<-hM]at CMa CSu CAd hN
 obtain⟨is,his⟩:∃ b,b=decide (S*S=N):=⟨_,rfl⟩
 obtain⟨c,hc⟩:∃ c,c=aV (S*S) N:=⟨_,rfl⟩
 have hci:(c==0)=is:=by
  rw[hc,his]
  unfold aV
  rcases Nat.lt_trichotomy (S*S) N with h|h|h
  ·simp[h,Nat.ne_of_lt h]
  ·simp[h]
  ·simp[h,Nat.ne_of_gt h,Nat.not_lt_of_gt h]
 have CCm:Hid (∀ W u v,aY W u (S*S)->aY W v N->Calls Tryz.prog 23 #[u,v] W fun e w'=>e=.returned (.int .i64 c)/\Below W.heap.size W w'):=fun W u v h k=>by rw[hc];exact jY W u v (S*S) N 50 (by omega) (ae BP) (ae BN) h k
 obtain⟨P,hP⟩:∃ P,P=S*S:=⟨_,rfl⟩
 rw[<-hP]at CMu CCm his
 have HP:=hide hP
 have HSS:=hide hS
 have HI:=hide his
 have HN:=hide hN
 clear hS hM hc hP his hN
 have H5:(ev=false/\N=A)\/(ev=true/\((u=0/\N=M)\/(u=1/\M=0/\N=M)\/(u=1/\0<M/\N=M-1)\/(u=2/\N=M+1))):=by
  have h:=ae HN
  cases ev
  ·exact Or.inl ⟨rfl,h⟩
  ·refine Or.inr ⟨rfl,?_⟩
   rcases(by omega:u=0\/u=1\/u=2)with rfl|rfl|rfl
   ·exact Or.inl ⟨rfl,h⟩
   ·rcases Nat.eq_zero_or_pos M with h0|h0
    ·exact Or.inr (Or.inl ⟨rfl,h0,by rw[h];simp[h0]⟩)
    ·exact Or.inr (Or.inr (Or.inl ⟨rfl,h0,h⟩))
   ·exact Or.inr (Or.inr (Or.inr ⟨rfl,h⟩))
 clear HN hu3
 have b0:Below w.heap.size w (w.alloc (.cells #[.int .i64 T.b,.int .i64 T.t,.int .i64 T.n,.int .i64 T.d,.int .i64 T.r,.int .i64 T.l,.int .i64 T.x,.int .i64 T.p,.int .i64 T.k,.int .i64 T.s,.int .i64 T.e] 23)):=(Below.refl _ _).alloc (Nat.le_refl _) _
 have tA:=dK w T 23
 obtain⟨W1,hW1⟩:∃ W,w.alloc (.cells #[.int .i64 T.b,.int .i64 T.t,.int .i64 T.n,.int .i64 T.d,.int .i64 T.r,.int .i64 T.l,.int .i64 T.x,.int .i64 T.p,.int .i64 T.k,.int .i64 T.s,.int .i64 T.e] 23)=W:=⟨_,rfl⟩
 rw[hW1]at b0 tA
 obtain⟨P0,hP0⟩:∃ P,w.heap.size=P:=⟨_,rfl⟩
 rw[hP0]at tA
 have lP:P0<W1.heap.size:=tA.lt
 have HT:=hide hT
 clear hT
 have rA:=rA.next b0
 have bl:=ag bl b0
 clear b0
 have CN:=hide (fun W=>SN T W)
 have CK:=hide (fun W h=>bM SN SS W h)
 have HQ:=hide SQ
 have HX:=hide SX
 clear SN SS SQ SX
 unfold Tab.val at CN ⊢
 go_enter Tryz.func4,Tryz.ntmps4
 go_wp2_with fail
 refine(ae Ca _).mono ?_
 rintro e wca ⟨rfl,rfl⟩
 clear Ca
 have tX0:=tA
 obtain⟨p0,p1,p2,p3,p4,p5,p6,p7,p8,p9,p10⟩:=tX0
 go_wp2_with fail
 refine(ae CN _).mono ?_
 rintro e w1 ⟨gw,gv,gr,gd,gm,gt,gk,ge,g,rfl,E,hn,b⟩
 clear p0 p1 p2 p3 p4 p5 p6 p7 p8 p9 p10
 have hg:w.heap.size<=g:=by omega
 clear hn tA lP CN
 have rA:=rA.next b
 have bl:=ag bl b
 clear b
 have lg:=E.met.lt
 obtain⟨S1,hS1⟩:∃ S1,S1=w1.heap.size:=⟨_,rfl⟩
 rw[<-hS1]at lg
 have sz:S1<=w1.heap.size:=Nat.le_of_eq hS1
 clear hS1
 go_wp2_with fail
 refine(ae CFa _ rA).mono ?_
 rintro e wq ⟨v1,rfl,n1,b⟩
 clear CFa
 have rA:=rA.next b
 have E:=E.next b
 have sz:=Nat.le_trans sz b.size
 have bl:=ag bl b
 clear b
 clear rA
 rcases H5 with⟨rfl,hN⟩|⟨rfl,⟨rfl,hN⟩|⟨rfl,hM,hN⟩|⟨rfl,hM,hN⟩|⟨rfl,hN⟩⟩
 case' inl=>
  rw[<-hN]at n1
 case' inr.inl=>
  go_wp2_with fail
  refine(ae CMa _ _ _ n1 n1).mono ?_
  rintro e wq ⟨v1,rfl,nm,b⟩
  clear n1
  have E:=E.next b
  have sz:=Nat.le_trans sz b.size
  have bl:=ag bl b
  clear b
  have n1:aY wq v1 N:=by rw[hN];exact nm
  clear nm
 case' inr.inr.inl=>
  go_wp2_with fail
  refine(ae CMa _ _ _ n1 n1).mono ?_
  rintro e wq ⟨v1,rfl,nm,b⟩
  clear n1
  have E:=E.next b
  have sz:=Nat.le_trans sz b.size
  have bl:=ag bl b
  clear b
  have CZ:=hide (rQ _ _ _ true (by simp[hM]) nm)
  go_wp2_with fail
  refine(ae CZ).mono ?_
  rintro e wz ⟨rfl,hw⟩
  obtain rfl:=hw.symm
  clear hw CZ
  have n1:aY wq v1 N:=by rw[hN];exact nm
  clear nm
 case' inr.inr.inr.inl=>
  go_wp2_with fail
  refine(ae CMa _ _ _ n1 n1).mono ?_
  rintro e wq ⟨v1,rfl,nm,b⟩
  clear n1
  have E:=E.next b
  have sz:=Nat.le_trans sz b.size
  have bl:=ag bl b
  clear b
  have CZ:=hide (rQ _ _ _ false (by simp;omega) nm)
  go_wp2_with fail
  refine(ae CZ).mono ?_
  rintro e wz ⟨rfl,hw⟩
  obtain rfl:=hw.symm
  clear hw CZ
  go_wp2_with fail
  refine(ae CSm _).mono ?_
  rintro e wq ⟨v2,rfl,n2,b⟩
  have E:=E.next b
  have nm:=nm.next b
  have sz:=Nat.le_trans sz b.size
  have bl:=ag bl b
  clear b
  go_wp2_with fail
  refine(ae CSu hM _ _ _ nm n2).mono ?_
  rintro e wq ⟨v1,rfl,n3,b⟩
  clear nm n2
  have E:=E.next b
  have sz:=Nat.le_trans sz b.size
  have bl:=ag bl b
  clear b
  have n1:aY wq v1 N:=by rw[hN];exact n3
  clear n3
 case' inr.inr.inr.inr=>
  go_wp2_with fail
  refine(ae CMa _ _ _ n1 n1).mono ?_
  rintro e wq ⟨v1,rfl,nm,b⟩
  clear n1
  have E:=E.next b
  have sz:=Nat.le_trans sz b.size
  have bl:=ag bl b
  clear b
  go_wp2_with fail
  refine(ae CSm _).mono ?_
  rintro e wq ⟨v2,rfl,n2,b⟩
  have E:=E.next b
  have nm:=nm.next b
  have sz:=Nat.le_trans sz b.size
  have bl:=ag bl b
  clear b
  go_wp2_with fail
  refine(ae CAd _ _ _ nm n2).mono ?_
  rintro e wq ⟨v1,rfl,n3,b⟩
  clear nm n2
  have E:=E.next b
  have sz:=Nat.le_trans sz b.size
  have bl:=ag bl b
  clear b
  have n1:aY wq v1 N:=by rw[hN];exact n3
  clear n3
 all_goals
  focus
   clear hN CMa CSm CSu CAd
   go_wp2_with fail
   refine(ae CSq _ _ n1).mono ?_
   rintro e wa ⟨v3,rfl,n3,b⟩
   clear yu yu2
   have E:=E.next b
   have n1:=n1.next b
   have sz:=Nat.le_trans sz b.size
   have bl:=ag bl b
   clear b
   go_wp2_with fail
   refine(ae CMu _ _ _ n3 n3).mono ?_
   rintro e wb ⟨v4,rfl,n4,b⟩
   have E:=E.next b
   have n1:=n1.next b
   have n3:=n3.next b
   have sz:=Nat.le_trans sz b.size
   have bl:=ag bl b
   clear b
   go_wp2_with fail
   refine(ae CCm _ _ _ n4 n1).mono ?_
   rintro e wc ⟨rfl,b⟩
   clear n4
   have E:=E.next b
   have n1:=n1.next b
   have n3:=n3.next b
   have sz:=Nat.le_trans sz b.size
   have bl:=ag bl b
   clear b
   go_wp2_with fail
   refine(Jp _ _ _ 25 (by decide) (ae LN) n1).mono ?_
   rintro e wd ⟨rs,rfl,ia,b⟩
   clear n1
   have E:=E.next b
   have n3:=n3.next b
   have sz:=Nat.le_trans sz b.size
   have bl:=ag bl b
   clear b
   obtain⟨ta,tl,tc,rfl⟩:=ia.inW.shp
   clear CSq CMu CCm
   cases is
   ·have hne:S*S≠N:=by rw[<-ae HP];exact of_decide_eq_false (ae HI).symm
    have CR:=hide (ae HX _ gw gv gr gd gm gt gk ge g 0 0 0 T _ N S E ((ae HT).next bl) (by decide) (by decide) (by decide) (by decide) ia (ae HSS) hne (by omega))
    clear ia hne
    go_wp2_with fail
    refine(ae CR).mono ?_
    rintro e we ⟨qa,qc,s',m',rfl,E2,_,o⟩
    clear CR
    have n3:=E.isN o n3
    have sz:=Nat.le_trans sz o.size
    have bl:=bl.trans (o.below (B:=w.heap.size) bl.size (fun k hk=>by rw[hk];exact hg))
    have E:=E2
    clear o E2
    clear E n3
    go_wp2_with fail
    refine(ae CK _ ((ae HT).next bl)).mono ?_
    rintro e w2 ⟨rfl,b⟩
    have bl:=ag bl b
    clear b
    go_wp2
    go_ret
    exact⟨rfl,bl⟩
   ·have hne:S*S=N:=by rw[<-ae HP];exact of_decide_eq_true (ae HI).symm
    have CR:=hide (ae HQ _ gw gv gr gd gm gt gk ge g 0 0 0 T _ N S E ((ae HT).next bl) (by decide) (by decide) (by decide) (by decide) ia (ae HSS) hne (by omega))
    clear ia hne
    go_wp2_with fail
    refine(ae CR).mono ?_
    rintro e we ⟨q,s',m',rfl,nq,E2,_,o⟩
    clear CR
    have nq:=nq.mono sz
    have n3:=E.isN o n3
    have sz:=Nat.le_trans sz o.size
    have bl:=bl.trans (o.below (B:=w.heap.size) bl.size (fun k hk=>by rw[hk];exact hg))
    have E:=E2
    clear o E2
    clear E
    obtain⟨qa,ql,qc,rfl⟩:=nq.shape
    go_wp2_with fail
    refine(mz _ _ _ _ _ 25 (by omega) (ae HSb) n3 nq).mono ?_
    rintro e wf ⟨rfl,b⟩
    clear n3 nq
    have sz:=Nat.le_trans sz b.size
    have bl:=ag bl b
    clear b
    go_wp2_with fail
    refine(ae CK _ ((ae HT).next bl)).mono ?_
    rintro e w3 ⟨rfl,b⟩
    have bl:=ag bl b
    clear b
    go_wp2
    go_ret
    exact⟨rfl,bl⟩
end Go.Proofs.YtgcnhfgpflncaaaGreatDoor
