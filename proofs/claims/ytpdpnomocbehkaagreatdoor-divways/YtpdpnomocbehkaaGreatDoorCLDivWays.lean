/- DivWays: what the law's walk comes to, once the code is what the document asks. Written by gen_div.py. -/
import Derived.Test.YtpdpnomocbehkaaGreatDoorB42
import Derived.Test.YtpdpnomocbehkaaGreatDoorB9
import Derived.Test.YtpdpnomocbehkaaGreatDoorB13
import Derived.Test.YtpdpnomocbehkaaGreatDoorB3
import Derived.Test.YtpdpnomocbehkaaGreatDoorB8
import Derived.Test.YtpdpnomocbehkaaGreatDoorB30
namespace Go.Proofs.YtpdpnomocbehkaaGreatDoor
open Go.RowKit
theorem Py(A C:Nat)(h1:wl A<=40)(h2:wl C<=24):jL A C<=41*25:=by
 unfold jL
 split
 ·omega
 ·exact Nat.mul_le_mul (by omega) (by omega)
theorem JG{n L p:Nat}(h:iZ n L)(hn:n<18446744073709551616^p):L<=64*p/\n<=2^L/\2^L<18446744073709551616^(p+1):=by
 have e:∀ q:Nat,(18446744073709551616:Nat)^q=2^(64*q):=fun q=>by rw[Nat.pow_mul]
 have hL:L<=64*p:=by
  rcases h with⟨_,h⟩|⟨_,h1,h2,_⟩
  ·omega
  ·rw[e]at hn
   have:=(Nat.pow_lt_pow_iff_right (a:=2) (by omega)).1 (Nat.lt_of_le_of_lt h2 hn)
   omega
 refine⟨hL,?_,?_⟩
 ·rcases h with⟨h,_⟩|⟨_,_,_,h⟩
  ·rw[h];exact Nat.zero_le _
  ·exact Nat.le_of_lt h
 ·rw[e]
  exact Nat.pow_lt_pow_right (by omega) (by omega)
theorem FC(w:World)(v:Value)(n p:Nat)(hp:p<=100000)(hn:n<18446744073709551616^p)(h:bu w v n):
  Calls Tryz.prog 31 #[v] w fun e w'=>∃ ga b cap ws l,e=.returned (.slice ga l cap)/\ws.length=l/\Rep w' ga b 0 cap ws/\cC ws/\af ws=n/\Below w.heap.size w w':=by
 obtain⟨ga,b,o,cap,xs,rfl,hR,hc,hv⟩:=h
 have hn2:=hn
 rw[fo]at hn2
 have hl:=gC hc (L:=2*p) (by rw[hv];exact hn2)
 refine(Aa w ga b o cap _ xs rfl (by omega) hR hc).mono ?_
 rintro e w' ⟨g1,b1,c1,ws,rfl,r1,k1,v1,hb,_⟩
 exact⟨g1,b1,c1,ws,_,rfl,rfl,r1,k1,by rw[v1,hv],hb⟩
set_option maxRecDepth 100000 in
set_option maxHeartbeats 12800000 in
theorem v8(SN:fw)(SD:df)(SH:pr)(SHN:lT)(SL:vC)(SLN:pt)(SR:rF)(SB:Aj)(T:Tab)(ga:Option Addr)(ba oa ca la:Nat)(xs:List Nat)(gb:Option Addr)(bb ob cb lb:Nat)(ys:List Nat)(w:World)(hxs:xs.length=la)(HrA:Rep w ga ba oa ca xs)(kxs:∀ j,xs.getD j 0<18446744073709551616)(hys:ys.length=lb)(HrB:Rep w gb bb ob cb ys)(kys:∀ j,ys.getD j 0<18446744073709551616)(hT:TB w):
  Calls Tryz.prog 4 #[T.val,.slice ga la ca,.slice gb lb cb] w fun e w'=>e=.returned (.bool true)/\Below w.heap.size w w':=by
 obtain⟨n,hca⟩:∃ k,k=min la 40:=⟨_,rfl⟩
 have Ca:Hid (∀ w,Calls Tryz.prog 9 #[.slice ga la ca,.int .i64 40] w fun e w'=>e=.returned (.slice ga n ca)/\w'=w):=fun w=>dG w ga la ca 40 n (by have:=HrA.room;omega) (by omega) hca
 obtain⟨hla,rA⟩:=dH HrA 40 n (by rw[hxs];exact hca)
 have dx:ao (xs.take n):=bq kxs n
 have hma:n<=40:=by omega
 clear hca HrA kxs hxs
 generalize xs.take n=us at *
 obtain⟨m,hcb⟩:∃ k,k=min lb 24:=⟨_,rfl⟩
 have Cb:Hid (∀ w,Calls Tryz.prog 9 #[.slice gb lb cb,.int .i64 24] w fun e w'=>e=.returned (.slice gb m cb)/\w'=w):=fun w=>dG w gb lb cb 24 m (by have:=HrB.room;omega) (by omega) hcb
 obtain⟨hlb,rB⟩:=dH HrB 24 m (by rw[hys];exact hcb)
 have dy:ao (ys.take m):=bq kys m
 have hmb:m<=24:=by omega
 clear hcb HrB kys hys
 generalize ys.take m=vs at *
 obtain⟨A,hva⟩:∃ k,k=af us:=⟨_,rfl⟩
 have LA:Hid (A<18446744073709551616^40):=by show _<_;rw[hva];exact aP (ak dx) (by omega)
 have BA:Hid (A<4294967296^80):=by have:=ae LA;rw[fo]at this;exact this
 have CFa:=hide (fun W (r:Rep W ga ba oa ca us)=>bR W ga ba oa ca n A us hla (by omega) r dx hva)
 have CWa:=hide (fun W (r:Rep W ga ba oa ca us)=>bo W ga ba oa ca n A us hla (by omega) r dx hva)
 have wlA:wl A<=40:=by rw[hva];exact Nat.le_trans (aW dx) (by omega)
 have HLa:=hide hla
 have HEa:=hide hva
 clear hva hla
 obtain⟨D,hvb⟩:∃ k,k=af vs:=⟨_,rfl⟩
 have LD:Hid (D<18446744073709551616^24):=by show _<_;rw[hvb];exact aP (ak dy) (by omega)
 have BD:Hid (D<4294967296^48):=by have:=ae LD;rw[fo]at this;exact this
 have CFb:=hide (fun W (r:Rep W gb bb ob cb vs)=>bR W gb bb ob cb m D vs hlb (by omega) r dy hvb)
 have CWb:=hide (fun W (r:Rep W gb bb ob cb vs)=>bo W gb bb ob cb m D vs hlb (by omega) r dy hvb)
 have wlD:wl D<=24:=by rw[hvb];exact Nat.le_trans (aW dy) (by omega)
 have HLb:=hide hlb
 have HEb:=hide hvb
 clear hvb hlb
 have bl:=Below.refl w.heap.size w
 rcases Nat.eq_zero_or_pos D with hD0|h0
 case inl=>
  subst hD0
  rw[aZ]at CWb
  have b0:Below w.heap.size w (w.alloc (.cells #[.int .i64 T.b,.int .i64 T.t,.int .i64 T.n,.int .i64 T.d,.int .i64 T.r,.int .i64 T.l,.int .i64 T.x,.int .i64 T.p,.int .i64 T.k,.int .i64 T.s,.int .i64 T.e] 23)):=(Below.refl _ _).alloc (Nat.le_refl _) _
  have tA:=bg w T 23
  obtain⟨W1,hW1⟩:∃ W,w.alloc (.cells #[.int .i64 T.b,.int .i64 T.t,.int .i64 T.n,.int .i64 T.d,.int .i64 T.r,.int .i64 T.l,.int .i64 T.x,.int .i64 T.p,.int .i64 T.k,.int .i64 T.s,.int .i64 T.e] 23)=W:=⟨_,rfl⟩
  rw[hW1]at b0 tA
  obtain⟨P0,hP0⟩:∃ P,w.heap.size=P:=⟨_,rfl⟩
  rw[hP0]at tA
  have lP:P0<W1.heap.size:=tA.lt
  have HT:=hide hT
  clear hT
  have rA:=rA.next b0
  have rB:=rB.next b0
  have bl:=ag bl b0
  clear b0
  have CN:=hide (fun W=>SN T W)
  have CK:=hide (fun W h=>aM SN SD W h)
  have HH:=hide SH
  have HHN:=hide SHN
  have HL:=hide SL
  have HLN:=hide SLN
  have HR:=hide SR
  have HB:=hide SB
  have HD:=hide SD
  clear SN SH SHN SL SLN SR SB SD
  unfold Tab.val at CN ⊢
  go_enter Tryz.func4,Tryz.ntmps4
  go_wp2_with fail
  refine(ae Ca _).mono ?_
  rintro e wca ⟨rfl,rfl⟩
  clear Ca
  go_wp2_with fail
  refine(ae Cb _).mono ?_
  rintro e wcb ⟨rfl,rfl⟩
  clear Cb
  have tX0:=tA
  obtain⟨p0,p1,p2,p3,p4,p5,p6,p7,p8,p9,p10⟩:=tX0
  go_wp2_with fail
  refine(ae CN _).mono ?_
  rintro e w1 ⟨gv,gr,gd,gm,gt,gk,ge,g,rfl,E,hn,b⟩
  clear p0 p1 p2 p3 p4 p5 p6 p7 p8 p9 p10
  have hg:w.heap.size<=g:=by omega
  clear hn tA lP CN
  have rA:=rA.next b
  have rB:=rB.next b
  have bl:=ag bl b
  clear b
  have CR:=hide (ae HHN _ gv gr gd gm gt gk ge g 0 0 0 T _ _ A E ((ae HT).next bl) (by decide) (by decide) (by decide) (by decide) (aF rA dx (ae HLa) (ae HEa) (by omega)) (aF rB dy (ae HLb) (ae HEb) (by omega)) (by omega))
  go_wp2_with fail
  refine(ae CR).mono ?_
  rintro e w2 ⟨qa,qc,ra,rc,s1,m1,rfl,E2,⟨sa1,sb1⟩,o⟩
  clear CR
  have rA:=E.rep o rA
  have rB:=E.rep o rB
  have bl:=bl.trans (o.below (B:=w.heap.size) bl.size (fun k hk=>by rw[hk];exact hg))
  have E:=E2
  clear o E2
  have z0:=E.ptr
  have z1:=E.rcp.ptr
  have CR:=hide (ae HLN _ gd gm gt gk ge g s1 0 m1 T _ _ A E.rcp.div sa1 (by omega) (by decide) (by decide) (aF rA dx (ae HLa) (ae HEa) (by omega)) (aF rB dy (ae HLb) (ae HEb) (by omega)))
  go_wp2_with fail
  refine(ae CR).mono ?_
  rintro e w3 ⟨ua,uc,va,vc,s2,m2,rfl,E3,_,_,o⟩
  clear CR z0 z1
  have E2:=E.kept o (E.rcp.kept o E3)
  clear E3
  have rA:=E.rep o rA
  have rB:=E.rep o rB
  have bl:=bl.trans (o.below (B:=w.heap.size) bl.size (fun k hk=>by rw[hk];exact hg))
  have E:=E2
  clear o E2
  clear E
  go_wp2_with fail
  refine(ae CWb _ rB).mono ?_
  rintro e wb ⟨rfl,rfl⟩
  go_wp2_with fail
  refine(ae CK _ ((ae HT).next bl)).mono ?_
  rintro e w4 ⟨rfl,b⟩
  have bl:=ag bl b
  clear b
  go_wp2
  go_ret
  exact⟨rfl,bl⟩
 case inr=>
  have hwD:wl D≠0:=fun e=>by have:=ay.1 e;omega
  have hwI:((wl D:Int)==0)=false:=by simp only[beq_eq_false_iff_ne];omega
  obtain⟨Q,hQ⟩:∃ Q,Q=A/D:=⟨_,rfl⟩
  obtain⟨R,hR⟩:∃ R,R=A%D:=⟨_,rfl⟩
  have LQ:Hid (Q<18446744073709551616^40):=by show _<_;rw[hQ];exact Nat.lt_of_le_of_lt (Nat.div_le_self _ _) (ae LA)
  have LR:Hid (R<18446744073709551616^40):=by show _<_;rw[hR];exact Nat.lt_of_le_of_lt (Nat.mod_le _ _) (ae LA)
  have UQ:Hid (Q<4294967296^80):=by have:=ae LQ;rw[fo]at this;exact this
  have UR:Hid (R<4294967296^80):=by have:=ae LR;rw[fo]at this;exact this
  have UD:Hid (D<4294967296^80):=Nat.lt_of_lt_of_le (ae BD) (Nat.pow_le_pow_right (by omega) (by omega))
  have eA:Q*D+R=A:=by rw[hQ,hR,Nat.mul_comm];exact Nat.div_add_mod _ _
  have UQD:Hid (Q*D<4294967296^80):=Nat.lt_of_le_of_lt (show Q*D<=A by omega) (ae BA)
  have CMu:Hid (∀ W u v,bu W u Q->bu W v D->Calls Tryz.prog 30 #[u,v] W fun e w'=>∃ r,e=.returned r/\bu w' r (Q*D)/\Below W.heap.size W w'):=fun W u v a b=>mul_any W u v Q D 80 (by omega) (ae UQ) (ae UD) a b
  have CAd:Hid (∀ W u v,bu W u (Q*D)->bu W v R->Calls Tryz.prog 29 #[u,v] W fun e w'=>∃ r,e=.returned r/\bu w' r A/\Below W.heap.size W w'):=fun W u v a b=>by
   have:=add_any W u v (Q*D) R 80 (by omega) (ae UQD) (ae UR) a b
   rw[eA]at this
   exact this
  have lgb:=Py A D wlA wlD
  have HQ:=hide hQ
  have HRm:=hide hR
  have H0:=hide h0
  generalize hQD:Q*D=QD at *
  clear hQ hR h0 eA hQD
  have b0:Below w.heap.size w (w.alloc (.cells #[.int .i64 T.b,.int .i64 T.t,.int .i64 T.n,.int .i64 T.d,.int .i64 T.r,.int .i64 T.l,.int .i64 T.x,.int .i64 T.p,.int .i64 T.k,.int .i64 T.s,.int .i64 T.e] 23)):=(Below.refl _ _).alloc (Nat.le_refl _) _
  have tA:=bg w T 23
  obtain⟨W1,hW1⟩:∃ W,w.alloc (.cells #[.int .i64 T.b,.int .i64 T.t,.int .i64 T.n,.int .i64 T.d,.int .i64 T.r,.int .i64 T.l,.int .i64 T.x,.int .i64 T.p,.int .i64 T.k,.int .i64 T.s,.int .i64 T.e] 23)=W:=⟨_,rfl⟩
  rw[hW1]at b0 tA
  obtain⟨P0,hP0⟩:∃ P,w.heap.size=P:=⟨_,rfl⟩
  rw[hP0]at tA
  have lP:P0<W1.heap.size:=tA.lt
  have HT:=hide hT
  clear hT
  have rA:=rA.next b0
  have rB:=rB.next b0
  have bl:=ag bl b0
  clear b0
  have CN:=hide (fun W=>SN T W)
  have CK:=hide (fun W h=>aM SN SD W h)
  have HH:=hide SH
  have HHN:=hide SHN
  have HL:=hide SL
  have HLN:=hide SLN
  have HR:=hide SR
  have HB:=hide SB
  have HD:=hide SD
  clear SN SH SHN SL SLN SR SB SD
  unfold Tab.val at CN ⊢
  go_enter Tryz.func4,Tryz.ntmps4
  go_wp2_with fail
  refine(ae Ca _).mono ?_
  rintro e wca ⟨rfl,rfl⟩
  clear Ca
  go_wp2_with fail
  refine(ae Cb _).mono ?_
  rintro e wcb ⟨rfl,rfl⟩
  clear Cb
  have tX0:=tA
  obtain⟨p0,p1,p2,p3,p4,p5,p6,p7,p8,p9,p10⟩:=tX0
  go_wp2_with fail
  refine(ae CN _).mono ?_
  rintro e w1 ⟨gv,gr,gd,gm,gt,gk,ge,g,rfl,E,hn,b⟩
  clear p0 p1 p2 p3 p4 p5 p6 p7 p8 p9 p10
  have hg:w.heap.size<=g:=by omega
  clear hn tA lP CN
  have rA:=rA.next b
  have rB:=rB.next b
  have bl:=ag bl b
  clear b
  have lg:=E.met.lt
  obtain⟨S1,hS1⟩:∃ S1,S1=w1.heap.size:=⟨_,rfl⟩
  rw[<-hS1]at lg
  have sz:S1<=w1.heap.size:=Nat.le_of_eq hS1
  clear hS1
  have CR:=hide (ae HH _ gv gr gd gm gt gk ge g 0 0 0 T _ _ A D E ((ae HT).next bl) (by decide) (by decide) (by decide) (by decide) (aF rA dx (ae HLa) (ae HEa) (by omega)) (aF rB dy (ae HLb) (ae HEb) (by omega)) (ae H0) (by omega) (by omega))
  rw[<-ae HQ, <-ae HRm]at CR
  go_wp2_with fail
  refine(ae CR).mono ?_
  rintro e w2 ⟨q,r,gq,gx,s1,m1,rfl,nq,nr,⟨_,hq4,hr4⟩,E2,⟨sa1,sb1⟩,o⟩
  clear CR
  have nq:=nq.toW.mono (Nat.le_trans sz hq4)
  have nr:=nr.toW.mono (Nat.le_trans sz hr4)
  clear hq4 hr4
  have rA:=E.rep o rA
  have rB:=E.rep o rB
  have sz:=Nat.le_trans sz o.size
  have bl:=bl.trans (o.below (B:=w.heap.size) bl.size (fun k hk=>by rw[hk];exact hg))
  have E:=E2
  clear o E2
  obtain⟨qa,ql,qc,rfl⟩:=nq.shape
  obtain⟨ra,rl,rc,rfl⟩:=nr.shape
  have z0:=E.ptr
  have z1:=E.rcp.ptr
  have CR:=hide (ae HL _ gd gm gt gk ge g s1 0 m1 T _ _ A D E.rcp.div sa1 (by omega) (by decide) (by decide) (aF rA dx (ae HLa) (ae HEa) (by omega)) (aF rB dy (ae HLb) (ae HEb) (by omega)) (ae H0))
  rw[<-ae HQ, <-ae HRm]at CR
  go_wp2_with fail
  refine(ae CR).mono ?_
  rintro e w3 ⟨u,v,gu,gy,m2,rfl,nu,nv,⟨_,hq4,hr4⟩,E3,_,o⟩
  clear CR z0 z1
  have E2:=E.kept o (E.rcp.kept o E3)
  clear E3
  have nu:=nu.toW.mono (Nat.le_trans sz hq4)
  have nv:=nv.toW.mono (Nat.le_trans sz hr4)
  clear hq4 hr4
  obtain⟨s2,hs2⟩:∃ s2:Int,s2=s1+(jL A D:Int):=⟨_,rfl⟩
  rw[<-hs2]at E2
  have sa2:0<=s2:=by omega
  have sb2:s2<=18014398509481984:=by omega
  clear hs2
  have rA:=E.rep o rA
  have rB:=E.rep o rB
  have nq:=o.newW nq (fun k e=>by rw[e];exact lg)
  have nr:=o.newW nr (fun k e=>by rw[e];exact lg)
  have sz:=Nat.le_trans sz o.size
  have bl:=bl.trans (o.below (B:=w.heap.size) bl.size (fun k hk=>by rw[hk];exact hg))
  have E:=E2
  clear o E2
  obtain⟨ua,ul,uc,rfl⟩:=nu.shape
  obtain⟨va,vl,vc,rfl⟩:=nv.shape
  go_wp2_with fail
  refine(ae CWb _ rB).mono ?_
  rintro e wb ⟨rfl,rfl⟩
  obtain⟨L,_,hL,CBt⟩:=dW (aF rA dx (ae HLa) (ae HEa) (by omega)).inW
  obtain⟨l1,l2,l3⟩:=JG hL (ae LA)
  have CBt:=hide CBt
  obtain⟨V,hV⟩:∃ V,V=2^L/D:=⟨_,rfl⟩
  have LV:Hid (V<18446744073709551616^41):=by show _<_;rw[hV];exact Nat.lt_of_le_of_lt (Nat.div_le_self _ _) l3
  have HV:=hide hV
  have HL2:=hide l2
  clear hL hV l2 l3
  go_wp2_with fail
  refine(ae CBt).mono ?_
  rintro e wz ⟨rfl,hw⟩
  obtain rfl:=hw.symm
  clear hw CBt
  have z0:=E.ptr
  have CR:=hide (ae HR _ gr gd gm gt gk ge g s2 0 _ T _ D L E.rcp ((ae HT).next bl) sa2 (by omega) (by decide) (by decide) (aF rB dy (ae HLb) (ae HEb) (by omega)) (ae H0) (by omega) (by omega))
  rw[<-ae HV]at CR
  go_wp2_with fail
  refine(ae CR).mono ?_
  rintro e w4 ⟨c,gc,s3,m3,rfl,nc,hq4,E3,⟨sa3,sb3⟩,o⟩
  clear CR z0
  have E2:=E.kept o E3
  clear E3
  have nc:=nc.toW.mono (Nat.le_trans sz hq4)
  clear hq4
  have rA:=E.rep o rA
  have rB:=E.rep o rB
  have nq:=o.newW nq (fun k e=>by rw[e];exact lg)
  have nr:=o.newW nr (fun k e=>by rw[e];exact lg)
  have nu:=o.newW nu (fun k e=>by rw[e];exact lg)
  have nv:=o.newW nv (fun k e=>by rw[e];exact lg)
  have sz:=Nat.le_trans sz o.size
  have bl:=bl.trans (o.below (B:=w.heap.size) bl.size (fun k hk=>by rw[hk];exact hg))
  have E:=E2
  clear o E2
  obtain⟨c0a,c0l,c0c,rfl⟩:=nc.shape
  have z0:=E.ptr
  have CR:=hide (ae HB _ gr gd gm gt gk ge g s3 0 m3 T _ _ _ A D V L E.rcp ((ae HT).next bl) sa3 (by omega) (by decide) (by decide) (aF rA dx (ae HLa) (ae HEa) (by omega)) (aF rB dy (ae HLb) (ae HEb) (by omega)) (nc.toM (ae LV) (by decide)) (ae H0) (by omega) (by omega) (ae HV) (ae HL2))
  rw[<-ae HQ, <-ae HRm]at CR
  go_wp2_with fail
  refine(ae CR).mono ?_
  rintro e w5 ⟨x,y,gx5,gy5,s5,m5,rfl,nx,ny,⟨_,hq4,hr4⟩,E3,_,o⟩
  clear CR z0
  have E2:=E.kept o E3
  clear E3
  have nx:=nx.toW.mono (Nat.le_trans sz hq4)
  have ny:=ny.toW.mono (Nat.le_trans sz hr4)
  clear hq4 hr4 nc
  have rA:=E.rep o rA
  have rB:=E.rep o rB
  have nq:=o.newW nq (fun k e=>by rw[e];exact lg)
  have nr:=o.newW nr (fun k e=>by rw[e];exact lg)
  have nu:=o.newW nu (fun k e=>by rw[e];exact lg)
  have nv:=o.newW nv (fun k e=>by rw[e];exact lg)
  have sz:=Nat.le_trans sz o.size
  have bl:=bl.trans (o.below (B:=w.heap.size) bl.size (fun k hk=>by rw[hk];exact hg))
  have E:=E2
  clear o E2
  clear E
  obtain⟨xa,xl,xc,rfl⟩:=nx.shape
  obtain⟨ya,yl,yc,rfl⟩:=ny.shape
  go_wp2_with fail
  refine(fH _ _ _ _ _ _ _ 40 (by decide) (ae LQ) rfl nq nu).mono ?_
  rintro e w6 ⟨rfl,b⟩
  have rA:=rA.next b
  have rB:=rB.next b
  have nq:=nq.next b
  have nr:=nr.next b
  have nu:=nu.next b
  have nv:=nv.next b
  have nx:=nx.next b
  have ny:=ny.next b
  have sz:=Nat.le_trans sz b.size
  have bl:=ag bl b
  clear b
  go_wp2_with fail
  refine(fH _ _ _ _ _ _ _ 40 (by decide) (ae LR) rfl nr nv).mono ?_
  rintro e w7 ⟨rfl,b⟩
  have rA:=rA.next b
  have rB:=rB.next b
  have nq:=nq.next b
  have nr:=nr.next b
  have nu:=nu.next b
  have nv:=nv.next b
  have nx:=nx.next b
  have ny:=ny.next b
  have sz:=Nat.le_trans sz b.size
  have bl:=ag bl b
  clear b
  go_wp2_with fail
  refine(fH _ _ _ _ _ _ _ 40 (by decide) (ae LQ) rfl nx nu).mono ?_
  rintro e w8 ⟨rfl,b⟩
  clear nx nu
  have rA:=rA.next b
  have rB:=rB.next b
  have nq:=nq.next b
  have nr:=nr.next b
  have nv:=nv.next b
  have ny:=ny.next b
  have sz:=Nat.le_trans sz b.size
  have bl:=ag bl b
  clear b
  go_wp2_with fail
  refine(fH _ _ _ _ _ _ _ 40 (by decide) (ae LR) rfl ny nv).mono ?_
  rintro e w9 ⟨rfl,b⟩
  clear ny nv
  have rA:=rA.next b
  have rB:=rB.next b
  have nq:=nq.next b
  have nr:=nr.next b
  have sz:=Nat.le_trans sz b.size
  have bl:=ag bl b
  clear b
  go_wp2_with fail
  refine(kA _ _ _ _ 40 (by decide) (ae LQ) nq).mono ?_
  rintro e w10 ⟨v1,rfl,n1,b⟩
  clear nq
  have rA:=rA.next b
  have rB:=rB.next b
  have nr:=nr.next b
  have sz:=Nat.le_trans sz b.size
  have bl:=ag bl b
  clear b
  go_wp2_with fail
  refine(ae CFb _ rB).mono ?_
  rintro e w11 ⟨v2,rfl,n2,b⟩
  have rA:=rA.next b
  have rB:=rB.next b
  have nr:=nr.next b
  have n1:=n1.next b
  have sz:=Nat.le_trans sz b.size
  have bl:=ag bl b
  clear b
  go_wp2_with fail
  refine(ae CMu _ _ _ n1 n2).mono ?_
  rintro e w12 ⟨v3,rfl,n3,b⟩
  clear n1 n2
  have rA:=rA.next b
  have rB:=rB.next b
  have nr:=nr.next b
  have sz:=Nat.le_trans sz b.size
  have bl:=ag bl b
  clear b
  go_wp2_with fail
  refine(kA _ _ _ _ 40 (by decide) (ae LR) nr).mono ?_
  rintro e w13 ⟨v4,rfl,n4,b⟩
  clear nr
  have rA:=rA.next b
  have rB:=rB.next b
  have n3:=n3.next b
  have sz:=Nat.le_trans sz b.size
  have bl:=ag bl b
  clear b
  go_wp2_with fail
  refine(ae CAd _ _ _ n3 n4).mono ?_
  rintro e w14 ⟨v5,rfl,n5,b⟩
  clear n3 n4
  have rA:=rA.next b
  have rB:=rB.next b
  have sz:=Nat.le_trans sz b.size
  have bl:=ag bl b
  clear b
  go_wp2_with fail
  refine(ae CFa _ rA).mono ?_
  rintro e w15 ⟨v6,rfl,n6,b⟩
  have rA:=rA.next b
  have rB:=rB.next b
  have n5:=n5.next b
  have sz:=Nat.le_trans sz b.size
  have bl:=ag bl b
  clear b
  go_wp2_with fail
  refine(FC _ _ _ 40 (by decide) (ae LA) n6).mono ?_
  rintro e w16 ⟨ta,tb,tc,ws,tl,rfl,htl,tr,tcan,tv,b⟩
  clear n6
  have rA:=rA.next b
  have rB:=rB.next b
  have n5:=n5.next b
  have sz:=Nat.le_trans sz b.size
  have bl:=ag bl b
  clear b
  go_wp2_with fail
  refine(xQ _ _ ta tb 0 tc tl A 80 ws htl (by decide) (ae BA) n5 tr tcan tv).mono ?_
  rintro e w17 ⟨rfl,b⟩
  clear n5 tr
  have rA:=rA.next b
  have rB:=rB.next b
  have sz:=Nat.le_trans sz b.size
  have bl:=ag bl b
  clear b
  go_wp2_with fail
  refine(ae CK _ ((ae HT).next bl)).mono ?_
  rintro e w18 ⟨rfl,b⟩
  have bl:=ag bl b
  clear b
  go_wp2
  go_ret
  exact⟨rfl,bl⟩
end Go.Proofs.YtpdpnomocbehkaaGreatDoor
