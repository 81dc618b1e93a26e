import Derived.Test.YtkdmippllpekfaaGreatDoorB31
namespace Go.Proofs.YtkdmippllpekfaaGreatDoor
set_option maxRecDepth 100000
set_option maxHeartbeats 3200000
open Go.RowKit
variable{l m s:Int}{A V b g gd ge gk gm gr gt n:Nat}{v:Value}{w w':World}
theorem Tf:UQ:=by
 intro T w;have CC:=ag (fun w=>Tn T w);unfold bJ.val at CC ⊢;go_enter Tryz.func75,Tryz.ntmps75
 go_wp2_with fail
 refine(ae CC _).mono ?_;rintro e w1 ⟨gm,gt,gk,ge,g,rfl,E1,⟨Nf,GI,EU,pE,hg⟩,b1⟩;have Az:w.heap.size<=g:=ak (by simp) hg;have we:w.heap.size<=ge:=ak (by simp) pE;have yR:w.heap.size<=gk:=ak (by simp) EU;have BG:w.heap.size<=gt:=ak (by simp) GI;have GH:w.heap.size<=gm:=ak (by simp) Nf;have b0:=ag (aJ ((aj w.heap.size w).alloc (af _) _) b1);have tl:=E1.met.lt;have HE:=ag E1;clear CC b1 hg E1 pE EU GI Nf;go_wp2;go_ret;refine⟨w1.heap.size,gm,gt,gk,ge,g,rfl,⟨?_,(ae HE).next ((aj _ _).alloc (af _) _),by omega⟩,⟨(ae b0).size,GH,BG,yR,we,Az⟩,(ae b0).alloc (ae b0).size _⟩;exact ay _ w1.heap.size 0 _ _ (0,0) (aI w1 _)
theorem nZ{B X:Nat}(h:aU B w v n)(hX:w.heap.size<=X)(hB:B<=X):∃g,g≠X/\B<=g/\gh g (g+1) w v n:=by
 obtain⟨xs,hc,hv,h|⟨g,ys,hg,rfl,hk,hl⟩⟩:=h
 ·exact⟨X+1,by omega,by omega,xs,hc,hv,Or.inl h⟩
 ·exact⟨g,by have:=hk.lt;omega,hg,xs,hc,hv,Or.inr ⟨g,ys,af _,by omega,rfl,hk,hl⟩⟩
theorem Tl:UU:=by
 intro w gd gm gt gk ge g s l m T u v A C hE h0 h1 vn qk hu hv hC;obtain⟨ga,ba,oa,ca,xs,rfl,rA0,dA0,vA,lA0⟩:=hu;obtain⟨gb,bb,ob,cb,ys,rfl,rB0,dB0,vB,lB0⟩:=hv;obtain⟨n,hn⟩:∃n,n=fV xs xs.length:=⟨_,rfl⟩;obtain⟨M,hM⟩:∃M,M=fV ys ys.length:=⟨_,rfl⟩;have CA:=ag (yP w ga ba oa ca _ n xs rfl (by omega) rA0 hn);have CB:=ag (yP w gb bb ob cb _ M ys rfl (by omega) rB0 hM);have rA:=rA0.take n (by rw[hn];exact fZ _ _);have rB:=rB0.take M (by rw[hM];exact fZ _ _);obtain⟨us,GV⟩:∃us,us=xs.take n:=⟨_,rfl⟩;obtain⟨vs,Wz⟩:∃vs,vs=ys.take M:=⟨_,rfl⟩;have cA:iS us:=by have:=ku dA0;unfold yi at this;rw[<-hn, <-GV]at this;exact this
 have cB:iS vs:=by have:=ku dB0;unfold yi at this;rw[<-hM, <-Wz]at this;exact this
 have vA':aB us=A:=by have:=jN xs;unfold yi at this;rw[<-hn, <-GV,vA]at this;exact this
 have vB':aB vs=C:=by have:=jN ys;unfold yi at this;rw[<-hM, <-Wz,vB]at this;exact this
 have lA:us.length=n:=by have:=ep xs;unfold yi at this;rw[<-hn, <-GV]at this;exact this
 have lB:vs.length=M:=by have:=ep ys;unfold yi at this;rw[<-hM, <-Wz]at this;exact this
 rw[<-GV]at rA;rw[<-Wz]at rB;have wA:wl A=n:=by rw[<-vA',mM cA,lA]
 have wC:wl C=M:=by rw[<-vB',mM cB,lB]
 have nb:n<=16384:=by have:=fZ xs xs.length;omega
 have Mb:M<=16384:=by have:=fZ ys ys.length;omega
 have M0:0<M:=by rw[<-wC];have:=(jr (n:=C));omega
 have HG:Hid (zN A C=if n<M then 0 else (n-M+1)*(M+1)):=by show _=_;unfold zN;rw[wA,wC]
 generalize xs.length=lx at *;generalize ys.length=ly at *;have HE:=ag hE;obtain⟨e0,e1,e2,e3,e4⟩:=hE.way;have nV:=hE.met.lt;clear GV Wz hn hM dA0 dB0 vA vB rA0 rB0 wA wC hE lA0 lB0;by_cases dh:n<M
 ·have afg:(n:Int)<(M:Int):=by omega
  have hAC:A<C:=by rw[<-vA', <-vB'];exact uX cA.1 cB (by omega)
  have CN:=ag (nO w (.slice ga n ca) A ⟨ga,ba,oa,ca,us,by rw[lA],rA,cA.1,vA',by omega⟩);have eM:((M:Int)==0)=false:=by simp;omega
  clear rA rB cA cB vA' vB' lA lB;go_enter Tryz.func81,Tryz.ntmps81
  go_wp2_with fail
  refine(ae CA).mono ?_;rintro e w1 ⟨rfl,hw⟩;obtain rfl:=hw.symm;clear hw
  go_wp2_with fail
  refine(ae CB).mono ?_;rintro e w1 ⟨rfl,hw⟩;obtain rfl:=hw.symm;clear hw
  go_wp2_with fail
  refine(ae CN).mono ?_;rintro e w2 ⟨r,rfl,nr,b2⟩;obtain⟨gr,Pp,NR⟩:=mF nr;clear CA CB CN nr;go_wp2
  go_ret3
  rw[aW dh]at HG;have eg:=ae HG;exact⟨_,r,gr+1,gr,m,rfl,by rw[bq hAC];exact Xv _ _ _,by rw[bc hAC];exact NR,⟨by omega,by omega,Pp⟩,by rw[eg,gN,fK];exact(ae HE).next b2,rfl,Out.bQ b2⟩
 ·have afg:¬(n:Int)<(M:Int):=by omega
  rw[aV dh]at HG;obtain⟨nd,Ni⟩:∃nd,nd=n-M:=⟨_,rfl⟩;obtain⟨N,hN⟩:∃N,N=nd+1:=⟨_,rfl⟩;obtain⟨M',xu⟩:∃M',M'=M+1:=⟨_,rfl⟩;obtain⟨kk,hkk⟩:∃kk,kk=N*M':=⟨_,rfl⟩;have hkb:kk<=16385*16385:=by rw[hkk];exact aP (by omega) (by omega)
  have HGK:Hid (zN A C=kk):=by show _=_;rw[ae HG,hkk,hN,xu,Ni]
  have n1:(n:Int)-(M:Int)=(nd:Int):=by omega
  have n2:IntKind.i64.wrap (nd:Int)=(nd:Int):=by rw[ao];omega
  have n3:(nd:Int)+1=(N:Int):=by omega
  have n4:IntKind.i64.wrap (N:Int)=(N:Int):=by rw[ao];omega
  have n5:(M:Int)+1=(M':Int):=by omega
  have n6:IntKind.i64.wrap (M':Int)=(M':Int):=by rw[ao];omega
  have n7:(N:Int)*(M':Int)=(kk:Int):=by rw[hkk,aG]
  have n8:IntKind.i64.wrap (kk:Int)=(kk:Int):=by rw[ao];omega
  have CS:=ag (jU (kk:Int) (s+(kk:Int)) (ae HE).met (by omega) (by omega) (by omega));have eM:((M:Int)==0)=false:=by simp;omega
  clear Ni hN xu hkk HG;by_cases hM1:M=1
  ·have eM1:((M:Int)==1)=true:=by simp;omega
   obtain⟨y,hy⟩:∃y,y=vs.getD 0 0:=⟨_,rfl⟩;have yC:y=C:=by
    rw[<-vB',hy];have h2:vs.length=1:=by omega
    match vs,h2 with
    |[a],_=>simp[aB]
   have yb:y<18446744073709551616:=by rw[hy];exact cB.1 0
   obtain rfl:=rB.head (by omega);have cy:=rB.cell 0 (by omega);rw[<-hy,dB]at cy;have HcY:Hid (∀W,Out (·=g) w W->W.cell? ⟨bb,ob,none⟩=some (.int .u64 (y:Int))):=fun W o=>(ae HE).mul.cell o cy rfl (fun z e=>by cases e);have CD:Hid (∀W,Out (·=g) w W->Calls Tryz.prog 95 #[.slice ga n ca,.int .u64 (y:Int)] W fun e w'=>∃q,e=.returned (.tuple #[q,.int .u64 ((A%y:Nat):Int),.int .i64 0])/\aU W.heap.size w' q (A/y)/\Below W.heap.size W w'):=fun W o=>
    EJ W _ A y (by omega) yb ⟨ga,ba,oa,ca,us,by rw[lA],(ae HE).rep o rA,cA.1,vA',by omega⟩
   have ry:A%y<18446744073709551616:=jY (aD _ (by omega)) yb;have HQ:Hid (A/y=A/C/\A%y=A%C):=by rw[yC];exact⟨rfl,rfl⟩
   generalize A/y=Q at *;generalize A%y=R at *;have CO:=ag (fun W=>Fo W R ry);clear rA rB cA cB vA' vB' lA lB hy yC cy hM1;go_enter Tryz.func81,Tryz.ntmps81
   go_wp2_with fail
   refine(ae CA).mono ?_;rintro e w1 ⟨rfl,hw⟩;obtain rfl:=hw.symm;clear hw
   go_wp2_with fail
   refine(ae CB).mono ?_;rintro e w1 ⟨rfl,hw⟩;obtain rfl:=hw.symm;clear hw
   go_wp2_with fail
   with_reducible refine(ae CS).mono ?_
   rintro e w2 ⟨rfl,M2,T2⟩;have o2:=Out.bX T2.grown;have E2:=ag ((ae HE).step M2 T2);have cy:=ae HcY _ o2;have CD:=ag (ae CD _ o2);have HO:=ag o2;clear CA CB CS M2 T2 o2
   go_wp2_with fail
   with_reducible refine(ae CD).mono ?_
   rintro e w3 ⟨q,rfl,nq,b3⟩;have NQ:=ag nq;obtain⟨qa,ql,qc,rfl⟩:=nq.shape;clear nq
   go_wp2_with fail
   refine(ae CO _).mono ?_;rintro e w4 ⟨r,rfl,nr,b4⟩;obtain⟨gr,Pp,NR⟩:=mF nr;obtain⟨gq,hne,Zf,NQ⟩:=nZ (X:=gr) (ae NQ) Pp (ak b3.size Pp);have NQ:=ag (NQ.next b4);have NR:=ag NR;obtain⟨ra,rl,rc,rfl⟩:=nr.shape;clear nr CD CO;go_wp2
   go_ret3
   rw[ae HGK, <-(ae HQ).1, <-(ae HQ).2];have sz:=(ae HO).size;have sz3:=b3.size;exact⟨_,_,gq,gr,m,rfl,ae NQ,ae NR,⟨hne,by omega,by omega⟩,((ae E2).next b3).next b4,rfl,((ae HO).next b3).next b4⟩
  ·have eM1:((M:Int)==1)=false:=by simp;omega
   obtain⟨m2,Ae⟩:∃m2,M=m2+2:=⟨M-2,by omega⟩;have CBm:Hid (∀W,Out (·=g) w W->Calls Tryz.prog 96 #[.slice ga n ca,.slice gb M cb] W fun e w'=>∃q r gq gr,e=.returned (.tuple #[q,r])/\gh gq (gq+1) w' q (A/C)/\gh gr (gr+1) w' r (A%C)/\(gq≠gr/\W.heap.size<=gq/\W.heap.size<=gr)/\Below W.heap.size W w'):=fun W o=>by rw[<-vA', <-vB'];exact Mz W ga ba oa ca n us gb bb ob cb m2 M vs ((ae HE).rep o rA) cA lA ((ae HE).rep o rB) cB lB Ae (by omega) nb
   clear rA rB cA cB vA' vB' lA lB Ae hM1;go_enter Tryz.func81,Tryz.ntmps81
   go_wp2_with fail
   refine(ae CA).mono ?_;rintro e w1 ⟨rfl,hw⟩;obtain rfl:=hw.symm;clear hw
   go_wp2_with fail
   refine(ae CB).mono ?_;rintro e w1 ⟨rfl,hw⟩;obtain rfl:=hw.symm;clear hw
   go_wp2_with fail
   with_reducible refine(ae CS).mono ?_
   rintro e w2 ⟨rfl,M2,T2⟩;have o2:=Out.bX T2.grown;have E2:=ag ((ae HE).step M2 T2);have CD:=ag (ae CBm _ o2);have HO:=ag o2;clear CA CB CS M2 T2 o2 CBm
   go_wp2_with fail
   with_reducible refine(ae CD).mono ?_
   rintro e w3 ⟨q,r,gq,gr,rfl,nq,nr,hh,b3⟩;have NQ:=ag nq;obtain⟨qa,ql,qc,rfl⟩:=nq.rb.shape;have NR:=ag nr;obtain⟨ra,rl,rc,rfl⟩:=nr.rb.shape;clear nq nr;go_wp2
   go_ret3
   rw[ae HGK];have sz:=(ae HO).size;exact⟨_,_,gq,gr,m,rfl,ae NQ,ae NR,⟨hh.1,by omega,by omega⟩,(ae E2).next b3,rfl,(ae HO).next b3⟩
theorem qO(w:World)(z:Int)(k:Nat)(hz:(k:Int)=min (max z 0) 1048576):Calls Tryz.prog 118 #[.int .i64 z] w fun e w'=>∃r,e=.returned r/\aU w.heap.size w' r (2^k)/\Below w.heap.size w w':=by
 have C1:=ag (Fo w 1 (by omega));have C2:Hid (∀W u,aU w.heap.size W u 1->Calls Tryz.prog 104 #[u,.int .i64 z] W fun e w'=>∃r,e=.returned r/\aU W.heap.size w' r (2^k)/\Below W.heap.size W w'):=fun W u h=>by have:=zS W u z 1 k hz (h.kj (p:=1) (by decide) (by omega));rw[cX]at this;exact this
 clear hz;generalize 2^k=P at *;go_enter Tryz.func118,Tryz.ntmps118
 go_wp2_with fail
 refine(ae C1).mono ?_;rintro e w1 ⟨u,rfl,n1,b1⟩;have C2:=ag (ae C2 _ _ n1);clear C1 n1
 go_wp2_with fail
 refine(ae C2).mono ?_;rintro e w2 ⟨r,rfl,n2,b2⟩;have N2:=ag (n2.mono b1.size);have bb:=ag (aJ b1 b2);clear C2 n2 b1 b2;go_wp2;go_ret;exact⟨r,rfl,ae N2,ae bb⟩
theorem tJ(w:World)(z:Int)(b:Bool)(hb:b=decide (0<=z/\z<=1048576)):Calls Tryz.prog 117 #[.int .i64 z] w fun e w'=>e=.returned (.bool b)/\w'=w:=by
 by_cases h0:0<=z
 ·by_cases h1:z<=1048576
  ·obtain rfl:b=true:=by rw[hb];simp[h0,h1]
   clear hb;go_enter Tryz.func117,Tryz.ntmps117;go_wp2;go_ret;exact⟨rfl,rfl⟩
  ·obtain rfl:b=false:=by rw[hb];simp[h1]
   clear hb;go_enter Tryz.func117,Tryz.ntmps117;go_wp2;go_ret;exact⟨rfl,rfl⟩
 ·obtain rfl:b=false:=by rw[hb];simp[h0]
  clear hb;go_enter Tryz.func117,Tryz.ntmps117;go_wp2;go_ret;exact⟨rfl,rfl⟩
theorem p'(w:World)(u v:Value)(A C:Nat)(hu:fI w u A)(hv:fI w v C):Calls Tryz.prog 183 #[u,v] w fun e w'=>∃r b R,e=.returned (.tuple #[r,.bool b])/\aU w.heap.size w' r R/\((b=false/\A=C+R)\/(b=true/\A+R=C))/\Below w.heap.size w w':=by
 have C1:=ag (su w u v A C hu hv);have C2:Hid (∀W,Below w.heap.size w W->A<C->Calls Tryz.prog 149 #[v,u] W (Ar W C A)):=fun W b _=>su W v u C A (hv.next b) (hu.next b);obtain⟨ga,la,ca,rfl⟩:=hu.is;obtain⟨gb,lb,cb,rfl⟩:=hv.is;clear hu hv;go_enter Tryz.func183,Tryz.ntmps183
 go_wp2_with fail
 refine(ae C1).mono ?_;rintro e w1 ⟨b1,⟨hle,r,rfl,n1⟩|⟨dh,rfl⟩⟩
 ·have N1:=ag n1;have H:Hid (A=C+(A-C)):=by show _=_;omega
  clear C1 C2 n1 hle;generalize A-C=R at *;go_wp2
  go_ret2
  exact⟨r,false,R,rfl,ae N1,.inl ⟨rfl,ae H⟩,b1⟩
 ·have C2:=ag (ae C2 _ b1 dh);clear C1
  go_wp2_with fail
  refine(ae C2).mono ?_;rintro e w2 ⟨b2,⟨hle,r,rfl,n1⟩|⟨aff,rfl⟩⟩
  ·have N1:=ag (n1.mono b1.size);have H:Hid (A+(C-A)=C):=by show _=_;omega
   have bb:=aJ b1 b2;clear C2 n1 hle dh b2 b1;generalize C-A=R at *;go_wp2
   go_ret2
   exact⟨r,true,R,rfl,ae N1,.inr ⟨rfl,ae H⟩,bb⟩
  ·omega
theorem dI.apart{T:bJ}{zs:List Nat}(h:dI w gm gt gk ge g s l m T)(k:cW w b zs):b≠g:=by
 intro e;subst e;have h0:=h.met.c0;by_cases hz:0<zs.length
 ·rw[k.cell 0 hz]at h0;cases h0
 ·have:zs=[]:=by cases zs with|nil=>rfl|cons=>simp at hz
  subst this;rw[ay w b 0 _ _ (0,0) k]at h0;simp[cellsOf]at h0
theorem dC.mb{T:bJ}(h:dC w gr gd gm gt gk ge g s l m T)(o:Out (·=g) w w'){B:Nat}(r:aU B w v n):aU B w' v n:=
 r.turn (fun k _ hb=>o.block k hb.lt (h.div.mul.apart hb))
theorem dC.aet{T:bJ}(h:dC w gr gd gm gt gk ge g s l m T)(o:Out (·=g) w w'){B M:Nat}(r:gh B M w v n):gh B M w' v n:=by
 obtain⟨xs,hc,hv,r|⟨k,ys,h1,h2,rfl,hk,hl⟩⟩:=r
 ·exact⟨xs,hc,hv,.inl r⟩
 ·exact⟨xs,hc,hv,.inr ⟨k,ys,h1,h2,rfl,(o.block k hk.lt (h.div.mul.apart hk)).trans hk,hl⟩⟩
theorem dC.gE{T:bJ}(h:dC w gr gd gm gt gk ge g s l m T)(o:Out (·=g) w w')(r:fI w v n):fI w' v n:=by obtain⟨ga,b,oo,cap,xs,rfl,hr,hd,hv,hl⟩:=r;exact⟨ga,b,oo,cap,xs,rfl,h.rep o hr,hd,hv,hl⟩
theorem dC.way{T:bJ}(h:dC w gr gd gm gt gk ge g s l m T):w.cell? ⟨gr,0,none⟩=some (.pointer (some ⟨gd,0,none⟩))/\w.cell? ⟨gd,0,none⟩=some (.pointer (some ⟨gm,0,none⟩)):=⟨h.ptr,h.div.ptr⟩
theorem dC.tb{T:bJ}(h:dC w gr gd gm gt gk ge g s l m T)(o:Out (·=g) w w')(t:TB w):TB w':=h.div.mul.tb o t
theorem jg.vu(h:jg w v n):wl n<=16384:=by obtain⟨ga,b,o,cap,xs,rfl,hr,hd,hv,hl⟩:=h;rw[<-hv];exact ak (mN hd) hl
theorem aU.vu{B:Nat}(h:aU B w v n)(hn:wl n<=16384):jg w v n:=h.toM (jM hn) (af _)
theorem aU.sR{B:Nat}(h:aU B w v n)(hn:wl n<=1073741824):fI w v n:=h.kj (jM hn) (af _)
theorem qN(w:World)(gr gd gm gt gk ge g:Nat)(s l m:Int)(T:bJ)(u v:Value)(A C:Nat)(hE:dC w gr gd gm gt gk ge g s l m T)(hT:TB w)(h0:0<=s)(h1:s<=1154047404513689600)(h2:0<=l)(h3:l<=1000)(hu:jg w u A)(hv:jg w v C):Calls Tryz.prog 74 #[.pointer (some ⟨gm,0,none⟩),u,v] w fun e w'=>∃r s' m',e=.returned r/\aU w.heap.size w' r (A*C)/\dC w' gr gd gm gt gk ge g s' l m' T/\s<=s'/\s'<=s+((8*(wl A*wl C):Nat):Int)/\m<=m'/\m'<=max m (l+(jP (max (wl A) (wl C)):Int))/\Out (·=g) w w':=by
 refine(Kr w gm gt gk ge g s l m T u v A C hE.div.mul hT h0 h1 h2 h3 hu hv).mono ?_;rintro e w' ⟨r,m',rfl,nr,E,k1,k2,o⟩;obtain⟨c1,c2⟩:=JH T (wl A) (wl C) hu.vu hv.vu;exact⟨r,_,m',rfl,nr,hE.kept o (hE.div.kept o E),by omega,by omega,k1,k2,o⟩
theorem uV(w:World)(gr gd gm gt gk ge g:Nat)(s l m:Int)(T:bJ)(u v:Value)(A C:Nat)(hE:dC w gr gd gm gt gk ge g s l m T)(h0:0<=s)(h1:s<=1152921504606846976)(h2:0<=l)(h3:l<=1000)(hu:jg w u A)(hv:jg w v C)(hC:0<C):Calls Tryz.prog 81 #[.pointer (some ⟨gd,0,none⟩),u,v] w fun e w'=>∃q r gq gx,e=.returned (.tuple #[q,r,.int .i64 0])/\gh gq (gq+1) w' q (A/C)/\gh gx (gx+1) w' r (A%C)/\(gq≠gx/\w.heap.size<=gq/\w.heap.size<=gx)/\dC w' gr gd gm gt gk ge g (s+(zN A C:Int)) l m T/\Out (·=g) w w':=by
 refine(Tl w gd gm gt gk ge g s l m T u v A C hE.div h0 h1 h2 h3 hu hv hC).mono ?_;rintro e w' ⟨q,r,gq,gx,m',rfl,nq,nr,hg,E,rfl,o⟩;exact⟨q,r,gq,gx,rfl,nq,nr,hg,hE.kept o E,o⟩
theorem kS(h:fI w v n)(b0:2^b<=n)(b1:n<2^(b+1)):Calls Tryz.prog 53 #[v] w fun e w'=>e=.returned (.int .i64 ((b+1:Nat):Int))/\w'=w:=by obtain⟨L,_,hL,C⟩:=BU h;have:0<n:=az (bR (by omega)) b0;rw[Bz hL (Or.inr ⟨this,by omega,by simpa using b0,b1⟩)]at C;exact C
theorem uw{p:Nat}(h:0<n)(hw:wl n<=p):∃b,b<64*p/\2^b<=n/\n<2^(b+1):=by refine⟨n.log2,?_,Nat.log2_self_le (by omega),Nat.lt_log2_self⟩;refine(Nat.log2_lt (by omega)).2 ?_;have:=jM hw;rw[show(18446744073709551616:Nat)=2^64 by decide, <-dH]at this;exact this
theorem fI.one{m:Nat}(h:fI w v m)(k:fI w v n):m=n:=by
 obtain⟨ga,b,o,cap,xs,rfl,hr,_,rfl,_⟩:=h;obtain⟨ga',b',o',bM,ys,e,kr,_,rfl,_⟩:=k;obtain⟨rfl,hl,rfl⟩:=Value.slice.inj e;have:xs=ys:=by
  refine lO hl (fun j h1 h2=>?_);have e1:=(hr.head (by omega)).symm.trans (kr.head (by omega));obtain⟨rfl,rfl⟩:b=b'/\o=o':=by simpa using e1
  have e2:=(hr.cell j h1).symm.trans (kr.cell j h2);simp[List.getD_eq_getElem?_getD,h1,h2]at e2;omega
 rw[this]
theorem K4:∃f:World->Value->Nat,∀w v n,fI w v n->f w v=n:=by
 have:∀p:World×Value,∃k:Nat,∀n,fI p.1 p.2 n->k=n:=fun p=>by
  by_cases h:∃n,fI p.1 p.2 n
  ·obtain⟨n,hn⟩:=h;exact⟨n,fun m hm=>hn.one hm⟩
  ·exact⟨0,fun n hn=>absurd ⟨n,hn⟩ h⟩
 obtain⟨f,hf⟩:=Classical.axiomOfChoice this;exact⟨fun w v=>f (w,v),fun w v n h=>hf (w,v) n h⟩
theorem m7{a:Nat}(h:a<=b)(hb:b<=100000):jP a<=jP b:=by have:=kL b a h (by omega);unfold jP;omega
def pt(w:World)(gr gd gm gt gk ge g:Nat)(s l m:Int)(T:bJ)(D b k c N:Nat)(t:Nat)(e:Ending)(w':World):Prop:=
 ∃r X s' m',e=.returned r/\aU w.heap.size w' r X/\jB t D (b+1) k X/\dC w' gr gd gm gt gk ge g s' l m' T/\s<=s'/\s'<=s+(c:Int)/\m<=m'/\m'<=max m (l+(jP N:Int))/\Out (·=g) w w'
theorem Yj(w:World)(gr gd gm gt gk ge g:Nat)(s l m:Int)(T:bJ)(d y:Value)(D Y b h k N:Nat)(hE:dC w gr gd gm gt gk ge g s l m T)(hT:TB w)(h0:0<=s)(h1:s<=1154047404513689600-4294967296)(h2:0<=l)(h3:l<=1000)(hd:jg w d D)(hy:jg w y Y)(b0:2^b<=D)(b1:D<2^(b+1))(hb:b+1<=k+4)(hk:60<k)(hkb:k+(b+1)<=1048576)(hh:h=k/2+4)(hN:jB 8 D (b+1) h Y)(zD:(k+67)/64<=N)(xw:N<=16384):Calls Tryz.prog 150 #[.pointer (some ⟨gr,0,none⟩),d,y,.int .i64 (h:Int),.int .i64 (k:Int)] w (pt w gr gd gm gt gk ge g s l m T D b k (Oj k) N 7):=by
 obtain⟨bb,BC⟩:∃bb,bb=b+1:=⟨_,rfl⟩;obtain⟨hs,hhs⟩:∃hs,hs=h+bb:=⟨_,rfl⟩;obtain⟨cut,GF⟩:∃cut,cut=h+(b+1)-k-4:=⟨_,rfl⟩;obtain⟨e2,Wf⟩:∃e2,e2=2*h+(b+1)-k-cut:=⟨_,rfl⟩;obtain⟨kh,hkh⟩:∃kh,kh=k-h:=⟨_,rfl⟩;have wY:wl Y<=(k/2+69)/64:=by have:=Hh b0 hN;omega
 have wD:wl D<=(k+67)/64:=by have:=jV b1;omega
 have cy:8*(wl Y*wl D)<=8*((k/2+69)/64*((k+67)/64)):=au 8 (aP wY wD);have vp:=Ok (k:=k) (by omega);have afs:Oj k=8*((k/2+69)/64*((k+67)/64))+8*((k/2+69)/64*((k+64-k/2)/64)):=by unfold Oj;rw[aH]
 have d1:jP (max (wl Y) (wl D))<=jP N:=m7 (by omega) (by omega);have wYD:=qi Y D;have CB:=ag (fun W (bw:Below w.heap.size w W)=>kS (hd.gE.next bw) b0 b1);rw[<-BC]at CB;have C1:Hid (∀W,Below w.heap.size w W->Calls Tryz.prog 118 #[.int .i64 (hs:Int)] W fun e w'=>∃r,e=.returned r/\aU w.heap.size w' r (2^hs)/\Below w.heap.size w w'):=fun W bw=>(qO W hs hs (by omega)).mono fun e w' ⟨r,he,hn,hb⟩=>⟨r,he,hn.mono bw.size,aJ bw hb⟩;have C2:Hid (∀W u,Below w.heap.size w W->aU w.heap.size W u (2^hs)->Calls Tryz.prog 74 #[.pointer (some ⟨gm,0,none⟩),y,d] W fun e w'=>∃r s' m',e=.returned r/\aU w.heap.size w' r (Y*D)/\aU w.heap.size w' u (2^hs)/\dC w' gr gd gm gt gk ge g s' l m' T/\s<=s'/\s'<=s+((8*((k/2+69)/64*((k+67)/64)):Nat):Int)/\m<=m'/\m'<=max m (l+(jP N:Int))/\Out (·=g) w w'):=fun W u bw nu=>by refine(qN W gr gd gm gt gk ge g s l m T y d Y D (hE.next bw) (hT.next bw) h0 (by omega) h2 h3 (hy.next bw) (hd.next bw)).mono ?_;rintro e w' ⟨r,s',m',k1,k2,k3,k4,k5,k6,k7,k8⟩;exact⟨r,s',m',k1,k2.mono bw.size,(hE.next bw).mb k8 nu,k3,k4,by omega,k6,by omega,(Out.bQ bw).trans k8⟩
 have w2h:wl (2^hs)<=1073741824:=by have:=jV (n:=2^hs) (b:=hs+1) (by rw[aE];have:=bC hs;omega);omega
 have C3:Hid (∀W u v,aU w.heap.size W u (2^hs)->aU w.heap.size W v (Y*D)->Calls Tryz.prog 183 #[u,v] W fun e w'=>∃r bl R,e=.returned (.tuple #[r,.bool bl])/\aU W.heap.size w' r R/\((bl=false/\2^hs=Y*D+R)\/(bl=true/\2^hs+R=Y*D))/\Below W.heap.size W w'):=fun W u v nu nv=>p' W u v (2^hs) (Y*D) (nu.sR w2h) (nv.sR (by have:=hd.vu;have:=hy.vu;omega));have HR:Hid (∀R,(2^hs=Y*D+R\/2^hs+R=Y*D)->R<2*D):=fun R hx=>Xr hN (by rw[<-BC, <-hhs];exact hx);have C4:Hid (∀W v R,aU w.heap.size W v R->R<2*D->Calls Tryz.prog 105 #[v,.int .i64 (cut:Int)] W fun e w'=>∃r,e=.returned r/\aU W.heap.size w' r (R/2^cut)/\Below W.heap.size W w'):=fun W v R nv hR=>tV W v cut R cut (by omega) (nv.sR (by have:=jV (n:=R) (b:=b+2) (by rw[aE];omega);omega));have C5:Hid (∀W v R s1 m1,aU w.heap.size W v (R/2^cut)->R<2*D->dC W gr gd gm gt gk ge g s1 l m1 T->Out (·=g) w W->s<=s1->s1<=s+((8*((k/2+69)/64*((k+67)/64)):Nat):Int)->m<=m1->m1<=max m (l+(jP N:Int))->Calls Tryz.prog 74 #[.pointer (some ⟨gm,0,none⟩),y,v] W fun e w'=>∃r s' m',e=.returned r/\aU w.heap.size w' r (Y*(R/2^cut))/\wl (Y*(R/2^cut))<=40000/\dC w' gr gd gm gt gk ge g s' l m' T/\s<=s'/\s'<=s+(Oj k:Int)/\m<=m'/\m'<=max m (l+(jP N:Int))/\Out (·=g) w w'):=fun W v R s1 m1 nv hR E o k1 k2 k3 k4=>by have wR:=aaz (k:=k) b1 (by omega) GF hR;have cr:8*(wl Y*wl (R/2^cut))<=8*((k/2+69)/64*((k+64-k/2)/64)):=au 8 (aP wY (by omega));have d2:jP (max (wl Y) (wl (R/2^cut)))<=jP N:=m7 (by omega) (by omega);have wm:=qi Y (R/2^cut);refine(qN W gr gd gm gt gk ge g s1 l m1 T y v Y (R/2^cut) E (hE.tb o hT) (by omega) (by omega) h2 h3 (hE.uG o hy) (nv.vu (by omega))).mono ?_;rintro e w' ⟨r,s',m',j1,j2,j3,j4,j5,j6,j7,j8⟩;exact⟨r,s',m',j1,j2.mono o.size,by omega,j3,by omega,by omega,by omega,by omega,o.trans j8⟩
 have C6:Hid (∀W v Z,aU w.heap.size W v Z->wl Z<=40000->Calls Tryz.prog 105 #[v,.int .i64 (e2:Int)] W fun e w'=>∃r,e=.returned r/\aU W.heap.size w' r (Z/2^e2)/\Below W.heap.size W w'):=fun W v Z nv hZ=>tV W v e2 Z e2 (by omega) (nv.sR (by omega));have C7:Hid (∀W,Out (·=g) w W->Calls Tryz.prog 104 #[y,.int .i64 (kh:Int)] W fun e w'=>∃r,e=.returned r/\aU W.heap.size w' r (Y*2^kh)/\Below W.heap.size W w'):=fun W o=>zS W y kh Y kh (by omega) (hE.gE o hy.gE);have w8:wl (Y*2^kh)<=40000:=by have a:=qi Y (2^kh);have:=jV (n:=2^kh) (b:=kh+1) (by rw[aE];have:=bC kh;omega);omega
 have HK:Hid (∀R x,2^hs=Y*D+R->x=Y*2^kh+Y*(R/2^cut)/2^e2->jB 7 D (b+1) k x):=fun R x e ex=>Fk b0 b1 hk hh GF hN (Or.inl ⟨by rw[<-BC, <-hhs];exact e,by rw[<-Wf, <-hkh];exact ex⟩);have HK2:Hid (∀R x,2^hs+R=Y*D->x+Y*(R/2^cut)/2^e2=Y*2^kh->jB 7 D (b+1) k x):=fun R x e ex=>Fk b0 b1 hk hh GF hN (Or.inr ⟨by rw[<-BC, <-hhs];exact e,by rw[<-Wf, <-hkh];exact ex⟩);have HO:Hid (∀R,R<2*D->Y*(R/2^cut)/2^e2<=Y*2^kh):=fun R hR=>by have:=aaM (y:=Y) b1 hk hh GF hR;rw[<-Wf, <-hkh]at this;exact this
 have C8:Hid (∀W u v Z,aU w.heap.size W u (Y*2^kh)->aU w.heap.size W v (Z/2^e2)->wl Z<=40000->Calls Tryz.prog 73 #[u,v] W fun e w'=>∃r,e=.returned r/\aU W.heap.size w' r (Y*2^kh+Z/2^e2)/\Below W.heap.size W w'):=fun W u v Z nu nv hZ=>th W u v _ _ (nu.sR (by omega)) (nv.sR (by have:=fw (bT Z (2^e2));omega));have C9:Hid (∀W u v Z,aU w.heap.size W u (Y*2^kh)->aU w.heap.size W v (Z/2^e2)->wl Z<=40000->Z/2^e2<=Y*2^kh->Calls Tryz.prog 149 #[u,v] W fun e w'=>∃r,e=.returned (.tuple #[r,.bool true])/\aU W.heap.size w' r (Y*2^kh-Z/2^e2)/\Below W.heap.size W w'):=fun W u v Z nu nv hZ hle=>(su W u v _ _ (nu.sR (by omega)) (nv.sR (by have:=fw (bT Z (2^e2));omega))).mono fun e w' ⟨b,hh⟩=>by
  rcases hh with⟨_,r,he,hn⟩|⟨dh,_⟩
  ·exact⟨r,he,hn,b⟩
  ·omega
 have HF:Hid (∀r X s' m' w',aU w.heap.size w' r X->jB 7 D (b+1) k X->dC w' gr gd gm gt gk ge g s' l m' T->s<=s'->s'<=s+(Oj k:Int)->m<=m'->m'<=max m (l+(jP N:Int))->Out (·=g) w w'->pt w gr gd gm gt gk ge g s l m T D b k (Oj k) N 7 (.returned r) w'):=fun r X s' m' w' k1 k2 k3 k4 k5 k6 k7 k8=>⟨r,X,s',m',rfl,k1,k2,k3,k4,k5,k6,k7,k8⟩;have HC:Hid (∀W,Below w.heap.size w W->W.cell? ⟨gr,0,none⟩=some (.pointer (some ⟨gd,0,none⟩))/\W.cell? ⟨gd,0,none⟩=some (.pointer (some ⟨gm,0,none⟩))):=fun W b=>(hE.next b).way;obtain⟨ga,la,ca,rfl⟩:=hd.gE.is;obtain⟨gy,ly,Pc,rfl⟩:=hy.gE.is;have i1:(h:Int)+(bb:Int)=(hs:Int):=by omega
 have i2:IntKind.i64.wrap (hs:Int)=(hs:Int):=by rw[ao];omega
 have i3:(k:Int)-(h:Int)=(kh:Int):=by omega
 have i4:IntKind.i64.wrap (kh:Int)=(kh:Int):=by rw[ao];omega
 obtain⟨z1,gY⟩:∃z1:Int,z1=(hs:Int)-(k:Int):=⟨_,rfl⟩;have i5:(hs:Int)-(k:Int)=z1:=gY.symm;have i6:IntKind.i64.wrap z1=z1:=by rw[ao];omega
 obtain⟨z2,fX⟩:∃z2:Int,z2=z1-4:=⟨_,rfl⟩;have i7:z1-4=z2:=fX.symm;have i8:IntKind.i64.wrap z2=z2:=by rw[ao];omega
 have i9:max z2 0=(cut:Int):=by omega
 obtain⟨z3,hz3⟩:∃z3:Nat,z3=2*h:=⟨_,rfl⟩;have j1:2*(h:Int)=(z3:Int):=by omega
 have j2:IntKind.i64.wrap (z3:Int)=(z3:Int):=by rw[ao];omega
 obtain⟨z4,hz4⟩:∃z4:Nat,z4=z3+bb:=⟨_,rfl⟩;have j3:(z3:Int)+(bb:Int)=(z4:Int):=by omega
 have j4:IntKind.i64.wrap (z4:Int)=(z4:Int):=by rw[ao];omega
 obtain⟨z5,hz5⟩:∃z5:Nat,z5=z4-k:=⟨_,rfl⟩;have j5:(z4:Int)-(k:Int)=(z5:Int):=by omega
 have j6:IntKind.i64.wrap (z5:Int)=(z5:Int):=by rw[ao];omega
 have j7:(z5:Int)-(cut:Int)=(e2:Int):=by omega
 have j8:IntKind.i64.wrap (e2:Int)=(e2:Int):=by rw[ao];omega
 have bl:Below w.heap.size w w:=aj _ _;clear hE hT h0 h1 h2 h3 hd hy b0 b1 hb hk hkb hh hN zD xw BC hhs GF Wf hkh wY wD cy vp afs d1 wYD w2h w8 gY fX hz3 hz4 hz5;generalize pt w gr gd gm gt gk ge g s l m T D b k (Oj k) N 7=SA at *;generalize ((8*((k/2+69)/64*((k+67)/64)):Nat):Int)=K1 at *;generalize (Oj k:Int)=K2 at *;generalize max m (l+(jP N:Int))=KM at *;generalize 2^hs=P at *;suffices H:Calls Tryz.prog 150 #[.pointer (some ⟨gr,0,none⟩),.slice ga la ca,.slice gy ly Pc,.int .i64 (h:Int),.int .i64 (k:Int)] w (fun e w'=>∃v,e=.returned v/\SA (.returned v) w') from H.mono (fun e w' ⟨v,he,h⟩=>he▸h)
 go_enter Tryz.func150,Tryz.ntmps150
 go_wp2_with fail
 refine(ae CB _ bl).mono ?_;rintro e w1 ⟨rfl,hw⟩;obtain rfl:=hw.symm;clear hw CB
 go_wp2_with fail
 have bl:Below w.heap.size w w.drew:=(aj _ _).drew
 (try simp only[List.append_eq,List.cons_append,List.nil_append])
 go_region_held3 (fun w'=>w'.cell? ⟨gr,0,none⟩=some (.pointer (some ⟨gd,0,none⟩))/\w'.cell? ⟨gd,0,none⟩=some (.pointer (some ⟨gm,0,none⟩))) (first|(exact ae HC _ bl)|(exact dC.way E3)|(exact dC.way E2)|go_keep) (first
  |(with_reducible refine(ae C1 _ bl).mono ?_;rintro e w1 ⟨u,rfl,n1,bl⟩)
  |(with_reducible refine(ae C2 _ _ bl n1).mono ?_;rintro e w2 ⟨v,s2,m2,rfl,n2,n1,E2,k1,k2,k3,k4,o2⟩)
  |(with_reducible refine(ae C3 _ _ _ n1 n2).mono ?_;rintro e w3 ⟨rr,bt,R,rfl,n3,hR,b3⟩;have E3:=dC.next E2 b3)
  |fail)
 have Gy:=ae HR R (hR.elim (fun h=>Or.inl h.2) (fun h=>Or.inr h.2));have N3:=ag (n3.mono o2.size);have o3:=ag (o2.next b3);have HE3:=ag E3;have kC:=ag hR;obtain⟨ra,rl,rc,rfl⟩:=n3.shape;have sz:=(ae o3).size;have C4:Hid (∀W,Below w3.heap.size w3 W->Calls Tryz.prog 105 #[.slice ra rl rc,.int .i64 (cut:Int)] W fun e w'=>∃r,e=.returned r/\aU w.heap.size w' r (R/2^cut)/\Below w3.heap.size w3 w'):=fun W bw=>(ae C4 _ _ _ ((ae N3).next bw) Gy).mono fun e w' ⟨r,k1,k2,k3⟩=>⟨r,k1,k2.mono (ak sz bw.size),aJ bw k3⟩;have C5:=ag (fun W v (bw:Below w3.heap.size w3 W) (nv:aU w.heap.size W v (R/2^cut))=>ae C5 W v R s2 m2 nv Gy (E3.next bw) ((ae o3).next bw) k1 k2 k3 k4);have HC:Hid (∀W,Below w3.heap.size w3 W->W.cell? ⟨gr,0,none⟩=some (.pointer (some ⟨gd,0,none⟩))/\W.cell? ⟨gd,0,none⟩=some (.pointer (some ⟨gm,0,none⟩))):=fun W b=>(E3.next b).way;have HO:=ag (ae HO R Gy);have HK:=ag (ae HK R);have HK2:=ag (ae HK2 R);have e0:=E3.way;obtain⟨e0,e1⟩:=e0;clear C1 C2 C3 n1 n2 n3 E2 o2 b3 hR HR bl E3;generalize R/2^cut=R1 at *;obtain⟨Z,hZ⟩:∃Z,Z=Y*R1:=⟨_,rfl⟩;rw[<-hZ]at C5 HO HK HK2;clear hZ;obtain⟨Z2,hZ2⟩:∃Z2,Z2=Z/2^e2:=⟨_,rfl⟩;have C6:=ag (fun W v=>ae C6 W v Z);have C8:=ag (fun W u v=>ae C8 W u v Z);have C9:=ag (fun W u v=>ae C9 W u v Z);rw[<-hZ2]at C6 C8 C9 HO HK HK2;generalize Y*2^kh=Y2 at *;clear hZ2;go_wp2;have bl:Below w3.heap.size w3 w3.drew:=(aj _ _).drew
 (try simp only[List.append_eq,List.cons_append,List.nil_append])
 go_region_held3 (fun w'=>w'.cell? ⟨gr,0,none⟩=some (.pointer (some ⟨gd,0,none⟩))/\w'.cell? ⟨gd,0,none⟩=some (.pointer (some ⟨gm,0,none⟩))) (first|(exact ae HC _ bl)|(exact dC.way E6)|(exact dC.way E5)|go_keep) (first
  |(with_reducible refine(ae C4 _ bl).mono ?_;rintro e w4 ⟨v4,rfl,n4,bl⟩)
  |(with_reducible refine(ae C5 _ _ bl n4).mono ?_;rintro e w5 ⟨v5,s5,m5,rfl,n5,wZ,E5,k1,k2,k3,k4,o5⟩)
  |(with_reducible refine(ae C6 _ _ n5 wZ).mono ?_;rintro e w6 ⟨v6,rfl,n6,b6⟩;have E6:=dC.next E5 b6)
  |fail)
 have sz6:=o5.size;have C7:=ag (ae C7 _ (o5.next b6));have N6:=ag (n6.mono o5.size);have o6:=ag (o5.next b6);have HE6:=ag E6;obtain⟨ca6,cl6,cc6,rfl⟩:=n6.shape;clear C4 C5 C6 HC e0 e1 n4 n5 n6 E5 o5 b6 bl E6
 go_wp2_with fail
 with_reducible refine(ae C7).mono ?_
 rintro e w7 ⟨x7,rfl,n7,b7⟩;have N6:=ag ((ae N6).next b7);have N7:=ag (n7.mono (ae o6).size);have o7:=ag ((ae o6).next b7);have HE7:=ag ((ae HE6).next b7);obtain⟨xa7,xl7,xc7,rfl⟩:=n7.shape;clear C7 n7 b7 o6 HE6;rcases ae kC with⟨rfl,hR⟩|⟨rfl,hR⟩
 ·have C8:=ag (ae C8 _ _ _ (ae N7) (ae N6) wZ);have HK:=ag (ae HK _ hR rfl);clear kC hR HK2 C9
  go_wp2_with fail
  with_reducible refine(ae C8).mono ?_
  rintro e w8 ⟨x8,rfl,n8,b8⟩;have N8:=ag n8;have B8:=ag b8;clear n8 b8 C8;go_wp2;go_ret;exact⟨_,rfl,ae HF _ _ s5 m5 _ ((ae N8).mono (ae o7).size) (ae HK) ((ae HE7).next (ae B8)) k1 k2 k3 k4 ((ae o7).next (ae B8))⟩
 ·have C9:=ag (ae C9 _ _ _ (ae N7) (ae N6) wZ (ae HO));have HK:=ag (ae HK2 (Y2-Z2) hR (Nat.sub_add_cancel (ae HO)));clear kC hR HK2 C8
  go_wp2_with fail
  with_reducible refine(ae C9).mono ?_
  rintro e w8 ⟨x8,rfl,n8,b8⟩;have N8:=ag n8;have B8:=ag b8;clear n8 b8 C9;go_wp2;go_ret;exact⟨_,rfl,ae HF _ _ s5 m5 _ ((ae N8).mono (ae o7).size) (ae HK) ((ae HE7).next (ae B8)) k1 k2 k3 k4 ((ae o7).next (ae B8))⟩
theorem Xt(w:World)(p:Value)(d:Value)(z:Int)(hz:z<0):Calls Tryz.prog 120 #[p,d,.int .i64 z] w fun e w'=>e=.returned (.slice none 0 0)/\w'=w:=by
 go_enter Tryz.func120,Tryz.ntmps120;go_wp2;go_ret;exact⟨rfl,rfl⟩
def Ga(k:Nat):Prop:=∀(w:World) (gr gd gm gt gk ge g:Nat) (s l m:Int) (T:bJ) (d:Value) (D b N:Nat),
 dC w gr gd gm gt gk ge g s l m T->TB w->0<=s->s+(nc k:Int)<=1152921504606846976->0<=l->l<=1000->jg w d D->2^b<=D->D<2^(b+1)->k+(b+1)<=1048576->(k+67)/64<=N->N<=16384->
 Calls Tryz.prog 120 #[.pointer (some ⟨gr,0,none⟩),d,.int .i64 (k:Int)] w (pt w gr gd gm gt gk ge g s l m T D b k (nc k) N 8)
theorem Xs(k:Nat)(hk:k<=60):Ga k:=by
 intro w gr gd gm gt gk ge g s l m T d D b N hE hT h0 h1 h2 h3 hd b0 b1 hkb zD xw;obtain⟨bb,BC⟩:∃bb,bb=b+1:=⟨_,rfl⟩;obtain⟨c,hc⟩:∃c,c=b+1-(k+4):=⟨_,rfl⟩;obtain⟨b',p0,p1,p2,p3,p4⟩:=Vp b0 b1 hc;obtain⟨D',hD'⟩:∃D',D'=D/2^c:=⟨_,rfl⟩;rw[<-hD']at p0 p1 p4;obtain⟨z1,gY⟩:∃z1:Int,z1=(bb:Int)-(k:Int):=⟨_,rfl⟩;obtain⟨z2,fX⟩:∃z2:Int,z2=z1-4:=⟨_,rfl⟩;have CB:=ag (kS hd.gE b0 b1);rw[<-BC]at CB;have CS:=ag (tV w d z2 D c (by omega) hd.gE);rw[<-hD']at CS;have wD:wl D'<=1:=by have:=jV p1;omega
 obtain⟨b2,jA⟩:∃b2,b2=b'+1:=⟨_,rfl⟩;obtain⟨kb,aea⟩:∃kb,kb=k+b2:=⟨_,rfl⟩;obtain⟨P,hP⟩:∃P,P=2^kb:=⟨_,rfl⟩;have wP:wl P<=2:=by have:=jV (n:=P) (b:=kb+1) (by rw[hP,aE];have:=bC kb;omega);omega
 have D0:0<D':=az (bC _) p0;have hl:zN P D'<=4:=by
  have:wl D'≠0:=fun e=>by rw[jr]at e;omega
  have e:wl D'=1:=by omega
  unfold zN;rw[e];split
  ·omega
  ·omega
 have hn:nc k=4:=BZ hk;have C1:Hid (∀W u,Below w.heap.size w W->aU w.heap.size W u D'->Calls Tryz.prog 53 #[u] W fun e w'=>e=.returned (.int .i64 (b2:Int))/\w'=W):=fun W u _ nu=>by rw[jA];exact kS (nu.sR (by omega)) p0 p1
 have C2:Hid (∀W u,Below w.heap.size w W->aU w.heap.size W u D'->Calls Tryz.prog 118 #[.int .i64 (kb:Int)] W fun e w'=>∃r,e=.returned r/\aU w.heap.size w' r P/\aU w.heap.size w' u D'/\Below w.heap.size w w'):=fun W u bw nu=>by rw[hP];exact(qO W kb kb (by omega)).mono fun e w' ⟨r,he,hn,hb⟩=>⟨r,he,hn.mono bw.size,nu.next hb,aJ bw hb⟩
 have C3:Hid (∀W u v,Below w.heap.size w W->aU w.heap.size W u P->aU w.heap.size W v D'->Calls Tryz.prog 81 #[.pointer (some ⟨gd,0,none⟩),u,v] W fun e w'=>∃q r,e=.returned (.tuple #[q,r,.int .i64 0])/\dC w' gr gd gm gt gk ge g (s+(zN P D':Int)) l m T/\aU w.heap.size w' q (P/D')/\Out (·=g) w w'):=fun W u v bw nu nv=>by refine(uV W gr gd gm gt gk ge g s l m T u v P D' (hE.next bw) h0 (by omega) h2 h3 (nu.vu (by omega)) (nv.vu (by omega)) D0).mono ?_;rintro e w' ⟨q,r,gq,gx,k1,k2,k3,⟨k4,k5,k6⟩,k7,k8⟩;exact⟨q,r,k1,k7,k2.rb.mono (ak bw.size k5),(Out.bQ bw).trans k8⟩
 have HF:Hid (∀r w',dC w' gr gd gm gt gk ge g (s+(zN P D':Int)) l m T->aU w.heap.size w' r (P/D')->Out (·=g) w w'->pt w gr gd gm gt gk ge g s l m T D b k (nc k) N 8 (.returned r) w'):=fun r w' k1 k2 k3=>by refine⟨r,_,_,_,rfl,k2,p4 _ ?_,k1,by omega,by omega,dK _,by omega,k3⟩;rw[hP,aea,jA];exact Sp D0
 obtain⟨ga,la,ca,rfl⟩:=hd.gE.is;have HC:Hid (∀W,Below w.heap.size w W->W.cell? ⟨gr,0,none⟩=some (.pointer (some ⟨gd,0,none⟩))):=fun W b=>(hE.next b).way.1;have i1:(bb:Int)-(k:Int)=z1:=gY.symm;have i2:IntKind.i64.wrap z1=z1:=by rw[ao];omega
 have i3:z1-4=z2:=fX.symm;have i4:IntKind.i64.wrap z2=z2:=by rw[ao];omega
 have i5:(k:Int)+(b2:Int)=(kb:Int):=by omega
 have i6:IntKind.i64.wrap (kb:Int)=(kb:Int):=by rw[ao];omega
 have i7:¬(k:Int)<0:=by omega
 have i8:(k:Int)<=60:=by omega
 clear hE hT h0 h1 h2 h3 hd b0 b1 hkb zD xw BC hc p0 p1 p2 p3 p4 gY fX hD' wD jA aea hP wP D0 hl hn hk;generalize pt w gr gd gm gt gk ge g s l m T D b k (nc k) N 8=SA at *;generalize P/D'=X at *;suffices H:Calls Tryz.prog 120 #[.pointer (some ⟨gr,0,none⟩),.slice ga la ca,.int .i64 (k:Int)] w (fun e w'=>∃v,e=.returned v/\SA (.returned v) w') from H.mono (fun e w' ⟨v,he,h⟩=>he▸h)
 go_enter Tryz.func120,Tryz.ntmps120
 go_wp2_with fail
 refine(ae CB).mono ?_;rintro e w1 ⟨rfl,hw⟩;obtain rfl:=hw.symm;clear hw CB
 go_wp2_with fail
 with_reducible refine(ae CS).mono ?_
 rintro e w1 ⟨d1,rfl,n1,b1⟩;obtain⟨da,dl,dc,rfl⟩:=n1.shape;clear CS;go_wp2;have bl:Below w.heap.size w w1.drew:=b1.trans ((aj _ _).drew);have n1:aU w.heap.size w1.drew (.slice da dl dc) D':=n1.next (aj _ _).drew
 (try simp only[List.append_eq,List.cons_append,List.nil_append])
 go_region_held3 (fun w'=>w'.cell? ⟨gr,0,none⟩=some (.pointer (some ⟨gd,0,none⟩))) (first|(exact ae HC _ bl)|(exact(dC.way E4).1)|go_keep) (first
  |(with_reducible refine(ae C1 _ _ bl n1).mono ?_;rintro e w2 ⟨rfl,rfl⟩)
  |(with_reducible refine(ae C2 _ _ bl n1).mono ?_;rintro e w3 ⟨u3,rfl,n3,n1,bl⟩)
  |(with_reducible refine(ae C3 _ _ _ bl n3 n1).mono ?_;rintro e w4 ⟨q4,r4,rfl,E4,n4,o4⟩)
  |fail)
 have HX:=ag (ae HF _ _ E4 n4 o4);clear C1 C2 C3 HF HC E4 n4 o4 n1 n3 bl b1;go_wp2;go_ret;exact⟨_,rfl,ae HX⟩
theorem Sr(k:Nat)(hk:60<k)(ih:Ga (k/2+4)):Ga k:=by
 intro w gr gd gm gt gk ge g s l m T d D b N hE hT h0 h1 h2 h3 hd b0 b1 hkb zD xw;obtain⟨bb,BC⟩:∃bb,bb=b+1:=⟨_,rfl⟩;obtain⟨c,hc⟩:∃c,c=b+1-(k+4):=⟨_,rfl⟩;obtain⟨b',p0,p1,p2,p3,p4⟩:=Vp b0 b1 hc;obtain⟨D',hD'⟩:∃D',D'=D/2^c:=⟨_,rfl⟩;rw[<-hD']at p0 p1 p4;obtain⟨z1,gY⟩:∃z1:Int,z1=(bb:Int)-(k:Int):=⟨_,rfl⟩;obtain⟨z2,fX⟩:∃z2:Int,z2=z1-4:=⟨_,rfl⟩;obtain⟨h,hh⟩:∃h,h=k/2+4:=⟨_,rfl⟩;obtain⟨k2,sK⟩:∃k2,k2=k/2:=⟨_,rfl⟩;rw[<-hh]at ih;have CB:=ag (kS hd.gE b0 b1);rw[<-BC]at CB;have CS:=ag (tV w d z2 D c (by omega) hd.gE);rw[<-hD']at CS;have wD:wl D'<=16384:=by have:=jV p1;omega
 have hn:nc k=nc h+Oj k:=by rw[hh];exact BV (by omega)
 have vp:=Ok (k:=k) (by omega);have C1:Hid (∀W u,Below w.heap.size w W->aU w.heap.size W u D'->Calls Tryz.prog 120 #[.pointer (some ⟨gr,0,none⟩),u,.int .i64 (h:Int)] W fun e w'=>∃r Y s' m',e=.returned r/\aU w.heap.size w' r Y/\jB 8 D' (b'+1) h Y/\aU w.heap.size w' u D'/\dC w' gr gd gm gt gk ge g s' l m' T/\s<=s'/\s'<=s+(nc h:Int)/\m<=m'/\m'<=max m (l+(jP N:Int))/\Out (·=g) w w'):=fun W u bw nu=>by refine(ih W gr gd gm gt gk ge g s l m T u D' b' N (hE.next bw) (hT.next bw) h0 (by omega) h2 h3 (nu.vu wD) p0 p1 (by omega) (by omega) xw).mono ?_;rintro e w' ⟨r,Y,s',m',j1,j2,j3,j4,j5,j6,j7,j8,j9⟩;exact⟨r,Y,s',m',j1,j2.mono bw.size,j3,(hE.next bw).mb j9 nu,j4,j5,j6,j7,j8,(Out.bQ bw).trans j9⟩
 have C2:Hid (∀W u v Y s' m',aU w.heap.size W u D'->aU w.heap.size W v Y->jB 8 D' (b'+1) h Y->dC W gr gd gm gt gk ge g s' l m' T->s<=s'->s'<=s+(nc h:Int)->m<=m'->m'<=max m (l+(jP N:Int))->Out (·=g) w W->Calls Tryz.prog 150 #[.pointer (some ⟨gr,0,none⟩),u,v,.int .i64 (h:Int),.int .i64 (k:Int)] W fun e w'=>∃r,e=.returned r/\pt w gr gd gm gt gk ge g s l m T D b k (nc k) N 8 (.returned r) w'):=fun W u v Y s' m' nu nv hY E j1 j2 j3 j4 o=>by refine(Yj W gr gd gm gt gk ge g s' l m' T u v D' Y b' h k N E (hE.tb o hT) (by omega) (by omega) h2 h3 (nu.vu wD) (nv.vu (by have:=Hh p0 hY;omega)) p0 p1 p2 hk (by omega) hh hY zD xw).mono ?_;rintro e w' ⟨r,X,s'',m'',i1,i2,i3,i4,i5,i6,i7,i8,i9⟩;exact⟨r,i1,r,X,s'',m'',rfl,i2.mono o.size,p4 _ i3,i4,by omega,by omega,by omega,by omega,o.trans i9⟩
 obtain⟨ga,la,ca,rfl⟩:=hd.gE.is;have i1:(bb:Int)-(k:Int)=z1:=gY.symm;have i2:IntKind.i64.wrap z1=z1:=by rw[ao];omega
 have i3:z1-4=z2:=fX.symm;have i4:IntKind.i64.wrap z2=z2:=by rw[ao];omega
 have i7:¬(k:Int)<0:=by omega
 have i8:¬(k:Int)<=60:=by omega
 have i9:(k:Int).tdiv 2=(k2:Int):=by rw[sK];rfl
 have j0:(k:Int)/2=(k2:Int):=by omega
 have j1:IntKind.i64.wrap (k2:Int)=(k2:Int):=by rw[ao];omega
 have j2:(k2:Int)+4=(h:Int):=by omega
 have j3:IntKind.i64.wrap (h:Int)=(h:Int):=by rw[ao];omega
 clear hE hT h0 h1 h2 h3 hd b0 b1 hkb zD xw BC hc p0 p1 p2 p3 p4 gY fX hD' wD hn hk ih vp hh sK;generalize pt w gr gd gm gt gk ge g s l m T D b k (nc k) N 8=SA at *;generalize jB 8 D' (b'+1) h=NQ at *;generalize (nc h:Int)=NH at *;generalize max m (l+(jP N:Int))=KM at *;suffices H:Calls Tryz.prog 120 #[.pointer (some ⟨gr,0,none⟩),.slice ga la ca,.int .i64 (k:Int)] w (fun e w'=>∃v,e=.returned v/\SA (.returned v) w') from H.mono (fun e w' ⟨v,he,h⟩=>he▸h)
 go_enter Tryz.func120,Tryz.ntmps120
 go_wp2_with fail
 refine(ae CB).mono ?_;rintro e w1 ⟨rfl,hw⟩;obtain rfl:=hw.symm;clear hw CB
 go_wp2_with fail
 with_reducible refine(ae CS).mono ?_
 rintro e w1 ⟨d1,rfl,n1,b1⟩;have C1:=ag (ae C1 _ _ b1 n1);obtain⟨da,dl,dc,rfl⟩:=n1.shape;clear CS n1 b1
 go_wp2_with fail
 with_reducible refine(ae C1).mono ?_
 rintro e w2 ⟨y,Y,s2,m2,rfl,n2,hY,n1,E2,k1,IL,k3,k4,o2⟩;have C2:=ag (ae C2 _ _ _ _ _ _ n1 n2 hY E2 k1 IL k3 k4 o2);obtain⟨ya,yl,yc,rfl⟩:=n2.shape;clear C1 n1 n2 hY E2 o2
 go_wp2_with fail
 with_reducible refine(ae C2).mono ?_
 rintro e w3 ⟨r,rfl,h3⟩;have H3:=ag h3;clear C2 h3;go_wp2;go_ret;exact⟨_,rfl,ae H3⟩
theorem Xp(k:Nat):Ga k:=by
 induction k using Nat.strongRecOn with
 |_ k ih=>
  by_cases hk:k<=60
  ·exact Xs k hk
  ·exact Sr k (by omega) (ih _ (by omega))
def Mr(w:World)(gr gd gm gt gk ge g:Nat)(s l m:Int)(T:bJ)(B A D G:Nat)(e:Ending)(w':World):Prop:=
 ∃q r gq gx s' m',e=.returned (.tuple #[q,r])/\gh gq (gq+1) w' q (A/D)/\gh gx (gx+1) w' r (A%D)/\(gq≠gx/\B<=gq/\B<=gx)/\dC w' gr gd gm gt gk ge g s' l m' T/\s<=s'/\s'<=s+((8*(wl G*wl D):Nat):Int)/\m<=m'/\m'<=max m (l+(jP (max (wl G) (wl D)):Int))/\Out (·=g) w w'
theorem Cy(w:World)(gr gd gm gt gk ge g:Nat)(s l m:Int)(T:bJ)(a d x:Value)(B A D G:Nat)(hE:dC w gr gd gm gt gk ge g s l m T)(hT:TB w)(h0:0<=s)(h1:s<=1154047404513689600)(h2:0<=l)(h3:l<=1000)(ha:fI w a A)(hA:wl A<=1000000)(hd:jg w d D)(hx:aU B w x G)(hG:wl G<=16384)(hB:B<=w.heap.size)(hD:0<D):Calls Tryz.prog 119 #[.pointer (some ⟨gr,0,none⟩),a,d,x] w (Mr w gr gd gm gt gk ge g s l m T B A D G):=by
 have C1:Hid (∀W,Below w.heap.size w W->Calls Tryz.prog 67 #[.int .u64 1] W fun e w'=>∃r,e=.returned r/\aU w.heap.size w' r 1/\Below w.heap.size w w'):=fun W b=>(Fo W 1 (by omega)).mono fun e w' ⟨r,he,hn,hb⟩=>⟨r,he,hn.mono b.size,aJ b hb⟩;have C2:Hid (∀W u,Below w.heap.size w W->aU w.heap.size W u 1->Calls Tryz.prog 74 #[.pointer (some ⟨gm,0,none⟩),x,d] W fun e w'=>∃r s' m',e=.returned r/\aU w.heap.size w' r (G*D)/\dC w' gr gd gm gt gk ge g s' l m' T/\s<=s'/\s'<=s+((8*(wl G*wl D):Nat):Int)/\m<=m'/\m'<=max m (l+(jP (max (wl G) (wl D)):Int))/\aU w.heap.size w' u 1/\Out (·=g) w w'):=fun W u b nu=>by refine(qN W gr gd gm gt gk ge g s l m T x d G D (hE.next b) (hT.next b) h0 h1 h2 h3 ((hx.vu hG).next b) (hd.next b)).mono ?_;rintro e w' ⟨r,s',m',k1,k2,k3,k4,k5,k6,k7,k8⟩;exact⟨r,s',m',k1,k2.mono b.size,k3,k4,k5,k6,k7,(hE.next b).mb k8 nu,(Out.bQ b).trans k8⟩
 have HA:Hid (∀W,Out (·=g) w W->fI W a A):=fun W o=>hE.gE o ha;have HD:Hid (∀W,Out (·=g) w W->fI W d D):=fun W o=>hE.gE o hd.gE;have HX:Hid (∀W,Out (·=g) w W->aU B W x G):=fun W o=>hE.mb o hx;have HC:Hid (∀W,Below w.heap.size w W->W.cell? ⟨gr,0,none⟩=some (.pointer (some ⟨gd,0,none⟩))/\W.cell? ⟨gd,0,none⟩=some (.pointer (some ⟨gm,0,none⟩))):=fun W b=>(hE.next b).way;obtain⟨val,hval⟩:=K4;have HV:=ag hval;have wD:=hd.vu;have wG:=qi G D;have CA:Hid (∀W u P,Out (·=g) w W->wl P<=40000->aU w.heap.size W u P->Calls Tryz.prog 112 #[u,a] W fun e w'=>e=.returned (.int .i64 (js P A))/\Below W.heap.size W w'):=fun W u P o h n=>EC W u a P A (n.sR (by omega)) (hE.gE o ha);have CS:Hid (∀W u P,Out (·=g) w W->wl P<=40000->aU w.heap.size W u P->P<=A->Calls Tryz.prog 149 #[a,u] W fun e w'=>∃r,e=.returned (.tuple #[r,.bool true])/\aU W.heap.size w' r (A-P)/\Below W.heap.size W w'):=fun W u P o h n hle=>(su W a u A P (hE.gE o ha) (n.sR (by omega))).mono fun e w' ⟨b,hh⟩=>by
  rcases hh with⟨_,r,he,hn⟩|⟨dh,_⟩
  ·exact⟨r,he,hn,b⟩
  ·omega
 have CD:Hid (∀B' W u P,Out (·=g) w W->wl P<=1000000->aU B' W u P->D<=P->Calls Tryz.prog 149 #[u,d] W fun e w'=>∃r,e=.returned (.tuple #[r,.bool true])/\aU W.heap.size w' r (P-D)/\Below W.heap.size W w'):=fun B' W u P o h n hle=>(su W u d P D (n.sR (by omega)) (hE.gE o hd.gE)).mono fun e w' ⟨b,hh⟩=>by
  rcases hh with⟨_,r,he,hn⟩|⟨dh,_⟩
  ·exact⟨r,he,hn,b⟩
  ·omega
 have C0:Hid (∀W u v Q,wl Q<=1000000->aU B W u Q->aU w.heap.size W v 1->0<Q->Calls Tryz.prog 149 #[u,v] W fun e w'=>∃r,e=.returned (.tuple #[r,.bool true])/\aU W.heap.size w' r (Q-1)/\Below W.heap.size W w'):=fun W u v Q h n n1 hle=>(su W u v Q 1 (n.sR (by omega)) (n1.kj (p:=1) (by decide) (by omega))).mono fun e w' ⟨b,hh⟩=>by
  rcases hh with⟨_,r,he,hn⟩|⟨dh,_⟩
  ·exact⟨r,he,hn,b⟩
  ·omega
 have CP:Hid (∀B' W u v Q,wl Q<=1000000->aU B' W u Q->aU w.heap.size W v 1->Calls Tryz.prog 73 #[u,v] W fun e w'=>∃r,e=.returned r/\aU W.heap.size w' r (Q+1)/\Below W.heap.size W w'):=fun B' W u v Q h n n1=>th W u v Q 1 (n.sR (by omega)) (n1.kj (p:=1) (by decide) (by omega));have CB:Hid (∀B' W u R,Out (·=g) w W->wl R<=1000000->aU B' W u R->Calls Tryz.prog 112 #[u,d] W fun e w'=>e=.returned (.int .i64 (js R D))/\Below W.heap.size W w'):=fun B' W u R o h n=>EC W u d R D (n.sR (by omega)) (hE.gE o hd.gE);obtain⟨ga,la,ca,rfl⟩:=ha.is;obtain⟨gb,lb,cb,rfl⟩:=hd.gE.is;obtain⟨gx,lx,cx,rfl⟩:=hx.shape;have bl:Below w.heap.size w w.drew:=(aj _ _).drew;have HF:Hid (∀e w',(∃q r gq gx s' m',e=.returned (.tuple #[q,r])/\gh gq (gq+1) w' q (A/D)/\gh gx (gx+1) w' r (A%D)/\(gq≠gx/\B<=gq/\B<=gx)/\dC w' gr gd gm gt gk ge g s' l m' T/\s<=s'/\s'<=s+((8*(wl G*wl D):Nat):Int)/\m<=m'/\m'<=max m (l+(jP (max (wl G) (wl D)):Int))/\Out (·=g) w w')->Mr w gr gd gm gt gk ge g s l m T B A D G e w'):=fun e w' h=>h;generalize Mr w gr gd gm gt gk ge g s l m T B A D G=SA at *;generalize ((8*(wl G*wl D):Nat):Int)=KC at *;generalize max m (l+(jP (max (wl G) (wl D)):Int))=KM at *;clear ha hd hx hE hT h0 h1 h2 h3 hval;suffices H:Calls Tryz.prog 119 #[.pointer (some ⟨gr,0,none⟩),.slice ga la ca,.slice gb lb cb,.slice gx lx cx] w (fun e w'=>∃v,e=.returned v/\SA (.returned v) w') from H.mono (fun e w' ⟨v,he,h⟩=>he▸h)
 go_enter Tryz.func119,Tryz.ntmps119
 go_wp2_with fail
 (try simp only[List.append_eq,List.cons_append,List.nil_append])
 go_region_held3 (fun w'=>w'.cell? ⟨gr,0,none⟩=some (.pointer (some ⟨gd,0,none⟩))/\w'.cell? ⟨gd,0,none⟩=some (.pointer (some ⟨gm,0,none⟩))) (first|(exact ae HC _ bl)|(exact dC.way E2)|go_keep) (first
  |(with_reducible refine(ae C1 _ bl).mono ?_;rintro e w1 ⟨one,rfl,n1,bl⟩)
  |(with_reducible refine(ae C2 _ _ bl n1).mono ?_;rintro e w2 ⟨p,s2,m2,rfl,n2,E2,k1,k2,k3,k4,n1,o2⟩)
  |fail)
 have NO:=ag n1;have NP:=ag n2;have HE:=ag E2;have HO:=ag o2;have NX:=ag (ae HX _ o2);have sz:=o2.size;obtain⟨oa,ol,oc,rfl⟩:=n1.shape;clear n1 n2 E2 o2 HX HC C1 C2 bl;go_wp2
 go_loopw [8,11] (fun qv pv wr=>∃Q,Q<=G/\Hid (aU B wr qv Q)/\Hid (aU w.heap.size wr pv (Q*D))/\Below w2.heap.size w2 wr) (fun _ pv wr=>val wr pv)
 case atStart=>exact⟨G,af _,NX,NP,aj _ _⟩
 case round=>
  clear NX NP;obtain⟨Q,hQ,NQ,NP,b2⟩:=hrel;have wQ:=fw hQ;have wP:=fw (ax D hQ);have o2:=(ae HO).next b2;have ox:=ae HV _ _ _ ((ae NP).sR (by omega));have Qu:=ag (ae CA _ _ _ o2 (by omega) (ae NP));obtain⟨qa,ql,qc,rfl⟩:=(ae NQ).shape;obtain⟨pa,pl,pc,rfl⟩:=(ae NP).shape;by_cases dh:A<Q*D
  ·have hc:js (Q*D) A=1:=lG dh;have hQ0:0<Q:=by
    rcases fh Q with e|e
    ·subst e;omega
    ·exact e
   obtain⟨Q1,hQ1⟩:∃Q1,Q=Q1+1:=⟨Q-1,by omega⟩;have eP:Q*D=Q1*D+D:=(by rw[hQ1,dJ]);rw[hc]at Qu;clear hc CS CP CB HF
   go_wp2_with fail
   with_reducible refine(ae Qu).mono ?_
   rintro e w3 ⟨rfl,b3⟩;have C01:=ag (ae C0 _ _ _ _ (by omega) ((ae NQ).next b3) (((ae NO).next b2).next b3) hQ0);have NP:=ag ((ae NP).next b3);have b3:=aJ b2 b3;clear Qu b2 o2 NQ
   go_wp2_with fail
   with_reducible refine(ae C01).mono ?_
   rintro e w4 ⟨q2,rfl,nq,b4⟩;have Uz:=ag (ae CD _ _ _ _ ((ae HO).next (aJ b3 b4)) (by omega) ((ae NP).next b4) (by omega));have s3:=b3.size;have NQ:=ag (nq.mono (B':=B) (by omega));have b4:=aJ b3 b4;obtain⟨qa',ql',qc',rfl⟩:=nq.shape;clear C01 nq b3 NP
   go_wp2_with fail
   with_reducible refine(ae Uz).mono ?_
   rintro e w5 ⟨p2,rfl,np,b5⟩;have s4:=b4.size;have NP:=ag (np.mono (B':=w.heap.size) (by omega));have NQ:=ag ((ae NQ).next b5);have b5:=aJ b4 b5;have Ae:=ae HV _ _ _ (np.sR (by have:=fw (yD (Q*D) D);omega));obtain⟨pa',pl',pc',rfl⟩:=np.shape;rw[show Q*D-D=Q1*D by omega]at NP Ae;rw[show Q-1=Q1 by omega]at NQ;clear Uz np b4;go_wp2
   go_roundw
   case rel=>exact⟨Q1,by omega,NQ,NP,b5⟩
   case measure=>rw[ox,Ae];omega
  ·obtain⟨c,zG,hc⟩:∃c:Int,js (Q*D) A=c/\¬0<c:=by
    refine⟨_,rfl,?_⟩;rcases fl (Q*D) A with h|h
    ·rw[jR h];decide
    ·rw[mO (by omega)];decide
   rw[zG]at Qu;have HL:=ag dh;obtain⟨R,hR⟩:∃R,R=A-Q*D:=⟨_,rfl⟩;have hAR:A=Q*D+R:=(by omega);have wR:=fw (show R<=A by omega);clear zG C0 CA ox
   go_wp2_with fail
   with_reducible refine(ae Qu).mono ?_
   rintro e w3 ⟨rfl,b3⟩;have Zr:=ag (ae CS _ _ _ ((ae HO).next (aJ b2 b3)) (by omega) ((ae NP).next b3) (by omega));rw[<-hR]at Zr;have NQ:=ag ((ae NQ).next b3);have b3:=aJ b2 b3;clear Qu CS b2 o2 NP HL dh hR
   go_wp2_with fail
   with_reducible refine(ae Zr).mono ?_
   rintro e w4 ⟨r,rfl,nr,b4⟩;have s3:=b3.size;obtain⟨gx0,Ml,NR⟩:=mF nr;obtain⟨gq0,hne,zK,NQ⟩:=nZ (X:=gx0) (ae NQ) Ml (by omega);have NR:=ag NR;have NQ:=ag (NQ.next b4);have b4:=aJ b3 b4;have s4:=b4.size;obtain⟨ra,rl,rc,rfl⟩:=nr.shape;have Ml:B<=gx0:=(by omega);clear Zr nr b3;have wQA:wl Q<=1000000:=(by omega);clear hQ wQ wP;go_wp2
   go_loopw [8,9] (fun qv rv wr=>∃Q R gq gx,A=Q*D+R/\Hid (gh gq (gq+1) wr qv Q)/\Hid (gh gx (gx+1) wr rv R)/\gq≠gx/\B<=gq/\B<=gx/\Below w4.heap.size w4 wr) (fun _ rv wr=>val wr rv)
   case atStart=>exact⟨Q,R,gq0,gx0,hAR,NQ,NR,hne,zK,Ml,aj _ _⟩
   case round=>
    clear NQ NR hne zK Ml hAR wR wQA;obtain⟨Q',R',gq,gx',hAR,NQ,NR,hne,Zf,hgx,b5⟩:=hrel;have wR:=fw (show R'<=A by omega);have wQ:wl Q'<=wl A:=fw (by have:=au Q' hD;omega);have o5:=(ae HO).next (aJ b4 b5);have ox:=ae HV _ _ _ ((ae NR).rb.sR (by omega));have CB1:=ag (ae CB _ _ _ _ o5 (by omega) (ae NR).rb);obtain⟨qa1,ql1,qc1,rfl⟩:=(ae NQ).rb.shape;obtain⟨ra1,rl1,rc1,rfl⟩:=(ae NR).rb.shape;by_cases pE:D<=R'
    ·obtain⟨c2,zG,rC⟩:∃c:Int,js R' D=c/\0<=c:=by
      refine⟨_,rfl,?_⟩;rcases fl D R' with h|h
      ·rw[lG h];decide
      ·rw[mO (by omega)];decide
     rw[zG]at CB1;have eA:A=(Q'+1)*D+(R'-D):=by rw[dJ];omega
     clear zG HF
     go_wp2_with fail
     with_reducible refine(ae CB1).mono ?_
     rintro e w6 ⟨rfl,b6⟩;have TZ:=ag (ae CP _ _ _ _ _ (by omega) ((ae NQ).rb.next b6) (((ae NO).next (aJ b4 b5)).next b6));have NR:=ag ((ae NR).next b6);have b6:=aJ b5 b6;clear CB1 b5 o5 NQ
     go_wp2_with fail
     with_reducible refine(ae TZ).mono ?_
     rintro e w7 ⟨q2,rfl,nq,b7⟩;have Uz:=ag (ae CD _ _ _ _ ((ae HO).next (aJ b4 (aJ b6 b7))) (by omega) ((ae NR).rb.next b7) pE);have s6:=b6.size;have s7:=b7.size;have NQ:=ag nq;have b7:=aJ b6 b7;obtain⟨qa2,ql2,qc2,rfl⟩:=nq.shape;clear TZ nq b6 NR
     go_wp2_with fail
     with_reducible refine(ae Uz).mono ?_
     rintro e w8 ⟨r2,rfl,nr,b8⟩;obtain⟨gx2,Fb,NR⟩:=mF nr;obtain⟨gq2,afl,AA,NQ⟩:=nZ (X:=gx2) (ae NQ) Fb (by omega);have Ae:=ae HV _ _ _ (nr.sR (by have:=fw (yD R' D);omega));have NR:=ag NR;have NQ:=ag (NQ.next b8);have b8:=aJ b7 b8;obtain⟨ra2,rl2,rc2,rfl⟩:=nr.shape;clear Uz nr b7;go_wp2
     go_roundw
     case rel=>exact⟨_,_,gq2,gx2,eA,NQ,NR,afl,by omega,by omega,b8⟩
     case measure=>rw[ox,Ae];omega
    ·have hc:js R' D= -1:=jR (by omega);rw[hc]at CB1;have hAD:A/D=Q'/\A%D=R':=by rw[hAR];exact⟨by rw[aC,gC hD,bq (by omega),dB],by rw[aC,kq,bc (by omega)]⟩
     rw[hAD.1,hAD.2]at HF;clear hc CD CP CB hAD hAR
     go_wp2_with fail
     with_reducible refine(ae CB1).mono ?_
     rintro e w6 ⟨rfl,b6⟩;have NQ:=ag ((ae NQ).next b6);have NR:=ag ((ae NR).next b6);have b6:=aJ b4 (aJ b5 b6);clear CB1 b5 o5;go_wp2
     go_ret2
     exact⟨_,rfl,ae HF _ _ ⟨_,_,gq,gx',s2,m2,rfl,ae NQ,ae NR,⟨hne,Zf,hgx⟩,(ae HE).next b6,k1,k2,k3,k4,(ae HO).next b6⟩⟩
theorem Tp:UY:=by
 intro T w;have CC:=ag (fun w=>Tf T w);unfold bJ.val at CC ⊢;go_enter Tryz.func66,Tryz.ntmps66
 go_wp2_with fail
 refine(ae CC _).mono ?_;rintro e w1 ⟨gd,gm,gt,gk,ge,g,rfl,E1,⟨Wh,Nf,GI,EU,pE,hg⟩,b1⟩;have Az:w.heap.size<=g:=ak (by simp) hg;have we:w.heap.size<=ge:=ak (by simp) pE;have yR:w.heap.size<=gk:=ak (by simp) EU;have BG:w.heap.size<=gt:=ak (by simp) GI;have GH:w.heap.size<=gm:=ak (by simp) Nf;have Nd:w.heap.size<=gd:=ak (by simp) Wh;have b0:=ag (aJ ((aj w.heap.size w).alloc (af _) _) b1);have tl:=E1.met.lt;have HE:=ag E1;clear CC b1 hg E1 pE EU GI Nf Wh;go_wp2;go_ret;refine⟨w1.heap.size,gd,gm,gt,gk,ge,g,rfl,⟨?_,(ae HE).next ((aj _ _).alloc (af _) _),by omega⟩,⟨(ae b0).size,Nd,GH,BG,yR,we,Az⟩,(ae b0).alloc (ae b0).size _⟩;exact ay _ w1.heap.size 0 _ _ (0,0) (aI w1 _)
theorem Ct(h:jg w v n):Calls Tryz.prog 57 #[v] w fun e w'=>e=.returned (.int .i64 (wl n:Int))/\w'=w:=by obtain⟨ga,b,o,cap,xs,rfl,hr,hd,hv,hl⟩:=h;have e:=Hj hd;have:=pG w ga b o cap xs.length xs rfl (by omega) hr;rw[e,hv]at this;exact this
def rcC(n b D:Nat):Nat:=zN (2^n) D+nc (n-(b+1))+8*((n-(b+1)+65)/64*wl D)
def vL(w:World)(gr gd gm gt gk ge g:Nat)(s l m:Int)(T:bJ)(D b n N:Nat)(e:Ending)(w':World):Prop:=
 ∃r gq s' m',e=.returned (.tuple #[r,.int .i64 0])/\gh gq (gq+1) w' r (2^n/D)/\w.heap.size<=gq/\dC w' gr gd gm gt gk ge g s' l m' T/\s<=s'/\s'<=s+(rcC n b D:Int)/\m<=m'/\m'<=max m (l+(jP N:Int))/\Out (·=g) w w'
theorem Ow(h:n<=1048575):wl (2^n)<=16384:=by have:=jV (n:=2^n) (b:=n+1) (by rw[aE];have:=bC n;omega);omega
theorem Sq(w:World)(gr gd gm gt gk ge g:Nat)(s l m:Int)(T:bJ)(u:Value)(D b n N:Nat)(z:Int)(hE:dC w gr gd gm gt gk ge g s l m T)(hT:TB w)(h0:0<=s)(h1:s<=1143914305352105984)(h2:0<=l)(h3:l<=1000)(hd:jg w u D)(b0:2^b<=D)(b1:D<2^(b+1))(hn:n<=1048575)(hN:(n-(b+1)+67)/64<=N)(xw:N<=16384)(hz:z=(n:Int)-((b+1:Nat):Int)):Calls Tryz.prog 120 #[.pointer (some ⟨gr,0,none⟩),u,.int .i64 z] w fun e w'=>∃r X s' m',e=.returned r/\aU w.heap.size w' r X/\wl X<=(n-(b+1)+65)/64/\dC w' gr gd gm gt gk ge g s' l m' T/\s<=s'/\s'<=s+(nc (n-(b+1)):Int)/\m<=m'/\m'<=max m (l+(jP N:Int))/\Out (·=g) w w':=by
 by_cases h:n<b+1
 ·refine(Xt w _ u z (by omega)).mono ?_;rintro e w' ⟨rfl,rfl⟩;exact⟨_,0,s,m,rfl,tQ _ _,by rw[pP];omega,hE,dK _,by omega,dK _,by omega,Out.refl _ _⟩
 ·obtain⟨k,hk⟩:∃k,k=n-(b+1):=⟨_,rfl⟩;rw[<-hk]at hN;rw[hz,show(n:Int)-((b+1:Nat):Int)=(k:Int) by omega, <-hk];have hc:=abp k (by omega);refine(Xp k w gr gd gm gt gk ge g s l m T u D b N hE hT h0 (by omega) h2 h3 hd b0 b1 (by omega) hN xw).mono ?_;rintro e w' ⟨r,X,s',m',j1,j2,j3,j4,j5,j6,j7,j8,j9⟩;exact⟨r,X,s',m',j1,j2,Hh b0 j3,j4,j5,j6,j7,j8,j9⟩
theorem Oa(w:World)(gr gd gm gt gk ge g:Nat)(s l m:Int)(T:bJ)(u:Value)(D b n N:Nat)(t:Int)(hE:dC w gr gd gm gt gk ge g s l m T)(h0:0<=s)(h1:s<=1143914305352105984)(h2:0<=l)(h3:l<=1000)(hd:jg w u D)(b0:2^b<=D)(hn:n<=1048575)(ht:t=T.bD.row.getD 4 0)(dh:  (wl D:Int)<t):Calls Tryz.prog 97 #[.pointer (some ⟨gr,0,none⟩),u,.int .i64 (n:Int)] w (vL w gr gd gm gt gk ge g s l m T D b n N):=by
 have D0:0<D:=az (bC _) b0;have CZ:=ag (pQ hd.gE false (by simp;omega));have CI:=ag (tJ w n true (by simp;omega));have CL:=ag (fun W (bw:Below w.heap.size w W)=>Ct (hd.next bw));have HC:Hid (∀W,Below w.heap.size w W->W.cell? ⟨gr,0,none⟩=some (.pointer (some ⟨gd,0,none⟩))/\W.cell? ⟨gd,0,none⟩=some (.pointer (some ⟨gm,0,none⟩))/\W.cell? ⟨gm,0,none⟩=some (.pointer (some ⟨gt,0,none⟩))/\W.cell? ⟨gt,0,none⟩=some (.pointer (some ⟨gk,0,none⟩))/\W.cell? ⟨gk,0,none⟩=some (.pointer (some ⟨ge,0,none⟩))/\W.cell? ⟨ge,0,none⟩=some (.pointer (some ⟨g,0,none⟩))/\W.cell? ⟨g,7,none⟩=some (.int .i64 t)):=fun W bw=>by have E:=hE.next bw;obtain⟨e1,e2,e3,e4,e5⟩:=E.div.way;have e6:=E.div.mul.jf.fY.tab 4 (by decide);rw[<-ht]at e6;exact⟨E.ptr,e1,e2,e3,e4,e5,e6⟩
 have wP:=Ow hn;have C1:Hid (∀W,Below w.heap.size w W->Calls Tryz.prog 118 #[.int .i64 (n:Int)] W fun e w'=>∃r,e=.returned r/\aU w.heap.size w' r (2^n)/\Below w.heap.size w w'):=fun W bw=>(qO W n n (by omega)).mono fun e w' ⟨r,he,hn,hb⟩=>⟨r,he,hn.mono bw.size,aJ bw hb⟩;have C2:Hid (∀W v,Below w.heap.size w W->aU w.heap.size W v (2^n)->Calls Tryz.prog 81 #[.pointer (some ⟨gd,0,none⟩),v,u] W fun e w'=>∃q r gq,e=.returned (.tuple #[q,r,.int .i64 0])/\dC w' gr gd gm gt gk ge g (s+(zN (2^n) D:Int)) l m T/\gh gq (gq+1) w' q (2^n/D)/\w.heap.size<=gq/\Out (·=g) w w'):=fun W v bw nv=>by refine(uV W gr gd gm gt gk ge g s l m T v u (2^n) D (hE.next bw) h0 (by omega) h2 h3 (nv.vu wP) (hd.next bw) D0).mono ?_;rintro e w' ⟨q,r,gq,gx,k1,k2,k3,⟨k4,k5,k6⟩,k7,k8⟩;exact⟨q,r,gq,k1,k7,k2,ak bw.size k5,(Out.bQ bw).trans k8⟩
 have HF:Hid (∀q gq w',dC w' gr gd gm gt gk ge g (s+(zN (2^n) D:Int)) l m T->gh gq (gq+1) w' q (2^n/D)->w.heap.size<=gq->Out (·=g) w w'->vL w gr gd gm gt gk ge g s l m T D b n N (.returned (.tuple #[q,.int .i64 0])) w'):=fun q gq w' j1 j2 j3 j4=>by refine⟨q,gq,_,_,rfl,j2,j3,j1,by omega,?_,dK _,by omega,j4⟩;unfold rcC;omega
 obtain⟨ga,la,ca,rfl⟩:=hd.gE.is;generalize vL w gr gd gm gt gk ge g s l m T D b n N=SA at *;generalize wl D=L at *;clear ht hE h0 h1 h2 h3 hd b0 hn D0 wP;generalize 2^n/D=X at *;generalize (zN (2^n) D:Int)=KL at *;generalize 2^n=P at *;suffices H:Calls Tryz.prog 97 #[.pointer (some ⟨gr,0,none⟩),.slice ga la ca,.int .i64 (n:Int)] w (fun e w'=>∃v,e=.returned v/\SA (.returned v) w') from H.mono (fun e w' ⟨v,he,h⟩=>he▸h)
 go_enter Tryz.func97,Tryz.ntmps97
 go_wp2_with fail
 refine(ae CZ).mono ?_;rintro e w1 ⟨rfl,hw⟩;obtain rfl:=hw.symm;clear hw CZ
 go_wp2_with fail
 refine(ae CI).mono ?_;rintro e w1 ⟨rfl,hw⟩;obtain rfl:=hw.symm;clear hw CI
 go_wp2_with fail
 have bl:Below w.heap.size w w.drew:=(aj _ _).drew
 (try simp only[List.append_eq,List.cons_append,List.nil_append])
 go_region_held3 (fun w'=>w'.cell? ⟨gr,0,none⟩=some (.pointer (some ⟨gd,0,none⟩))/\w'.cell? ⟨gd,0,none⟩=some (.pointer (some ⟨gm,0,none⟩))/\w'.cell? ⟨gm,0,none⟩=some (.pointer (some ⟨gt,0,none⟩))/\w'.cell? ⟨gt,0,none⟩=some (.pointer (some ⟨gk,0,none⟩))/\w'.cell? ⟨gk,0,none⟩=some (.pointer (some ⟨ge,0,none⟩))/\w'.cell? ⟨ge,0,none⟩=some (.pointer (some ⟨g,0,none⟩))/\w'.cell? ⟨g,7,none⟩=some (.int .i64 t)) (first|(exact ae HC _ bl)|go_keep) (first
  |(with_reducible refine(ae CL _ bl).mono ?_;rintro e w2 ⟨rfl,rfl⟩)
  |fail)
 clear CL;have HC:=ag (fun W bw=>(ae HC W bw).1);go_wp2;have bl:Below w.heap.size w w.drew.drew:=bl.drew
 (try simp only[List.append_eq,List.cons_append,List.nil_append])
 go_region_held3 (fun w'=>w'.cell? ⟨gr,0,none⟩=some (.pointer (some ⟨gd,0,none⟩))) (first|(exact ae HC _ bl)|(exact(dC.way E4).1)|go_keep) (first
  |(with_reducible refine(ae C1 _ bl).mono ?_;rintro e w3 ⟨u3,rfl,n3,bl⟩)
  |(with_reducible refine(ae C2 _ _ bl n3).mono ?_;rintro e w4 ⟨q4,r4,gq,rfl,E4,n4,hq,o4⟩)
  |fail)
 have HX:=ag (ae HF _ _ _ E4 n4 hq o4);obtain⟨qa,ql,qc,rfl⟩:=n4.rb.shape;clear C1 C2 HF HC E4 n4 o4 n3 bl;go_wp2
 go_ret2
 exact⟨_,rfl,ae HX⟩
theorem Ht(w:World)(gr gd gm gt gk ge g:Nat)(s l m:Int)(T:bJ)(u:Value)(D b n N:Nat)(t:Int)(hE:dC w gr gd gm gt gk ge g s l m T)(hT:TB w)(h0:0<=s)(h1:s<=1143914305352105984)(h2:0<=l)(h3:l<=1000)(hd:jg w u D)(b0:2^b<=D)(b1:D<2^(b+1))(hn:n<=1048575)(hN:(n-(b+1)+67)/64<=N)(zD:wl D<=N)(xw:N<=16384)(ht:t=T.bD.row.getD 4 0)(dh:¬  (wl D:Int)<t):Calls Tryz.prog 97 #[.pointer (some ⟨gr,0,none⟩),u,.int .i64 (n:Int)] w (vL w gr gd gm gt gk ge g s l m T D b n N):=by
 have D0:0<D:=az (bC _) b0;have CZ:=ag (pQ hd.gE false (by simp;omega));have CI:=ag (tJ w n true (by simp;omega));have CL:=ag (fun W (bw:Below w.heap.size w W)=>Ct (hd.next bw));have HC:Hid (∀W,Below w.heap.size w W->W.cell? ⟨gr,0,none⟩=some (.pointer (some ⟨gd,0,none⟩))/\W.cell? ⟨gd,0,none⟩=some (.pointer (some ⟨gm,0,none⟩))/\W.cell? ⟨gm,0,none⟩=some (.pointer (some ⟨gt,0,none⟩))/\W.cell? ⟨gt,0,none⟩=some (.pointer (some ⟨gk,0,none⟩))/\W.cell? ⟨gk,0,none⟩=some (.pointer (some ⟨ge,0,none⟩))/\W.cell? ⟨ge,0,none⟩=some (.pointer (some ⟨g,0,none⟩))/\W.cell? ⟨g,7,none⟩=some (.int .i64 t)):=fun W bw=>by have E:=hE.next bw;obtain⟨e1,e2,e3,e4,e5⟩:=E.div.way;have e6:=E.div.mul.jf.fY.tab 4 (by decide);rw[<-ht]at e6;exact⟨E.ptr,e1,e2,e3,e4,e5,e6⟩
 have wP:=Ow hn;have wD:=hd.vu;obtain⟨bb,BC⟩:∃bb,bb=b+1:=⟨_,rfl⟩;obtain⟨z,hz⟩:∃z:Int,z=(n:Int)-(bb:Int):=⟨_,rfl⟩;obtain⟨K,hK⟩:∃K,K=nc (n-(b+1)):=⟨_,rfl⟩;have Ue:=abp (n-(b+1)) (by omega);rw[<-hK]at Ue;have qe:b<1048576:=by obtain⟨b',q0,q1,q2⟩:=uw D0 wD;have a1:b<b'+1:=(dZ (a:=2) (by omega)).1 (by omega);omega
 have C1:Hid (∀W,Below w.heap.size w W->Calls Tryz.prog 118 #[.int .i64 (n:Int)] W fun e w'=>∃r,e=.returned r/\aU w.heap.size w' r (2^n)/\Below w.heap.size w w'):=fun W bw=>(qO W n n (by omega)).mono fun e w' ⟨r,he,hn,hb⟩=>⟨r,he,hn.mono bw.size,aJ bw hb⟩;have C2:Hid (∀W,Below w.heap.size w W->Calls Tryz.prog 53 #[u] W fun e w'=>e=.returned (.int .i64 (bb:Int))/\w'=W):=fun W bw=>by rw[BC];exact kS (hd.gE.next bw) b0 b1
 have C3:Hid (∀W v,Below w.heap.size w W->aU w.heap.size W v (2^n)->Calls Tryz.prog 120 #[.pointer (some ⟨gr,0,none⟩),u,.int .i64 z] W fun e w'=>∃r X s' m',e=.returned r/\aU w.heap.size w' r X/\wl X<=(n-(b+1)+65)/64/\aU w.heap.size w' v (2^n)/\dC w' gr gd gm gt gk ge g s' l m' T/\s<=s'/\s'<=s+(K:Int)/\m<=m'/\m'<=max m (l+(jP N:Int))/\Out (·=g) w w'):=fun W v bw nv=>by rw[hK];refine(Sq W gr gd gm gt gk ge g s l m T u D b n N z (hE.next bw) (hT.next bw) h0 h1 h2 h3 (hd.next bw) b0 b1 hn hN xw (by omega)).mono ?_;rintro e w' ⟨r,X,s',m',j1,j2,j3,j4,j5,j6,j7,j8,j9⟩;exact⟨r,X,s',m',j1,j2.mono bw.size,j3,(hE.next bw).mb j9 nv,j4,j5,j6,j7,j8,(Out.bQ bw).trans j9⟩
 have C4:Hid (∀W v x X s' m',aU w.heap.size W v (2^n)->aU w.heap.size W x X->wl X<=(n-(b+1)+65)/64->dC W gr gd gm gt gk ge g s' l m' T->s<=s'->s'<=s+(K:Int)->m<=m'->m'<=max m (l+(jP N:Int))->Out (·=g) w W->Calls Tryz.prog 119 #[.pointer (some ⟨gr,0,none⟩),v,u,x] W fun e w'=>∃q r,e=.returned (.tuple #[q,r])/\vL w gr gd gm gt gk ge g s l m T D b n N (.returned (.tuple #[q,.int .i64 0])) w'):=fun W v x X s' m' nv nx hX E k1 k2 k3 k4 o=>by refine(Cy W gr gd gm gt gk ge g s' l m' T v u x w.heap.size (2^n) D X E (hE.tb o hT) (by omega) (by omega) h2 h3 (nv.sR (by omega)) (by omega) (hE.uG o hd) nx (by omega) o.size D0).mono ?_;rintro e w' ⟨q,r,gq,gx,s'',m'',j1,j2,j3,⟨j4,j5,j6⟩,j7,j8,j9,i1,i2,i3⟩;have hm:8*(wl X*wl D)<=8*((n-(b+1)+65)/64*wl D):=au 8 (ax _ hX);have hd:=m7 (a:=max (wl X) (wl D)) (b:=N) (by omega) (by omega);refine⟨q,r,j1,q,gq,s'',m'',rfl,j2,j5,j7,by omega,?_,by omega,by omega,o.trans i3⟩;unfold rcC;omega
 have i1:(n:Int)-(bb:Int)=z:=hz.symm;have i2:IntKind.i64.wrap z=z:=by rw[ao];omega
 obtain⟨ga,la,ca,rfl⟩:=hd.gE.is;generalize vL w gr gd gm gt gk ge g s l m T D b n N=SA at *;generalize wl D=L at *;clear ht hE hT h0 h1 h2 h3 hd b0 b1 hn hN zD xw D0 wP wD hz BC hK Ue qe;generalize 2^n=P at *;generalize max m (l+(jP N:Int))=KM at *;generalize (K:Int)=KK at *;suffices H:Calls Tryz.prog 97 #[.pointer (some ⟨gr,0,none⟩),.slice ga la ca,.int .i64 (n:Int)] w (fun e w'=>∃v,e=.returned v/\SA (.returned v) w') from H.mono (fun e w' ⟨v,he,h⟩=>he▸h)
 go_enter Tryz.func97,Tryz.ntmps97
 go_wp2_with fail
 refine(ae CZ).mono ?_;rintro e w1 ⟨rfl,hw⟩;obtain rfl:=hw.symm;clear hw CZ
 go_wp2_with fail
 refine(ae CI).mono ?_;rintro e w1 ⟨rfl,hw⟩;obtain rfl:=hw.symm;clear hw CI
 go_wp2_with fail
 have bl:Below w.heap.size w w.drew:=(aj _ _).drew
 (try simp only[List.append_eq,List.cons_append,List.nil_append])
 go_region_held3 (fun w'=>w'.cell? ⟨gr,0,none⟩=some (.pointer (some ⟨gd,0,none⟩))/\w'.cell? ⟨gd,0,none⟩=some (.pointer (some ⟨gm,0,none⟩))/\w'.cell? ⟨gm,0,none⟩=some (.pointer (some ⟨gt,0,none⟩))/\w'.cell? ⟨gt,0,none⟩=some (.pointer (some ⟨gk,0,none⟩))/\w'.cell? ⟨gk,0,none⟩=some (.pointer (some ⟨ge,0,none⟩))/\w'.cell? ⟨ge,0,none⟩=some (.pointer (some ⟨g,0,none⟩))/\w'.cell? ⟨g,7,none⟩=some (.int .i64 t)) (first|(exact ae HC _ bl)|go_keep) (first
  |(with_reducible refine(ae CL _ bl).mono ?_;rintro e w2 ⟨rfl,rfl⟩)
  |fail)
 clear CL HC
 go_wp2_with fail
 with_reducible refine(ae C1 _ bl).mono ?_
 rintro e w3 ⟨u3,rfl,n3,b3⟩;have C2:=ag (ae C2 _ b3);have C3:=ag (ae C3 _ _ b3 n3);obtain⟨ua,ul,uc,rfl⟩:=n3.shape;clear C1 bl n3 b3
 go_wp2_with fail
 with_reducible refine(ae C2).mono ?_
 rintro e w4 ⟨rfl,hw⟩;obtain rfl:=hw.symm;clear C2 hw
 go_wp2_with fail
 with_reducible refine(ae C3).mono ?_
 rintro e w5 ⟨x5,X,s5,m5,rfl,n5,hX,n3,E5,k1,k2,k3,k4,o5⟩;have C4:=ag (ae C4 _ _ _ _ _ _ n3 n5 hX E5 k1 k2 k3 k4 o5);obtain⟨xa,xl,xc,rfl⟩:=n5.shape;clear C3 n3 n5 hX E5 k1 k2 k3 k4 o5
 go_wp2_with fail
 with_reducible refine(ae C4).mono ?_
 rintro e w6 ⟨q,r,rfl,h6⟩;have H6:=ag h6;clear C4 h6;go_wp2
 go_ret2
 exact⟨_,rfl,ae H6⟩
theorem SW(w:World)(gr gd gm gt gk ge g:Nat)(s l m:Int)(T:bJ)(u:Value)(D b n N:Nat)(hE:dC w gr gd gm gt gk ge g s l m T)(hT:TB w)(h0:0<=s)(h1:s<=1143914305352105984)(h2:0<=l)(h3:l<=1000)(hd:jg w u D)(b0:2^b<=D)(b1:D<2^(b+1))(hn:n<=1048575)(hN:(n-(b+1)+67)/64<=N)(zD:wl D<=N)(xw:N<=16384):Calls Tryz.prog 97 #[.pointer (some ⟨gr,0,none⟩),u,.int .i64 (n:Int)] w (vL w gr gd gm gt gk ge g s l m T D b n N):=by
 by_cases dh:(wl D:Int)<T.bD.row.getD 4 0
 ·exact Oa w gr gd gm gt gk ge g s l m T u D b n N _ hE h0 h1 h2 h3 hd b0 hn rfl dh
 ·exact Ht w gr gd gm gt gk ge g s l m T u D b n N _ hE hT h0 h1 h2 h3 hd b0 b1 hn hN zD xw rfl dh
theorem XM{P D:Nat}(hD:0<D):V=P/D↔V*D<=P/\P-V*D<D:=by
 constructor
 ·rintro rfl;have h1:=cR P D;have h2:=gR hD (a:=P);omega
 ·rintro⟨h1,h2⟩;obtain⟨R,hR⟩:∃R,R=P-V*D:=⟨_,rfl⟩;rw[<-hR]at h2;have e:P=D*V+R:=by rw[aC D V];omega
  rw[e,gC hD,bq h2,dB]
theorem Ke(w:World)(gr gd gm gt gk ge g:Nat)(s l m:Int)(T:bJ)(v d:Value)(V D n N:Nat)(q:Bool)(hE:dC w gr gd gm gt gk ge g s l m T)(hT:TB w)(h0:0<=s)(h1:s<=1154047404513689600)(h2:0<=l)(h3:l<=1000)(hv:jg w v V)(hd:jg w d D)(hD:0<D)(hn:n<=1048576)(hN:wl V<=N)(zD:wl D<=N)(xw:N<=16384)(hq:q=decide (V=2^n/D)):Calls Tryz.prog 121 #[.pointer (some ⟨gr,0,none⟩),v,d,.int .i64 (n:Int)] w fun e w'=>∃s' m',e=.returned (.bool q)/\dC w' gr gd gm gt gk ge g s' l m' T/\s<=s'/\s'<=s+((8*(wl V*wl D):Nat):Int)/\m<=m'/\m'<=max m (l+(jP N:Int))/\Out (·=g) w w':=by
 have hdp:=m7 (a:=max (wl V) (wl D)) (b:=N) (by omega) (by omega);have wP:wl (2^n)<=16385:=by have:=jV (n:=2^n) (b:=n+1) (by rw[aE];have:=bC n;omega);omega
 have wVD:=qi V D;have wV:=hv.vu;have wD:=hd.vu;replace hq:q=decide (V*D<=2^n/\2^n-V*D<D):=by rw[hq];exact lT.2 (XM hD)
 have C1:Hid (∀W,Below w.heap.size w W->Calls Tryz.prog 118 #[.int .i64 (n:Int)] W fun e w'=>∃r,e=.returned r/\aU w.heap.size w' r (2^n)/\Below w.heap.size w w'):=fun W bw=>(qO W n n (by omega)).mono fun e w' ⟨r,he,hn,hb⟩=>⟨r,he,hn.mono bw.size,aJ bw hb⟩;have C2:Hid (∀W u,Below w.heap.size w W->aU w.heap.size W u (2^n)->Calls Tryz.prog 74 #[.pointer (some ⟨gm,0,none⟩),v,d] W fun e w'=>∃r s' m',e=.returned r/\aU w.heap.size w' r (V*D)/\aU w.heap.size w' u (2^n)/\dC w' gr gd gm gt gk ge g s' l m' T/\s<=s'/\s'<=s+((8*(wl V*wl D):Nat):Int)/\m<=m'/\m'<=max m (l+(jP N:Int))/\Out (·=g) w w'):=fun W u bw nu=>by refine(qN W gr gd gm gt gk ge g s l m T v d V D (hE.next bw) (hT.next bw) h0 h1 h2 h3 (hv.next bw) (hd.next bw)).mono ?_;rintro e w' ⟨r,s',m',k1,k2,k3,k4,k5,k6,k7,k8⟩;exact⟨r,s',m',k1,k2.mono bw.size,(hE.next bw).mb k8 nu,k3,k4,k5,k6,by omega,(Out.bQ bw).trans k8⟩
 have CS:=ag (fun W u x (nu:aU w.heap.size W u (2^n)) (nx:aU w.heap.size W x (V*D))=>su W u x (2^n) (V*D) (nu.sR (by omega)) (nx.sR (by omega)));have CC:Hid (∀W x R,Out (·=g) w W->R<=2^n->aU w.heap.size W x R->Calls Tryz.prog 112 #[x,d] W fun e w'=>e=.returned (.int .i64 (js R D))/\Below W.heap.size W w'):=fun W x R o hR nx=>EC W x d R D (nx.sR (by have:=fw hR;omega)) (hE.gE o hd.gE);have HC:Hid (∀W,Below w.heap.size w W->W.cell? ⟨gr,0,none⟩=some (.pointer (some ⟨gd,0,none⟩))/\W.cell? ⟨gd,0,none⟩=some (.pointer (some ⟨gm,0,none⟩))):=fun W b=>(hE.next b).way;obtain⟨ga,la,ca,rfl⟩:=hv.gE.is;obtain⟨gb,lb,cb,rfl⟩:=hd.gE.is;have bl:Below w.heap.size w w.drew:=(aj _ _).drew;clear hE hT h0 h1 h2 h3 hv hd hD hn hN zD xw hdp wP wVD wV wD;generalize ((8*(wl V*wl D):Nat):Int)=KC at *;generalize max m (l+(jP N:Int))=KM at *;generalize 2^n=P at *;generalize V*D=X at *;by_cases hle:X<=P
 ·have CS:Hid (∀W u x,aU w.heap.size W u P->aU w.heap.size W x X->Calls Tryz.prog 149 #[u,x] W fun e w'=>∃r,e=.returned (.tuple #[r,.bool true])/\aU W.heap.size w' r (P-X)/\Below W.heap.size W w'):=fun W u x nu nx=>(ae CS W u x nu nx).mono fun e w' ⟨b,hh⟩=>by
   rcases hh with⟨_,r,he,hn⟩|⟨dh,_⟩
   ·exact⟨r,he,hn,b⟩
   ·omega
  obtain⟨c,zG,hcq⟩:∃c:Int,js (P-X) D=c/\decide (c<0)=q:=by
   refine⟨_,rfl,?_⟩;rw[hq];rcases fl (P-X) D with h|h
   ·rw[jR h];simp[hle,h]
   ·rcases fl D (P-X)with h'|h'
    ·rw[lG h'];simp;omega
    ·rw[mO (by omega)];simp;omega
  have CC:=ag (fun W x o nx=>ae CC W x (P-X) o (yD _ _) nx);rw[zG]at CC;clear hq zG hle;generalize P-X=R at *;go_enter Tryz.func121,Tryz.ntmps121
  go_wp2_with fail
  (try simp only[List.append_eq,List.cons_append,List.nil_append])
  go_region_held3 (fun w'=>w'.cell? ⟨gr,0,none⟩=some (.pointer (some ⟨gd,0,none⟩))/\w'.cell? ⟨gd,0,none⟩=some (.pointer (some ⟨gm,0,none⟩))) (first|(exact ae HC _ bl)|(exact dC.way E3)|(exact dC.way E2)|go_keep) (first
   |(with_reducible refine(ae C1 _ bl).mono ?_;rintro e w1 ⟨u,rfl,n1,bl⟩)
   |(with_reducible refine(ae C2 _ _ bl n1).mono ?_;rintro e w2 ⟨v,s2,m2,rfl,n2,n1,E2,k1,k2,k3,k4,o2⟩)
   |(with_reducible refine(ae CS _ _ _ n1 n2).mono ?_;rintro e w3 ⟨rr,rfl,n3,b3⟩;have E3:=dC.next E2 b3)
   |fail)
  have CC:=ag (ae CC _ _ (o2.next b3) (n3.mono o2.size));have HE:=ag E3;have o3:=ag (o2.next b3);obtain⟨ra,rl,rc,rfl⟩:=n3.shape;clear C1 C2 CS HC n1 n2 n3 E2 E3 o2 b3 bl
  go_wp2_with fail
  with_reducible refine(ae CC).mono ?_
  rintro e w4 ⟨rfl,b4⟩;have HE:=ag ((ae HE).next b4);have o4:=ag ((ae o3).next b4);clear CC b4 o3;go_wp2;go_ret;exact⟨s2,m2,rfl,ae HE,k1,k2,k3,k4,ae o4⟩
 ·have CS:Hid (∀W u x,aU w.heap.size W u P->aU w.heap.size W x X->Calls Tryz.prog 149 #[u,x] W fun e w'=>e=.returned (.tuple #[.slice none 0 0,.bool false])/\Below W.heap.size W w'):=fun W u x nu nx=>(ae CS W u x nu nx).mono fun e w' ⟨b,hh⟩=>by
   rcases hh with⟨h,_⟩|⟨_,he⟩
   ·omega
   ·exact⟨he,b⟩
  obtain rfl:q=false:=by rw[hq];simp;omega
  clear hq hle CC;go_enter Tryz.func121,Tryz.ntmps121
  go_wp2_with fail
  (try simp only[List.append_eq,List.cons_append,List.nil_append])
  go_region_held3 (fun w'=>w'.cell? ⟨gr,0,none⟩=some (.pointer (some ⟨gd,0,none⟩))/\w'.cell? ⟨gd,0,none⟩=some (.pointer (some ⟨gm,0,none⟩))) (first|(exact ae HC _ bl)|(exact dC.way E3)|(exact dC.way E2)|go_keep) (first
   |(with_reducible refine(ae C1 _ bl).mono ?_;rintro e w1 ⟨u,rfl,n1,bl⟩)
   |(with_reducible refine(ae C2 _ _ bl n1).mono ?_;rintro e w2 ⟨v,s2,m2,rfl,n2,n1,E2,k1,k2,k3,k4,o2⟩)
   |(with_reducible refine(ae CS _ _ _ n1 n2).mono ?_;rintro e w3 ⟨rfl,b3⟩;have E3:=dC.next E2 b3)
   |fail)
  have HE:=ag E3;have o3:=ag (o2.next b3);clear C1 C2 CS HC n1 n2 E2 E3 o2 b3 bl;go_wp2;go_ret;exact⟨s2,m2,rfl,ae HE,k1,k2,k3,k4,ae o3⟩
theorem VW{k:Nat}(hA:A<=2^n)(hk:k=n-b):A/2^b*V/2^k<=V:=by
 have hp:=bC b;by_cases h:b<=n
 ·have h1:A/2^b<=2^k:=by
   refine Ja ((aR hp).2 ?_);rw[dJ, <-aQ,show k+b=n by omega];omega
  exact Nat.div_le_of_le_mul (ax V h1)
 ·have:A/2^b=0:=bq (aN hA (AX (by omega) (by omega)));rw[this,gX,abL];omega
theorem Yy(hA:A<=2^n):wl (A/2^b)<=(n-b+64)/64:=by refine jV (b:=n-b+1) ((aR (bC b)).2 ?_);rw[<-aQ];exact aN hA (AX (by omega) (by omega))
theorem p_(w:World)(gr gd gm gt gk ge g:Nat)(s l m:Int)(T:bJ)(u d v:Value)(A V D b n N:Nat)(hE:dC w gr gd gm gt gk ge g s l m T)(hT:TB w)(h0:0<=s)(h1:s<=1154047404513689600)(h2:0<=l)(h3:l<=1000)(hu:fI w u A)(hv:jg w v V)(hd:jg w d D)(b0:2^b<=D)(b1:D<2^(b+1))(hb:b<=1048576)(hn:n<=1048575)(hA:A<=2^n)(hN:wl V<=N)(zD:(n-b+64)/64<=N)(xw:N<=16384):Calls Tryz.prog 122 #[.pointer (some ⟨gr,0,none⟩),u,d,v,.int .i64 (n:Int)] w fun e w'=>∃r G s' m',e=.returned r/\aU w.heap.size w' r G/\G<=V/\dC w' gr gd gm gt gk ge g s' l m' T/\s<=s'/\s'<=s+((8*((n-b+64)/64*wl V):Nat):Int)/\m<=m'/\m'<=max m (l+(jP N:Int))/\Out (·=g) w w':=by
 obtain⟨k,hk⟩:∃k,k=n-b:=⟨_,rfl⟩;obtain⟨bb,BC⟩:∃bb,bb=b+1:=⟨_,rfl⟩;obtain⟨z,hz⟩:∃z:Int,z=(n:Int)-(b:Int):=⟨_,rfl⟩;have wT:=Yy (b:=b) hA;have hG:=VW (V:=V) hA hk;have hc:8*(wl (A/2^b)*wl V)<=8*((n-b+64)/64*wl V):=au 8 (ax _ wT);have hdp:=m7 (a:=max (wl (A/2^b)) (wl V)) (b:=N) (by omega) (by omega);have wM:=qi (A/2^b) V;have CB:Hid (Calls Tryz.prog 53 #[d] w fun e w'=>e=.returned (.int .i64 (bb:Int))/\w'=w):=by rw[BC];exact kS hd.gE b0 b1
 have C1:Hid (∀W,Below w.heap.size w W->Calls Tryz.prog 105 #[u,.int .i64 (b:Int)] W fun e w'=>∃r,e=.returned r/\aU w.heap.size w' r (A/2^b)/\Below w.heap.size w w'):=fun W bw=>(tV W u b A b (by omega) (hu.next bw)).mono fun e w' ⟨r,k1,k2,k3⟩=>⟨r,k1,k2.mono bw.size,aJ bw k3⟩;have C2:Hid (∀W x,Below w.heap.size w W->aU w.heap.size W x (A/2^b)->Calls Tryz.prog 74 #[.pointer (some ⟨gm,0,none⟩),x,v] W fun e w'=>∃r s' m',e=.returned r/\aU w.heap.size w' r (A/2^b*V)/\dC w' gr gd gm gt gk ge g s' l m' T/\s<=s'/\s'<=s+((8*((n-b+64)/64*wl V):Nat):Int)/\m<=m'/\m'<=max m (l+(jP N:Int))/\Out (·=g) w w'):=fun W x bw nx=>by refine(qN W gr gd gm gt gk ge g s l m T x v (A/2^b) V (hE.next bw) (hT.next bw) h0 h1 h2 h3 (nx.vu (by omega)) (hv.next bw)).mono ?_;rintro e w' ⟨r,s',m',k1,k2,k3,k4,k5,k6,k7,k8⟩;exact⟨r,s',m',k1,k2.mono bw.size,k3,k4,by omega,k6,by omega,(Out.bQ bw).trans k8⟩
 have C3:Hid (∀W x,aU w.heap.size W x (A/2^b*V)->Calls Tryz.prog 105 #[x,.int .i64 z] W fun e w'=>∃r,e=.returned r/\aU W.heap.size w' r (A/2^b*V/2^k)/\Below W.heap.size W w'):=fun W x nx=>tV W x z _ k (by omega) (nx.sR (by have:=hv.vu;omega));have HC:Hid (∀W,Below w.heap.size w W->W.cell? ⟨gr,0,none⟩=some (.pointer (some ⟨gd,0,none⟩))/\W.cell? ⟨gd,0,none⟩=some (.pointer (some ⟨gm,0,none⟩))):=fun W b=>(hE.next b).way;have i1:(bb:Int)-1=(b:Int):=by omega
 have i2:IntKind.i64.wrap (b:Int)=(b:Int):=by rw[ao];omega
 have i3:(n:Int)-(b:Int)=z:=hz.symm;have i4:IntKind.i64.wrap z=z:=by rw[ao];omega
 obtain⟨ga,la,ca,rfl⟩:=hu.is;obtain⟨gb,lb,cb,rfl⟩:=hd.gE.is;obtain⟨gc,lc,cc,rfl⟩:=hv.gE.is;have bl:Below w.heap.size w w.drew:=(aj _ _).drew;clear hE hT h0 h1 h2 h3 hu hv hd b0 b1 hb hn hA hN zD xw wT hc hdp wM hk BC hz;generalize ((8*((n-b+64)/64*wl V):Nat):Int)=KC at *;generalize max m (l+(jP N:Int))=KM at *;generalize A/2^b*V/2^k=G at *;generalize A/2^b*V=A2 at *;generalize A/2^b=A1 at *;go_enter Tryz.func122,Tryz.ntmps122
 go_wp2_with fail
 refine(ae CB).mono ?_;rintro e w1 ⟨rfl,hw⟩;obtain rfl:=hw.symm;clear hw CB
 go_wp2_with fail
 (try simp only[List.append_eq,List.cons_append,List.nil_append])
 go_region_held3 (fun w'=>w'.cell? ⟨gr,0,none⟩=some (.pointer (some ⟨gd,0,none⟩))/\w'.cell? ⟨gd,0,none⟩=some (.pointer (some ⟨gm,0,none⟩))) (first|(exact ae HC _ bl)|(exact dC.way E3)|(exact dC.way E2)|go_keep) (first
  |(with_reducible refine(ae C1 _ bl).mono ?_;rintro e w1 ⟨u,rfl,n1,bl⟩)
  |(with_reducible refine(ae C2 _ _ bl n1).mono ?_;rintro e w2 ⟨v,s2,m2,rfl,n2,E2,k1,k2,k3,k4,o2⟩)
  |(with_reducible refine(ae C3 _ _ n2).mono ?_;rintro e w3 ⟨rr,rfl,n3,b3⟩;have E3:=dC.next E2 b3)
  |fail)
 have HE:=ag E3;have o3:=ag (o2.next b3);have N3:=ag (n3.mono o2.size);obtain⟨ra,rl,rc,rfl⟩:=n3.shape;clear C1 C2 C3 HC n1 n2 n3 E2 E3 o2 b3 bl;go_wp2;go_ret;exact⟨_,G,s2,m2,rfl,ae N3,hG,ae HE,k1,k2,k3,k4,ae o3⟩
def Gg(n b D:Nat):Nat:=8*((n-b+64)/64*wl D)+8*((n-b+64)/64*((n-b+64)/64))+8*((n-b+64)/64*wl D)
def Ux(w:World)(gr gd gm gt gk ge g:Nat)(s l m:Int)(T:bJ)(A D b n N:Nat)(e:Ending)(w':World):Prop:=
 ∃q r gq gx s' m',e=.returned (.tuple #[q,r,.int .i64 0])/\gh gq (gq+1) w' q (A/D)/\gh gx (gx+1) w' r (A%D)/\(gq≠gx/\w.heap.size<=gq/\w.heap.size<=gx)/\dC w' gr gd gm gt gk ge g s' l m' T/\s<=s'/\s'<=s+(Gg n b D:Int)/\m<=m'/\m'<=max m (l+(jP N:Int))/\Out (·=g) w w'
theorem KY{D:Nat}(b0:2^b<=D):wl (2^n/D)<=(n-b+64)/64:=by refine ak (fw ?_) (Yy (A:=2^n) (b:=b) (af _));exact aeG b0 (bC b)
theorem abY(w:World)(gr gd gm gt gk ge g:Nat)(s l m:Int)(T:bJ)(u d v:Value)(A D b n N:Nat)(hE:dC w gr gd gm gt gk ge g s l m T)(hT:TB w)(h0:0<=s)(h1:s<=1143914305352105984)(h2:0<=l)(h3:l<=1000)(hu:jg w u A)(hd:jg w d D)(hv:jg w v (2^n/D))(b0:2^b<=D)(b1:D<2^(b+1))(hn:n<=1048575)(hA:A<=2^n)(hN:(n-b+64)/64<=N)(zD:wl D<=N)(xw:N<=16384):Calls Tryz.prog 100 #[.pointer (some ⟨gr,0,none⟩),u,d,v,.int .i64 (n:Int)] w (Ux w gr gd gm gt gk ge g s l m T A D b n N):=by
 have D0:0<D:=az (bC _) b0;have wV:=KY (n:=n) b0;have wD:=hd.vu;have wA:=hu.vu;have qe:b<1048576:=by obtain⟨b',q0,q1,q2⟩:=uw D0 wD;have a1:b<b'+1:=(dZ (a:=2) (by omega)).1 (by omega);omega
 obtain⟨p,hp⟩:∃p,p=(n-b+64)/64:=⟨_,rfl⟩;have DU:p<=16384:=by omega
 rw[<-hp]at wV hN;obtain⟨c1,MZ⟩:∃c,c=8*(p*wl D):=⟨_,rfl⟩;obtain⟨c2,rC⟩:∃c,c=8*(p*p):=⟨_,rfl⟩;have g1:c1<=8*(16384*16384):=by rw[MZ];exact au 8 (aP DU wD)
 have g2:c2<=8*(16384*16384):=by rw[rC];exact au 8 (aP DU DU)
 have hC:Gg n b D=c1+c2+c1:=by unfold Gg;rw[<-hp,MZ,rC]
 obtain⟨V,hV⟩:∃V,V=2^n/D:=⟨_,rfl⟩;rw[<-hV]at hv wV;have v1:8*(wl V*wl D)<=c1:=by rw[MZ];exact au 8 (ax _ wV)
 have v2:8*(p*wl V)<=c2:=by rw[rC];exact au 8 (au _ wV)
 have wP:=Ow hn;have CZ:=ag (pQ hd.gE false (by simp;omega));have C0:=ag (fun W=>tJ W n true (by simp;omega));have C1:Hid (∀W,Below w.heap.size w W->Calls Tryz.prog 118 #[.int .i64 (n:Int)] W fun e w'=>∃r,e=.returned r/\aU w.heap.size w' r (2^n)/\Below w.heap.size w w'):=fun W bw=>(qO W n n (by omega)).mono fun e w' ⟨r,he,hn,hb⟩=>⟨r,he,hn.mono bw.size,aJ bw hb⟩;obtain⟨c,zG,hc⟩:∃c:Int,js A (2^n)=c/\¬0<c:=by
  refine⟨_,rfl,?_⟩;rcases fl A (2^n)with h|h
  ·rw[jR h];decide
  ·rw[mO (by omega)];decide
 have C2:Hid (∀W x,Below w.heap.size w W->aU w.heap.size W x (2^n)->Calls Tryz.prog 112 #[u,x] W fun e w'=>e=.returned (.int .i64 c)/\Below w.heap.size w w'):=fun W x bw nx=>by rw[<-zG];exact(EC W u x A (2^n) (hu.gE.next bw) (nx.sR (by omega))).mono fun e w' ⟨k1,k2⟩=>⟨k1,aJ bw k2⟩
 have C3:Hid (∀W,Below w.heap.size w W->Calls Tryz.prog 121 #[.pointer (some ⟨gr,0,none⟩),v,d,.int .i64 (n:Int)] W fun e w'=>∃s' m',e=.returned (.bool true)/\dC w' gr gd gm gt gk ge g s' l m' T/\s<=s'/\s'<=s+(c1:Int)/\m<=m'/\m'<=max m (l+(jP N:Int))/\Out (·=g) w w'):=fun W bw=>by refine(Ke W gr gd gm gt gk ge g s l m T v d V D n N true (hE.next bw) (hT.next bw) h0 (by omega) h2 h3 (hv.next bw) (hd.next bw) D0 (by omega) (by omega) zD xw (by rw[hV];simp)).mono ?_;rintro e w' ⟨s',m',k1,k2,k3,k4,k5,k6,k7⟩;exact⟨s',m',k1,k2,k3,by omega,k5,k6,(Out.bQ bw).trans k7⟩
 have C4:Hid (∀W s1 m1,dC W gr gd gm gt gk ge g s1 l m1 T->s<=s1->s1<=s+(c1:Int)->m<=m1->m1<=max m (l+(jP N:Int))->Out (·=g) w W->Calls Tryz.prog 122 #[.pointer (some ⟨gr,0,none⟩),u,d,v,.int .i64 (n:Int)] W fun e w'=>∃r G s' m',e=.returned r/\aU w.heap.size w' r G/\G<=V/\dC w' gr gd gm gt gk ge g s' l m' T/\s<=s'/\s'<=s+((c1+c2:Nat):Int)/\m<=m'/\m'<=max m (l+(jP N:Int))/\Out (·=g) w w'):=fun W s1 m1 E k1 k2 k3 k4 o=>by refine(p_ W gr gd gm gt gk ge g s1 l m1 T u d v A V D b n N E (hE.tb o hT) (by omega) (by omega) h2 h3 (hE.gE o hu.gE) (hE.uG o hv) (hE.uG o hd) b0 b1 (by omega) hn hA (by omega) (by omega) xw).mono ?_;rintro e w' ⟨r,G,s',m',j1,j2,j3,j4,j5,j6,j7,j8,j9⟩;rw[<-hp]at j6;exact⟨r,G,s',m',j1,j2.mono o.size,j3,j4,by omega,by omega,by omega,by omega,o.trans j9⟩
 have C5:Hid (∀W x G s1 m1,aU w.heap.size W x G->G<=V->dC W gr gd gm gt gk ge g s1 l m1 T->s<=s1->s1<=s+((c1+c2:Nat):Int)->m<=m1->m1<=max m (l+(jP N:Int))->Out (·=g) w W->Calls Tryz.prog 119 #[.pointer (some ⟨gr,0,none⟩),u,d,x] W fun e w'=>∃q r,e=.returned (.tuple #[q,r])/\Ux w gr gd gm gt gk ge g s l m T A D b n N (.returned (.tuple #[q,r,.int .i64 0])) w'):=fun W x G s1 m1 nx hG E k1 k2 k3 k4 o=>by have wG:=fw hG;have v3:8*(wl G*wl D)<=c1:=ak (au 8 (ax _ wG)) v1;have hdp:=m7 (a:=max (wl G) (wl D)) (b:=N) (by omega) (by omega);refine(Cy W gr gd gm gt gk ge g s1 l m1 T u d x w.heap.size A D G E (hE.tb o hT) (by omega) (by omega) h2 h3 (hE.gE o hu.gE) (by omega) (hE.uG o hd) nx (by omega) o.size D0).mono ?_;rintro e w' ⟨q,r,gq,gx,s'',m'',j1,j2,j3,j4,j7,j8,j9,i1,i2,i3⟩;exact⟨q,r,j1,q,r,gq,gx,s'',m'',rfl,j2,j3,j4,j7,by omega,by rw[hC];omega,by omega,by omega,o.trans i3⟩
 obtain⟨ga,la,ca,rfl⟩:=hu.gE.is;obtain⟨gb,lb,cb,rfl⟩:=hd.gE.is;obtain⟨gc,lc,cc,rfl⟩:=hv.gE.is;have bl:Below w.heap.size w w:=aj _ _;clear hE hT h0 h1 h2 h3 hu hv hd b0 b1 hn hA hN zD xw D0 wV wD wA qe hp DU MZ rC g1 g2 hC hV v1 v2 wP zG;generalize Ux w gr gd gm gt gk ge g s l m T A D b n N=SA at *;generalize max m (l+(jP N:Int))=KM at *;generalize ((c1+c2:Nat):Int)=K2 at *;generalize (c1:Int)=K1 at *;generalize 2^n=P at *;suffices H:Calls Tryz.prog 100 #[.pointer (some ⟨gr,0,none⟩),.slice ga la ca,.slice gb lb cb,.slice gc lc cc,.int .i64 (n:Int)] w (fun e w'=>∃v,e=.returned v/\SA (.returned v) w') from H.mono (fun e w' ⟨v,he,h⟩=>he▸h)
 go_enter Tryz.func100,Tryz.ntmps100
 go_wp2_with fail
 refine(ae CZ).mono ?_;rintro e w1 ⟨rfl,hw⟩;obtain rfl:=hw.symm;clear hw CZ
 go_wp2_with fail
 refine(ae C0 _).mono ?_;rintro e w1 ⟨rfl,hw⟩;obtain rfl:=hw.symm;clear hw C0
 go_wp2_with fail
 with_reducible refine(ae C1 _ bl).mono ?_
 rintro e w1 ⟨x1,rfl,n1,bl⟩;have C2:=ag (ae C2 _ _ bl n1);obtain⟨xa,xl,xc,rfl⟩:=n1.shape;clear C1 n1
 go_wp2_with fail
 with_reducible refine(ae C2).mono ?_
 rintro e w2 ⟨rfl,bl⟩;have C3:=ag (ae C3 _ bl);clear C2
 go_wp2_with fail
 with_reducible refine(ae C3).mono ?_
 rintro e w3 ⟨s3,m3,rfl,E3,k1,k2,k3,k4,o3⟩;have C4:=ag (ae C4 _ _ _ E3 k1 k2 k3 k4 o3);clear C3 E3 k1 k2 k3 k4 o3
 go_wp2_with fail
 with_reducible refine(ae C4).mono ?_
 rintro e w4 ⟨x4,G,s4,m4,rfl,n4,hG,E4,k1,k2,k3,k4,o4⟩;have C5:=ag (ae C5 _ _ _ _ _ n4 hG E4 k1 k2 k3 k4 o4);obtain⟨ya,yl,yc,rfl⟩:=n4.shape;clear C4 n4 hG E4 k1 k2 k3 k4 o4
 go_wp2_with fail
 with_reducible refine(ae C5).mono ?_
 rintro e w5 ⟨q,r,rfl,h5⟩;have H5:=ag h5;clear C5 h5;go_wp2
 go_ret3
 exact⟨_,rfl,ae H5⟩
def kI(w:World)(v:Value)(n:Nat):Prop:=∃ga b o cap xs,v=.slice ga xs.length cap/\cH w ga b o cap xs/\iS xs/\aB xs=n/\xs.length<=16384
theorem kI.uG(h:kI w v n):jg w v n:=by obtain⟨ga,b,o,cap,xs,rfl,hr,hc,hv,hl⟩:=h;exact⟨ga,b,o,cap,xs,rfl,hr,hc.1,hv,hl⟩
theorem kI.next(h:kI w v n)(hb:Below w.heap.size w w'):kI w' v n:=by obtain⟨ga,b,o,cap,xs,rfl,hr,hc,hv,hl⟩:=h;exact⟨ga,b,o,cap,xs,rfl,hr.next hb,hc,hv,hl⟩
theorem dC.Uq{T:bJ}(h:dC w gr gd gm gt gk ge g s l m T)(o:Out (·=g) w w')(r:kI w v n):kI w' v n:=by obtain⟨ga,b,oo,cap,xs,rfl,hr,hc,hv,hl⟩:=r;exact⟨ga,b,oo,cap,xs,rfl,h.rep o hr,hc,hv,hl⟩
theorem kI.is(h:kI w v n):∃ga b o cap,v=.slice ga (wl n) cap/\wl n<=cap/\(0<wl n->ga=some ⟨b,o,none⟩):=by obtain⟨ga,b,oo,cap,xs,rfl,hr,hc,hv,hl⟩:=h;have e:=mM hc;rw[hv]at e;rw[e];exact⟨ga,b,oo,cap,rfl,hr.room,hr.head⟩
theorem aU.toC{B:Nat}(h:aU B w v n)(hn:wl n<=16384):kI w v n:=by obtain⟨ga,b,cap,xs,rfl,hr,hc,hv,_⟩:=h.rep;have e:=mM hc;rw[hv]at e;exact⟨ga,b,0,cap,xs,rfl,hr,hc,hv,by omega⟩
theorem kI.vu(h:kI w v n):wl n<=16384:=h.uG.vu
theorem RO(w:World)(ga:Option Addr)(b o cap n m:Nat)(xs:List Nat)(hl:xs.length=n)(hn:n<=1099511627776)(hR:cH w ga b o cap xs)(hm:m=fV xs n):Calls Tryz.prog 79 #[.slice ga n cap] w fun e w'=>e=.returned (.slice ga m cap)/\w'=w:=by
 have hmn:m<=n:=by rw[hm];exact fZ xs n
 have ks:n<=cap:=by have:=hR.room;omega
 have CL:=ag (fun w' (h:w'=w)=>h▸pG w ga b o cap n xs hl hn hR);rw[<-hm]at CL;clear hm hR;go_enter Tryz.func79,Tryz.ntmps79
 go_wp2_with fail
 refine(ae CL _ rfl).mono ?_;rintro e w' ⟨rfl,rfl⟩;go_wp2;go_ret;exact⟨fg rfl,rfl⟩
theorem oy(h:jg w v A):∃u,kI w u A/\Calls Tryz.prog 79 #[v] w fun e w'=>e=.returned u/\w'=w:=by
 obtain⟨ga,b,o,cap,xs,rfl,hr,hd,hv,hl⟩:=h;have e:yi xs=xs.take (fV xs xs.length):=rfl;have hn:=fZ xs xs.length;have hlen:(yi xs).length=fV xs xs.length:=ep xs;refine⟨.slice ga (fV xs xs.length) cap,⟨ga,b,o,cap,yi xs,by rw[hlen],by rw[e];exact hr.take _ hn,ku hd,by rw[jN,hv],by omega⟩,?_⟩;exact RO w ga b o cap xs.length _ xs rfl (by omega) hr rfl
theorem NY(w:World)(ga gb:Option Addr)(b o cap na b' o' bM nb A C Q:Nat)(xs ys:List Nat)(jw:xs.length=na)(kt:ys.length=nb)(hR:cH w ga b o cap xs)(kV:cH w gb b' o' bM ys)(hx:iS xs)(hy:iS ys)(hA:aB xs=A)(hC:aB ys=C)(h0:0<C)(hna:na<=16384)(C_:nb<=16384)(hQ:Q=wl (A/C)):Calls Tryz.prog 91 #[.slice ga na cap,.slice gb nb bM] w fun e w'=>e=.returned (.int .i64 (Q:Int))/\Below w.heap.size w w':=by
 have eA:=mM hx;have eC:=mM hy;rw[hA,jw]at eA;rw[hC,kt]at eC;have ks:=hR.room;rw[jw]at ks;by_cases dh:na<nb
 ·have e0:=uU (A:=A) (C:=C) (by omega);have:Q=0:=by omega
  subst this;obtain⟨z,hz⟩:∃z:Int,(na:Int)-(nb:Int)=z:=⟨_,rfl⟩;have jx:z<0:=by omega
  have hw:IntKind.i64.wrap z=z:=by rw[ao];omega
  clear hQ e0 eA eC dh;go_enter Tryz.func91,Tryz.ntmps91;go_wp2;go_ret;exact⟨rfl,aj _ _⟩
 ·obtain⟨k,hk⟩:∃k,na=nb+k:=⟨na-nb,by omega⟩;have afW:0<nb:=by refine s9 fun e=>?_;rw[e]at eC;have:=jr.1 eC;omega
  obtain rfl:=hR.head (by omega);obtain⟨cc,qW⟩:∃cc,cap-k=cc:=⟨_,rfl⟩;have hd:=hR.drop k (by omega);rw[qW]at hd;have hvd:aB (xs.drop k)=A/18446744073709551616^k:=by have:=Dy hx.1 k 0;rw[cL,nT,dB,dH]at this;rw[this,hA]
  have iA:fI w (.slice (some ⟨b,o+k,none⟩) nb cc) (A/18446744073709551616^k):=⟨_,b,o+k,cc,xs.drop k,by rw[show(xs.drop k).length=nb by simp;omega],hd,fJ hx.1 k,hvd,by simp;omega⟩;have iC:fI w (.slice gb nb bM) C:=⟨gb,b',o',bM,ys,by rw[kt],kV,hy.1,hC,by omega⟩;have CC:=ag (EC w _ _ _ _ iA iC);obtain⟨c,hc⟩:∃c:Int,js (A/18446744073709551616^k) C=c:=⟨_,rfl⟩;rw[hc]at CC;have i1:(na:Int)-(nb:Int)=(k:Int):=by omega
  have i2:IntKind.i64.wrap (k:Int)=(k:Int):=by rw[ao];omega
  have i3:¬(k:Int)<0:=by omega
  have j1:k<=na/\k<=cap/\¬cap=k/\na-k=nb:=by omega
  obtain⟨j1,j2,j3,j4⟩:=j1;obtain⟨k1,DF⟩:∃k1,k1=k+1:=⟨_,rfl⟩;have i4:(k:Int)+1=(k1:Int):=by omega
  have i5:IntKind.i64.wrap (k1:Int)=(k1:Int):=by rw[ao];omega
  by_cases hl:A/18446744073709551616^k<C
  ·have zG:c<0:=by rw[<-hc,jR hl];decide
   have:Q=k:=by rw[hQ];exact NV h0 (by omega) hl
   subst this;clear hQ hl hc iA iC hvd hd hR kV eA eC dh hk i4 i5 hA hC;go_enter Tryz.func91,Tryz.ntmps91
   go_wp2_with fail
   with_reducible refine(ae CC).mono ?_
   rintro e w1 ⟨rfl,b1⟩;go_wp2;go_ret;exact⟨rfl,b1⟩
  ·have zG:¬c<0:=by
    rw[<-hc];rcases fl C (A/18446744073709551616^k)with h|h
    ·rw[lG h];decide
    ·rw[mO (by omega)];decide
   have:Q=k1:=by rw[hQ,DF];exact Hs h0 (by omega) hl
   subst this;clear DF hQ hl hc iA iC hvd hd hR kV eA eC dh hk hA hC;go_enter Tryz.func91,Tryz.ntmps91
   go_wp2_with fail
   with_reducible refine(ae CC).mono ?_
   rintro e w1 ⟨rfl,b1⟩;go_wp2;go_ret;exact⟨rfl,b1⟩
theorem rO{u:Value}{C:Nat}(hu:kI w u A)(hv:kI w v C)(h0:0<C):Calls Tryz.prog 91 #[u,v] w fun e w'=>e=.returned (.int .i64 (wl (A/C):Int))/\Below w.heap.size w w':=by
 obtain⟨ga,b,o,cap,xs,rfl,hr,hd,hA,hl⟩:=hu;obtain⟨ga',b',o',bM,ys,rfl,hr',II,hC,Ad⟩:=hv;exact NY w ga ga' b o cap xs.length b' o' bM ys.length A C _ xs ys rfl rfl hr hr' hd II hA hC h0 hl Ad rfl
end Go.Proofs.YtkdmippllpekfaaGreatDoor
