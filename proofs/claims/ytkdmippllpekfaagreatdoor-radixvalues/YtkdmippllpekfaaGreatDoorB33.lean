import Derived.Test.YtkdmippllpekfaaGreatDoorB32
namespace Go.Proofs.YtkdmippllpekfaaGreatDoor
set_option maxRecDepth 100000
set_option maxHeartbeats 6400000
open Go.RowKit
variable{l m s:Int}{xs zs:List Nat}{A C Q b c ca cc g gd ge gk gm gq gr gt gv i k n na o tp:Nat}{St:Nat->World->Prop}{rv v:Value}{w w' wr:World}
def AQ(w:World)(v:Value)(n k:Nat):Prop:=∃ga b o cap xs,v=.slice ga k cap/\xs.length=k/\cH w ga b o cap xs/\bG xs/\aB xs=n
theorem Z9(W:World)(gq Q i R:Nat)(ga:Option Addr)(ba oa cap l:Nat)(zs xs:List Nat)(hZ:cW W gq zs)(hz:zs.length=Q)(hR:cH W ga ba oa cap xs)(hl:xs.length=l)(hi:i+R=Q)(hlR:l<=R):∃W',(∀ty,(Builtin.copy_ #[38,38] ty #[.slice (some ⟨gq,i,none⟩) R R,.slice ga l cap]).run Tryz.prog W=.ok (.int .i64 (l:Int)) W')/\cW W' gq (zs.take i++xs++zs.drop (i+xs.length))/\Out (·=gq) W W':=by
 subst hl;by_cases h0:xs.length=0
 ·obtain rfl:xs=[]:=eu h0;refine⟨W,fun ty=>adt W 38 38 ty 47 _ _ _ _ _ _ dT Tryz.pL (by simp),by simpa using hZ,Out.refl _ _⟩
 ·obtain rfl:=hR.head (by omega);have hZ':W.heap[gq]?=some (.cells (cellsOf zs).toArray 47 (0,0)):=hZ;have ecl:goInt ((iU xs).length:Int)=.int .i64 (xs.length:Int):=by rw[dL];rfl
  have hc:=run_copy_row (P:=Tryz.prog) W 38 38 (cs:=iU xs) (elem:=47) (g:=gq) (o:=i) (dLen:=R) (dCap:=R) (a:=⟨ba,oa,none⟩) (sLen:=xs.length) (sCap:=cap) (cur:=(cellsOf zs).toArray) (t:=47);have hsr:∀j v,(iU xs)[j]?=some v->W.cell? ((⟨ba,oa,none⟩:Addr).add j)=some v:=by
   intro j v hj;have Uj:j<xs.length:=by have:=(fq.1 hj).1;rwa [dL]at this
   have:=hR.cell j Uj;have e:(⟨ba,oa,none⟩:Addr).add j=⟨ba,oa+j,none⟩:=by unfold Addr.add;split<;>simp_all
   rw[e,this, <-hj];simp[iU,cellsOf,Uj]
  refine⟨_,fun ty=>by rw[<-ecl];exact hc ty dT Tryz.pL hZ' (by rw[dL];exact(bu hlR).symm) hsr (by rw[dL];simp[cellsOf];omega) (gD _),?_,?_⟩
  ·have h:=XW W gq _ ((cellsOf zs).toArray.toList.take i++iU xs++(cellsOf zs).toArray.toList.drop (i+(iU xs).length)).toArray _ _ hZ';show _=_;rw[h];simp[iU,cellsOf]
  ·exact Out.bX ⟨rfl,rfl,rfl,by simp[World.setRow],fun k hk hne=>setRow_other W gq k _ (fun e=>hne (by rw[e]))⟩
theorem kI.head(h:kI w (.slice (some ⟨b,o,none⟩) na ca) A)(h0:0<na):∃xs,xs.length=na/\cH w (some ⟨b,o,none⟩) b o ca xs/\iS xs/\aB xs=A:=by obtain⟨ga,b',o',cap,xs,e,hr,hc,hv,hl⟩:=h;cases e;have:=hr.head (by omega);cases this;exact⟨xs,rfl,hr,hc,hv⟩
theorem JV(h:bG xs)(i:Nat):aB (xs.drop i)=aB xs/18446744073709551616^i:=by have:=Dy h i 0;rw[cL,nT,dB,dH]at this;exact this
theorem Lt(h:bG xs)(k:Nat):aB (xs.take k)=aB xs%18446744073709551616^k:=by have e:=ja xs k;rw[e,ez,bc (mU h k)]
theorem kI.piece(h:kI w (.slice (some ⟨b,o,none⟩) na ca) A)(hi:i+k<=na)(hk:0<k)(qW:cc=ca-i):AQ w (.slice (some ⟨b,o+i,none⟩) k cc) (A/18446744073709551616^i%18446744073709551616^k) k:=by
 obtain⟨xs,hl,hr,hc,hv⟩:=h.head (by omega);have hd:=hr.drop i (by omega);rw[<-qW]at hd;have hlen:(xs.drop i).length=na-i:=by simp;omega
 refine⟨_,b,o+i,cc,(xs.drop i).take k,rfl,by simp;omega,hd.take k (by omega),gH (fJ hc.1 i) k,?_⟩;rw[Lt (fJ hc.1 i),JV hc.1,hv]
theorem kI.above{L:Nat}(h:kI w (.slice (some ⟨b,o,none⟩) na ca) A)(hi:i+L=na)(h0:0<na)(qW:cc=ca-i):kI w (.slice (some ⟨b,o+i,none⟩) L cc) (A/18446744073709551616^i):=by
 have hw:=h.vu;obtain⟨xs,hl,hr,hc,hv⟩:=h.head h0;have e0:=mM hc;rw[hv]at e0;have hd:=hr.drop i (by omega);rw[<-qW]at hd;refine⟨_,b,o+i,cc,xs.drop i,by rw[show(xs.drop i).length=L by simp;omega],hd,⟨fJ hc.1 i,fun hp=>?_⟩,by rw[JV hc.1,hv],by simp;omega⟩;have hp':i<xs.length:=by simp at hp;omega
 have:=hc.2 (by omega);rw[aq,F6]at *
 simp only[List.length_drop];rw[show i+(xs.length-i-1)=xs.length-1 by omega];exact this
theorem WH(w:World)(ga:Option Addr)(cap:Nat):kI w (.slice ga 0 cap) 0:=⟨ga,0,0,cap,[],rfl,cH.nil _ _ _ _ _,ue,rfl,by simp⟩
structure abN(B g A C k kf P:Nat)(fs cs:Array Value)(St:Nat->World->Prop):Prop where
 go:∀(args:Array Value) (W:World),(callFunc kf args).run Tryz.prog W=.ok (.enter kf args) W
 next:∀i W W',St i W->Out (fun j=>B<=j) W W'->St i W'
 call:∀i W u v x y,i<P->B<=W.heap.size->St i W->AQ W u x k->kI W v y->y<C->y*18446744073709551616^k+x<=A->
  Calls Tryz.prog kf (fs++#[u,v]++cs) W fun e W'=>∃q r,e=.returned (.tuple #[q,r])/\aU W.heap.size W' q ((y*18446744073709551616^k+x)/C)/\aU W.heap.size W' r ((y*18446744073709551616^k+x)%C)/\St (i+1) W'/\Out (·=g) W W'
theorem KH(A C i k:Nat):A/18446744073709551616^(i+k)%C*18446744073709551616^k+A/18446744073709551616^i%18446744073709551616^k<=A:=by have h1:=ax (18446744073709551616^k) (UJ (A/18446744073709551616^(i+k)) C);have h2:=aS (A/18446744073709551616^i) (18446744073709551616^k);rw[pz,aC]at h2;have h3:=bT A (18446744073709551616^i);omega
structure ZE(w:World)(g gq A C Q k tp:Nat)(St:Nat->World->Prop)(j c:Nat)(zs:List Nat)(rv:Value)(wr:World):Prop where
 cnt:c*k+j=tp
 kM:cW wr gq zs
 pq:PQ A C Q zs j
 row:kI wr rv (A/18446744073709551616^j%C)
 new:c≠0->aU (gq+1) wr rv (A/18446744073709551616^j%C)
 st:St c wr
 out:Out (·=g) w wr
theorem ZE.after{W2:World}{R:Nat}{q r:Value}(h:ZE w g gq A C Q k tp St (i+k) c zs rv wr)(hC:0<C)(hwC:wl C<=16384)(hQ:Q=wl (A/C))(hi:i+R=Q)(hg:g≠gq)(hw:w.heap.size<=gq)(hn:∀i W W',St i W->Out (fun j=>w.heap.size<=j) W W'->St i W')(nq:aU wr.heap.size W2 q ((A/18446744073709551616^(i+k)%C*18446744073709551616^k+A/18446744073709551616^i%18446744073709551616^k)/C))(nr:aU wr.heap.size W2 r ((A/18446744073709551616^(i+k)%C*18446744073709551616^k+A/18446744073709551616^i%18446744073709551616^k)%C))(hs:St (c+1) W2)(o:Out (·=g) wr W2):∃ga l cap W3,q=.slice ga l cap/\(∀ty,(Builtin.copy_ #[38,38] ty #[.slice (some ⟨gq,i,none⟩) R R,.slice ga l cap]).run Tryz.prog W2=.ok (.int .i64 (l:Int)) W3)/\∃sM,ZE w g gq A C Q k tp St i (c+1) sM r W3:=by
 obtain⟨f1,f2⟩:=SC (A:=A) (k:=k) hC hQ (show i<=Q by omega);obtain⟨-,p2, -⟩:=wg (Z:=A/18446744073709551616^i) hC (mz k);rw[pz]at p2;rw[<-p2]at nr;obtain⟨ga,b,cap,ps,rfl,hr,hc,hv,hb⟩:=nq.rep;have hlen:=mM hc;rw[hv]at hlen;rw[hlen]at f1 f2;have wa:cW W2 gq zs:=o.kM h.kM (fun e=>hg e.symm);have dh:=h.kM.lt;obtain⟨W3,A_,Zc,o3⟩:=Z9 W2 gq Q i R ga b 0 cap ps.length zs ps wa h.pq.len hr rfl hi (by omega);have hnr:aU wr.heap.size W3 r (A/18446744073709551616^i%C):=o3.mb nr (fun k e=>by rw[e];exact dh);have Mh:wl (A/18446744073709551616^i%C)<=16384:=ak (fw (fk (aD _ hC))) hwC;refine⟨ga,ps.length,cap,W3,rfl,A_,_,⟨?_,Zc,h.pq.step hC hc.1 f1 f2 hv,hnr.toC Mh,fun _=>hnr.mono dh,hn _ _ _ hs (o3.mono fun k e=>by rw[e];exact hw),Out.fresh (h.out.trans o) o3 (fun k e=>Or.inr (by rw[e];exact hw))⟩⟩;have:=h.cnt;rw[dJ];omega
theorem ZE.fin(h:ZE w g gq A C Q k tp St 0 c zs rv wr)(hQ:Q=wl (A/C))(hQl:Q<=16384)(hc:c≠0)(hw:w.heap.size<=gq):∃gx,gh gq (gq+1) wr (.slice (some ⟨gq,0,none⟩) Q Q) (A/C)/\gh gx (gx+1) wr rv (A%C)/\(gq≠gx/\w.heap.size<=gq/\w.heap.size<=gx):=by
 obtain⟨f1,f2⟩:=h.pq.fin hQ;have hn:=h.new hc;rw[cL,nT]at hn;obtain⟨gx,hx,nx⟩:=mF hn;have hl:=h.pq.len;refine⟨gx,⟨zs,f1,f2,Or.inr ⟨gq,[],af _,by omega,by rw[dU,hl],by rw[dU];exact h.kM,by simp;omega⟩⟩,nx,by omega,hw,by omega⟩
def ZD(w:World)(g A C:Nat)(S:World->Prop)(e:Ending)(w':World):Prop:=∃q r gq gx,e=.returned (.tuple #[q,r])/\gh gq (gq+1) w' q (A/C)/\gh gx (gx+1) w' r (A%C)/\(gq≠gx/\w.heap.size<=gq/\w.heap.size<=gx)/\S w'/\Out (·=g) w w'
theorem Ci(w:World)(g:Nat)(u v:Value)(A C k kf Q P:Nat)(fs cs:Array Value)(St:Nat->World->Prop)(hu:kI w u A)(hv:kI w v C)(hC:0<C)(hk:0<k)(hkC:k<=wl C)(hQ:Q=wl (A/C))(hQ0:0<Q)(hP:P=cd Q k)(hg:g<w.heap.size)(hug:∀W,Out (·=g) w W->kI W u A)(hI:abN w.heap.size g A C k kf P fs cs St)(hS:St 0 w):Calls Tryz.prog 98 #[u,v,.int .i64 (k:Int),.func (.func kf) fs cs] w (ZD w g A C (St P)):=by
 have CQ:=ag (rO hu hv hC);have CQ2:Hid (∀W,Below w.heap.size w W->Calls Tryz.prog 91 #[u,v] W fun e w'=>e=.returned (.int .i64 (Q:Int))/\Below w.heap.size w w'):=fun W bw=>by rw[hQ];exact(rO (hu.next bw) (hv.next bw) hC).mono fun e w' ⟨k1,k2⟩=>⟨k1,aJ bw k2⟩
 clear CQ;have wA:=hu.vu;have wC:=hv.vu;have hnn:¬wl A<wl C:=fun h=>by have:=uU h;omega
 have qle:=PW (A:=A) hC;have qge:=abv (A:=A) hC;rw[<-hQ]at qle qge;obtain⟨G',E8⟩:=MB (Q:=Q) hk;rw[<-hP]at G' E8;obtain⟨top,jL⟩:∃top,P*k=top:=⟨_,rfl⟩;rw[jL]at G' E8;have hAC:A/18446744073709551616^top<C:=by have h1:A/C<18446744073709551616^top:=az (jM (l:=Q) (by omega)) (aA (by omega) G');refine(aR (mz top)).2 ?_;have:=(aR hC).1 h1;rw[aC];exact this
 have HAC:=ag hAC;have HI:=ag hI;have HS:=ag hS;have HQ:=ag hQ;have HP:=ag hP;have HT:=ag jL;have HC:=ag hC;have HG:=ag hg;have Ug:=hI.go;obtain⟨ga,b,o,ca,rfl,Ac,GG⟩:=hu.is;obtain⟨gb,_,_,cb,rfl,_,_⟩:=hv.is;obtain rfl:=GG (by omega);have HU:=ag hug;have R2:Hid (∀W cc L,Out (·=g) w W->top+L=wl A->cc=ca-top->kI W (.slice (some ⟨b,o+top,none⟩) L cc) (A/18446744073709551616^top)):=fun W cc L oW hL qW=>(hug W oW).above hL (by omega) qW;have R1:Hid (∀W,wl A<=top->kI W (.slice (some ⟨b,o,none⟩) 0 0) (A/18446744073709551616^top)):=fun W hle=>by have:A/18446744073709551616^top=0:=bq (jM hle);rw[this];exact WH _ _ _
 clear hu hv hI hug hS hQ hP jL hC hg GG hAC;generalize hna:wl A=na at *;generalize C_:wl C=nb at *;have HNB:=ag C_;clear hna C_;have qG:=iV Q Q (Q:Int) rfl rfl (by omega);obtain⟨s1,xB⟩:∃s1,Q+k=s1:=⟨_,rfl⟩;obtain⟨s2,GQ⟩:∃s2,s1-1=s2:=⟨_,rfl⟩;have i1:(Q:Int)+(k:Int)=(s1:Int):=by omega
 have i2:IntKind.i64.wrap (s1:Int)=(s1:Int):=by rw[ao];omega
 have i3:(s1:Int)-1=(s2:Int):=by omega
 have i4:IntKind.i64.wrap (s2:Int)=(s2:Int):=by rw[ao];omega
 have hPd:s2/k=P:=by have:=ae HP;unfold cd at this;rw[this, <-GQ, <-xB]
 have i5:(s2:Int).tdiv (k:Int)=(P:Int):=by rw[<-hPd];rfl
 have VZ:P<=s2:=by rw[<-hPd];exact bT _ _
 have i6:IntKind.i64.wrap (P:Int)=(P:Int):=by rw[ao];omega
 have i7:(P:Int)*(k:Int)=(top:Int):=by rw[<-ae HT];simp
 have i8:IntKind.i64.wrap (top:Int)=(top:Int):=by rw[ao];omega
 have i9:¬(k:Int)=0:=by omega
 obtain⟨t0,Nm⟩:∃t0,top-k=t0:=⟨_,rfl⟩;have htk:k<=top:=by
  have ke:1<=P:=by refine s9 fun e=>?_;have:=ae HT;rw[e,gX]at this;omega
  rw[<-ae HT];exact jX k ke
 have i10:(top:Int)-(k:Int)=(t0:Int):=by omega
 have i11:IntKind.i64.wrap (t0:Int)=(t0:Int):=by rw[ao];omega
 have j1:top<=na:=by omega
 have j2:top<=ca:=by omega
 have HF:Hid (∀W q r gq gx,gh gq (gq+1) W q (A/C)->gh gx (gx+1) W r (A%C)->(gq≠gx/\w.heap.size<=gq/\w.heap.size<=gx)->St P W->Out (·=g) w W->ZD w g A C (St P) (.returned (.tuple #[q,r])) W):=fun W q r gq gx a1 a2 a3 a4 a5=>⟨q,r,gq,gx,rfl,a1,a2,a3,a4,a5⟩;suffices H:Calls Tryz.prog 98 #[.slice (some ⟨b,o,none⟩) na ca,.slice gb nb cb,.int .i64 (k:Int),.func (.func kf) fs cs] w (fun e w'=>∃v,e=.returned v/\ZD w g A C (St P) (.returned v) w') from H.mono (fun e w' ⟨v,he,h⟩=>he▸h)
 generalize ZD w g A C (St P)=SA at *;obtain⟨tp,htp⟩:∃tp,tp=top:=⟨_,rfl⟩;have OJ:=ag htp;clear htp;by_cases hct:ca=top
 ·subst hct;have bl0:Below w.heap.size w w:=aj _ _;go_enter Tryz.func98,Tryz.ntmps98
  go_wp2_with fail
  with_reducible refine(ae CQ2 _ bl0).mono ?_
  rintro e w1 ⟨rfl,b1⟩;clear bl0 CQ2;have sG:=mZ w1 Q;have b2:=aJ b1 ((aj _ w1).alloc (af _) (.cells (dS Q).toArray 47));have Zf:=b1.size;obtain⟨gq,acr⟩:∃gq,w1.heap.size=gq:=⟨_,rfl⟩;rw[acr]at sG Zf;have I0:Hid (∀rv,kI (w1.alloc (.cells (dS Q).toArray 47)) rv (A/18446744073709551616^ca)->ZE w g gq A C Q k tp St tp 0 (List.replicate Q 0) rv (w1.alloc (.cells (dS Q).toArray 47))):=fun rv hr=>by have et:=ae OJ;rw[et];exact⟨by omega,sG,PQ.start (ae HAC),by rw[bc (ae HAC)];exact hr,fun h=>absurd rfl h,(ae HI).next _ _ _ (ae HS) (Out.bQ b2),Out.bQ b2⟩
  have I1:=ag (ae I0 _ ((ae R1) _ (by omega)));have i12:((tp:Nat):Int)-(k:Int)=(t0:Int):=by have:=ae OJ;omega
  have aeo:tp<=na:=by have:=ae OJ;omega
  have aen:na<=ca:=Ac;have afv:tp<Q+k:=by have:=ae OJ;omega
  have HQC:=ag wC;clear I0 sG b2 b1 R1 R2;go_wp2
  go_loopw [9,11] (fun rv iv wr=>∃(j c:Nat) (zs:List Nat) (z:Int),iv=.int .i64 z/\z=(j:Int)-(k:Int)/\j<=tp/\Hid (ZE w g gq A C Q k tp St j c zs rv wr)) (fun _ iv _=>(intOf iv+(k:Int)).toNat)
  case atStart=>exact⟨tp,0,_,_,rfl,i12.symm,af _,I1⟩
  case round=>
   obtain⟨j,c,zs,z,rfl,hz,hjt,hP⟩:=hrel;have hP:=ag (ae hP);by_cases hj:k<=j
   ·obtain⟨i,rfl⟩:∃i,j=i+k:=⟨j-k,by omega⟩;obtain rfl:z=(i:Int):=(by omega);obtain⟨t2,Wu⟩:∃t2,i+k=t2:=⟨_,rfl⟩;obtain⟨cc,qW⟩:∃cc,ca-i=cc:=⟨_,rfl⟩;obtain⟨R,hR⟩:∃R,Q-i=R:=⟨_,rfl⟩;have hx:=((ae HU) _ (ae hP).out).piece (i:=i) (k:=k) (cc:=cc) (by omega) hk qW.symm;have tG:=(ae hP).row;have hBw:w.heap.size<=wr.heap.size:=(ae hP).out.size;have hlC:=aD (A/18446744073709551616^(i+k)) (ae HC);have z_:c<P:=by
     have h1:=(ae hP).cnt;rw[ae OJ, <-ae HT]at h1;have h2:(c+1)*k<=P*k:=by rw[dJ];omega
     exact UH h2 hk
    have CD:=ag ((ae HI).call c wr _ _ _ _ z_ hBw (ae hP).st hx tG hlC (KH A C i k));rw[ck]at CD;obtain⟨ra,_,_,rc,hrv,_,_⟩:=tG.is;have k1:(i:Int)+(k:Int)=(t2:Int):=(by omega);have k2:IntKind.i64.wrap (t2:Int)=(t2:Int):=by rw[ao];omega
    have k3:i<=t2/\t2<=ca/\i<=ca/\¬ca=i/\¬t2=i/\t2-i=k/\t2<=na:=(by omega);obtain⟨k3,k4,k5,k6,k7,k8,k8'⟩:=k3;have k9:i<=Q/\¬Q=i:=(by omega);obtain⟨k9,k10⟩:=k9;have kz:0<=(i:Int):=(by omega);obtain⟨z2,fX⟩:∃z2:Int,(i:Int)-(k:Int)=z2:=⟨_,rfl⟩;have WD:IntKind.i64.wrap z2=z2:=by rw[ao];omega
    have HZ:=ag hz;have HJ:=ag hjt;have DG:=ag Wu;clear hx tG hlC hrv hz hjt Wu;clear i1 i2 i3 i4 i5 i6 i7 i8 i9 i10 i11 i12 qG xB GQ hPd VZ j1 j2 htk I1 wA wC hnn qle qge G' E8
    go_wp2_with fail
    with_reducible refine(ae CD).mono ?_
    rintro e W2 ⟨q,r,rfl,nq,nr,IP,o2⟩;obtain⟨qa,ql,qc,W3,rfl,A_,sM,P3⟩:=(ae hP).after (ae HC) (by rw[ae HNB];exact ae HQC) (ae HQ) (R:=R) (by omega) (by have:=ae HG;omega) Zf (ae HI).next nq nr IP o2;have Qx:=ag P3;obtain⟨ra,_,_,rc,rfl,_,_⟩:=P3.row.is;clear CD nq nr IP o2 P3;go_wp2
    go_roundw
    case rel=>exact⟨i,c+1,sM,z2,rfl,fX.symm,by have:=ae HJ;omega,Qx⟩
    case measure=>simp[intOf];omega
   ·have hj0:j=0:=by
     have h1:=(ae hP).cnt;rw[ae OJ, <-ae HT]at h1;have h2:j=(P-c)*k:=by rw[Nat.sub_mul];omega
     rcases fh (P-c)with h3|h3
     ·rw[h3,gX]at h2;exact h2
     ·have:=jX k h3;omega
    subst hj0;have zG:c=P:=by have h1:=(ae hP).cnt;rw[ae OJ, <-ae HT,dB]at h1;exact UG hk h1
    subst zG;have hcn:c≠0:=fun e=>by have:=ae HT;rw[e,gX]at this;omega
    obtain⟨gx,f1,f2,f3⟩:=(ae hP).fin (ae HQ) (by omega) hcn Zf;have F:=ag (ae HF _ _ _ _ _ f1 f2 f3 (ae hP).st (ae hP).out);have kz:¬0<=z:=(by omega);obtain⟨ra,rl,rc,hrv⟩:=f2.rb.shape;subst hrv;clear f1 f2 f3 hP hz;go_wp2
    go_ret2
    exact⟨_,rfl,ae F⟩
 ·obtain⟨cct,ae6⟩:∃cct,ca-top=cct:=⟨_,rfl⟩;obtain⟨ltt,afU⟩:∃ltt,na-top=ltt:=⟨_,rfl⟩;have bl0:Below w.heap.size w w:=aj _ _;go_enter Tryz.func98,Tryz.ntmps98
  go_wp2_with fail
  with_reducible refine(ae CQ2 _ bl0).mono ?_
  rintro e w1 ⟨rfl,b1⟩;clear bl0 CQ2;have sG:=mZ w1 Q;have b2:=aJ b1 ((aj _ w1).alloc (af _) (.cells (dS Q).toArray 47));have Zf:=b1.size;obtain⟨gq,acr⟩:∃gq,w1.heap.size=gq:=⟨_,rfl⟩;rw[acr]at sG Zf;have I0:Hid (∀rv,kI (w1.alloc (.cells (dS Q).toArray 47)) rv (A/18446744073709551616^top)->ZE w g gq A C Q k tp St tp 0 (List.replicate Q 0) rv (w1.alloc (.cells (dS Q).toArray 47))):=fun rv hr=>by have et:=ae OJ;rw[et];exact⟨by omega,sG,PQ.start (ae HAC),by rw[bc (ae HAC)];exact hr,fun h=>absurd rfl h,(ae HI).next _ _ _ (ae HS) (Out.bQ b2),Out.bQ b2⟩
  have I1:=ag (ae I0 _ ((ae R2) _ cct ltt (Out.bQ b2) (by omega) ae6.symm));have i12:((tp:Nat):Int)-(k:Int)=(t0:Int):=by have:=ae OJ;omega
  have aeo:tp<=na:=by have:=ae OJ;omega
  have aen:na<=ca:=Ac;have afv:tp<Q+k:=by have:=ae OJ;omega
  have HQC:=ag wC;clear I0 sG b2 b1 R1 R2;go_wp2
  go_loopw [9,11] (fun rv iv wr=>∃(j c:Nat) (zs:List Nat) (z:Int),iv=.int .i64 z/\z=(j:Int)-(k:Int)/\j<=tp/\Hid (ZE w g gq A C Q k tp St j c zs rv wr)) (fun _ iv _=>(intOf iv+(k:Int)).toNat)
  case atStart=>exact⟨tp,0,_,_,rfl,i12.symm,af _,I1⟩
  case round=>
   obtain⟨j,c,zs,z,rfl,hz,hjt,hP⟩:=hrel;have hP:=ag (ae hP);by_cases hj:k<=j
   ·obtain⟨i,rfl⟩:∃i,j=i+k:=⟨j-k,by omega⟩;obtain rfl:z=(i:Int):=(by omega);obtain⟨t2,Wu⟩:∃t2,i+k=t2:=⟨_,rfl⟩;obtain⟨cc,qW⟩:∃cc,ca-i=cc:=⟨_,rfl⟩;obtain⟨R,hR⟩:∃R,Q-i=R:=⟨_,rfl⟩;have hx:=((ae HU) _ (ae hP).out).piece (i:=i) (k:=k) (cc:=cc) (by omega) hk qW.symm;have tG:=(ae hP).row;have hBw:w.heap.size<=wr.heap.size:=(ae hP).out.size;have hlC:=aD (A/18446744073709551616^(i+k)) (ae HC);have z_:c<P:=by
     have h1:=(ae hP).cnt;rw[ae OJ, <-ae HT]at h1;have h2:(c+1)*k<=P*k:=by rw[dJ];omega
     exact UH h2 hk
    have CD:=ag ((ae HI).call c wr _ _ _ _ z_ hBw (ae hP).st hx tG hlC (KH A C i k));rw[ck]at CD;obtain⟨ra,_,_,rc,hrv,_,_⟩:=tG.is;have k1:(i:Int)+(k:Int)=(t2:Int):=(by omega);have k2:IntKind.i64.wrap (t2:Int)=(t2:Int):=by rw[ao];omega
    have k3:i<=t2/\t2<=ca/\i<=ca/\¬ca=i/\¬t2=i/\t2-i=k/\t2<=na:=(by omega);obtain⟨k3,k4,k5,k6,k7,k8,k8'⟩:=k3;have k9:i<=Q/\¬Q=i:=(by omega);obtain⟨k9,k10⟩:=k9;have kz:0<=(i:Int):=(by omega);obtain⟨z2,fX⟩:∃z2:Int,(i:Int)-(k:Int)=z2:=⟨_,rfl⟩;have WD:IntKind.i64.wrap z2=z2:=by rw[ao];omega
    have HZ:=ag hz;have HJ:=ag hjt;have DG:=ag Wu;clear hx tG hlC hrv hz hjt Wu;clear i1 i2 i3 i4 i5 i6 i7 i8 i9 i10 i11 i12 qG xB GQ hPd VZ j1 j2 htk I1 wA wC hnn qle qge G' E8
    go_wp2_with fail
    with_reducible refine(ae CD).mono ?_
    rintro e W2 ⟨q,r,rfl,nq,nr,IP,o2⟩;obtain⟨qa,ql,qc,W3,rfl,A_,sM,P3⟩:=(ae hP).after (ae HC) (by rw[ae HNB];exact ae HQC) (ae HQ) (R:=R) (by omega) (by have:=ae HG;omega) Zf (ae HI).next nq nr IP o2;have Qx:=ag P3;obtain⟨ra,_,_,rc,rfl,_,_⟩:=P3.row.is;clear CD nq nr IP o2 P3;go_wp2
    go_roundw
    case rel=>exact⟨i,c+1,sM,z2,rfl,fX.symm,by have:=ae HJ;omega,Qx⟩
    case measure=>simp[intOf];omega
   ·have hj0:j=0:=by
     have h1:=(ae hP).cnt;rw[ae OJ, <-ae HT]at h1;have h2:j=(P-c)*k:=by rw[Nat.sub_mul];omega
     rcases fh (P-c)with h3|h3
     ·rw[h3,gX]at h2;exact h2
     ·have:=jX k h3;omega
    subst hj0;have zG:c=P:=by have h1:=(ae hP).cnt;rw[ae OJ, <-ae HT,dB]at h1;exact UG hk h1
    subst zG;have hcn:c≠0:=fun e=>by have:=ae HT;rw[e,gX]at this;omega
    obtain⟨gx,f1,f2,f3⟩:=(ae hP).fin (ae HQ) (by omega) hcn Zf;have F:=ag (ae HF _ _ _ _ _ f1 f2 f3 (ae hP).st (ae hP).out);have kz:¬0<=z:=(by omega);obtain⟨ra,rl,rc,hrv⟩:=f2.rb.shape;subst hrv;clear f1 f2 f3 hP hz;go_wp2
    go_ret2
    exact⟨_,rfl,ae F⟩
theorem fC.way{T:bJ}(h:fC w gv gr gd gm gt gk ge g s l m T):w.cell? ⟨gv,0,none⟩=some (.pointer (some ⟨gr,0,none⟩))/\w.cell? ⟨gr,0,none⟩=some (.pointer (some ⟨gd,0,none⟩))/\w.cell? ⟨gd,0,none⟩=some (.pointer (some ⟨gm,0,none⟩))/\w.cell? ⟨gm,0,none⟩=some (.pointer (some ⟨gt,0,none⟩))/\w.cell? ⟨gt,0,none⟩=some (.pointer (some ⟨gk,0,none⟩))/\w.cell? ⟨gk,0,none⟩=some (.pointer (some ⟨ge,0,none⟩))/\w.cell? ⟨ge,0,none⟩=some (.pointer (some ⟨g,0,none⟩)):=by
 obtain⟨e1,e2,e3,e4,e5⟩:=h.nP.div.way;exact⟨h.ptr,h.nP.ptr,e1,e2,e3,e4,e5⟩
theorem nf(w:World)(gv gr gd gm gt gk ge g:Nat)(s l m:Int)(T:bJ)(u v:Value)(A C:Nat)(t:Int)(q:Bool)(hE:fC w gv gr gd gm gt gk ge g s l m T)(hu:kI w u A)(hv:kI w v C)(h0:0<C)(ht:t=T.bD.row.getD 3 0)(hq:q=decide ((wl C:Int)<t\/(wl (A/C):Int)<t)):Calls Tryz.prog 80 #[.pointer (some ⟨gv,0,none⟩),u,v] w fun e w'=>e=.returned (.bool q)/\Below w.heap.size w w':=by
 have CQ:Hid (∀u':Old w,Calls Tryz.prog 91 #[u,v] u'.val fun e w'=>e=.returned (.int .i64 (wl (A/C):Int))/\Below u'.val.heap.size u'.val w'):=fun u'=>rO (hu.next u'.jD) (hv.next u'.jD) h0;obtain⟨c0,c1,c2,c3,c4,c5,c6⟩:=hE.way;have c7:=hE.nP.div.mul.jf.fY.tab 3 (by decide);rw[<-ht]at c7;have q0:=Old.cell c0;have q1:=Old.cell c1;have q2:=Old.cell c2;have q3:=Old.cell c3;have q4:=Old.cell c4;have q5:=Old.cell c5;have q6:=Old.cell c6;have q7:=Old.cell (p:=⟨g,6,none⟩) c7;obtain⟨ga,_,_,ca,rfl,_,_⟩:=hu.is;obtain⟨gb,_,_,cb,rfl,_,_⟩:=hv.is;generalize wl (A/C)=Q at *;generalize wl A=na at *;generalize wl C=nb at *;clear hE hu hv ht h0 c0 c1 c2 c3 c4 c5 c6 c7;have inst:=gM w;by_cases h1:(nb:Int)<t
 ·have:q=true:=by rw[hq];simp[h1]
  subst this;have J1:decide ((nb:Int)<t)=true:=by simp[h1]
  clear hq h1;go_enter Tryz.func80,Tryz.ntmps80
  go_wp2_with fail
  refine fo (by kernel_rfl) (by kernel_rfl) ?_
  repeat (go_big_quiet_step (first|(go_at_call 91;exact Calls.jD (ae CQ _))|fail))
  refine wpQuiet_nil ?_;intro w5 tH;obtain⟨u,rfl⟩:=tH
  go_wp2_with fail
  go_ret;exact⟨rfl,u.jD⟩
 ·have h2:decide ((Q:Int)<t)=q:=by rw[hq];simp[h1]
  have J1:decide ((nb:Int)<t)=false:=by simp;omega
  clear hq h1;go_enter Tryz.func80,Tryz.ntmps80
  go_wp2_with fail
  refine fo (by kernel_rfl) (by kernel_rfl) ?_
  repeat (go_big_quiet_step (first|(go_at_call 91;exact Calls.jD (ae CQ _))|fail))
  refine wpQuiet_nil ?_;intro w5 tH;obtain⟨u,rfl⟩:=tH
  go_wp2_with fail
  go_ret;exact⟨rfl,u.jD⟩
def ye(n:Nat):Nat:=Lib.bitLen (n-1)
theorem Wm(h:2<=n)(hn:n<=16384):ye (n-n/2)+1=ye n:=by unfold ye;rw[Lib.bitLen_half (n-1) (by omega) (by omega),show n-n/2-1=(n-1)/2 by omega,fj]
theorem Nh(hn:n<=16384):ye n<=16:=Gf (by omega)
def sT(w:World)(gv gr gd gm gt gk ge g:Nat)(s l m:Int)(T:bJ)(A C K M:Nat)(e:Ending)(w':World):Prop:=
 ∃q r gq gx s' m',e=.returned (.tuple #[q,r])/\gh gq (gq+1) w' q (A/C)/\gh gx (gx+1) w' r (A%C)/\(gq≠gx/\w.heap.size<=gq/\w.heap.size<=gx)/\fC w' gv gr gd gm gt gk ge g s' l m' T/\s<=s'/\s'<=s+(K:Int)/\m<=m'/\m'<=max m (l+(M:Int))/\Out (·=g) w w'
def OL(f:Nat):Prop:=∀(w:World) (gv gr gd gm gt gk ge g:Nat) (s l m:Int) (T:bJ) (u v:Value) (A C:Nat),
 fC w gv gr gd gm gt gk ge g s l m T->TB w->0<=s->s+(hF f (wl C) (wl (A/C)):Int)<=1143914305352105984->0<=l->l+(ye (wl C):Int)<=1000->kI w u A->kI w v C->0<C->wl C<=f->
 Calls Tryz.prog 103 #[.pointer (some ⟨gv,0,none⟩),u,v] w (sT w gv gr gd gm gt gk ge g s l m T A C (hF f (wl C) (wl (A/C))) (ye (wl C)+jP (wl C)))
theorem AQ.next(h:AQ w v n k)(b:Below w.heap.size w w'):AQ w' v n k:=by obtain⟨ga,b',o,cap,xs,hv,hl,hr,hd,hx⟩:=h;exact⟨ga,b',o,cap,xs,hv,hl,hr.next b,hd,hx⟩
theorem fC.afz{T:bJ}(h:fC w gv gr gd gm gt gk ge g s l m T)(o:Out (·=g) w w')(r:AQ w v n k):AQ w' v n k:=by obtain⟨ga,b',oo,cap,xs,hv,hl,hr,hd,hx⟩:=r;exact⟨ga,b',oo,cap,xs,hv,hl,h.rep o hr,hd,hx⟩
theorem MD{B:Nat}(w:World)(u v:Value)(A C k:Nat)(hu:AQ w u A k)(hk:k<=16384)(hv:aU B w v C)(hC:wl C<=16384):Calls Tryz.prog 101 #[.slice (some ⟨w.heap.size,0,none⟩) 2 2] (w.alloc (.cells #[u,v] 38)) fun e w'=>∃r,e=.returned r/\ft w.heap.size w' r (A+18446744073709551616^k*C)/\Below w.heap.size w w':=by
 obtain⟨ga,b,o,cap,xs,hv',hl,hr,hd,hx⟩:=hu;refine ME w u v A C k ga b o cap xs hv' hl hr hd hx (hv.sR (by omega)) hk ?_;intro ys ⟨gb,b',o',bM,e,_⟩ _ _;obtain⟨gc,_,cc,zs,e2,_,hc,hz,_⟩:=hv.rep;rw[e]at e2;have e3:ys.length=zs.length:=by injection e2
 have:=mM hc;rw[hz]at this;omega
theorem YR(a b:Nat):wl (a+b)<=wl a+wl b+1:=by refine iY _ _ ?_;have h1:=jM (n:=a) (l:=wl a) (af _);have h2:=jM (n:=b) (l:=wl b) (af _);have h3:18446744073709551616^wl a<=18446744073709551616^(wl a+wl b):=aA (by omega) (by omega);have h4:18446744073709551616^wl b<=18446744073709551616^(wl a+wl b):=aA (by omega) (by omega);rw[aE];omega
theorem aU.toJ{B:Nat}(h:aU B w v n)(hn:wl n<=1073741824):ft B w v n:=h.toI (jM hn) (af _)
theorem kI.low{cb h:Nat}(hv:kI w (.slice (some ⟨b,o,none⟩) n cb) C)(h0:0<n)(hh:h<=n):jg w (.slice (some ⟨b,o,none⟩) h cb) (C%18446744073709551616^h):=by
 have hw:=hv.vu;obtain⟨xs,hl,hr,hc,hx⟩:=hv.head h0;have e:=mM hc;rw[hx]at e;have hlen:(xs.take h).length=h:=by simp;omega
 exact⟨_,b,o,cb,xs.take h,by rw[hlen],hr.take h (by omega),gH hc.1 h,by rw[Lt hc.1,hx],by omega⟩
def F0(w:World)(gv gr gd gm gt gk ge g:Nat)(s l m:Int)(T:bJ)(X C K M:Nat)(e:Ending)(w':World):Prop:=
 ∃q r s' m',e=.returned (.tuple #[q,r])/\aU w.heap.size w' q (X/C)/\aU w.heap.size w' r (X%C)/\fC w' gv gr gd gm gt gk ge g s' l m' T/\s<=s'/\s'<=s+(K:Int)/\m<=m'/\m'<=max m (l+(M:Int))/\Out (·=g) w w'
theorem RA(f:Nat)(IH:OL f)(w:World)(gv gr gd gm gt gk ge g:Nat)(s l m:Int)(T:bJ)(u v d:Value)(x y C n h:Nat)(hE:fC w gv gr gd gm gt gk ge g s l m T)(hT:TB w)(h0:0<=s)(h1:s+(eF (f+1) n:Int)<=1143914305352105984)(h2:0<=l)(h3:l+(ye (n-h):Int)<=1000)(hu:AQ w u x h)(hv:kI w v y)(hd:kI w d C)(hy:y<C)(hn:n=wl C)(hh:h=n/2)(xA:2<=n)(hf:n-h<=f):Calls Tryz.prog 127 #[.pointer (some ⟨gv,0,none⟩),u,v,d] w (F0 w gv gr gd gm gt gk ge g s l m T (y*18446744073709551616^h+x) C (eF (f+1) n) (ye (n-h)+jP n)):=by
 have wC:=hd.vu;rw[<-hn]at wC;have hC0:0<C:=by omega
 obtain⟨C1,hC1⟩:∃C1,C1=C/18446744073709551616^h:=⟨_,rfl⟩;obtain⟨C0,t'⟩:∃C0,C0=C%18446744073709551616^h:=⟨_,rfl⟩;have hCe:C=C0+18446744073709551616^h*C1:=by rw[hC1,t',fj];exact(aS _ _).symm
 have ach:C0<18446744073709551616^h:=by rw[t'];exact aD _ (mz h)
 obtain⟨gb,b,o,cb,rfl,A',yQ⟩:=hd.is;rw[<-hn]at hd A' yQ ⊢;obtain rfl:=yQ (by omega);obtain⟨cc,qW⟩:∃cc,cb-h=cc:=⟨_,rfl⟩;obtain⟨p,hp⟩:∃p,n-h=p:=⟨_,rfl⟩;have hup:∀W,kI W (.slice (some ⟨b,o,none⟩) n cb) C->kI W (.slice (some ⟨b,o+h,none⟩) p cc) C1:=fun W hW=>by rw[hC1];exact hW.above (by omega) (by omega) qW.symm
 have BH:∀W,kI W (.slice (some ⟨b,o,none⟩) n cb) C->jg W (.slice (some ⟨b,o,none⟩) h cb) C0:=fun W hW=>by rw[t'];exact hW.low (by omega) (by omega)
 have wC1:wl C1=p:=by
  obtain⟨_,_,_,_,e,_,_⟩:=(hup w hd).is;injection e with _ e2 _
  exact e2.symm
 have VX:0<C1:=by refine s9 fun e=>?_;rw[e,pP]at wC1;omega
 have wC0:wl C0<=h:=iY _ _ ach;have wq:wl (y/C1)<=h+1:=adL VX hCe ach hy;have wr:wl (y%C1)<=16384:=by have:=fw (fk (aD y VX));omega
 have hx:x<18446744073709551616^h:=by obtain⟨_,_,_,_,xs,_,e1,_,e2,e3⟩:=hu;rw[<-e3, <-e1];exact bF e2
 obtain⟨Uu,IP⟩:=VP (Hi:=y) (mz h) VX hCe hx;obtain⟨X,hX⟩:∃X,X=y*18446744073709551616^h+x:=⟨_,rfl⟩;rw[<-hX]at Uu IP ⊢
 -- what is spent
 obtain⟨K1,hK1⟩:∃K1,K1=hF f p (wl (y/C1)):=⟨_,rfl⟩;have hK:K1+8*(wl (y/C1)*wl C0)<=eF (f+1) n:=by
  rw[Pf, <-hh,hp,hK1];have a1:hF f p (wl (y/C1))<=hF f p (h+1):=by unfold hF;have b1:(wl (y/C1)+1)*(p+1)<=(h+1+1)*(p+1):=ax _ (by omega);have b2:cd (wl (y/C1)) (p/2)*eF f p<=cd (h+1) (p/2)*eF f p:=ax _ (Z1 wq);omega
  have a2:wl (y/C1)*wl C0<=(h+1)*h:=aP wq wC0;omega
 have afh:=Nh (n:=p) (by omega);have CH:=ag (IH w gv gr gd gm gt gk ge g s l m T v _ y C1 hE hT h0 (by rw[wC1, <-hK1];omega) h2 (by rw[wC1, <-hp];exact h3) hv (hup w hd) VX (by omega));rw[wC1, <-hK1]at CH;have dm:=m7 (a:=p) (b:=n) (by omega) (by omega);have dm2:=m7 (a:=max (wl (y/C1)) (wl C0)) (b:=n) (by omega) (by omega);obtain⟨KM,hKM⟩:∃KM,KM=max m (l+((ye p+jP n:Nat):Int)):=⟨_,rfl⟩;have nV:=hE.met.lt;obtain⟨R0,hR0⟩:∃R0,R0=x+18446744073709551616^h*(y%C1):=⟨_,rfl⟩;obtain⟨L,hL⟩:∃L,L=y/C1*C0:=⟨_,rfl⟩;obtain⟨q0,zK⟩:∃q0,q0=y/C1:=⟨_,rfl⟩;have wL:wl L<=32769:=by have:=qi (y/C1) C0;rw[<-hL]at this;omega
 have wR0:wl R0<=50000:=by have a1:=YR x (18446744073709551616^h*(y%C1));have a2:=iY _ _ hx;have a3:=qi (18446744073709551616^h) (y%C1);have a4:wl (18446744073709551616^h)<=h+1:=iY _ _ (by rw[aE];have:=mz h;omega);rw[<-hR0]at a1;omega
 have CC:Hid (∀w1 r,Out (·=g) w w1->aU w.heap.size w1 r (y%C1)->Calls Tryz.prog 101 #[.slice (some ⟨w1.heap.size,0,none⟩) 2 2] (w1.alloc (.cells #[u,r] 38)).drew fun e w'=>∃rest,e=.returned rest/\ft w.heap.size w' rest R0/\Below w1.heap.size w1 w'):=fun w1 r o nr=>by rw[hR0];show Calls Tryz.prog 101 #[.slice (some ⟨w1.heap.size,0,none⟩) 2 2] (w1.drew.alloc (.cells #[u,r] 38)) _;have:=MD (B:=w.heap.size) w1.drew u r x (y%C1) h ((hE.afz o hu).next ((aj _ _).drew)) (by omega) (nr.next ((aj _ _).drew)) wr;refine this.mono ?_;rintro e w' ⟨rest,he,hn,hb⟩;have Pm:Below w1.heap.size w1 w':=aJ ((aj _ w1).drew) hb;exact⟨rest,he,hn.mono o.size,Pm⟩
 have CM:Hid (∀w1 W q rest (s1 m1:Int),Out (·=g) w w1->fC w1 gv gr gd gm gt gk ge g s1 l m1 T->aU w.heap.size w1 q q0->Below w1.heap.size w1 W->ft w.heap.size W rest R0->s<=s1->s1<=s+(K1:Int)->m<=m1->m1<=KM->Calls Tryz.prog 74 #[.pointer (some ⟨gm,0,none⟩),q,.slice (some ⟨b,o,none⟩) h cb] W fun e w'=>∃p s' m',e=.returned p/\aU w.heap.size w' p L/\ft w.heap.size w' rest R0/\aU w.heap.size w' q q0/\fC w' gv gr gd gm gt gk ge g s' l m' T/\s<=s'/\s'<=s+(eF (f+1) n:Int)/\m<=m'/\m'<=KM/\Out (·=g) w w'):=fun w1 W q rest s1 m1 o E nq bW nR k1 k2 k3 k4=>by rw[zK]at nq;have E':=E.next bW;have oW:=o.next bW;refine(qN W gr gd gm gt gk ge g s1 l m1 T q _ (y/C1) C0 E'.nP (hE.nP.tb oW hT) (by omega) (by omega) h2 (by omega) ((nq.next bW).vu (by omega)) (BH _ (hE.nP.Uq oW hd))).mono ?_;rintro e w' ⟨pp,s',m',j1,j2,j3,j4,j5,j6,j7,j8⟩;rw[<-hL]at j2;refine⟨pp,s',m',j1,j2.mono oW.size,nR.out j8 (fun k e=>by rw[e];exact nV),zK▸E'.nP.mb j8 (nq.next bW),E'.kept j8 j3,by omega,by omega,by omega,by omega,oW.trans j8⟩
 have CO:Hid (∀W,Calls Tryz.prog 67 #[.int .u64 1] W fun e w'=>∃r,e=.returned r/\aU W.heap.size w' r 1/\Below W.heap.size W w'):=fun W=>Fo W 1 (by decide);have HD:Hid (∀W,Out (·=g) w W->fI W (.slice (some ⟨b,o,none⟩) n cb) C):=fun W oW=>(hE.nP.Uq oW hd).uG.gE;have CX:Hid (∀W rest R less,wl R<=100000->ft w.heap.size W rest R->aU w.heap.size W less L->Calls Tryz.prog 112 #[rest,less] W fun e w'=>e=.returned (.int .i64 (js R L))/\Below W.heap.size W w'):=fun W rest R less _ nR nl=>EC W rest less R L nR.gE (nl.sR (by omega));have C0':Hid (∀W u v Q,wl Q<=1000000->aU w.heap.size W u Q->aU w.heap.size W v 1->0<Q->Calls Tryz.prog 149 #[u,v] W fun e w'=>∃r,e=.returned (.tuple #[r,.bool true])/\aU W.heap.size w' r (Q-1)/\Below W.heap.size W w'):=fun W u v Q h n n1 hle=>(su W u v Q 1 (n.sR (by omega)) (n1.kj (p:=1) (by decide) (by omega))).mono fun e w' ⟨b,hh⟩=>by
  rcases hh with⟨_,r,he,hn⟩|⟨dh,_⟩
  ·exact⟨r,he,hn,b⟩
  ·omega
 have CA:Hid (∀W rest R,Out (·=g) w W->ft w.heap.size W rest R->Calls Tryz.prog 73 #[rest,.slice (some ⟨b,o,none⟩) n cb] W fun e w'=>∃r,e=.returned r/\aU W.heap.size w' r (R+C)/\Below W.heap.size W w'):=fun W rest R oW nR=>th W rest _ R C nR.gE (ae HD _ oW);have CS:Hid (∀W rest R less,ft w.heap.size W rest R->aU w.heap.size W less L->L<=R->Calls Tryz.prog 149 #[rest,less] W fun e w'=>∃r,e=.returned (.tuple #[r,.bool true])/\aU W.heap.size w' r (R-L)/\Below W.heap.size W w'):=fun W rest R less nR nl hle=>(su W rest less R L nR.gE (nl.sR (by omega))).mono fun e w' ⟨b,hh⟩=>by
  rcases hh with⟨_,r,he,hn⟩|⟨dh,_⟩
  ·exact⟨r,he,hn,b⟩
  ·omega
 have HF:Hid (∀W q r s' m',aU w.heap.size W q (X/C)->aU w.heap.size W r (X%C)->fC W gv gr gd gm gt gk ge g s' l m' T->s<=s'->s'<=s+(eF (f+1) n:Int)->m<=m'->m'<=KM->Out (·=g) w W->F0 w gv gr gd gm gt gk ge g s l m T X C (eF (f+1) n) (ye (n-h)+jP n) (.returned (.tuple #[q,r])) W):=fun W q r s' m' a1 a2 a3 a4 a5 a6 a7 a8=>⟨q,r,s',m',rfl,a1,a2,a3,a4,a5,a6,by rw[hp, <-hKM];exact a7,a8⟩;obtain⟨val,hval⟩:=K4;have HV:=ag hval;have HH:Hid (∀q r gq gx (m1:Int) w1,gh gq (gq+1) w1 q (y/C1)->gh gx (gx+1) w1 r (y%C1)->(gq≠gx/\w.heap.size<=gq/\w.heap.size<=gx)->m1<=max m (l+((ye p+jP p:Nat):Int))->aU w.heap.size w1 q q0/\aU w.heap.size w1 r (y%C1)/\m1<=KM):=fun q r gq gx m1 w1 a1 a2 a3 a4=>⟨zK▸a1.rb.mono a3.2.1,a2.rb.mono a3.2.2,by omega⟩;have HST:=ag (show X+L=R0+q0*C by rw[hL,hR0,zK];exact Uu);have HSQ:=ag (show X/C<=q0 by rw[zK];exact IP);have HC0:=ag hC0;have wC':wl C<=16384:=by omega
 have wq0:wl q0<=20000:=by rw[zK];omega
 obtain⟨ga,_,_,ca,rfl,_,_⟩:=id hv.is;obtain⟨gu,_,_,cu,_,hue,_⟩:=id hu;subst hue;have k1:h<=n/\h<=cb/\¬cb=h:=by omega
 obtain⟨k1,k2,k3⟩:=k1;unfold sT at CH;clear IH hE hT h0 h1 h2 h3 hu hv hd hy hn hh hf hC1 t' hCe ach hup BH wC1 VX wC0 wq wr hx Uu IP hX hK hK1 dm dm2 hKM nV hR0 hL zK hval hC0 afh;generalize F0 w gv gr gd gm gt gk ge g s l m T X C (eF (f+1) n) (ye (n-h)+jP n)=SA at *;generalize (eF (f+1) n:Int)=KE at *;generalize max m (l+((ye p+jP p:Nat):Int))=KM1 at *;generalize (K1:Int)=KK at *;generalize y/C1=yq at *;generalize y%C1=yr at *;generalize wl y=ly at *;suffices H:Calls Tryz.prog 127 #[.pointer (some ⟨gv,0,none⟩),.slice gu h cu,.slice ga ly ca,.slice (some ⟨b,o,none⟩) n cb] w (fun e w'=>∃v,e=.returned v/\SA (.returned v) w') from H.mono (fun e w' ⟨v,he,h⟩=>he▸h)
 go_enter Tryz.func127,Tryz.ntmps127
 go_wp2_with fail
 with_reducible refine(ae CH).mono ?_
 rintro e w1 ⟨q,r,gq,gx,s1,m1,rfl,nq,nr,hg,E1,a1,a2,a3,a4,o1⟩;obtain⟨nq,nr,a4⟩:=ae HH q r gq gx m1 w1 nq nr hg a4;have CC:=ag (ae CC w1 r o1 nr);have CM:=ag (fun W rest=>ae CM w1 W q rest s1 m1 o1 E1 nq);have HC:Hid (∀W,Below w1.heap.size w1 W->W.cell? ⟨gv,0,none⟩=some (.pointer (some ⟨gr,0,none⟩))/\W.cell? ⟨gr,0,none⟩=some (.pointer (some ⟨gd,0,none⟩))/\W.cell? ⟨gd,0,none⟩=some (.pointer (some ⟨gm,0,none⟩))):=fun W bW=>by obtain⟨e0,e1,e2,_⟩:=(E1.next bW).way;exact⟨e0,e1,e2⟩
 have HW:Hid (∀W s' m',fC W gv gr gd gm gt gk ge g s' l m' T->W.cell? ⟨gv,0,none⟩=some (.pointer (some ⟨gr,0,none⟩))/\W.cell? ⟨gr,0,none⟩=some (.pointer (some ⟨gd,0,none⟩))/\W.cell? ⟨gd,0,none⟩=some (.pointer (some ⟨gm,0,none⟩))):=fun W s' m' E=>by obtain⟨e0,e1,e2,_⟩:=E.way;exact⟨e0,e1,e2⟩
 have bl:Below w1.heap.size w1 w1.drew:=(aj _ _).drew;have bA:Below w1.heap.size w1 (w1.alloc (.cells #[.slice gu h cu,r] 38)).drew:=((aj _ w1).alloc (af _) _).drew;obtain⟨qa,ql,qc,rfl⟩:=nq.shape;obtain⟨ra,rl,rc,rfl⟩:=nr.shape;clear CH HH E1 o1 nq nr hg
 go_wp2_with fail
 (try simp only[List.append_eq,List.cons_append,List.nil_append])
 go_region_held3 (fun w'=>w'.cell? ⟨gv,0,none⟩=some (.pointer (some ⟨gr,0,none⟩))/\w'.cell? ⟨gr,0,none⟩=some (.pointer (some ⟨gd,0,none⟩))/\w'.cell? ⟨gd,0,none⟩=some (.pointer (some ⟨gm,0,none⟩))) (first|(exact ae HC _ bl)|(exact ae HC _ bA)|(exact ae HW _ _ _ E3)|(exact ae HW _ _ _ E4)|go_keep) (first
  |(with_reducible refine(ae CC).mono ?_;rintro e w2 ⟨rest,rfl,nR,bl⟩)
  |(with_reducible refine(ae CM _ _ bl nR a1 a2 a3 a4).mono ?_;rintro e w3 ⟨less,s3,m3,rfl,nL,nR,nq,E3,d1,d2,d3,d4,o3⟩)
  |(with_reducible refine(ae CO _).mono ?_;rintro e w4 ⟨one,rfl,n4,b4⟩;have E4:=fC.next E3 b4)
  |fail)
 have NQ:=ag (nq.next b4);have NR:=ag (nR.next b4);have NL:=ag (nL.next b4);have NO:=ag (n4.mono (B':=w.heap.size) o3.size);have HE:=ag E4;have HO:=ag (o3.next b4);have sz:=(ae HO).size;obtain⟨la,ll,lc,rfl⟩:=nL.shape;obtain⟨oa,ol,oc,rfl⟩:=n4.shape;clear nq nR nL n4 E3 E4 o3 b4 bl bA CC CM CO HC HW a1 a2 a3 a4 k1 k2 k3;go_wp2
 go_loopw [8,11] (fun qv pv wr=>∃Q R,Hid (X+L=R+Q*C)/\Hid (X/C<=Q)/\Q<=q0/\wl R<=60000/\Hid (aU w.heap.size wr qv Q)/\Hid (ft w.heap.size wr pv R)/\Below w4.heap.size w4 wr) (fun qv _ wr=>val wr qv)
 case atStart=>exact⟨q0,R0,HST,HSQ,af _,by omega,NQ,NR,aj _ _⟩
 case round=>
  clear NQ NR HST HSQ;obtain⟨Q,R,e1,e2,hQ,hR,NQ,NR,b2⟩:=hrel;have e1:=ag (ae e1);have e2:=ag (ae e2);have wQ:=fw hQ;have ox:=ae HV _ _ _ ((ae NQ).sR (by omega));have o2:=(ae HO).next b2;have CX1:=ag (ae CX _ _ _ _ (by omega) (ae NR) ((ae NL).next b2));obtain⟨qa,ql,qc,rfl⟩:=(ae NQ).shape;obtain⟨pa,pl,pc,rfl⟩:=(ae NR).gE.is;by_cases dh:R<L
  ·have hc:js R L= -1:=jR dh;obtain⟨f1,f2,f3⟩:=l_ (ae e1) (ae e2) (ae HC0) dh;rw[hc]at CX1;have wRC:=YR R C;have wRL:=fw (fk dh);have F2:=ag f2;have F3:=ag f3;clear hc CS HF e1 e2 f2 f3
   go_wp2_with fail
   with_reducible refine(ae CX1).mono ?_
   rintro e w5 ⟨rfl,b5⟩;have C01:=ag (ae C0' _ _ _ _ (by omega) ((ae NQ).next b5) (((ae NO).next b2).next b5) f1);have NR:=ag ((ae NR).next b5);have b5:=aJ b2 b5;clear CX1 b2 o2 NQ
   go_wp2_with fail
   with_reducible refine(ae C01).mono ?_
   rintro e w6 ⟨q2,rfl,nq,b6⟩;have Qu:=ag (ae CA _ _ _ ((ae HO).next (aJ b5 b6)) ((ae NR).next b6));have s5:=b5.size;have NQ:=ag (nq.mono (B':=w.heap.size) (by omega));have b6:=aJ b5 b6;obtain⟨qa',ql',qc',rfl⟩:=nq.shape;clear C01 nq b5 NR
   go_wp2_with fail
   with_reducible refine(ae Qu).mono ?_
   rintro e w7 ⟨p2,rfl,np,b7⟩;have s6:=b6.size;have NR:=ag ((np.mono (B':=w.heap.size) (by omega)).toJ (by omega));have NQ:=ag ((ae NQ).next b7);have b7:=aJ b6 b7;have Ae:=ae HV _ _ _ ((ae NQ).sR (by have:=fw (yD Q 1);omega));obtain⟨pa',pl',pc',rfl⟩:=np.shape;clear Qu np b6;go_wp2
   go_roundw
   case rel=>exact⟨Q-1,R+C,F2,F3,by omega,by omega,NQ,NR,b7⟩
   case measure=>rw[ox,Ae];omega
  ·obtain⟨c,zG,hc⟩:∃c:Int,js R L=c/\¬c<0:=by
    refine⟨_,rfl,?_⟩;rcases fl L R with h|h
    ·rw[lG h];decide
    ·rw[mO (by omega)];decide
   rw[zG]at CX1;obtain⟨f1,f2⟩:=acd (ae e1) (ae e2) (ae HC0) (by omega);have F1:=ag f1;have F2:=ag f2;have HLT:=ag dh;clear zG C0' CA ox e1 e2 f1 f2 dh
   go_wp2_with fail
   with_reducible refine(ae CX1).mono ?_
   rintro e w5 ⟨rfl,b5⟩;have Zr:=ag (ae CS _ _ _ _ ((ae NR).next b5) (((ae NL).next b2).next b5) (by have:=ae HLT;omega));have NQ:=ag ((ae NQ).next b5);have b5:=aJ b2 b5;clear CX1 b2 o2 NR
   go_wp2_with fail
   with_reducible refine(ae Zr).mono ?_
   rintro e w6 ⟨r2,rfl,nr,b6⟩;have s5:=b5.size;have nq:=(ae NQ).next b6;have nr':=nr.mono (B':=w.heap.size) (by omega);rw[ae F1]at nq;rw[ae F2]at nr';have b6:=aJ b5 b6;have HX:=ag (ae HF _ _ _ _ _ nq nr' ((ae HE).next b6) d1 d2 d3 d4 ((ae HO).next b6));obtain⟨ra',rl',rc',rfl⟩:=nr.shape;clear Zr nq nr nr' NQ b5 b6 F1 F2;go_wp2
   go_ret2
   exact⟨_,rfl,ae HX⟩
theorem Ry(w:World)(P0 P1 gv:Nat)(u v d:Value)(SA:Ending->World->Prop)(hu:∃a l c,u=.slice a l c)(hv:∃a l c,v=.slice a l c)(hd:∃a l c,d=.slice a l c)(c0:w.cell? ⟨P0,0,none⟩=some (.pointer (some ⟨gv,0,none⟩)))(c1:w.cell? ⟨P1,0,none⟩=some d)(H:∀W,Below w.heap.size w W->Calls Tryz.prog 127 #[.pointer (some ⟨gv,0,none⟩),u,v,d] W fun e w'=>∃q r,e=.returned (.tuple #[q,r])/\SA (.returned (.tuple #[q,r])) w'):Calls Tryz.prog 126 #[u,v,.pointer (some ⟨P0,0,none⟩),.pointer (some ⟨P1,0,none⟩)] w SA:=by
 obtain⟨ua,ul,uc,rfl⟩:=hu;obtain⟨va,vl,vc,rfl⟩:=hv;obtain⟨da,dl,dc,rfl⟩:=hd;have HH:=ag H;clear H;have HC:Hid (∀W,Below w.heap.size w W->W.cell? ⟨P0,0,none⟩=some (.pointer (some ⟨gv,0,none⟩))/\W.cell? ⟨P1,0,none⟩=some (.slice da dl dc)):=fun W b=>⟨(b.cell (p:=⟨P0,0,none⟩) (aw _ _ c0)).trans c0,(b.cell (p:=⟨P1,0,none⟩) (aw _ _ c1)).trans c1⟩;suffices H:Calls Tryz.prog 126 #[.slice ua ul uc,.slice va vl vc,.pointer (some ⟨P0,0,none⟩),.pointer (some ⟨P1,0,none⟩)] w (fun e w'=>∃v,e=.returned v/\SA (.returned v) w') from H.mono (fun e w' ⟨v,he,h⟩=>he▸h)
 go_enter Tryz.func126,Tryz.ntmps126
 go_wp2_with fail
 with_reducible refine(ae HH _ (aj _ _)).mono ?_
 rintro e w1 ⟨q,r,rfl,h⟩;have H1:=ag h;clear HH HC h;go_wp2
 go_ret2
 exact⟨_,rfl,ae H1⟩
theorem J3(w:World)(gv gr gd gm gt gk ge g:Nat)(s l m:Int)(T:bJ)(u v:Value)(A C:Nat)(hE:fC w gv gr gd gm gt gk ge g s l m T)(h0:0<=s)(h1:s<=1152921504606846976)(h2:0<=l)(h3:l<=1000)(hu:kI w u A)(hv:kI w v C)(hC:0<C)(hs:(wl C:Int)<T.bD.row.getD 3 0\/(wl (A/C):Int)<T.bD.row.getD 3 0):Calls Tryz.prog 103 #[.pointer (some ⟨gv,0,none⟩),u,v] w (sT w gv gr gd gm gt gk ge g s l m T A C (zN A C) 0):=by
 obtain⟨ga,_,_,ca,rfl,_,_⟩:=id hu.is;obtain⟨gb,_,_,cb,rfl,_,_⟩:=id hv.is;have bE:=Boxed.new w 90 (.pointer (some ⟨gv,0,none⟩));have bB:=Boxed.new (w.alloc (.cells #[.pointer (some ⟨gv,0,none⟩)] 90)) 38 (.slice gb (wl C) cb);rw[aL]at bB;replace bE:=bE.alloc (.cells #[.slice gb (wl C) cb] 38);have b1:Below w.heap.size w ((w.alloc (.cells #[.pointer (some ⟨gv,0,none⟩)] 90)).alloc (.cells #[.slice gb (wl C) cb] 38)):=((aj _ w).alloc (af _) _).alloc (by simp) _;obtain⟨W1,mP⟩:∃W1,(w.alloc (.cells #[.pointer (some ⟨gv,0,none⟩)] 90)).alloc (.cells #[.slice gb (wl C) cb] 38)=W1:=⟨_,rfl⟩;rw[mP]at bE bB b1;obtain⟨P0,ke⟩:∃P0,w.heap.size=P0:=⟨_,rfl⟩;rw[ke]at bE bB;have E1:=hE.next b1;obtain⟨e0,e1,e2,e3,e4,e5,e6⟩:=E1.way;have cE:=bE.cell;have cB:=bB.cell;have CS:=ag (nf W1 gv gr gd gm gt gk ge g s l m T _ _ A C _ true E1 (hu.next b1) (hv.next b1) hC rfl (by rw[aca,Gk];exact hs));have CL:Hid (∀W,Below W1.heap.size W1 W->Calls Tryz.prog 81 #[.pointer (some ⟨gd,0,none⟩),.slice ga (wl A) ca,.slice gb (wl C) cb] W fun e w'=>∃q r,e=.returned (.tuple #[q,r,.int .i64 0])/\sT w gv gr gd gm gt gk ge g s l m T A C (zN A C) 0 (.returned (.tuple #[q,r])) w'/\(w'.cell? ⟨P0,0,none⟩=some (.pointer (some ⟨gv,0,none⟩))/\w'.cell? ⟨P0+1,0,none⟩=some (.slice gb (wl C) cb)/\w'.cell? ⟨gv,0,none⟩=some (.pointer (some ⟨gr,0,none⟩))/\w'.cell? ⟨gr,0,none⟩=some (.pointer (some ⟨gd,0,none⟩)))):=fun W bW=>by have bw:=aJ b1 bW;refine(uV W gr gd gm gt gk ge g s l m T _ _ A C (hE.next bw).nP h0 h1 h2 h3 (hu.next bw).uG (hv.next bw).uG hC).mono ?_;rintro e w' ⟨q,r,gq,gx,k1,k2,k3,⟨k4,k5,k6⟩,k7,k8⟩;have sz:=bw.size;have E9:=(hE.next bw).kept k8 k7;have lg:=hE.met.lt;obtain⟨d0,d1,_⟩:=E9.way;exact⟨q,r,k1,⟨q,r,gq,gx,_,m,rfl,k2,k3,⟨k4,by omega,by omega⟩,E9,by omega,dK _,dK _,by omega,(Out.bQ bw).trans k8⟩,k8.cell ((bW.cell (p:=⟨P0,0,none⟩) bE.lt).trans bE.cell) (fun(e:P0=g)=>by omega),k8.cell ((bW.cell (p:=⟨P0+1,0,none⟩) bB.lt).trans bB.cell) (fun(e:P0+1=g)=>by omega),d0,d1⟩
 have lE:=bE.lt;have lB:=bB.lt;have HC:Hid (∀W,Below W1.heap.size W1 W->W.cell? ⟨P0,0,none⟩=some (.pointer (some ⟨gv,0,none⟩))/\W.cell? ⟨P0+1,0,none⟩=some (.slice gb (wl C) cb)/\W.cell? ⟨gv,0,none⟩=some (.pointer (some ⟨gr,0,none⟩))/\W.cell? ⟨gr,0,none⟩=some (.pointer (some ⟨gd,0,none⟩))):=fun W bW=>by obtain⟨d0,d1,_⟩:=(E1.next bW).way;exact⟨(bW.cell (p:=⟨P0,0,none⟩) lE).trans cE,(bW.cell (p:=⟨P0+1,0,none⟩) lB).trans cB,d0,d1⟩
 generalize sT w gv gr gd gm gt gk ge g s l m T A C (zN A C) 0=SA at *;generalize wl A=na at *;generalize wl C=nb at *;clear hE h0 h1 h2 h3 hu hv hC hs E1 bE bB b1 e2 e3 e4 e5 e6 lE lB;suffices H:Calls Tryz.prog 103 #[.pointer (some ⟨gv,0,none⟩),.slice ga na ca,.slice gb nb cb] w (fun e w'=>∃v,e=.returned v/\SA (.returned v) w') from H.mono (fun e w' ⟨v,he,h⟩=>he▸h)
 go_enter_defers Tryz.func103,Tryz.ntmps103
 go_wp2_with fail
 with_reducible refine(ae CS).mono ?_
 rintro e w2 ⟨rfl,b2⟩;have bl:Below W1.heap.size W1 w2.drew:=b2.drew;clear CS b2
 go_wp2_with fail
 (try simp only[List.append_eq,List.cons_append,List.nil_append])
 go_region_held3 (fun w'=>w'.cell? ⟨P0,0,none⟩=some (.pointer (some ⟨gv,0,none⟩))/\w'.cell? ⟨P0+1,0,none⟩=some (.slice gb nb cb)/\w'.cell? ⟨gv,0,none⟩=some (.pointer (some ⟨gr,0,none⟩))/\w'.cell? ⟨gr,0,none⟩=some (.pointer (some ⟨gd,0,none⟩))) (first|(exact ae HC _ bl)|(exact d9)|go_keep) (first
  |(with_reducible refine(ae CL _ bl).mono ?_;rintro e w3 ⟨q,r,rfl,h,d9⟩)
  |fail)
 have HX:=ag h;clear CL h HC;go_wp2;refine⟨_,gG rfl _ _ _,.tuple #[q,r],?_,ae HX⟩;rfl
def HSt(P0 P1 gv gr gd gm gt gk ge g:Nat)(s l m:Int)(T:bJ)(d:Value)(C K M:Nat)(i:Nat)(W:World):Prop:=
 ∃s' m',fC W gv gr gd gm gt gk ge g s' l m' T/\TB W/\kI W d C/\W.cell? ⟨P0,0,none⟩=some (.pointer (some ⟨gv,0,none⟩))/\W.cell? ⟨P1,0,none⟩=some d/\s<=s'/\s'<=s+((i*K:Nat):Int)/\m<=m'/\m'<=max m (l+(M:Int))
theorem GY{w0 W W':World}{d:Value}{B:Nat}(h0:kI w0 d C)(hB:w0.heap.size<=B)(h:kI W d C)(o:Out (fun j=>B<=j) W W'):kI W' d C:=by
 obtain⟨ga,b,oo,cap,xs,rfl,hr,hc,hv,hl⟩:=h;refine⟨ga,b,oo,cap,xs,rfl,o.rep hr (fun hp hb=>?_),hc,hv,hl⟩;obtain⟨ga',b',oo',bM,ys,e,hr',_,_,_⟩:=h0;injection e with e1 e2 e3
 have a1:=hr.head hp;have a2:=hr'.head (by omega);rw[<-e1,a1]at a2;injection a2 with a3
 injection a3 with a4
 have:=hr'.lt (by omega);have Pm:B<=b:=hb;omega
theorem MY(f:Nat)(IH:OL f)(w0:World)(B P0 P1 gv gr gd gm gt gk ge g:Nat)(s l m:Int)(T:bJ)(d:Value)(A C n h P:Nat)(h0:0<=s)(h1:s+((P*eF (f+1) n:Nat):Int)<=1143914305352105984)(h2:0<=l)(h3:l+(ye (n-h):Int)<=1000)(hn:n=wl C)(hh:h=n/2)(xA:2<=n)(hf:n-h<=f)(b0:P0<B)(b1:P1<B)(b2:gv<B/\gr<B/\gd<B/\gm<B/\gt<B/\gk<B/\ge<B/\g<B)(ke:P0≠g)(Gx:P1≠g)(lZ:kI w0 d C)(Nm:TB w0)(hwB:w0.heap.size<=B):abN B g A C h 126 P #[] #[.pointer (some ⟨P0,0,none⟩),.pointer (some ⟨P1,0,none⟩)] (HSt P0 P1 gv gr gd gm gt gk ge g s l m T d C (eF (f+1) n) (ye (n-h)+jP n)) where
 go:=fun args W=>by kernel_rfl
 next:=fun i W W' hS o=>by obtain⟨s',m',E,t,id,c0,c1,k1,k2,k3,k4⟩:=hS;obtain⟨a0,a1,a2,a3,a4,a5,a6,a7⟩:=b2;refine⟨s',m',⟨o.cell E.ptr (by show ¬B<=gv;omega),E.nP.out o (by show ¬B<=gr;omega) (by show ¬B<=gd;omega) (by show ¬B<=gm;omega) (by show ¬B<=gt;omega) (by show ¬B<=gk;omega) (by show ¬B<=ge;omega) (by show ¬B<=g;omega),E.nm⟩,Nm.vV t (o.mono fun k hk=>ak hwB hk),GY lZ hwB id o,o.cell c0 (by show ¬B<=P0;omega),o.cell c1 (by show ¬B<=P1;omega),k1,k2,k3,k4⟩
 call:=fun i W u v x y hi hB hS hu hv hy _=>by
  obtain⟨s',m',E,t,id,c0,c1,k1,k2,k3,k4⟩:=hS;have e:(#[]++#[u,v]++#[.pointer (some ⟨P0,0,none⟩),.pointer (some ⟨P1,0,none⟩)]:Array Value)=#[u,v,.pointer (some ⟨P0,0,none⟩),.pointer (some ⟨P1,0,none⟩)]:=by simp
  rw[e];have hK:i*eF (f+1) n+eF (f+1) n<=P*eF (f+1) n:=by have:=ax (eF (f+1) n) (show i+1<=P from hi);rw[dJ]at this;exact this
  have Wl:(i+1)*eF (f+1) n=i*eF (f+1) n+eF (f+1) n:=dJ _ _;have hux:∃a l c,u=.slice a l c:=by obtain⟨ga,_,_,cap,xs,rfl,_⟩:=hu;exact⟨_,_,_,rfl⟩
  refine(Ry W P0 P1 gv u v d _ hux hv.uG.gE.is id.uG.gE.is c0 c1 (fun W2 bW=>?_));refine(RA f IH W2 gv gr gd gm gt gk ge g s' l m' T u v d x y C n h (E.next bW) (t.next bW) (by omega) (by omega) h2 h3 (hu.next bW) (hv.next bW) (id.next bW) hy hn hh xA hf).mono ?_;rintro e w' ⟨q,r,s2,m2,rfl,n1,n2,E2,j1,j2,j3,j4,o2⟩;have sz:=bW.size;have oW:Out (·=g) W w':=(Out.bQ bW).trans o2;refine⟨q,r,rfl,q,r,rfl,n1.mono sz,n2.mono sz,⟨s2,m2,E2,E.nP.tb oW t,E.nP.Uq oW id,oW.cell c0 ke,oW.cell c1 Gx,by omega,?_,by omega,by omega⟩,oW⟩;rw[Wl];omega
theorem fC.step{s' l' m':Int}{T:bJ}(h:fC w gv gr gd gm gt gk ge g s l m T)(M:gQ w' g 0 s' l' m')(t:Touch g 0 3 w w'):fC w' gv gr gd gm gt gk ge g s' l' m' T:=
 ⟨t.grown.cell h.ptr (by simpa using h.nm),h.nP.step M t,h.nm⟩
theorem fC.Ut{T:bJ}(h:fC w gv gr gd gm gt gk ge g s l m T):gv<w.heap.size/\gr<w.heap.size/\gd<w.heap.size/\gm<w.heap.size/\gt<w.heap.size/\gk<w.heap.size/\ge<w.heap.size/\g<w.heap.size:=by obtain⟨e0,e1,e2,e3,e4,e5,e6⟩:=h.way;exact⟨aw _ _ e0,aw _ _ e1,aw _ _ e2,aw _ _ e3,aw _ _ e4,aw _ _ e5,aw _ _ e6,h.met.lt⟩
theorem GC(f:Nat)(IH:OL f)(w:World)(gv gr gd gm gt gk ge g:Nat)(s l m:Int)(T:bJ)(u v:Value)(A C n h Q P:Nat)(hE:fC w gv gr gd gm gt gk ge g s l m T)(hT:TB w)(h0:0<=s)(h1:s+((P*eF (f+1) n:Nat):Int)<=1143914305352105984)(h2:0<=l)(h3:l+(ye n:Int)<=1000)(hu:kI w u A)(hv:kI w v C)(hC:0<C)(hn:n=wl C)(hh:h=n/2)(xA:2<=n)(hf:n<=f+1)(hQ:Q=wl (A/C))(hQ0:0<Q)(hP:P=cd Q h)(xB:¬(wl C:Int)<T.bD.row.getD 3 0)(GQ:¬(wl (A/C):Int)<T.bD.row.getD 3 0):Calls Tryz.prog 103 #[.pointer (some ⟨gv,0,none⟩),u,v] w (sT w gv gr gd gm gt gk ge g s l m T A C (P*eF (f+1) n) (ye n+jP n)):=by
 have wC:=hv.vu;rw[<-hn]at wC;have hlh:=Wm xA wC;rw[<-hh]at hlh;have acw:=Nh wC;obtain⟨ga,_,_,ca,rfl,_,_⟩:=id hu.is;obtain⟨gb,_,_,cb,rfl,_,_⟩:=id hv.is;have bE:=Boxed.new w 90 (.pointer (some ⟨gv,0,none⟩));have bB:=Boxed.new (w.alloc (.cells #[.pointer (some ⟨gv,0,none⟩)] 90)) 38 (.slice gb (wl C) cb);rw[aL]at bB;replace bE:=bE.alloc (.cells #[.slice gb (wl C) cb] 38);have b1:Below w.heap.size w ((w.alloc (.cells #[.pointer (some ⟨gv,0,none⟩)] 90)).alloc (.cells #[.slice gb (wl C) cb] 38)):=((aj _ w).alloc (af _) _).alloc (by simp) _;obtain⟨W1,mP⟩:∃W1,(w.alloc (.cells #[.pointer (some ⟨gv,0,none⟩)] 90)).alloc (.cells #[.slice gb (wl C) cb] 38)=W1:=⟨_,rfl⟩;rw[mP]at bE bB b1;obtain⟨P0,ke⟩:∃P0,w.heap.size=P0:=⟨_,rfl⟩;rw[ke]at bE bB;have Ut:=hE.Ut;have E1:=hE.next b1;obtain⟨e0,e1,e2,e3,e4,e5,e6⟩:=E1.way;have cE:=bE.cell;have cB:=bB.cell;have CS:=ag (nf W1 gv gr gd gm gt gk ge g s l m T _ _ A C _ false E1 (hu.next b1) (hv.next b1) hC rfl (by rw[aca,xn];omega));have CE:Hid (∀W,Below W1.heap.size W1 W->Calls Tryz.prog 124 #[.pointer (some ⟨g,0,none⟩)] W fun e w'=>e=.returned (.int .i64 (l+1))/\fC w' gv gr gd gm gt gk ge g s (l+1) (max m (l+1)) T/\Out (·=g) w w'/\Boxed w' P0 90 (.pointer (some ⟨gv,0,none⟩))/\Boxed w' (P0+1) 38 (.slice gb (wl C) cb)):=fun W bW=>by have bw:=aJ b1 bW;have EW:=hE.next bw;refine(jS (l+1) (max m (l+1)) EW.met rfl rfl (by omega) (by omega)).mono ?_;rintro e w' ⟨k1,M,t⟩;have o:=Out.bX t.grown;exact⟨k1,EW.step M t,(Out.bQ bw).trans o,iT ((bW.block P0 bE.lt).trans bE) o (fun(e:P0=g)=>by omega),iT ((bW.block (P0+1) bB.lt).trans bB) o (fun(e:P0+1=g)=>by omega)⟩
 have lE:=bE.lt;have lB:=bB.lt;have HC:Hid (∀W,Below W1.heap.size W1 W->W.cell? ⟨P0,0,none⟩=some (.pointer (some ⟨gv,0,none⟩))/\W.cell? ⟨gv,0,none⟩=some (.pointer (some ⟨gr,0,none⟩))/\W.cell? ⟨gr,0,none⟩=some (.pointer (some ⟨gd,0,none⟩))/\W.cell? ⟨gd,0,none⟩=some (.pointer (some ⟨gm,0,none⟩))/\W.cell? ⟨gm,0,none⟩=some (.pointer (some ⟨gt,0,none⟩))/\W.cell? ⟨gt,0,none⟩=some (.pointer (some ⟨gk,0,none⟩))/\W.cell? ⟨gk,0,none⟩=some (.pointer (some ⟨ge,0,none⟩))/\W.cell? ⟨ge,0,none⟩=some (.pointer (some ⟨g,0,none⟩))):=fun W bW=>by exact⟨(bW.cell (p:=⟨P0,0,none⟩) lE).trans cE,(E1.next bW).way⟩
 have CP:Hid (∀W,fC W gv gr gd gm gt gk ge g s (l+1) (max m (l+1)) T->Out (·=g) w W->W.cell? ⟨P0,0,none⟩=some (.pointer (some ⟨gv,0,none⟩))->W.cell? ⟨P0+1,0,none⟩=some (.slice gb (wl C) cb)->Calls Tryz.prog 98 #[.slice ga (wl A) ca,.slice gb (wl C) cb,.int .i64 (h:Int),.func (.func 126) #[] #[.pointer (some ⟨P0,0,none⟩),.pointer (some ⟨P0+1,0,none⟩)]] W fun e w'=>∃q r gq gx s' m',e=.returned (.tuple #[q,r])/\gh gq (gq+1) w' q (A/C)/\gh gx (gx+1) w' r (A%C)/\(gq≠gx/\w.heap.size<=gq/\w.heap.size<=gx)/\fC w' gv gr gd gm gt gk ge g s' (l+1) m' T/\s<=s'/\s'<=s+((P*eF (f+1) n:Nat):Int)/\m<=m'/\m'<=max m (l+((ye n+jP n:Nat):Int))/\Out (·=g) w w'):=fun W EW oW d0 d1=>by
  have sz:=oW.size;have l0:=aw _ _ d0;have l1:=aw _ _ d1;refine(Ci W g _ _ A C h 126 Q P #[] #[.pointer (some ⟨P0,0,none⟩),.pointer (some ⟨P0+1,0,none⟩)] _ (hE.nP.Uq oW hu) (hE.nP.Uq oW hv) hC (by omega) (by omega) hQ hQ0 hP (by omega) (fun W' o'=>hE.nP.Uq (oW.trans o') hu)
   (MY f IH w W.heap.size P0 (P0+1) gv gr gd gm gt gk ge g s (l+1) (max m (l+1)) T _ A C n h P h0 h1 (by omega) (by omega) hn hh xA (by omega) l0 l1 EW.Ut (by omega) (by omega) hv hT sz) ⟨s,_,EW,hE.nP.tb oW hT,hE.nP.Uq oW hv,d0,d1,dK _,by omega,dK _,by omega⟩).mono ?_
  rintro e w' ⟨q,r,gq,gx,k1,k2,k3,⟨k4,k5,k6⟩,⟨s',m',j1,_,_,_,_,j2,j3,j4,j5⟩,k8⟩;exact⟨q,r,gq,gx,s',m',k1,k2,k3,⟨k4,by omega,by omega⟩,j1,j2,j3,by omega,by omega,oW.trans k8⟩
 have HF:Hid (∀W w' q r gq gx s' m',gh gq (gq+1) W q (A/C)->gh gx (gx+1) W r (A%C)->(gq≠gx/\w.heap.size<=gq/\w.heap.size<=gx)->fC W gv gr gd gm gt gk ge g s' (l+1) m' T->s<=s'->s'<=s+((P*eF (f+1) n:Nat):Int)->m<=m'->m'<=max m (l+((ye n+jP n:Nat):Int))->Out (·=g) w W->gQ w' g 0 s' l m'->Touch g 0 3 W w'->sT w gv gr gd gm gt gk ge g s l m T A C (P*eF (f+1) n) (ye n+jP n) (.returned (.tuple #[q,r])) w'):=fun W w' q r gq gx s' m' a1 a2 a3 a4 a5 a6 a7 a8 a9 M t=>by have o:=Out.bX t.grown;exact⟨q,r,gq,gx,s',m',rfl,a4.nP.aet o a1,a4.nP.aet o a2,a3,a4.step M t,a5,a6,a7,a8,a9.trans o⟩
 obtain⟨h2i,hh2⟩:∃z:Int,z=(h:Int):=⟨_,rfl⟩;have hdiv:((wl C:Nat):Int).tdiv 2=(h:Int):=by rw[hh,hn];rfl
 have hwh:IntKind.i64.wrap (h:Int)=(h:Int):=by rw[ao];omega
 have Zj:∀(fn:Fn) (first cap:Array Value) (w:World),(Instr.makeFunc fn first cap).run Tryz.prog w=.ok (.func fn first cap) w:=fun _ _ _ _=>rfl;have HL:=ag h2;have HL3:=ag (show l<=1000 by omega);generalize sT w gv gr gd gm gt gk ge g s l m T A C (P*eF (f+1) n) (ye n+jP n)=SA at *;generalize wl A=na at *;generalize wl C=nb at *;clear hh2 h2i IH hE hT h0 h1 h2 h3 hu hv hC hn hh hf hQ hQ0 hP xB GQ E1 bE bB b1 e0 e1 e2 e3 e4 e5 e6 lE lB hlh acw wC Ut;suffices H:Calls Tryz.prog 103 #[.pointer (some ⟨gv,0,none⟩),.slice ga na ca,.slice gb nb cb] w (fun e w'=>∃v,e=.returned v/\SA (.returned v) w') from H.mono (fun e w' ⟨v,he,h⟩=>he▸h)
 go_enter_defers Tryz.func103,Tryz.ntmps103
 go_wp2_with fail
 with_reducible refine(ae CS).mono ?_
 rintro e w2 ⟨rfl,b2⟩;obtain⟨cE,e0,e1,e2,e3,e4,e5,e6⟩:=ae HC _ b2;clear CS
 go_wp2_with fail
 with_reducible refine(ae CE _ b2).mono ?_
 rintro e w3 ⟨rfl,E3,o3,B0,B1⟩;obtain⟨e0,e1,e2,e3,e4,e5,e6⟩:=E3.way;have cE:=B0.cell;have cB:=B1.cell;clear CE HC b2
 go_wp2_with fail
 with_reducible refine(ae CP _ E3 o3 cE cB).mono ?_
 rintro e w4 ⟨q,r,gq,gx,s4,m4,rfl,n1,n2,hg,E4,a1,a2,a3,a4,o4⟩;have M4:=ag E4.met;have HF:=ag (fun w'=>ae HF w4 w' q r gq gx s4 m4 n1 n2 hg E4 a1 a2 a3 a4 o4);obtain⟨qa,ql,qc,rfl⟩:=n1.rb.shape;obtain⟨ra,rl,rc,rfl⟩:=n2.rb.shape;clear CP n1 n2 hg E4 a1 a2 a3 a4 o4 E3 o3 B0 B1 e0 e1 e2 e3 e4 e5 e6 cE cB;go_wp2;refine sm (f:=125) (args:=#[.pointer (some ⟨g,0,none⟩)]) (by simp) (by simp[go_sem]) ?_;refine(hU l .returning (ae M4) (by have:=ae HL;omega) (by have:=ae HL;omega) (by have:=ae HL3;omega)).mono ?_;rintro e u' w9 ⟨rfl,rfl,M9,T9⟩;refine⟨_,gG rfl _ _ _,.tuple #[.slice qa ql qc,.slice ra rl rc],?_,ae HF _ M9 T9⟩;rfl
theorem acO{f:Nat}(hC:0<C):zN A C<=hF f (wl C) (wl (A/C)):=by
 have:=abv (A:=A) hC;unfold zN hF;split
 ·omega
 ·have:(wl A-wl C+1)*(wl C+1)<=(wl (A/C)+1)*(wl C+1):=ax _ (by omega);omega
theorem Iq(T:bJ):4<=T.bD.row.getD 3 0/\4<=T.bD.row.getD 4 0:=by unfold bJ.bD bJ.row;simp[cl];omega
theorem MV:∀f,OL f:=by
 intro f;induction f with
 |zero=>
  intro w gv gr gd gm gt gk ge g s l m T u v A C hE hT h0 h1 h2 h3 hu hv hC hf;have:=jr.1 (Nat.le_zero.1 hf);omega
 |succ f IH=>
  intro w gv gr gd gm gt gk ge g s l m T u v A C hE hT h0 h1 h2 h3 hu hv hC hf;by_cases hs:(wl C:Int)<T.bD.row.getD 3 0\/(wl (A/C):Int)<T.bD.row.getD 3 0
  ·have hl:=acO (f:=f+1) (A:=A) hC;refine(J3 w gv gr gd gm gt gk ge g s l m T u v A C hE h0 (by omega) h2 (by omega) hu hv hC hs).mono ?_;rintro e w' ⟨q,r,gq,gx,s',m',k1,k2,k3,k4,k5,k6,k7,k8,k9,k0⟩;exact⟨q,r,gq,gx,s',m',k1,k2,k3,k4,k5,k6,by omega,k8,by omega,k0⟩
  ·have ht:=(Iq T).1;have GO:¬(wl C:Int)<T.bD.row.getD 3 0/\¬(wl (A/C):Int)<T.bD.row.getD 3 0:=(by omega);have hP:cd (wl (A/C)) (wl C/2)*eF (f+1) (wl C)<=hF (f+1) (wl C) (wl (A/C)):=by unfold hF;omega
   refine(GC f IH w gv gr gd gm gt gk ge g s l m T u v A C (wl C) (wl C/2) (wl (A/C)) (cd (wl (A/C)) (wl C/2)) hE hT h0 (by omega) h2 h3 hu hv hC rfl rfl (by omega) hf rfl (by omega) rfl GO.1 GO.2).mono ?_;rintro e w' ⟨q,r,gq,gx,s',m',k1,k2,k3,k4,k5,k6,k7,k8,k9,k0⟩;exact⟨q,r,gq,gx,s',m',k1,k2,k3,k4,k5,k6,by omega,k8,k9,k0⟩
def lr(w:World)(gv gr gd gm gt gk ge g:Nat)(s l m:Int)(T:bJ)(A C K M:Nat)(e:Ending)(w':World):Prop:=
 ∃q r gq gx s' m',e=.returned (.tuple #[q,r,.int .i64 0])/\gh gq (gq+1) w' q (A/C)/\gh gx (gx+1) w' r (A%C)/\(gq≠gx/\w.heap.size<=gq/\w.heap.size<=gx)/\fC w' gv gr gd gm gt gk ge g s' l m' T/\s<=s'/\s'<=s+(K:Int)/\m<=m'/\m'<=max m (l+(M:Int))/\Out (·=g) w w'
theorem Fg(A C p:Nat):A*2^p/(C*2^p)=A/C/\A*2^p%(C*2^p)/2^p=A%C:=by
 have hp:=bC p;constructor
 ·exact pr A C hp
 ·rw[je,iR _ hp]
theorem ado{p:Nat}(h:p<=63):wl (A*2^p)<=wl A+1:=by refine iY _ _ ?_;rw[aE];have h2:(2:Nat)^p<=18446744073709551616:=ak (aA (by omega) h) (by decide);exact UL (jM (af _)) h2 (by omega)
theorem Wy(w:World)(gv gr gd gm gt gk ge g:Nat)(s l m:Int)(T:bJ)(u v:Value)(A C:Nat)(hE:fC w gv gr gd gm gt gk ge g s l m T)(hT:TB w)(h0:0<=s)(h1:s+(hF (wl C) (wl C) (wl (A/C)):Int)<=1143914305352105984)(h2:0<=l)(h3:l<=900)(hu:jg w u A)(hv:jg w v C)(hC:0<C)(hwA:wl A<=16383)(xB:¬(wl C:Int)<T.bD.row.getD 3 0)(GQ:¬(wl (A/C):Int)<T.bD.row.getD 3 0):Calls Tryz.prog 83 #[.pointer (some ⟨gv,0,none⟩),u,v] w (lr w gv gr gd gm gt gk ge g s l m T A C (hF (wl C) (wl C) (wl (A/C))) (ye (wl C)+jP (wl C))):=by
 obtain⟨a,ia,CA⟩:=oy hu;obtain⟨d,jd,CD⟩:=oy hv;have CA:=ag CA;have CD:=ag CD;have CS:=ag (nf w gv gr gd gm gt gk ge g s l m T a d A C _ false hE ia jd hC rfl (by rw[aca,xn];omega));have wC:=jd.vu;have acw:=Nh wC;have ht4:=(Iq T).1;obtain⟨ga,_,_,ca,rfl,_,_⟩:=id ia.is;obtain⟨gb,b,o,cb,rfl,A',yQ⟩:=id jd.is;obtain rfl:=yQ (by omega);obtain⟨ys,kt,hyr,hyc,hyv⟩:=jd.head (by omega);obtain⟨m1,ox⟩:∃m1,wl C=m1+1:=⟨wl C-1,by omega⟩;have jL:=hyc.2 (by omega);rw[kt,ox,dF]at jL;have htl:=hyc.1 m1;obtain⟨x,hx⟩:∃x:Nat,x=ys.getD m1 0:=⟨_,rfl⟩;rw[<-hx]at jL htl;have HM:Hid (∀(p:Nat) B W r,p<=63->9223372036854775808<=x*2^p->x*2^p<18446744073709551616->aU B W r (C*2^p)->wl (C*2^p)=wl C):=fun p B W r hp a1 a2 nr=>by obtain⟨_,_,_,ds,_,_,cD,vD,_⟩:=nr.rep;obtain⟨ldd,_⟩:=Fh (m:=m1) hyc (by omega) cD hp (by rw[<-hx];exact a1) (by rw[<-hx];exact a2) (by rw[vD,hyv]);have:=mM cD;rw[vD]at this;omega
 have HCx:Hid (∀W,Below w.heap.size w W->W.cell? ⟨b,o+m1,none⟩=some (.int .u64 (x:Int))):=fun W bW=>by have:=(hyr.next bW).cell m1 (by omega);rw[<-hx]at this;exact this
 have CZ:=ag (fun W=>NC (x:Int) W (by omega) (by omega));have C1:Hid (∀W (p:Nat),Below w.heap.size w W->p<=63->Calls Tryz.prog 104 #[.slice ga (wl A) ca,.int .i64 (p:Int)] W fun e w'=>∃r,e=.returned r/\aU w.heap.size w' r (A*2^p)/\Below w.heap.size w w'):=fun W p bW hp=>(zS W _ (p:Int) A p (by omega) (ia.next bW).uG.gE).mono fun e w' ⟨r,k1,k2,k3⟩=>⟨r,k1,k2.mono bW.size,aJ bW k3⟩;have C2:Hid (∀W (p:Nat),Below w.heap.size w W->p<=63->Calls Tryz.prog 104 #[.slice (some ⟨b,o,none⟩) (wl C) cb,.int .i64 (p:Int)] W fun e w'=>∃r,e=.returned r/\aU w.heap.size w' r (C*2^p)/\Below W.heap.size W w'):=fun W p bW hp=>(zS W _ (p:Int) C p (by omega) (jd.next bW).uG.gE).mono fun e w' ⟨r,k1,k2,k3⟩=>⟨r,k1,k2.mono bW.size,k3⟩;have C3:Hid (∀W (p:Nat) x y,Below w.heap.size w W->p<=63->aU w.heap.size W x (A*2^p)->aU w.heap.size W y (C*2^p)->wl (C*2^p)=wl C->Calls Tryz.prog 103 #[.pointer (some ⟨gv,0,none⟩),x,y] W fun e w'=>∃q r gq gx s' m',e=.returned (.tuple #[q,r])/\gh gq (gq+1) w' q (A/C)/\gh gx (gx+1) w' r (A*2^p%(C*2^p))/\w.heap.size<=gq/\w.heap.size<=gx/\fC w' gv gr gd gm gt gk ge g s' l m' T/\s<=s'/\s'<=s+(hF (wl C) (wl C) (wl (A/C)):Int)/\m<=m'/\m'<=max m (l+((ye (wl C)+jP (wl C):Nat):Int))/\Out (·=g) w w'):=fun W p x y bW hp nx ny hw=>by have e1:=(Fg A C p).1;have hCp:0<C*2^p:=qq hC (bC p);have wAp:=ado (A:=A) hp;have hh:=MV (wl C) W gv gr gd gm gt gk ge g s l m T x y (A*2^p) (C*2^p) (hE.next bW) (hT.next bW) h0 (by rw[e1,hw];exact h1) h2 (by rw[hw];omega) (nx.toC (by omega)) (ny.toC (by omega)) hCp (by omega);rw[e1,hw]at hh;refine hh.mono ?_;rintro e w' ⟨q,r,gq,gx,s',m',k1,k2,k3,⟨k4,k5,k6⟩,k7,k8,k9,k0,k11,k12⟩;rw[e1]at k2;have sz:=bW.size;exact⟨q,r,gq,gx,s',m',k1,k2,k3,by omega,by omega,k7,k8,k9,k0,k11,(Out.bQ bW).trans k12⟩
 have C4:Hid (∀W (p:Nat) q r gq gx (s' m':Int),p<=63->gh gq (gq+1) W q (A/C)->gh gx (gx+1) W r (A*2^p%(C*2^p))->w.heap.size<=gq->w.heap.size<=gx->fC W gv gr gd gm gt gk ge g s' l m' T->s<=s'->s'<=s+(hF (wl C) (wl C) (wl (A/C)):Int)->m<=m'->m'<=max m (l+((ye (wl C)+jP (wl C):Nat):Int))->Out (·=g) w W->wl (C*2^p)=wl C->Calls Tryz.prog 105 #[r,.int .i64 (p:Int)] W fun e w'=>∃r',e=.returned r'/\(∃x y z,r'=.slice x y z)/\lr w gv gr gd gm gt gk ge g s l m T A C (hF (wl C) (wl C) (wl (A/C))) (ye (wl C)+jP (wl C)) (.returned (.tuple #[q,r',.int .i64 0])) w'):=fun W p q r gq gx s' m' hp nq nr sq sx E k1 k2 k3 k4 oW hw=>by have hCp:0<C*2^p:=qq hC (bC p);have wr:=fw (fk (aD (A*2^p) hCp));refine(tV W r (p:Int) _ p (by omega) (nr.rb.sR (by omega))).mono ?_;rintro e w' ⟨r',j1,j2,j3⟩;rw[(Fg A C p).2]at j2;have dh:=oW.size;obtain⟨gy,hy,ny⟩:=mF j2;obtain⟨gz,gY,fX,nz⟩:=nZ (X:=gy) (nq.rb.mono sq) hy (by omega);exact⟨r',j1,j2.shape,q,r',gz,gy,s',m',rfl,nz.next j3,ny,⟨gY,by omega,by omega⟩,E.next j3,k1,k2,k3,k4,oW.next j3⟩
 have C_:¬(wl C:Int)=0:=by omega
 obtain⟨gu,lu,cu,rfl⟩:=hu.gE.is;obtain⟨gw,lw,cw,rfl⟩:=hv.gE.is;have i1:((wl C:Nat):Int)-1=(m1:Int):=by omega
 have i2:IntKind.i64.wrap (m1:Int)=(m1:Int):=by rw[ao];omega
 have i3:(m1:Int)<((wl C:Nat):Int):=by omega
 have i4:0<=(m1:Int):=by omega
 generalize lr w gv gr gd gm gt gk ge g s l m T A C (hF (wl C) (wl C) (wl (A/C))) (ye (wl C)+jP (wl C))=SA at *;generalize (hF (wl C) (wl C) (wl (A/C)):Int)=KF at *;generalize max m (l+((ye (wl C)+jP (wl C):Nat):Int))=KM at *;generalize wl A=na at *;generalize afk:wl C=nb at *;clear hu hv ia jd hE hT h0 h1 h2 h3 hwA xB GQ acw ht4 kt hyr hyc hyv ox hx jL htl wC A' afk;suffices H:Calls Tryz.prog 83 #[.pointer (some ⟨gv,0,none⟩),.slice gu lu cu,.slice gw lw cw] w (fun e w'=>∃v,e=.returned v/\SA (.returned v) w') from H.mono (fun e w' ⟨v,he,h⟩=>he▸h)
 go_enter Tryz.func83,Tryz.ntmps83
 go_wp2_with fail
 with_reducible refine(ae CA).mono ?_
 rintro e w1 ⟨rfl,hw⟩;obtain rfl:=hw.symm;clear hw CA
 go_wp2_with fail
 with_reducible refine(ae CD).mono ?_
 rintro e w1 ⟨rfl,hw⟩;obtain rfl:=hw.symm;clear hw CD
 go_wp2_with fail
 with_reducible refine(ae CS).mono ?_
 rintro e w1 ⟨rfl,b1⟩;have cx:=ae HCx _ b1;clear CS HCx
 go_wp2_with fail
 with_reducible refine(ae CZ _).mono ?_
 rintro e w2 ⟨p,rfl,hp,xB,GQ,hw⟩;obtain rfl:=hw.symm;have HS1:=ag (show 9223372036854775808<=x*2^p by simpa using xB);have HS2:=ag (show x*2^p<18446744073709551616 by simpa using GQ);clear hw CZ xB GQ
 go_wp2_with fail
 with_reducible refine(ae C1 _ _ b1 hp).mono ?_
 rintro e w3 ⟨xa,rfl,n3,b3⟩;have N3:=ag n3;obtain⟨xg,xl,xc,rfl⟩:=n3.shape;clear C1 n3 b1 cx
 go_wp2_with fail
 with_reducible refine(ae C2 _ _ b3 hp).mono ?_
 rintro e w4 ⟨ya,rfl,n4,b4⟩;have HW:=ae HM p _ _ _ hp (ae HS1) (ae HS2) n4;have HW':=ag HW;have C3:=ag (ae C3 _ p _ _ (aJ b3 b4) hp ((ae N3).next b4) n4 HW);obtain⟨yg,yl,yc,rfl⟩:=n4.shape;clear C2 n4 b3 b4 N3 HW HM HS1 HS2
 go_wp2_with fail
 with_reducible refine(ae C3).mono ?_
 rintro e w5 ⟨q,r,gq,gx,s5,m5,rfl,n1,n2,a1,a2,E5,a3,a4,a5,a6,o5⟩;have C4:=ag (ae C4 _ p q r gq gx s5 m5 hp n1 n2 a1 a2 E5 a3 a4 a5 a6 o5 (ae HW'));obtain⟨qa,ql,qc,rfl⟩:=n1.rb.shape;obtain⟨ra,rl,rc,rfl⟩:=n2.rb.shape;clear C3 n1 n2 a1 a2 E5 a3 a4 a5 a6 o5 HW'
 go_wp2_with fail
 with_reducible refine(ae C4).mono ?_
 rintro e w6 ⟨r',rfl,⟨_,_,_,rfl⟩,h⟩;have HX:=ag h;clear C4 h;go_wp2
 go_ret3
 exact⟨_,rfl,ae HX⟩
def RSt(P0 P1 P2 P3 gv gr gd gm gt gk ge g:Nat)(s l m:Int)(T:bJ)(d v:Value)(C V n K M:Nat)(i:Nat)(W:World):Prop:=
 ∃s' m',fC W gv gr gd gm gt gk ge g s' l m' T/\TB W/\kI W d C/\kI W v V/\W.cell? ⟨P0,0,none⟩=some (.pointer (some ⟨gv,0,none⟩))/\W.cell? ⟨P1,0,none⟩=some d/\W.cell? ⟨P2,0,none⟩=some v/\W.cell? ⟨P3,0,none⟩=some (.int .i64 (n:Int))/\s<=s'/\s'<=s+((i*K:Nat):Int)/\m<=m'/\m'<=max m (l+(M:Int))
theorem Vk(w:World)(u x:Value)(X Y k:Nat)(hu:AQ w u X k)(hx:kI w x Y)(hk:k+wl Y<=16384):Calls Tryz.prog 101 #[.slice (some ⟨w.heap.size,0,none⟩) 2 2] (w.alloc (.cells #[u,x] 38)) fun e w'=>∃r,e=.returned r/\jg w' r (X+18446744073709551616^k*Y)/\Below w.heap.size w w':=by
 obtain⟨ga,b,o,cap,xs,rfl,hl,hr,hd,hv⟩:=hu;obtain⟨gb,b',o',bM,ys,rfl,hr',hc',hv',_⟩:=hx;have e:=mM hc';rw[hv']at e;have bl:Below w.heap.size w (w.alloc (.cells #[.slice ga k cap,.slice gb ys.length bM] 38)):=(aj _ _).alloc (af _) _;have kk:=aI w (.cells #[.slice ga k cap,.slice gb ys.length bM] 38);refine(Bh (w.alloc (.cells #[.slice ga k cap,.slice gb ys.length bM] 38)) w.heap.size ga gb b o cap k b' o' bM ys.length xs ys hl rfl (hr.next bl) (hr'.next bl) (by omega) (by omega) (ay _ w.heap.size 0 _ _ (0,0) kk) (ay _ w.heap.size 1 _ _ (0,0) kk)).mono ?_;rintro e w' ⟨r,rfl,ho,hb⟩;obtain⟨gr,br,cr,rfl,Mh,hRr,_⟩:=fS ho;exact⟨_,rfl,⟨gr,br,0,cr,xs++ys,by rw[Mh],hRr,nB hd hc'.1,by rw[jk,hl,hv,hv'],by omega⟩,aJ bl hb⟩
theorem SU(w:World)(P0 P1 P2 P3 gv gr g:Nat)(hg:P0≠g/\P1≠g/\P2≠g/\P3≠g/\gv≠g)(u x d v:Value)(X Y k n:Nat)(SA:Ending->World->Prop)(hu:AQ w u X k)(hk:k+wl Y<=16384)(hx:kI w x Y)(hd:∃a l c,d=.slice a l c)(hv:∃a l c,v=.slice a l c)(c0:w.cell? ⟨P0,0,none⟩=some (.pointer (some ⟨gv,0,none⟩)))(c1:w.cell? ⟨P1,0,none⟩=some d)(c2:w.cell? ⟨P2,0,none⟩=some v)(c3:w.cell? ⟨P3,0,none⟩=some (.int .i64 (n:Int)))(c4:w.cell? ⟨gv,0,none⟩=some (.pointer (some ⟨gr,0,none⟩)))(H:∀W r,Below w.heap.size w W->jg W r (X+18446744073709551616^k*Y)->Calls Tryz.prog 100 #[.pointer (some ⟨gr,0,none⟩),r,d,v,.int .i64 (n:Int)] W fun e w'=>∃q r,e=.returned (.tuple #[q,r,.int .i64 0])/\(∃x y z,q=.slice x y z)/\(∃x y z,r=.slice x y z)/\SA (.returned (.tuple #[q,r])) w'/\Out (·=g) w w'):Calls Tryz.prog 99 #[u,x,.pointer (some ⟨P0,0,none⟩),.pointer (some ⟨P1,0,none⟩),.pointer (some ⟨P2,0,none⟩),.pointer (some ⟨P3,0,none⟩)] w SA:=by
 obtain⟨da,dl,dc,rfl⟩:=hd;obtain⟨va,vl,vc,rfl⟩:=hv;have HH:=ag H;clear H;have HC:Hid (∀W,Below w.heap.size w W->W.cell? ⟨P0,0,none⟩=some (.pointer (some ⟨gv,0,none⟩))/\W.cell? ⟨P1,0,none⟩=some (.slice da dl dc)/\W.cell? ⟨P2,0,none⟩=some (.slice va vl vc)/\W.cell? ⟨P3,0,none⟩=some (.int .i64 (n:Int))/\W.cell? ⟨gv,0,none⟩=some (.pointer (some ⟨gr,0,none⟩))):=fun W b=>⟨(b.cell (p:=⟨P0,0,none⟩) (aw _ _ c0)).trans c0,(b.cell (p:=⟨P1,0,none⟩) (aw _ _ c1)).trans c1,(b.cell (p:=⟨P2,0,none⟩) (aw _ _ c2)).trans c2,(b.cell (p:=⟨P3,0,none⟩) (aw _ _ c3)).trans c3,(b.cell (p:=⟨gv,0,none⟩) (aw _ _ c4)).trans c4⟩;have HO:Hid (∀W,Out (·=g) w W->W.cell? ⟨P0,0,none⟩=some (.pointer (some ⟨gv,0,none⟩))/\W.cell? ⟨P1,0,none⟩=some (.slice da dl dc)/\W.cell? ⟨P2,0,none⟩=some (.slice va vl vc)/\W.cell? ⟨P3,0,none⟩=some (.int .i64 (n:Int))/\W.cell? ⟨gv,0,none⟩=some (.pointer (some ⟨gr,0,none⟩))):=fun W b=>⟨b.cell c0 hg.1,b.cell c1 hg.2.1,b.cell c2 hg.2.2.1,b.cell c3 hg.2.2.2.1,b.cell c4 hg.2.2.2.2⟩;have CC:Hid (Calls Tryz.prog 101 #[.slice (some ⟨w.heap.size,0,none⟩) 2 2] (w.alloc (.cells #[u,x] 38)).drew fun e w'=>∃r,e=.returned r/\jg w' r (X+18446744073709551616^k*Y)/\Below w.heap.size w w'):=by show Calls Tryz.prog 101 #[.slice (some ⟨w.drew.heap.size,0,none⟩) 2 2] (w.drew.alloc (.cells #[u,x] 38)) _;exact(Vk w.drew u x X Y k (hu.next ((aj _ w).drew)) (hx.next ((aj _ w).drew)) hk).mono fun e w' ⟨r,k1,k2,k3⟩=>⟨r,k1,k2,aJ ((aj _ w).drew) k3⟩
 obtain⟨xa,_,_,xc,rfl,_,_⟩:=hx.is;obtain⟨ua,_,_,uc,_,rfl,_⟩:=hu;have bl:Below w.heap.size w w.drew:=(aj _ _).drew;have bA:Below w.heap.size w (w.alloc (.cells #[.slice ua k uc,.slice xa (wl Y) xc] 38)).drew:=((aj _ w).alloc (af _) _).drew;generalize wl Y=ly at *;clear c0 c1 c2 c3 c4 hx;suffices H:Calls Tryz.prog 99 #[.slice ua k uc,.slice xa ly xc,.pointer (some ⟨P0,0,none⟩),.pointer (some ⟨P1,0,none⟩),.pointer (some ⟨P2,0,none⟩),.pointer (some ⟨P3,0,none⟩)] w (fun e w'=>∃v,e=.returned v/\SA (.returned v) w') from H.mono (fun e w' ⟨v,he,h⟩=>he▸h)
 go_enter Tryz.func99,Tryz.ntmps99
 go_wp2_with fail
 (try simp only[List.append_eq,List.cons_append,List.nil_append])
 go_region_held3 (fun w'=>w'.cell? ⟨P0,0,none⟩=some (.pointer (some ⟨gv,0,none⟩))/\w'.cell? ⟨P1,0,none⟩=some (.slice da dl dc)/\w'.cell? ⟨P2,0,none⟩=some (.slice va vl vc)/\w'.cell? ⟨P3,0,none⟩=some (.int .i64 (n:Int))/\w'.cell? ⟨gv,0,none⟩=some (.pointer (some ⟨gr,0,none⟩))) (first|(exact ae HC _ bl)|(exact ae HC _ bA)|(exact ae HO _ o3)|go_keep) (first
  |(with_reducible refine(ae CC).mono ?_;rintro e w2 ⟨r2,rfl,n2,bl⟩)
  |(with_reducible refine(ae HH _ _ bl n2).mono ?_;rintro e w3 ⟨q,r,rfl,⟨_,_,_,rfl⟩,⟨_,_,_,rfl⟩,h3,o3⟩)
  |fail)
 have HX:=ag h3;clear CC HH HC HO h3 bl bA o3 n2;go_wp2
 go_ret2
 exact⟨_,rfl,ae HX⟩
theorem Q5(w0:World)(B P0 P1 P2 P3 gv gr gd gm gt gk ge g:Nat)(s l m:Int)(T:bJ)(d v:Value)(A C b n k P N:Nat)(h0:0<=s)(h1:s+((P*Gg n b C:Nat):Int)<=1143914305352105984)(h2:0<=l)(h3:l<=1000)(b0:2^b<=C)(b1:C<2^(b+1))(hn:n<=1048575)(hkL:k+wl C<=16384)(hX:∀X,X<=A->X<C*18446744073709551616^k->X<=2^n)(hN:(n-b+64)/64<=N)(zD:wl C<=N)(xw:N<=16384)(bd:P0<B/\P1<B/\P2<B/\P3<B)(b2:gv<B/\gr<B/\gd<B/\gm<B/\gt<B/\gk<B/\ge<B/\g<B)(hg:P0≠g/\P1≠g/\P2≠g/\P3≠g)(lZ:kI w0 d C)(Up:kI w0 v (2^n/C))(Nm:TB w0)(hwB:w0.heap.size<=B):abN B g A C k 99 P #[] #[.pointer (some ⟨P0,0,none⟩),.pointer (some ⟨P1,0,none⟩),.pointer (some ⟨P2,0,none⟩),.pointer (some ⟨P3,0,none⟩)] (RSt P0 P1 P2 P3 gv gr gd gm gt gk ge g s l m T d v C (2^n/C) n (Gg n b C) (jP N)) where
 go:=fun args W=>by kernel_rfl
 next:=fun i W W' hS o=>by obtain⟨s',m',E,t,jd,jv,c0,c1,c2,c3,k1,k2,k3,k4⟩:=hS;obtain⟨a0,a1,a2,a3,a4,a5,a6,a7⟩:=b2;obtain⟨d0,d1,d2,d3⟩:=bd;refine⟨s',m',⟨o.cell E.ptr (by show ¬B<=gv;omega),E.nP.out o (by show ¬B<=gr;omega) (by show ¬B<=gd;omega) (by show ¬B<=gm;omega) (by show ¬B<=gt;omega) (by show ¬B<=gk;omega) (by show ¬B<=ge;omega) (by show ¬B<=g;omega),E.nm⟩,Nm.vV t (o.mono fun k hk=>ak hwB hk),GY lZ hwB jd o,GY Up hwB jv o,o.cell c0 (by show ¬B<=P0;omega),o.cell c1 (by show ¬B<=P1;omega),o.cell c2 (by show ¬B<=P2;omega),o.cell c3 (by show ¬B<=P3;omega),k1,k2,k3,k4⟩
 call:=fun i W u x X Y hi hB hS hu hx hY hXA=>by
  obtain⟨s',m',E,t,jd,jv,c0,c1,c2,c3,k1,k2,k3,k4⟩:=hS;have e:(#[]++#[u,x]++#[.pointer (some ⟨P0,0,none⟩),.pointer (some ⟨P1,0,none⟩),.pointer (some ⟨P2,0,none⟩),.pointer (some ⟨P3,0,none⟩)]:Array Value)=#[u,x,.pointer (some ⟨P0,0,none⟩),.pointer (some ⟨P1,0,none⟩),.pointer (some ⟨P2,0,none⟩),.pointer (some ⟨P3,0,none⟩)]:=by simp
  rw[e];have hK:i*Gg n b C+Gg n b C<=P*Gg n b C:=by have:=ax (Gg n b C) (show i+1<=P from hi);rw[dJ]at this;exact this
  have Wl:(i+1)*Gg n b C=i*Gg n b C+Gg n b C:=dJ _ _;have wY:=fw (fk hY);have hXl:X<18446744073709551616^k:=by obtain⟨_,_,_,_,xs,_,e1,_,e2,e3⟩:=hu;rw[<-e3, <-e1];exact bF e2
  have hXC:Y*18446744073709551616^k+X<C*18446744073709551616^k:=by have:=ax (18446744073709551616^k) (show Y+1<=C from hY);rw[dJ]at this;omega
  have Fb:=hX _ hXA hXC;have eX:X+18446744073709551616^k*Y=Y*18446744073709551616^k+X:=by rw[aC];omega
  refine SU W P0 P1 P2 P3 gv gr g ⟨hg.1,hg.2.1,hg.2.2.1,hg.2.2.2,E.nm⟩ u x d v X Y k n _ hu (by omega) hx jd.uG.gE.is jv.uG.gE.is c0 c1 c2 c3 E.ptr (fun W2 r bW hr=>?_);rw[eX]at hr;have E2:=E.next bW;refine(abY W2 gr gd gm gt gk ge g s' l m' T r d v _ C b n N E2.nP (t.next bW) (by omega) (by omega) h2 h3 hr (jd.next bW).uG (jv.next bW).uG b0 b1 hn Fb hN zD xw).mono ?_;rintro e w' ⟨q,r,gq,gx,s2,m2,rfl,n1,n2,⟨_,g1,g2⟩,R2,j1,j2,j3,j4,o2⟩;have sz:=bW.size;have oW:Out (·=g) W w':=(Out.bQ bW).trans o2;refine⟨q,r,rfl,n1.rb.shape,n2.rb.shape,⟨q,r,rfl,n1.rb.mono (by omega),n2.rb.mono (by omega),⟨s2,m2,E2.kept o2 R2,E.nP.tb oW t,E.nP.Uq oW jd,E.nP.Uq oW jv,oW.cell c0 hg.1,oW.cell c1 hg.2.1,oW.cell c2 hg.2.2.1,oW.cell c3 hg.2.2.2,by omega,?_,by omega,by omega⟩,oW⟩,oW⟩;rw[Wl];omega
def ZR(n b C P:Nat):Nat:=rcC n b C+P*Gg n b C
theorem QZ(w:World)(gv gr gd gm gt gk ge g:Nat)(s l m:Int)(T:bJ)(u v:Value)(A C a b n k Q P:Nat)(hE:fC w gv gr gd gm gt gk ge g s l m T)(hT:TB w)(h0:0<=s)(h1:s+(ZR n b C P:Int)<=1143914305352105984)(h2:0<=l)(h3:l<=1000)(hu:kI w u A)(hv:kI w v C)(hC:0<C)(hwA:wl A<=16000)(a0:2^a<=A)(a1:A<2^(a+1))(b0:2^b<=C)(b1:C<2^(b+1))(hQ:Q=wl (A/C))(hQ2:2<=Q)(hk:k=min (wl C) Q)(hn:n=min (a+1) (b+1+64*k))(hP:P=cd Q k):Calls Tryz.prog 82 #[.pointer (some ⟨gv,0,none⟩),u,v] w (lr w gv gr gd gm gt gk ge g s l m T A C (ZR n b C P) (jP (wl A))):=by
 have wC:=hv.vu;have wC0:0<wl C:=by have:=jr (n:=C);omega
 have F_:=PW (A:=A) hC;have hnn:¬wl A<wl C:=fun h=>by have:=uU h;omega
 rw[<-hQ]at F_;have a64:a+1<=64*wl A:=by obtain⟨a',q0,q1,q2⟩:=uw (n:=A) (p:=wl A) (az (bC _) a0) (af _);have:a<a'+1:=(dZ (a:=2) (by omega)).1 (by omega);omega
 have b64:b+1<=64*wl C:=by obtain⟨b',q0,q1,q2⟩:=uw (n:=C) (p:=wl C) hC (af _);have:b<b'+1:=(dZ (a:=2) (by omega)).1 (by omega);omega
 obtain⟨ga,_,_,ca,rfl, -, -⟩:=id hu.is;obtain⟨gb,_,_,cb,rfl, -, -⟩:=id hv.is;have bE:=Boxed.new w 90 (.pointer (some ⟨gv,0,none⟩));have bB:=Boxed.new (w.alloc (.cells #[.pointer (some ⟨gv,0,none⟩)] 90)) 38 (.slice gb (wl C) cb);rw[aL]at bB;replace bE:=bE.alloc (.cells #[.slice gb (wl C) cb] 38);have bW1:Below w.heap.size w ((w.alloc (.cells #[.pointer (some ⟨gv,0,none⟩)] 90)).alloc (.cells #[.slice gb (wl C) cb] 38)):=((aj _ w).alloc (af _) _).alloc (by simp) _;obtain⟨W1,mP⟩:∃W1,(w.alloc (.cells #[.pointer (some ⟨gv,0,none⟩)] 90)).alloc (.cells #[.slice gb (wl C) cb] 38)=W1:=⟨_,rfl⟩;rw[mP]at bE bB bW1;obtain⟨P0,ke⟩:∃P0,w.heap.size=P0:=⟨_,rfl⟩;rw[ke]at bE bB;have Ut:=hE.Ut;have E1:=hE.next bW1;have HE1:=ag E1;have cE:=bE.cell;have cB:=bB.cell;have lE:=bE.lt;have lB:=bB.lt;have CQ:Hid (∀W,Below W1.heap.size W1 W->Calls Tryz.prog 91 #[.slice ga (wl A) ca,.slice gb (wl C) cb] W fun e w'=>e=.returned (.int .i64 (Q:Int))/\Below W1.heap.size W1 w'):=fun W bW=>by rw[hQ];exact(rO (hu.next (aJ bW1 bW)) (hv.next (aJ bW1 bW)) hC).mono fun e w' ⟨k1,k2⟩=>⟨k1,aJ bW k2⟩
 have CA:Hid (∀W,Below W1.heap.size W1 W->Calls Tryz.prog 53 #[.slice ga (wl A) ca] W fun e w'=>e=.returned (.int .i64 ((a+1:Nat):Int))/\w'=W):=fun W bW=>kS (hu.next (aJ bW1 bW)).uG.gE a0 a1;have CB:Hid (∀W,Below W1.heap.size W1 W->Calls Tryz.prog 53 #[.slice gb (wl C) cb] W fun e w'=>e=.returned (.int .i64 ((b+1:Nat):Int))/\w'=W):=fun W bW=>kS (hv.next (aJ bW1 bW)).uG.gE b0 b1;have HC:Hid (∀W,Below W1.heap.size W1 W->W.cell? ⟨P0,0,none⟩=some (.pointer (some ⟨gv,0,none⟩))/\W.cell? ⟨P0+1,0,none⟩=some (.slice gb (wl C) cb)/\W.cell? ⟨gv,0,none⟩=some (.pointer (some ⟨gr,0,none⟩))):=fun W bW=>by exact⟨(bW.cell (p:=⟨P0,0,none⟩) lE).trans cE,(bW.cell (p:=⟨P0+1,0,none⟩) lB).trans cB,(E1.next bW).ptr⟩
 have hkw:k<=wl C/\k<=Q/\2<=k\/wl C<2:=by omega
 have afE:n<=64*wl A:=by omega
 have Uk:n-b<=64*k+1:=by omega
 have hV:wl (2^n/C)<=wl A:=by have:=KY (n:=n) b0;omega
 have CR:Hid (∀W,Below W1.heap.size W1 W->Calls Tryz.prog 97 #[.pointer (some ⟨gr,0,none⟩),.slice gb (wl C) cb,.int .i64 (n:Int)] W fun e w'=>∃va vl vc s' m',e=.returned (.tuple #[.slice va vl vc,.int .i64 0])/\aU W.heap.size w' (.slice va vl vc) (2^n/C)/\fC w' gv gr gd gm gt gk ge g s' l m' T/\s<=s'/\s'<=s+(rcC n b C:Int)/\m<=m'/\m'<=max m (l+(jP (wl A):Int))/\Out (·=g) W w'):=fun W bW=>by have bw:=aJ bW1 bW;have EW:=hE.next bw;refine(SW W gr gd gm gt gk ge g s l m T _ C b n (wl A) EW.nP (hT.next bw) h0 (by have:=h1;unfold ZR at this;omega) h2 h3 (hv.next bw).uG b0 b1 (by omega) (by omega) (by omega) (by omega)).mono ?_;rintro e w' ⟨r,gq,s',m',k1,k2,k3,k4,k5,k6,k7,k8,k9⟩;obtain⟨va,vl,vc,rfl⟩:=k2.rb.shape;exact⟨va,vl,vc,s',m',k1,k2.rb.mono k3,EW.kept k9 k4,k5,k6,k7,k8,k9⟩
 have hX:∀X,X<=A->X<C*18446744073709551616^k->X<=2^n:=fun X x1 x2=>by
  have hB:18446744073709551616^k=2^(64*k):=by rw[dH]
  have x3:X<2^(b+1+64*k):=by rw[aQ, <-hB];exact jY x2 (fb b1 (mz k))
  have x4:X<2^(a+1):=aN x1 a1;rcases abJ (a+1) (b+1+64*k)with h|h
  ·rw[hn,bu h];omega
  ·rw[hn,iF h];omega
 have Y5:Hid (∀W P2 P3 vv s1 m1,fC W gv gr gd gm gt gk ge g s1 l m1 T->s<=s1->s1<=s+(rcC n b C:Int)->m<=m1->m1<=max m (l+(jP (wl A):Int))->aU w.heap.size W vv (2^n/C)->Out (·=g) w W->P0+1<P2->P0+1<P3->W.cell? ⟨P0,0,none⟩=some (.pointer (some ⟨gv,0,none⟩))->W.cell? ⟨P0+1,0,none⟩=some (.slice gb (wl C) cb)->W.cell? ⟨P2,0,none⟩=some (.int .i64 (n:Int))->W.cell? ⟨P3,0,none⟩=some vv->
   Calls Tryz.prog 98 #[.slice ga (wl A) ca,.slice gb (wl C) cb,.int .i64 (k:Int),.func (.func 99) #[] #[.pointer (some ⟨P0,0,none⟩),.pointer (some ⟨P0+1,0,none⟩),.pointer (some ⟨P3,0,none⟩),.pointer (some ⟨P2,0,none⟩)]] W fun e w'=>∃q r,e=.returned (.tuple #[q,r])/\(∃x y z,q=.slice x y z)/\(∃x y z,r=.slice x y z)/\lr w gv gr gd gm gt gk ge g s l m T A C (ZR n b C P) (jP (wl A)) (.returned (.tuple #[q,r,.int .i64 0])) w'):=fun W P2 P3 vv s1 m1 EW z1 z2 z3 z4 nv oW p2 p3 d0 d1 d2 d3=>by
  have sz:=oW.size;have l0:=aw _ _ d0;have l1:=aw _ _ d1;have l2:=aw _ _ d2;have l3:=aw _ _ d3;have hbr:=h1;unfold ZR at hbr;have hTW:=hE.nP.tb oW hT;have hcW:=hE.nP.Uq oW hv;refine(Ci W g _ _ A C k 99 Q P #[] _ _ (hE.nP.Uq oW hu) hcW hC (by omega) (by omega) hQ (by omega) hP (by omega) (fun W' o'=>hE.nP.Uq (oW.trans o') hu)
   (Q5 W W.heap.size P0 (P0+1) P3 P2 gv gr gd gm gt gk ge g s1 l m1 T _ vv A C b n k P (wl A) (by omega) (by omega) h2 h3 b0 b1 (by omega) (by omega) hX (by omega) (by omega) (by omega) ⟨l0,l1,l3,l2⟩ EW.Ut ⟨by omega,by omega,by omega,by omega⟩ hcW (nv.toC (by omega)) hTW (af _)) ⟨s1,m1,EW,hTW,hcW,nv.toC (by omega),d0,d1,d3,d2,dK _,by omega,dK _,by omega⟩).mono ?_
  rintro e w' ⟨q,r,gq,gx,k1,k2,k3,⟨k4,k5,k6⟩,⟨s',m',j1,_,_,_,_,_,_,_,j2,j3,j4,j5⟩,k8⟩;refine⟨q,r,k1,k2.rb.shape,k3.rb.shape,q,r,gq,gx,s',m',rfl,k2,k3,⟨k4,by omega,by omega⟩,j1,by omega,?_,by omega,by omega,oW.trans k8⟩;unfold ZR;omega
 generalize hna:wl A=na at *;generalize C_:wl C=nb at *;have bl:Below W1.heap.size W1 W1.drew:=(aj _ _).drew;have i1:min (nb:Int) (Q:Int)=(k:Int):=by omega
 obtain⟨k64,acv⟩:∃z,z=64*k:=⟨_,rfl⟩;obtain⟨a2,GB⟩:∃z,z=a+1:=⟨_,rfl⟩;obtain⟨b2,jA⟩:∃z,z=b+1:=⟨_,rfl⟩;obtain⟨bk,hbk⟩:∃z,z=b+1+64*k:=⟨_,rfl⟩;rw[<-GB]at CA;rw[<-jA]at CB;have i2:64*(k:Int)=(k64:Int):=by omega
 have i3:IntKind.i64.wrap (k64:Int)=(k64:Int):=by rw[ao];omega
 have i4:(b2:Int)+(k64:Int)=(bk:Int):=by omega
 have i5:IntKind.i64.wrap (bk:Int)=(bk:Int):=by rw[ao];omega
 have i6:min (a2:Int) (bk:Int)=(n:Int):=by omega
 have X0:=ag (And.intro hk (And.intro hn (And.intro acv (And.intro GB (And.intro jA hbk)))));have HQ:=ag hQ;have HP:=ag hP;have HNA:=ag hna;have HNB:=ag C_;clear hk hn acv GB jA hbk hQ hP hna C_;generalize lr w gv gr gd gm gt gk ge g s l m T A C (ZR n b C P) (jP na)=SA at *;suffices H:Calls Tryz.prog 82 #[.pointer (some ⟨gv,0,none⟩),.slice ga na ca,.slice gb nb cb] w (fun e w'=>∃v,e=.returned v/\SA (.returned v) w') from H.mono (fun e w' ⟨v,he,h⟩=>he▸h)
 go_enter Tryz.func82,Tryz.ntmps82
 go_wp2_with fail
 (try simp only[List.append_eq,List.cons_append,List.nil_append])
 go_region_held3 (fun w'=>w'.cell? ⟨P0+1,0,none⟩=some (.slice gb nb cb)) (first|(exact(ae HC _ bl).2.1)|go_keep) (first
  |(with_reducible refine(ae CQ _ bl).mono ?_;rintro e w2 ⟨rfl,bl⟩)
  |fail)
 clear CQ;have bA:Below W1.heap.size W1 (w2.alloc (.cells #[.int .i64 0] 3)).drew:=(bl.alloc bl.size _).drew;have bN:Below W1.heap.size W1 (w2.alloc (.cells #[.int .i64 (n:Int)] 3)).drew:=(bl.alloc bl.size _).drew;have lP1:P0+1<w2.heap.size:=az lB bl.size;have bl:Below W1.heap.size W1 w2.drew:=bl.drew
 go_wp2_with fail
 (try simp only[List.append_eq,List.cons_append,List.nil_append])
 go_region_held3 (fun w'=>w'.cell? ⟨P0+1,0,none⟩=some (.slice gb nb cb)) (first|(exact(ae HC _ bl).2.1)|(exact(ae HC _ bA).2.1)|(exact(ae HC _ bN).2.1)|go_keep) (first
  |(with_reducible refine(ae CA _ bl).mono ?_;rintro e w3 ⟨rfl,H_⟩;subst H_)
  |(with_reducible refine(ae CB _ bl).mono ?_;rintro e w3 ⟨rfl,H_⟩;subst H_)
  |(with_reducible refine(ae CA _ bA).mono ?_;rintro e w3 ⟨rfl,H_⟩;subst H_)
  |(with_reducible refine(ae CB _ bA).mono ?_;rintro e w3 ⟨rfl,H_⟩;subst H_)
  |fail)
 all_goals
  have cN:(w2.alloc (.cells #[.int .i64 (n:Int)] 3)).drew.cell? ⟨w2.heap.size,0,none⟩=some (.int .i64 (n:Int)):=ay _ w2.heap.size 0 _ _ (0,0) (aI w2 _);obtain⟨W3,Uf⟩:∃W3,(w2.alloc (.cells #[.int .i64 (n:Int)] 3)).drew=W3:=⟨_,rfl⟩;have s3:W3.heap.size=w2.heap.size+1:=by rw[<-Uf];simp
  rw[Uf]at bN cN ⊢;obtain⟨P2,Aa⟩:∃P2,w2.heap.size=P2:=⟨_,rfl⟩;rw[Aa]at cN;have HS3:=ag s3;have HN3:Hid (∀W,Below W3.heap.size W3 W->W.cell? ⟨P0,0,none⟩=some (.pointer (some ⟨gv,0,none⟩))/\W.cell? ⟨P0+1,0,none⟩=some (.slice gb nb cb)/\W.cell? ⟨gv,0,none⟩=some (.pointer (some ⟨gr,0,none⟩))/\W.cell? ⟨P2,0,none⟩=some (.int .i64 (n:Int))):=fun W bW=>by obtain⟨f0,f1,f2⟩:=ae HC _ (aJ bN bW);exact⟨f0,f1,f2,(bW.cell (p:=⟨P2,0,none⟩) (by rw[s3];show P2<_;omega)).trans cN⟩
  have CR3:=ag (fun W (bW:Below W3.heap.size W3 W)=>ae CR W (aJ bN bW));have o13:Out (·=g) w W3:=Out.bQ (aJ bW1 bN);have afJ:g<W3.heap.size:=az Ut.2.2.2.2.2.2.2 o13.size;have aeZ:P0+1<P2:=by omega
  have HK:Hid (∀W,Out (fun j=>j=g\/W3.heap.size<=j) W3 W->W.cell? ⟨P0,0,none⟩=some (.pointer (some ⟨gv,0,none⟩))/\W.cell? ⟨P0+1,0,none⟩=some (.slice gb nb cb)/\W.cell? ⟨gv,0,none⟩=some (.pointer (some ⟨gr,0,none⟩))/\W.cell? ⟨P2,0,none⟩=some (.int .i64 (n:Int))):=fun W oW=>by obtain⟨f0,f1,f2,f3⟩:=ae HN3 _ (aj _ _);have q0:=aw _ _ f0;have q1:=aw _ _ f1;have q2:=aw _ _ f2;have q3:=aw _ _ f3;have r0:P0≠g:=(by omega);have r1:P0+1≠g:=(by omega);have r2:P2≠g:=(by omega);have r3:gv≠g:=hE.nm;exact⟨oW.cell f0 (fun h=>by rcases h with h|h;exact r0 h;exact absurd q0 (UM.2 h)),oW.cell f1 (fun h=>by rcases h with h|h;exact r1 h;exact absurd q1 (UM.2 h)),oW.cell f2 (fun h=>by rcases h with h|h;exact r3 h;exact absurd q2 (UM.2 h)),oW.cell f3 (fun h=>by rcases h with h|h;exact r2 h;exact absurd q3 (UM.2 h))⟩
  have HA:Hid (∀W ob,Out (fun j=>j=g\/W3.heap.size<=j) W3 W->Out (fun j=>j=g\/W3.heap.size<=j) W3 (W.alloc ob)):=fun W ob oW=>oW.next ((aj _ _).alloc (af _) _);have HT3:Hid (∀W r,Out (fun j=>j=g\/W3.heap.size<=j) W3 W->Out (fun j=>j=g\/W3.heap.size<=j) W3 (W.setCell ⟨W3.heap.size,0,none⟩ r)):=fun W r oW=>oW.trans ((Out.refl _ _).set (g:=W3.heap.size) (i:=0) (Or.inr (af _)) r);have HO1:Hid (∀W,Out (·=g) W3.drew W->Out (fun j=>j=g\/W3.heap.size<=j) W3 W):=fun W o=>(Out.bQ ((aj _ W3).drew)).trans (o.mono fun _ e=>Or.inl e);have HO2:Hid (∀W,Out (·=g) (W3.alloc (.cells #[.slice none 0 0] 38)).drew W->Out (fun j=>j=g\/W3.heap.size<=j) W3 W/\W.cell? ⟨W3.heap.size,0,none⟩=some (.slice none 0 0)/\W.frozen? ⟨W3.heap.size,0,none⟩=false/\Hid (One W W3.heap.size (.slice none 0 0) 38)):=fun W o=>by have hn:=aI W3 (.cells #[.slice none 0 0] 38);have xA:(W3.alloc (.cells #[.slice none 0 0] 38)).drew.heap[W3.heap.size]?=some (.cells #[.slice none 0 0] 38 (0,0)):=hn;have hn3:=(o.block W3.heap.size (by simp) (show ¬W3.heap.size=g by omega)).trans xA;exact⟨(Out.bQ (((aj _ W3).alloc (af _) _).drew)).trans (o.mono fun _ e=>Or.inl e),ay _ W3.heap.size 0 _ _ (0,0) hn3,bZ W W3.heap.size 0 _ _ hn3,hn3⟩
  clear CA CB bA bl i1 i2 i3 i4 i5 i6 Uf s3 cN CR;have bl:Below W3.heap.size W3 W3.drew:=(aj _ _).drew;have bA:Below W3.heap.size W3 (W3.alloc (.cells #[.slice none 0 0] 38)).drew:=((aj _ W3).alloc (af _) _).drew
  go_wp2_with fail
  (try simp only[List.append_eq,List.cons_append,List.nil_append])
  go_region_held3 (fun w'=>w'.cell? ⟨P0,0,none⟩=some (.pointer (some ⟨gv,0,none⟩))/\w'.cell? ⟨P0+1,0,none⟩=some (.slice gb nb cb)/\w'.cell? ⟨gv,0,none⟩=some (.pointer (some ⟨gr,0,none⟩))/\w'.cell? ⟨P2,0,none⟩=some (.int .i64 (n:Int))) (first|(exact ae HN3 _ bl)|(exact ae HN3 _ bA)|(exact ae HK _ o4)|(exact ae HK _ (ae HA _ _ o4))|(exact ae HK _ (ae HT3 _ _ o4))|go_keep) (first
   |(with_reducible refine(ae CR3 _ bl).mono ?_;rintro e w4 ⟨va,vl,vc,s4,m4,rfl,n4,E4,y1,y2,y3,y4,o4⟩;have o4:=ae HO1 _ o4)
   |(with_reducible refine(ae CR3 _ bA).mono ?_;rintro e w4 ⟨va,vl,vc,s4,m4,rfl,n4,E4,y1,y2,y3,y4,o4⟩;obtain⟨o4,c4,f4,on4⟩:=ae HO2 _ o4)
   |fail)
  all_goals
   have HG:Hid (∀W5 P3,fC W5 gv gr gd gm gt gk ge g s4 l m4 T->aU w.heap.size W5 (.slice va vl vc) (2^n/C)->Out (fun j=>j=g\/W3.heap.size<=j) W3 W5->W3.heap.size<=P3->W5.cell? ⟨P3,0,none⟩=some (.slice va vl vc)->W5.cell? ⟨P0+1,0,none⟩=some (.slice gb nb cb)/\∀W,Below W5.heap.size W5 W->Calls Tryz.prog 98 #[.slice ga na ca,.slice gb nb cb,.int .i64 (k:Int),.func (.func 99) #[] #[.pointer (some ⟨P0,0,none⟩),.pointer (some ⟨P0+1,0,none⟩),.pointer (some ⟨P3,0,none⟩),.pointer (some ⟨P2,0,none⟩)]] W fun e w'=>∃q r,e=.returned (.tuple #[q,r])/\(∃x y z,q=.slice x y z)/\(∃x y z,r=.slice x y z)/\SA (.returned (.tuple #[q,r,.int .i64 0])) w'):=fun W5 P3 E5 n5 o5 hP3 c5=>by obtain⟨f0,f1,f2,f3⟩:=ae HK _ o5;refine⟨f1,fun W bW=>?_⟩;have ow5:Out (·=g) w W5:=Out.fresh o13 o5 (fun i h=>by rcases h with h|h;exact Or.inl h;exact Or.inr (ak o13.size h));have sz3:=ae HS3;exact ae Y5 W P2 P3 _ s4 m4 (E5.next bW) y1 y2 y3 y4 (n5.next bW) (ow5.next bW) aeZ (by omega) ((bW.cell (p:=⟨P0,0,none⟩) (aw _ _ f0)).trans f0) ((bW.cell (p:=⟨P0+1,0,none⟩) (aw _ _ f1)).trans f1) ((bW.cell (p:=⟨P2,0,none⟩) (aw _ _ f3)).trans f3) ((bW.cell (p:=⟨P3,0,none⟩) (aw _ _ c5)).trans c5)
   have af6:=o13.size;have hl4:=Ut
   first
    |(have o45:Out (·=W3.heap.size) w4 (w4.setCell ⟨W3.heap.size,0,none⟩ (.slice va vl vc)):=(Out.refl (fun j=>j=W3.heap.size) w4).set (g:=W3.heap.size) (i:=0) rfl _
      have c5:=((ae on4).set (.slice va vl vc)).cell;have E5:fC (w4.setCell ⟨W3.heap.size,0,none⟩ (.slice va vl vc)) gv gr gd gm gt gk ge g s4 l m4 T:=⟨o45.cell E4.ptr (fun(e:gv=W3.heap.size)=>by omega),E4.nP.out o45 (fun(e:gr=W3.heap.size)=>by omega) (fun(e:gd=W3.heap.size)=>by omega) (fun(e:gm=W3.heap.size)=>by omega) (fun(e:gt=W3.heap.size)=>by omega) (fun(e:gk=W3.heap.size)=>by omega) (fun(e:ge=W3.heap.size)=>by omega) (fun(e:g=W3.heap.size)=>by omega),E4.nm⟩;have n5:=(o45.mb n4 (fun k (e:k=W3.heap.size)=>by rw[e];simp)).mono (B':=w.heap.size) (by simp;omega);have G5:=ae HG _ _ E5 n5 (ae HT3 _ _ o4) (af _) c5;obtain⟨W5,Pj⟩:∃W5,w4.setCell ⟨W3.heap.size,0,none⟩ (.slice va vl vc)=W5:=⟨_,rfl⟩;obtain⟨P3,hP3⟩:∃P3,W3.heap.size=P3:=⟨_,rfl⟩;rw[Pj,hP3]at G5;rw[Pj,hP3];have HG5:=ag G5.2;have c9:=G5.1;clear Pj hP3 G5 E5 n5 c5 o45 c4 f4 on4)
    |(have E5:=E4.next ((aj _ w4).alloc (af _) (.cells #[.slice va vl vc] 38))
      have n5:=(n4.next ((aj _ w4).alloc (af _) (.cells #[.slice va vl vc] 38))).mono (B':=w.heap.size) (by simp;omega);have c5:(w4.alloc (.cells #[.slice va vl vc] 38)).cell? ⟨w4.heap.size,0,none⟩=some (.slice va vl vc):=ay _ w4.heap.size 0 _ _ (0,0) (aI w4 _);have G5:=ae HG _ _ E5 n5 (ae HA _ _ o4) o4.size c5;obtain⟨W5,Pj⟩:∃W5,w4.alloc (.cells #[.slice va vl vc] 38)=W5:=⟨_,rfl⟩;obtain⟨P3,hP3⟩:∃P3,w4.heap.size=P3:=⟨_,rfl⟩;rw[Pj,hP3]at G5;rw[Pj,hP3];have HG5:=ag G5.2;have c9:=G5.1;clear Pj hP3 G5 E5 n5 c5)
   clear HG HA HT3 HO1 HO2 HK HN3 CR3 n4 E4 y1 y2 y3 y4 o4 Y5 bl bA
   go_wp2_with fail
   with_reducible refine(ae HG5 _ (aj _ _)).mono ?_
   rintro e w6 ⟨q,r,rfl,⟨_,_,_,rfl⟩,⟨_,_,_,rfl⟩,h⟩;have HX:=ag h;clear HG5 h;go_wp2
   go_ret3
   exact⟨_,rfl,ae HX⟩
end Go.Proofs.YtkdmippllpekfaaGreatDoor
