import Derived.Test.YtkdmippllpekfaaGreatDoorB33
import Derived.Test.YtkdmippllpekfaaGreatDoorB8
import Derived.Test.YtkdmippllpekfaaGreatDoorB14
namespace Go.Proofs.YtkdmippllpekfaaGreatDoor
set_option maxRecDepth 100000
set_option maxHeartbeats 12800000
variable{l m m' s s':Int}{post pre ys:List Nat}{us:List Value}{A C P P0 Q base cap d g gd ge gk gm gr gt gv gw i k n o p:Nat}{ga:Option Addr}{r u v:Value}{W W' w:World}
section
open Go.RowKit
theorem Th:US:=by
 intro T w;have CC:=ag (fun w=>Tp T w);unfold bJ.val at CC ⊢;go_enter Tryz.func49,Tryz.ntmps49
 go_wp2_with fail
 refine(ae CC _).mono ?_;rintro e w1 ⟨gr,gd,gm,gt,gk,ge,g,rfl,E1,⟨Pp,Wh,Nf,GI,EU,pE,hg⟩,b1⟩;have Az:w.heap.size<=g:=ak (by simp) hg;have we:w.heap.size<=ge:=ak (by simp) pE;have yR:w.heap.size<=gk:=ak (by simp) EU;have BG:w.heap.size<=gt:=ak (by simp) GI;have GH:w.heap.size<=gm:=ak (by simp) Nf;have Nd:w.heap.size<=gd:=ak (by simp) Wh;have Wj:w.heap.size<=gr:=ak (by simp) Pp;have b0:=ag (aJ ((aj w.heap.size w).alloc (af _) _) b1);have tl:=E1.met.lt;have HE:=ag E1;clear CC b1 hg E1 pE EU GI Nf Wh Pp;go_wp2;go_ret;refine⟨w1.heap.size,gr,gd,gm,gt,gk,ge,g,rfl,⟨?_,(ae HE).next ((aj _ _).alloc (af _) _),by omega⟩,⟨(ae b0).size,Wj,Nd,GH,BG,yR,we,Az⟩,(ae b0).alloc (ae b0).size _⟩;exact ay _ w1.heap.size 0 _ _ (0,0) (aI w1 _)
theorem Ve{b:Nat}(hC:0<C)(hQ:Q=wl (A/C))(hL4:4<=wl C)(hQ4:4<=Q)(hk:k=min (wl C) Q)(hn:n<=b+1+64*k)(hb:b+1<=64*wl C)(hP:P=cd Q k):ZR n b C P<=64*(wl A*wl A)+64:=by
 have F_:=PW (A:=A) hC;have hnn:¬wl A<wl C:=fun h=>by have:=uU h;omega
 rw[<-hQ]at F_;obtain⟨L,hL⟩:∃L,L=wl C:=⟨_,rfl⟩;obtain⟨S,hS⟩:∃S,S=L+Q-1:=⟨_,rfl⟩;have hSA:S<=wl A:=by omega
 have hSS:S*S<=wl A*wl A:=aP hSA hSA;have wn:wl (2^n)<=L+k+1:=by have:=jV (n:=2^n) (b:=n+1) (by rw[aE];have:=bC n;omega);omega
 have g1:zN (2^n) C<=(k+2)*(L+1):=by
  unfold zN;rw[<-hL];split
  ·omega
  ·exact ax _ (by omega)
 have g2:nc (n-(b+1))<=8*(k*k)+100*k+4:=by
  have h1:=Xo (n-(b+1));have h2:n-(b+1)<=64*k:=by omega
  have h3:(n-(b+1))*(n-(b+1))<=(64*k)*(64*k):=aP h2 h2;have h4:(64*k)*(64*k)=4096*(k*k):=by grind
  omega
 have g3:(n-(b+1)+65)/64*L<=(k+1)*L:=ax _ (by omega);have g4:Gg n b C<=16*((k+1)*L)+8*((k+1)*(k+1)):=by
  unfold Gg;rw[<-hL];have h1:(n-b+64)/64<=k+1:=by omega
  have h2:(n-b+64)/64*L<=(k+1)*L:=ax _ h1;have h3:(n-b+64)/64*((n-b+64)/64)<=(k+1)*(k+1):=aP h1 h1;omega
 have hcd:=(MB (Q:=Q) (k:=k) (by omega)).2;rw[<-hP]at hcd;unfold ZR rcC;rw[<-hL];have e1:(k+2)*(L+1)=k*L+k+2*L+2:=by grind
 have e2:(k+1)*L=k*L+L:=by grind
 have e3:(k+1)*(k+1)=k*k+2*k+1:=by grind
 have m1:P*Gg n b C<=P*(16*((k+1)*L)+8*((k+1)*(k+1))):=au P g4;rcases abJ Q L with hQL|hQL
 ·have hkQ:k=Q:=by omega
  have Gx:P=1:=by rw[hP,hkQ];unfold cd;rw[show Q+Q-1=Q*1+(Q-1) by omega,gC (by omega),bq (by omega)]
  have m1':P*Gg n b C<=16*((k+1)*L)+8*((k+1)*(k+1)):=by rw[Gx,cX];exact g4
  clear m1 hcd hP Gx g4;generalize P*Gg n b C=X at *;generalize (n-(b+1)+65)/64*L=Y at *;generalize nc (n-(b+1))=Z at *;generalize zN (2^n) C=V at *;rw[e1]at g1;rw[e2]at g3 m1';rw[e3]at m1';subst hkQ;have e4:S*S=L*L+2*(k*L)+k*k+1-2*L-2*k:=by rw[hS];have:L+k-1+1=L+k:=(by omega);obtain⟨z,hz⟩:∃z,L+k-1=z:=⟨_,rfl⟩;have fX:L+k=z+1:=(by omega);have h9:(L+k)*(L+k)=(z+1)*(z+1):=(by rw[fX]);have h10:(L+k)*(L+k)=L*L+2*(k*L)+k*k:=(by grind);have h11:(z+1)*(z+1)=z*z+2*z+1:=(by grind);rw[hz];omega
  have f1:4*L<=L*L:=ax L (by omega);have f2:4*k<=k*k:=ax k hQ4;have f3:4*L<=k*L:=ax L hQ4;have f4:4*k<=k*L:=by have:=au k (show 4<=L by omega);omega
  omega
 ·have hkL:k=L:=by omega
  subst hkL;have m2:P*(16*((k+1)*k)+8*((k+1)*(k+1)))<=(P*k)*(24*k+36):=by
   have h1:16*((k+1)*k)+8*((k+1)*(k+1))<=k*(24*k+36):=by have q1:(k+1)*k=k*k+k:=(by grind);have q2:k*(24*k+36)=24*(k*k)+36*k:=(by grind);omega
   have:=au P h1;rw[<-aF P k]at this;exact this
  have m3:(P*k)*(24*k+36)<=S*(24*k+36):=ax _ (by omega);have e5:S*(24*k+36)=24*(S*k)+36*S:=by grind
  have f1:2*k<=S+1:=by omega
  have f2:(2*k)*S<=(S+1)*S:=ax S f1;have f3:(2*k)*(2*k)<=(S+1)*(S+1):=aP f1 f1;have e6:(2*k)*S=2*(S*k):=by grind
  have e7:(S+1)*S=S*S+S:=by grind
  have e8:(2*k)*(2*k)=4*(k*k):=by grind
  have e9:(S+1)*(S+1)=S*S+2*S+1:=by grind
  have f4:7*S<=S*S:=ax S (by omega);have m4:=ak m1 (ak m2 m3);clear m1 m2 m3 hcd hP g4;generalize P*Gg n b C=X at *;generalize (n-(b+1)+65)/64*k=Y at *;generalize nc (n-(b+1))=Z at *;generalize zN (2^n) C=V at *;rw[e1]at g1;rw[e2]at g3;rw[e5]at m4;omega
theorem i'(w:World)(gv gr gd gm gt gk ge g:Nat)(s l m:Int)(T:bJ)(u v:Value)(A C:Nat)(hE:fC w gv gr gd gm gt gk ge g s l m T)(h0:0<=s)(h1:s<=1152921504606846976)(h2:0<=l)(h3:l<=1000)(hu:jg w u A)(hv:jg w v C)(hC:0<C)(hs:(wl C:Int)<T.bD.row.getD 3 0\/(wl (A/C):Int)<T.bD.row.getD 3 0):Calls Tryz.prog 70 #[.pointer (some ⟨gv,0,none⟩),u,v] w (lr w gv gr gd gm gt gk ge g s l m T A C (zN A C) 0):=by
 obtain⟨a,ia,CA⟩:=oy hu;obtain⟨d,jd,CD⟩:=oy hv;have CA:=ag CA;have CD:=ag CD;have CS:=ag (nf w gv gr gd gm gt gk ge g s l m T a d A C _ true hE ia jd hC rfl (by rw[aca,Gk];exact hs));have CL:Hid (∀W,Below w.heap.size w W->Calls Tryz.prog 81 #[.pointer (some ⟨gd,0,none⟩),a,d] W fun e w'=>∃q r,e=.returned (.tuple #[q,r,.int .i64 0])/\(∃x y z,q=.slice x y z)/\(∃x y z,r=.slice x y z)/\lr w gv gr gd gm gt gk ge g s l m T A C (zN A C) 0 (.returned (.tuple #[q,r,.int .i64 0])) w'):=fun W bw=>by refine(uV W gr gd gm gt gk ge g s l m T _ _ A C (hE.next bw).nP h0 h1 h2 h3 (ia.next bw).uG (jd.next bw).uG hC).mono ?_;rintro e w' ⟨q,r,gq,gx,k1,k2,k3,⟨k4,k5,k6⟩,k7,k8⟩;have sz:=bw.size;exact⟨q,r,k1,k2.rb.shape,k3.rb.shape,q,r,gq,gx,_,m,rfl,k2,k3,⟨k4,by omega,by omega⟩,(hE.next bw).kept k8 k7,by omega,dK _,dK _,by omega,(Out.bQ bw).trans k8⟩
 have HC:Hid (∀W,Below w.heap.size w W->W.cell? ⟨gv,0,none⟩=some (.pointer (some ⟨gr,0,none⟩))/\W.cell? ⟨gr,0,none⟩=some (.pointer (some ⟨gd,0,none⟩))):=fun W bW=>by obtain⟨d0,d1,_⟩:=(hE.next bW).way;exact⟨d0,d1⟩
 have C_:¬(wl C:Int)=0:=by have:=jr (n:=C);omega
 obtain⟨ga,_,_,ca,rfl, -, -⟩:=ia.is;obtain⟨gb,_,_,cb,rfl, -, -⟩:=jd.is;obtain⟨gu,lu,cu,rfl⟩:=hu.gE.is;obtain⟨gw,lw,cw,rfl⟩:=hv.gE.is;generalize lr w gv gr gd gm gt gk ge g s l m T A C (zN A C) 0=SA at *;generalize wl A=na at *;generalize wl C=nb at *;clear hu hv ia jd hE h0 h1 h2 h3 hC hs;suffices H:Calls Tryz.prog 70 #[.pointer (some ⟨gv,0,none⟩),.slice gu lu cu,.slice gw lw cw] w (fun e w'=>∃v,e=.returned v/\SA (.returned v) w') from H.mono (fun e w' ⟨v,he,h⟩=>he▸h)
 go_enter Tryz.func70,Tryz.ntmps70
 go_wp2_with fail
 with_reducible refine(ae CA).mono ?_
 rintro e w1 ⟨rfl,hw⟩;obtain rfl:=hw.symm;clear hw CA
 go_wp2_with fail
 with_reducible refine(ae CD).mono ?_
 rintro e w1 ⟨rfl,hw⟩;obtain rfl:=hw.symm;clear hw CD
 go_wp2_with fail
 with_reducible refine(ae CS).mono ?_
 rintro e w1 ⟨rfl,b1⟩;obtain⟨e0,e1⟩:=ae HC _ b1;clear CS HC
 go_wp2_with fail
 with_reducible refine(ae CL _ b1).mono ?_
 rintro e w2 ⟨q,r,rfl,⟨_,_,_,rfl⟩,⟨_,_,_,rfl⟩,h⟩;have HX:=ag h;clear CL h;go_wp2
 go_ret3
 exact⟨_,rfl,ae HX⟩
theorem VB(w:World)(gv gr gd gm gt gk ge g:Nat)(s l m:Int)(T:bJ)(u v:Value)(A C:Nat)(rc:Bool)(SA:Ending->World->Prop)(hE:fC w gv gr gd gm gt gk ge g s l m T)(hu:jg w u A)(hv:jg w v C)(hC:0<C)(xB:¬(wl C:Int)<T.bD.row.getD 3 0)(GQ:¬(wl (A/C):Int)<T.bD.row.getD 3 0)(hrc:rc=decide (T.bD.row.getD 4 0<=(wl C:Int)))(H:∀W a d,Below w.heap.size w W->kI W a A->kI W d C->Calls Tryz.prog (if rc then 82 else 83) #[.pointer (some ⟨gv,0,none⟩),a,d] W fun e w'=>∃q r,e=.returned (.tuple #[q,r,.int .i64 0])/\(∃x y z,q=.slice x y z)/\(∃x y z,r=.slice x y z)/\SA (.returned (.tuple #[q,r,.int .i64 0])) w'):Calls Tryz.prog 70 #[.pointer (some ⟨gv,0,none⟩),u,v] w SA:=by
 obtain⟨a,ia,CA⟩:=oy hu;obtain⟨d,jd,CD⟩:=oy hv;have CA:=ag CA;have CD:=ag CD;have CS:=ag (nf w gv gr gd gm gt gk ge g s l m T a d A C _ false hE ia jd hC rfl (by rw[aca,xn];omega));have HC:Hid (∀W,Below w.heap.size w W->W.cell? ⟨gv,0,none⟩=some (.pointer (some ⟨gr,0,none⟩))/\W.cell? ⟨gr,0,none⟩=some (.pointer (some ⟨gd,0,none⟩))/\W.cell? ⟨gd,0,none⟩=some (.pointer (some ⟨gm,0,none⟩))/\W.cell? ⟨gm,0,none⟩=some (.pointer (some ⟨gt,0,none⟩))/\W.cell? ⟨gt,0,none⟩=some (.pointer (some ⟨gk,0,none⟩))/\W.cell? ⟨gk,0,none⟩=some (.pointer (some ⟨ge,0,none⟩))/\W.cell? ⟨ge,0,none⟩=some (.pointer (some ⟨g,0,none⟩))/\W.cell? ⟨g,7,none⟩=some (.int .i64 (T.bD.row.getD 4 0))):=fun W bW=>by obtain⟨e0,e1,e2,e3,e4,e5,e6⟩:=(hE.next bW).way;exact⟨e0,e1,e2,e3,e4,e5,e6,(hE.next bW).nP.div.mul.jf.fY.tab 4 (by decide)⟩
 have CH:=ag (fun W (bW:Below w.heap.size w W)=>H W a d bW (ia.next bW) (jd.next bW));have C_:¬(wl C:Int)=0:=by have:=jr (n:=C);omega
 obtain⟨ga,_,_,ca,rfl, -, -⟩:=ia.is;obtain⟨gb,_,_,cb,rfl, -, -⟩:=jd.is;obtain⟨gu,lu,cu,rfl⟩:=hu.gE.is;obtain⟨gw,lw,cw,rfl⟩:=hv.gE.is;generalize T.bD.row.getD 4 0=t at *;generalize wl A=na at *;generalize wl C=nb at *;clear hu hv ia jd hE hC xB GQ H;suffices H:Calls Tryz.prog 70 #[.pointer (some ⟨gv,0,none⟩),.slice gu lu cu,.slice gw lw cw] w (fun e w'=>∃v,e=.returned v/\SA (.returned v) w') from H.mono (fun e w' ⟨v,he,h⟩=>he▸h)
 rcases Bool.eq_false_or_eq_true rc with hr|hr
 ·subst hr;have hle:t<=(nb:Int):=by simpa using hrc.symm
  rw[aW rfl]at CH;clear hrc;go_enter Tryz.func70,Tryz.ntmps70
  go_wp2_with fail
  with_reducible refine(ae CA).mono ?_
  rintro e w1 ⟨rfl,hw⟩;obtain rfl:=hw.symm;clear hw CA
  go_wp2_with fail
  with_reducible refine(ae CD).mono ?_
  rintro e w1 ⟨rfl,hw⟩;obtain rfl:=hw.symm;clear hw CD
  go_wp2_with fail
  with_reducible refine(ae CS).mono ?_
  rintro e w1 ⟨rfl,b1⟩;obtain⟨e0,e1,e2,e3,e4,e5,e6,e7⟩:=ae HC _ b1;clear CS HC
  go_wp2_with fail
  with_reducible refine(ae CH _ b1).mono ?_
  rintro e w2 ⟨q,r,rfl,⟨_,_,_,rfl⟩,⟨_,_,_,rfl⟩,h⟩;have HX:=ag h;clear CH h;go_wp2
  go_ret3
  exact⟨_,rfl,ae HX⟩
 ·subst hr;have hle:¬t<=(nb:Int):=by simpa using hrc.symm
  rw[aV (by decide)]at CH;clear hrc;go_enter Tryz.func70,Tryz.ntmps70
  go_wp2_with fail
  with_reducible refine(ae CA).mono ?_
  rintro e w1 ⟨rfl,hw⟩;obtain rfl:=hw.symm;clear hw CA
  go_wp2_with fail
  with_reducible refine(ae CD).mono ?_
  rintro e w1 ⟨rfl,hw⟩;obtain rfl:=hw.symm;clear hw CD
  go_wp2_with fail
  with_reducible refine(ae CS).mono ?_
  rintro e w1 ⟨rfl,b1⟩;obtain⟨e0,e1,e2,e3,e4,e5,e6,e7⟩:=ae HC _ b1;clear CS HC
  go_wp2_with fail
  with_reducible refine(ae CH _ b1).mono ?_
  rintro e w2 ⟨q,r,rfl,⟨_,_,_,rfl⟩,⟨_,_,_,rfl⟩,h⟩;have HX:=ag h;clear CH h;go_wp2
  go_ret3
  exact⟨_,rfl,ae HX⟩
theorem J7(w:World)(gv gr gd gm gt gk ge g:Nat)(s l m:Int)(T:bJ)(u v:Value)(A C:Nat)(hE:fC w gv gr gd gm gt gk ge g s l m T)(hT:TB w)(h0:0<=s)(h1:s<=1143914000000000000)(h2:0<=l)(h3:l<=900)(hu:jg w u A)(hv:jg w v C)(hC:0<C)(hwA:wl A<=16000):Calls Tryz.prog 70 #[.pointer (some ⟨gv,0,none⟩),u,v] w (lr w gv gr gd gm gt gk ge g s l m T A C (64*(wl A*wl A)+64) (4*Lib.bitLen (wl A)+8)):=by
 have ht:=Iq T;have wC:=hv.vu;have wC0:0<wl C:=by have:=jr (n:=C);omega
 have hAA:wl A*wl A<=16000*16000:=aP hwA hwA;have hup:∀K M e w',K<=64*(wl A*wl A)+64->M<=4*Lib.bitLen (wl A)+8->lr w gv gr gd gm gt gk ge g s l m T A C K M e w'->lr w gv gr gd gm gt gk ge g s l m T A C (64*(wl A*wl A)+64) (4*Lib.bitLen (wl A)+8) e w':=by rintro K M e w' hK hM ⟨q,r,gq,gx,s',m',k1,k2,k3,k4,k5,k6,k7,k8,k9,k0⟩;exact⟨q,r,gq,gx,s',m',k1,k2,k3,k4,k5,k6,by omega,k8,by omega,k0⟩
 have hfm:∀W K M e w',Below w.heap.size w W->lr W gv gr gd gm gt gk ge g s l m T A C K M e w'->K<=64*(wl A*wl A)+64->M<=4*Lib.bitLen (wl A)+8->∃q r,e=.returned (.tuple #[q,r,.int .i64 0])/\(∃x y z,q=.slice x y z)/\(∃x y z,r=.slice x y z)/\lr w gv gr gd gm gt gk ge g s l m T A C (64*(wl A*wl A)+64) (4*Lib.bitLen (wl A)+8) (.returned (.tuple #[q,r,.int .i64 0])) w':=by rintro W K M e w' bW ⟨q,r,gq,gx,s',m',k1,k2,k3,⟨k4,k5,k6⟩,k7,k8,k9,k0,k11,k12⟩ hK hM;have sz:=bW.size;exact⟨q,r,k1,k2.rb.shape,k3.rb.shape,q,r,gq,gx,s',m',rfl,k2,k3,⟨k4,by omega,by omega⟩,k7,k8,by omega,k0,by omega,(Out.bQ bW).trans k12⟩
 by_cases hs:(wl C:Int)<T.bD.row.getD 3 0\/(wl (A/C):Int)<T.bD.row.getD 3 0
 ·refine(i' w gv gr gd gm gt gk ge g s l m T u v A C hE h0 (by omega) h2 (by omega) hu hv hC hs).mono fun e w' h=>hup _ _ e w' ?_ (by omega) h;unfold zN;split
  ·omega
  ·rcases R9 (a:=wl A) (c:=wl C) wC0 with h|h
   ·exact h
   ·omega
 ·have GO:¬(wl C:Int)<T.bD.row.getD 3 0/\¬(wl (A/C):Int)<T.bD.row.getD 3 0:=by omega
  have hL4:4<=wl C:=by omega
  have hQ4:4<=wl (A/C):=by omega
  have F_:=PW (A:=A) hC;have hnn:¬wl A<wl C:=fun h=>by have:=uU h;omega
  have Bu:0<A:=by refine s9 fun e=>?_;rw[e,pP]at hnn;omega
  have hbm:=kL (wl A) (wl C) (by omega) (by omega);have afM:=kL (wl A) (wl C-1) (by omega) (by omega);refine VB w gv gr gd gm gt gk ge g s l m T u v A C _ _ hE hu hv hC GO.1 GO.2 rfl (fun W a d bW ia jd=>?_);by_cases hr:T.bD.row.getD 4 0<=(wl C:Int)
  ·rw[aW (by simpa using hr)];obtain⟨a',hab,a0,a1⟩:=uw Bu (af (wl A));obtain⟨b',BC,b0,b1⟩:=uw hC (af (wl C));have We:=Ve (A:=A) (b:=b') (n:=min (a'+1) (b'+1+64*min (wl C) (wl (A/C)))) hC rfl hL4 hQ4 rfl (Nat.min_le_right _ _) (by omega) rfl;refine(QZ W gv gr gd gm gt gk ge g s l m T a d A C a' b' _ _ _ _ (hE.next bW) (hT.next bW) h0 (by omega) h2 (by omega) ia jd hC hwA a0 a1 b0 b1 rfl (by omega) rfl rfl rfl).mono fun e w' h=>hfm W _ _ e w' bW h We ?_;unfold jP;omega
  ·rw[aV (by simpa using hr)];have We:=u_ (f:=wl C) (L:=wl C) (Q:=wl (A/C)) (S:=wl A) hL4 hQ4 (by omega);refine(Wy W gv gr gd gm gt gk ge g s l m T a d A C (hE.next bW) (hT.next bW) h0 (by omega) h2 h3 ia.uG jd.uG hC (by omega) GO.1 GO.2).mono fun e w' h=>hfm W _ _ e w' bW h We ?_;unfold jP ye;omega
theorem Tg:UR:=by
 intro T w;have CC:=ag (fun w=>Th T w);unfold bJ.val at CC ⊢;go_enter Tryz.func27,Tryz.ntmps27
 go_wp2_with fail
 refine(ae CC _).mono ?_;rintro e w1 ⟨gv,gr,gd,gm,gt,gk,ge,g,rfl,E1,⟨hgv,Pp,Wh,Nf,GI,EU,pE,hg⟩,b1⟩;have Az:w.heap.size<=g:=ak (by simp) hg;have we:w.heap.size<=ge:=ak (by simp) pE;have yR:w.heap.size<=gk:=ak (by simp) EU;have BG:w.heap.size<=gt:=ak (by simp) GI;have GH:w.heap.size<=gm:=ak (by simp) Nf;have Nd:w.heap.size<=gd:=ak (by simp) Wh;have Wj:w.heap.size<=gr:=ak (by simp) Pp;have acs:w.heap.size<=gv:=ak (by simp) hgv;have b0:=ag (aJ ((aj w.heap.size w).alloc (af _) _) b1);have tl:=E1.met.lt;have HE:=ag E1;clear CC b1 hg E1 pE EU GI Nf Wh Pp hgv;go_wp2;go_ret;refine⟨w1.heap.size,gv,gr,gd,gm,gt,gk,ge,g,rfl,⟨?_,(ae HE).next ((aj _ _).alloc (af _) _),by omega⟩,⟨(ae b0).size,acs,Wj,Nd,GH,BG,yR,we,Az⟩,(ae b0).alloc (ae b0).size _⟩;exact ay _ w1.heap.size 0 _ _ (0,0) (aI w1 _)
theorem oG:mX:=by
 intro T w;have CC:=ag (fun w=>Tg T w);unfold bJ.val at CC ⊢;go_enter Tryz.func10,Tryz.ntmps10
 go_wp2_with fail
 refine(ae CC _).mono ?_;rintro e w1 ⟨gw,gv,gr,gd,gm,gt,gk,ge,g,rfl,E1,⟨Wk,hgv,Pp,Wh,Nf,GI,EU,pE,hg⟩,b1⟩;have Az:w.heap.size<=g:=ak (by simp) hg;have we:w.heap.size<=ge:=ak (by simp) pE;have yR:w.heap.size<=gk:=ak (by simp) EU;have BG:w.heap.size<=gt:=ak (by simp) GI;have GH:w.heap.size<=gm:=ak (by simp) Nf;have Nd:w.heap.size<=gd:=ak (by simp) Wh;have Wj:w.heap.size<=gr:=ak (by simp) Pp;have acs:w.heap.size<=gv:=ak (by simp) hgv;have afa:w.heap.size<=gw:=ak (by simp) Wk;have b0:=ag (aJ ((aj w.heap.size w).alloc (af _) _) b1);have tl:=E1.met.lt;have HE:=ag E1;clear CC b1 hg E1 pE EU GI Nf Wh Pp hgv Wk;go_wp2;go_ret;refine⟨w1.heap.size,gw,gv,gr,gd,gm,gt,gk,ge,g,rfl,⟨?_,(ae HE).next ((aj _ _).alloc (af _) _),by omega⟩,⟨(ae b0).size,afa,acs,Wj,Nd,GH,BG,yR,we,Az⟩,(ae b0).alloc (ae b0).size _⟩;exact ay _ w1.heap.size 0 _ _ (0,0) (aI w1 _)
theorem nJ.way{T:bJ}(h:nJ w gw gv gr gd gm gt gk ge g s l m T):w.cell? ⟨gw,0,none⟩=some (.pointer (some ⟨gv,0,none⟩))/\w.cell? ⟨gv,0,none⟩=some (.pointer (some ⟨gr,0,none⟩))/\w.cell? ⟨gr,0,none⟩=some (.pointer (some ⟨gd,0,none⟩))/\w.cell? ⟨gd,0,none⟩=some (.pointer (some ⟨gm,0,none⟩)):=
 ⟨h.ptr,h.div.way.1,h.div.way.2.1,h.div.way.2.2.1⟩
theorem nJ.tb{w':World}{T:bJ}(h:nJ w gw gv gr gd gm gt gk ge g s l m T)(o:Out (·=g) w w')(t:TB w):TB w':=h.div.nP.tb o t
end
section
open Go.RowKit
section
variable {w W W' : World} {gw gv gr gd gm gt gk ge g : Nat} {s l m : Int} {T : bJ} {c : Nat} {L : List (Value × Nat)}
end
end
section
open Go.RowKit Go.Shelf
def Kc(W W':World):Prop:=∀(j:Nat) (o:Obj),W.heap[j]?=some o->o.isCells=true->W'.heap[j]?=W.heap[j]?
theorem Kc.boxed(h:Kc W W'){B:Nat}{t:TypeId}(b:Boxed W B t v):Boxed W' B t v:=(h _ _ b rfl).trans b
theorem Kc.owns(h:Kc W W'){t:TypeId}(b:W.ownsRow base t 1 v n us):W'.ownsRow base t 1 v n us:=by
 refine⟨b.1,?_⟩;rcases b.2 with h0|⟨g,cap,cur,hv,hb,hg,rest⟩
 ·exact .inl h0
 ·exact .inr ⟨g,cap,cur,hv,hb,(h _ _ hg rfl).trans hg,rest⟩
theorem Kc.mb(h:Kc W W'){B:Nat}(r:aU B W v n):aU B W' v n:=r.turn (fun _ _ hz=>h _ _ hz rfl)
theorem tK{A B:World}{row:Option Nat}(hg:A.grownBy B row)(hr:∀r,row=some r->base<=r/\∃o:Obj,A.heap[r]?=some o/\o.isCells=false):Kc A B:=fun j o hj ho=>hg.block j (ah.1 hj).1 (fun e=>by obtain⟨_,o',h1,h2⟩:=hr j e.symm;rw[hj]at h1;cases h1;rw[ho]at h2;cases h2)
theorem uE{A B:World}{row:Option Nat}(hb:w.heap.size<=base)(hg:A.grownBy B row)(hr:∀r,row=some r->base<=r/\∃o:Obj,A.heap[r]?=some o/\o.isCells=false):Out (fun j=>w.heap.size<=j) A B:=
 ⟨hg.os,hg.tape,hg.output,hg.size,fun j hj hn=>hg.block j hj (fun e=>by have:=(hr j e.symm).1;omega)⟩
theorem acK{D:Nat}{o:Obj}(o':Obj)(h:W.heap[D]?=some o)(ho:o.isCells=false):Kc W (W.putObj D o'):=fun j ob hj hc=>World.putObj_heap_other (fun e=>by subst e;rw[hj]at h;cases h;rw[hc]at ho;cases ho)
def Marks(S:Nat)(W:World):Nat->List Deferred->Prop
 |_,[]=>True
 |B,d :: ds=>∃D,d={ target:=.collected D,args:=#[] }/\S<=D/\D<B/\W.heap[D]?=some (.deferred (some []))/\Marks S W D ds
theorem Marks.turn{S:Nat}:∀ {B:Nat} {ds:List Deferred},Marks S W B ds->(∀D,S<=D->D<B->W.heap[D]?=some (.deferred (some []))->W'.heap[D]?=W.heap[D]?)->Marks S W' B ds
 |_,[],_,_=>trivial
 |_,_ :: _,⟨D,h1,h2,h3,h4,h5⟩,k=>⟨D,h1,h2,h3,(k D h2 h3 h4).trans h4,h5.turn (fun D' a b c=>k D' a (by omega) c)⟩
theorem kN{S n:Nat}{fn:Func}{tmps:Array Value}{R:Ending->World->Prop}:∀ {ds:List Deferred} {B:Nat} {W:World},Marks S W B ds->(∀W',Kc W W'->Out (fun j=>S<=j) W W'->LeavesIn Fence.wide n Tryz.prog fn tmps R [] .returning W')->LeavesInM Fence.wide n Tryz.prog fn tmps R ds .returning W
 |[],_,W,_,h=>h W (fun _ _ _ _=>rfl) (Out.refl _ _)
 |_ :: _,_,W,⟨D,e,h2,h3,h4,h5⟩,h=>by subst e;refine⟨by simp,.inl ⟨D,_,rfl,run_takeDeferred h4,?_⟩⟩;have kc:=acK (.deferred none) h4 rfl;have o:Out (fun j=>S<=j) W (W.putObj D (.deferred none)):=⟨rfl,rfl,rfl,by simp,fun j _ hn=>World.putObj_heap_other (fun e=>hn (by omega))⟩;refine kN (h5.turn (fun D' a b c=>World.putObj_heap_other (by omega))) (fun W' k' o'=>h W' (fun j ob hj hc=>?_) (o.trans o'));exact(k' j ob ((kc j ob hj hc).trans hj) hc).trans (kc j ob hj hc)
end
section
open Go.RowKit
section
variable {w W W' : World} {gz gw gv gr gd gm gt gk ge g B gb gp db p : Nat} {s l m : Int} {T : bJ} {zs : List Nat} {c : Nat} {L : List (Value × Nat)}
theorem fc.way(h:fc w gz gw gv gr gd gm gt gk ge g s l m T):w.cell? ⟨gz,0,none⟩=some (.pointer (some ⟨gw,0,none⟩))/\w.cell? ⟨gw,0,none⟩=some (.pointer (some ⟨gv,0,none⟩))/\w.cell? ⟨gv,0,none⟩=some (.pointer (some ⟨gr,0,none⟩))/\w.cell? ⟨gr,0,none⟩=some (.pointer (some ⟨gd,0,none⟩))/\w.cell? ⟨gd,0,none⟩=some (.pointer (some ⟨gm,0,none⟩)):=⟨h.ptr,h.root.way⟩
theorem fc.tb(h:fc w gz gw gv gr gd gm gt gk ge g s l m T)(o:Out (·=g) w W)(t:TB w):TB W:=h.root.tb o t
theorem fc.vV{l':Int}(h:fc w gz gw gv gr gd gm gt gk ge g s l m T)(k:fc W gz gw gv gr gd gm gt gk ge g s' l' m' T)(o:Out (fun j=>w.heap.size<=j) W W'):fc W' gz gw gv gr gd gm gt gk ge g s' l' m' T:=by obtain⟨l1,l2,l3,l4,l5,l6,l7,l8⟩:=h.root.div.Ut;have l9:=h.lt;have l0:=h.root.lt;exact k.out o (by omega) (by omega) (by omega) (by omega) (by omega) (by omega) (by omega) (by omega) (by omega) (by omega)
end
theorem Sd{o:Obj}(h:gQ w g 0 s l m)(ho:w.heap[g]?=some o)(hc:o.isCells=false):False:=by obtain⟨o',h1,h2⟩:=cells_of_cell h.c0;have h1:w.heap[g]?=some o':=h1;rw[ho]at h1;obtain rfl:=aZ h1;rw[hc]at h2;cases h2
theorem QW{zs:List Nat}{o:Obj}(h:cW w g zs)(ho:w.heap[g]?=some o)(hc:o.isCells=false):False:=by have h1:w.heap[g]?=_:=h;rw[ho]at h1;obtain rfl:=aZ h1;cases hc
structure ZK where
 w:World
 gz:Nat
 gw:Nat
 gv:Nat
 gr:Nat
 gd:Nat
 gm:Nat
 gt:Nat
 gk:Nat
 ge:Nat
 g:Nat
 s:Int
 l:Int
 m:Int
 T:bJ
 B:Nat
 gb:Nat
 gp:Nat
 db:Nat
 p:Nat
 X:List (Nat×Obj)
 N:World
structure ZS(K:ZK):Prop where
 iG:fc K.w K.gz K.gw K.gv K.gr K.gd K.gm K.gt K.gk K.ge K.g K.s K.l K.m K.T
 tb:TB K.w
 s0:K.s<=288230376151711744
 l0:0<=K.l
 l9:K.l<=900
 b0:K.w.heap.size<=K.gb
 b1:K.gb<K.B
 b2:K.B<=K.gp
 p2:2<=K.p
 p9:K.p<18446744073709551616
 d0:0<K.db
 d9:K.db<=64
 bx:∀x,x ∈ K.X->K.B<=x.1/\x.1≠K.gp
section
variable {K : ZK} {W W' : World} {zs : List Nat} {c : Nat} {L : List (Value × Nat)}
theorem ZS.g'(h:ZS K):K.g<K.gb:=az h.iG.met.lt h.b0
def AY(K:ZK)(n:Nat)(v:Value)(us:List Value)(W:World):Prop:=
 W.heap[K.gp]?=some (.cells #[.pointer (some ⟨K.gz,0,none⟩),.int .i64 (K.db:Int),v] 117 (0,0))/\W.ownsRow K.B 38 1 v n us/\(∀j,j<n->aU K.B W (us.getD j undef) (K.p^2^j))/\∀x,x ∈ K.X->v.ownBlock≠some x.1
theorem AY.turn(h:AY K n v us W)(hb:K.B<=K.gp)(k:∀j,K.B<=j->j<W.heap.size->W'.heap[j]?=W.heap[j]?):AY K n v us W':=by
 obtain⟨h1,h2,h3,h4⟩:=h;refine⟨(k K.gp hb (ah.1 h1).1).trans h1,⟨h2.1,?_⟩,fun j hj=>?_,h4⟩
 ·rcases h2.2 with h0|⟨g,cap,cur,hv,hb,hg,rest⟩
  ·exact .inl h0
  ·exact .inr ⟨g,cap,cur,hv,hb,(k g hb (ah.1 hg).1).trans hg,rest⟩
 ·obtain⟨xs,hc,hv,r|⟨g,ys,hg,e,hk,hl⟩⟩:=h3 j hj
  ·exact⟨xs,hc,hv,Or.inl r⟩
  ·exact⟨xs,hc,hv,Or.inr ⟨g,ys,hg,e,(k g hg hk.lt).trans hk,hl⟩⟩
structure ZB(K:ZK)(zs:List Nat)(c:Nat)(L:List (Value×Nat))(W:World):Prop where
 at':∃s' m',fc W K.gz K.gw K.gv K.gr K.gd K.gm K.gt K.gk K.ge K.g s' K.l m' K.T/\(0<=s'/\s'<=K.s+(c:Int))/\Out (·=K.g) K.w W
 size:K.B<=W.heap.size
 row:cW W K.gb zs
 IM:∃n v us,AY K n v us W/\0<n/\n<=14
 live:∀x,x ∈ L->aU K.B W x.1 x.2
 box:∀x,x ∈ K.X->W.heap[x.1]?=some x.2
 nc:K.N.heap.size<=W.heap.size/\∀(j:Nat) (o:Obj),K.N.heap[j]?=some o->o.isCells=false->W.heap[j]?=some o
def zp(K:ZK)(W:World):Prop:=W.cell? ⟨K.gp,0,none⟩=some (.pointer (some ⟨K.gz,0,none⟩))/\W.cell? ⟨K.gz,0,none⟩=some (.pointer (some ⟨K.gw,0,none⟩))/\W.cell? ⟨K.gw,0,none⟩=some (.pointer (some ⟨K.gv,0,none⟩))/\W.cell? ⟨K.gv,0,none⟩=some (.pointer (some ⟨K.gr,0,none⟩))/\W.cell? ⟨K.gr,0,none⟩=some (.pointer (some ⟨K.gd,0,none⟩))/\W.cell? ⟨K.gd,0,none⟩=some (.pointer (some ⟨K.gm,0,none⟩))
theorem ZB.way(h:ZB K zs c L W):zp K W:=by obtain⟨_,_,E,_,_⟩:=h.at';obtain⟨_,_,_,⟨h1,_⟩,_⟩:=h.IM;exact⟨ay _ K.gp 0 _ _ (0,0) h1,E.way⟩
theorem ZB.aeE(h:ZB K zs c L W):(W.cell? ⟨K.gm,0,none⟩=some (.pointer (some ⟨K.gt,0,none⟩))/\W.cell? ⟨K.gt,0,none⟩=some (.pointer (some ⟨K.gk,0,none⟩))/\W.cell? ⟨K.gk,0,none⟩=some (.pointer (some ⟨K.ge,0,none⟩))/\W.cell? ⟨K.ge,0,none⟩=some (.pointer (some ⟨K.g,0,none⟩))/\W.cell? ⟨K.g,9,none⟩=some (.int .i64 (K.T.bD.row.getD 6 0))):=by obtain⟨_,_,E,_,_⟩:=h.at';obtain⟨_,_,_,e3,e4,e5,e6⟩:=E.root.div.way;exact⟨e3,e4,e5,e6,E.root.div.nP.div.mul.jf.fY.tab 6 (by decide)⟩
theorem ZB.bits(h:ZB K zs c L W):W.cell? ⟨K.gp,1,none⟩=some (.int .i64 (K.db:Int)):=by obtain⟨_,_,_,⟨h1,_⟩,_⟩:=h.IM;exact ay _ K.gp 1 _ _ (0,0) h1
theorem ZB.out(h:ZB K zs c L W):Out (·=K.g) K.w W:=by obtain⟨_,_,_,_,o⟩:=h.at';exact o
theorem ZB.next(h:ZB K zs c L W)(hb:K.B<=K.gp)(b:Below W.heap.size W W'):ZB K zs c L W':=by obtain⟨⟨s',m',E,k,o⟩,h1,h2,⟨n,v,us,h3,h4⟩,h5,h6,h7⟩:=h;exact⟨⟨s',m',E.next b,k,o.next b⟩,ak h1 b.size,h2.next b,⟨n,v,us,h3.turn hb (fun j _ hj=>b.block j hj),h4⟩,fun x hx=>(h5 x hx).next b,fun x hx=>(b.block _ (ah.1 (h6 x hx)).1).trans (h6 x hx),⟨ak h7.1 b.size,fun j o hj ho=>(b.block _ (ah.1 (h7.2 j o hj ho)).1).trans (h7.2 j o hj ho)⟩⟩
theorem ZB.sub{L':List (Value×Nat)}(h:ZB K zs c L W)(hs:∀x,x ∈ L'->x ∈ L):ZB K zs c L' W:=⟨h.at',h.size,h.row,h.IM,fun x hx=>h.live x (hs x hx),h.box,h.nc⟩
theorem ZB.up(h:ZB K zs c L W)(hd:c<=d):ZB K zs d L W:=by obtain⟨⟨s',m',E,k,o⟩,h1,h2,h3,h4,h5,h6⟩:=h;exact⟨⟨s',m',E,⟨k.1,by omega⟩,o⟩,h1,h2,h3,h4,h5,h6⟩
theorem ZB.turn{c':Nat}(h:ZB K zs c L W)(S:ZS K)(o:Out (·=K.g) W W')(E:fc W' K.gz K.gw K.gv K.gr K.gd K.gm K.gt K.gk K.ge K.g s' K.l m' K.T)(h0:0<=s')(h1:s'<=K.s+(c':Int)):ZB K zs c' L W':=by have hg:=S.g';have hb:=S.b1;obtain⟨⟨_,_,E0,_,o'⟩,h2,h3,⟨n,v,us,h4,h5⟩,h6,h7,h8⟩:=h;exact⟨⟨s',m',E,⟨h0,h1⟩,o'.trans o⟩,ak h2 o.size,o.kM h3 (by omega),⟨n,v,us,h4.turn S.b2 (fun j h1 h2=>o.block j h2 (by omega)),h5⟩,fun x hx=>o.mb (h6 x hx) (fun k e=>by omega),fun x hx=>(o.block _ (ah.1 (h7 x hx)).1 (by have:=(S.bx x hx).1;omega)).trans (h7 x hx),⟨ak h8.1 o.size,fun j ob hj ho=>(o.block _ (ah.1 (h8.2 j ob hj ho)).1 (fun e=>Sd E0.met (by rw[<-e];exact h8.2 j ob hj ho) ho)).trans (h8.2 j ob hj ho)⟩⟩
theorem ZB.write(h:ZB K zs c L W)(S:ZS K)(o:Out (·=K.gb) W W')(k:cW W' K.gb ys):ZB K ys c L W':=by have hg:=S.g';have hb:=S.b1;have Ab:=S.b0;obtain⟨⟨s',m',E,k',o'⟩,h2,h3,⟨n,v,us,h4,h5⟩,h6,h7,h8⟩:=h;exact⟨⟨s',m',S.iG.vV E (o.mono (fun j e=>by omega)),k',o'.fresh o (fun i e=>Or.inr (by omega))⟩,ak h2 o.size,k,⟨n,v,us,h4.turn S.b2 (fun j h1 h2=>o.block j h2 (by omega)),h5⟩,fun x hx=>o.mb (h6 x hx) (fun k e=>by omega),fun x hx=>(o.block _ (ah.1 (h7 x hx)).1 (by have:=(S.bx x hx).1;omega)).trans (h7 x hx),⟨ak h8.1 o.size,fun j ob hj ho=>(o.block _ (ah.1 (h8.2 j ob hj ho)).1 (fun e=>QW h3 (by rw[<-e];exact h8.2 j ob hj ho) ho)).trans (h8.2 j ob hj ho)⟩⟩
theorem ZB.call(h:ZB K zs c L W)(hb:K.B<=K.gp){f:FuncId}{av:Array Value}{N:Nat}{W0:World}(C:Calls Tryz.prog f av W0 fun e w'=>∃r,e=.returned r/\aU W.heap.size w' r N/\Below W.heap.size W w'):Calls Tryz.prog f av W0 fun e w'=>∃ga la ca,e=.returned (.slice ga la ca)/\ZB K zs c ((.slice ga la ca,N) :: L) w':=by
 refine C.mono ?_;rintro e w' ⟨r,rfl,nr,b⟩;have nr':=nr.mono h.size;obtain⟨ga,la,ca,rfl⟩:=nr.shape;obtain⟨h1,h2,h3,h4,h5,h6,h7⟩:=h.next hb b;refine⟨ga,la,ca,rfl,h1,h2,h3,h4,fun x hx=>?_,h6,h7⟩;rcases ei.1 hx with rfl|hx
 ·exact nr'
 ·exact h5 x hx
theorem ZB.mul(h:ZB K zs c L W)(S:ZS K)(h1:c<=288230376151711744)(hu:jg W u A)(hv:jg W v C):Calls Tryz.prog 74 #[.pointer (some ⟨K.gm,0,none⟩),u,v] W fun e w'=>∃ga la ca,e=.returned (.slice ga la ca)/\ZB K zs (c+4294967296) ((.slice ga la ca,A*C) :: L) w':=by
 obtain⟨s',m',E,k,o⟩:=h.at';have E':=E.root;have:=S.s0;refine(VG Tm W K.gm K.gt K.gk K.ge K.g s' K.l m' K.T u v A C E'.div.nP.div.mul (S.iG.tb o S.tb) k.1 (by omega) S.l0 (by have:=S.l9;omega) hu hv).mono ?_;rintro e w' ⟨r,s2,m2,rfl,nr,E2,k1,k2,o2⟩;obtain⟨ga,la,ca,rfl⟩:=nr.shape;have F:=h.turn (c':=c+4294967296) S o2 (E.kept o2 (E'.kept o2 (E'.div.kept o2 (E'.div.nP.kept o2 (E'.div.nP.div.kept o2 E2))))) k1 (by omega);refine⟨ga,la,ca,rfl,F.at',F.size,F.row,F.IM,fun x hx=>?_,F.box,F.nc⟩;rcases ei.1 hx with rfl|hx
 ·exact nr.mono h.size
 ·exact F.live x hx
theorem ZB.div(h:ZB K zs c L W)(S:ZS K)(h1:c<=288230376151711744)(hu:jg W u A)(hv:jg W v C)(hC:0<C)(wA:wl A<=250):Calls Tryz.prog 70 #[.pointer (some ⟨K.gv,0,none⟩),u,v] W fun e w'=>∃ga la ca ha hl hc,e=.returned (.tuple #[.slice ga la ca,.slice ha hl hc,.int .i64 0])/\ZB K zs (c+4294967296) ((.slice ga la ca,A/C) :: (.slice ha hl hc,A%C) :: L) w':=by
 obtain⟨s',m',E,k,o⟩:=h.at';have E':=E.root;have:=S.s0;have hq:wl A*wl A<=250*250:=aP wA wA;refine(J7 W K.gv K.gr K.gd K.gm K.gt K.gk K.ge K.g s' K.l m' K.T u v A C E'.div (S.iG.tb o S.tb) k.1 (by omega) S.l0 (by have:=S.l9;omega) hu hv hC (by omega)).mono ?_;rintro e w' ⟨q,r,gq,gx,s2,m2,k1,k2,k3,⟨k4,k5,k6⟩,k7,k8,k9,k0,k11,k12⟩;have sz:=h.size;obtain⟨ga,la,ca,rfl⟩:=k2.rb.shape;obtain⟨ha,hl,hc,rfl⟩:=k3.rb.shape;have F:=h.turn (c':=c+4294967296) S k12 (E.kept k12 (E'.kept k12 k7)) (by omega) (by omega);refine⟨ga,la,ca,ha,hl,hc,k1,F.at',F.size,F.row,F.IM,fun x hx=>?_,F.box,F.nc⟩;rcases ei.1 hx with rfl|hx
 ·exact k2.rb.mono (by omega)
 rcases ei.1 hx with rfl|hx
 ·exact k3.rb.mono (by omega)
 ·exact F.live x hx
end
end
section
open Go.RowKit
theorem Yl{t:Nat}{xs:List Value}(h:w.ownsRow base t 1 v (k+1) xs):∃g c cur,v=.slice (some ⟨g,0,none⟩) (k+1) c/\base<=g/\w.heap[g]?=some (.cells cur t (0,0)):=by
 rcases h.2 with⟨_,h0⟩|⟨g,cap,cur,hv,hb,hg,_⟩
 ·omega
 ·exact⟨g,cap,cur,hv,hb,hg⟩
section
variable {K : ZK} {W : World} {zs : List Nat} {c : Nat} {L : List (Value × Nat)}
theorem ZB.grow(h:ZB K zs c L W)(S:ZS K)(hP:AY K n v us W)(hn:n<=13)(hr:aU K.B W r (K.p^2^n)):∃g1 c1 w1,(Builtin.append_ #[115,115] 115 #[v,.slice (some ⟨W.heap.size,0,none⟩) 1 1]).run Tryz.prog (W.alloc (.cells #[r] 38))=.ok (.slice (some ⟨g1,0,none⟩) (n+1) c1) w1/\zp K w1/\w1.cell? ⟨K.gp,2,none⟩=some v/\w1.frozen? ⟨K.gp,2,none⟩=false/\AY K (n+1) (.slice (some ⟨g1,0,none⟩) (n+1) c1) (us++[r]) (w1.setCell ⟨K.gp,2,none⟩ (.slice (some ⟨g1,0,none⟩) (n+1) c1))/\ZB K zs c L (w1.setCell ⟨K.gp,2,none⟩ (.slice (some ⟨g1,0,none⟩) (n+1) c1)):=by
 obtain⟨i0,hi,jx,gY,fX⟩:=rG Tryz.G4;have tE:=S.b1;have jA:=S.b2;have Ab:=S.b0;have kF:=h.size;obtain⟨h1,h2,h3,h4⟩:=hP;obtain⟨ra,rl,rc,hrs⟩:=hr.shape;obtain⟨v',w1,ir,cV,ji,_,hat⟩:=run_append_own_at (P:=Tryz.prog) (W.alloc (.cells #[r] 38)) K.B 115 115 38 i0 (.slice none 0 0) 1 24 ZF hi jx gY fX rfl (by omega) v n us (h2.alloc _) ⟨W.heap.size,0,none⟩ 1 1 [r] rfl
  (by exact fU W [r] 38) (by intro u hu;simp at hu;subst hu;rw[hrs];rfl) (by unfold maxLen;omega) (by omega) (by rw[aL];omega)
 obtain⟨g1,c1,afH,rfl,Po,MZ⟩:=Yl cV;have hv:∀j,v.ownBlock=some j->K.B<=j/\j<W.heap.size/\∃cur:Array Value,W.heap[j]?=some (.cells cur 38 (0,0)):=fun j ej=>by
  rcases h2.2 with⟨e,_⟩|⟨g',bM,cur,e,Pm,yQ,_⟩
  ·rw[e]at ej;simp[Value.ownBlock]at ej
  ·rw[e]at ej;obtain rfl:g'=j:=(by simpa [Value.ownBlock]using ej);exact⟨Pm,(ah.1 yQ).1,cur,yQ⟩
 have KK:∀j,j<W.heap.size->(j<K.B\/∃cur t,t≠38/\W.heap[j]?=some (.cells cur t (0,0)))->w1.heap[j]?=W.heap[j]?:=fun j hj hn=>by
  refine(ji.block j (by rw[aL];omega) (fun e=>?_)).trans ((nI W _ none).block j hj (by simp));obtain⟨k1,k2,cur,k3⟩:=hv j e.symm;rcases hn with hn|⟨afG,t,ht,k4⟩
  ·omega
  ·have:=k4.symm.trans k3;simp at this;exact ht this.2
 have sz:W.heap.size<w1.heap.size:=by have:=ji.size;rw[aL]at this;exact this
 have gpl:K.gp<W.heap.size:=(ah.1 h1).1;have e1:=(KK K.gp gpl (Or.inr ⟨_,_,by decide,h1⟩)).trans h1;have hne:K.gp≠g1:=fun e=>by subst e;have:=e1.symm.trans MZ;simp at this
 have fin:∀j,j<W.heap.size->j≠K.gp->(j<K.B\/∃cur t,t≠38/\W.heap[j]?=some (.cells cur t (0,0)))->(w1.setCell ⟨K.gp,2,none⟩ (.slice (some ⟨g1,0,none⟩) (n+1) c1)).heap[j]?=W.heap[j]?:=fun j hj hne hk=>(bo _ _ _ _ (fun e=>hne e)).trans (KK j hj hk);have vV:Out (fun j=>K.w.heap.size<=j) W (w1.setCell ⟨K.gp,2,none⟩ (.slice (some ⟨g1,0,none⟩) (n+1) c1)):=⟨ji.os,ji.tape,ji.output,by rw[show(w1.setCell ⟨K.gp,2,none⟩ (.slice (some ⟨g1,0,none⟩) (n+1) c1)).heap.size=w1.heap.size by simp];omega,fun j hj hn=>fin j hj (by omega) (Or.inl (by omega))⟩;have new:∀x y,aU K.B W x y->aU K.B (w1.setCell ⟨K.gp,2,none⟩ (.slice (some ⟨g1,0,none⟩) (n+1) c1)) x y:=fun x y hx=>hx.turn (fun k ys hk=>fin k hk.lt (fun e=>by subst e;have:=h1.symm.trans hk;simp at this) (Or.inr ⟨_,_,by decide,hk⟩));have aeU:Out (fun j=>K.w.heap.size<=j) W w1:=⟨ji.os,ji.tape,ji.output,by omega,fun j hj hn=>KK j hj (Or.inl (by omega))⟩;have ch1:zp K w1:=by obtain⟨_,_,E,_,_⟩:=h.at';exact⟨ay _ K.gp 0 _ _ (0,0) e1,(S.iG.vV E aeU).way⟩
 refine⟨g1,c1,w1,ir,ch1,ay _ K.gp 2 _ _ (0,0) e1,bZ _ K.gp 2 _ _ e1,?_⟩;have hPw:AY K (n+1) (.slice (some ⟨g1,0,none⟩) (n+1) c1) (us++[r]) (w1.setCell ⟨K.gp,2,none⟩ (.slice (some ⟨g1,0,none⟩) (n+1) c1)):=by
  refine⟨?_,⟨cV.1,?_⟩,fun j hj=>?_,fun x hx e=>?_⟩
  ·rw[jC w1 K.gp 2 _ _ _ e1];rfl
  ·rcases cV.2 with⟨e,_⟩|⟨g',bM,cur,e,k1,k2,k3⟩
   ·cases e
   ·cases e;exact Or.inr ⟨_,_,cur,rfl,k1,(bo _ _ _ _ (Ne.symm hne)).trans k2,k3⟩
  ·rw[zC];have Pt:us.length=n:=(by simpa using h2.1);by_cases dh:j<n
   ·rw[aW (by omega)];exact new _ _ (h3 j dh)
   ·obtain rfl:j=n:=(by omega);rw[aV (by omega),aW Pt.symm];exact new _ _ hr
  ·have Fb:=(ah.1 (h.box x hx)).1;rcases hat with h5|h5
   ·exact h4 x hx (h5.symm.trans e)
   ·rw[h5,aL]at e;have:=aZ e;omega
 have hbx:∀x,x ∈ K.X->(w1.setCell ⟨K.gp,2,none⟩ (.slice (some ⟨g1,0,none⟩) (n+1) c1)).heap[x.1]?=some x.2:=fun x hx=>by have Fb:=(ah.1 (h.box x hx)).1;exact(bo _ _ _ _ (S.bx x hx).2).trans ((ji.block x.1 (by rw[aL];omega) (fun e=>h4 x hx e.symm)).trans (((nI W _ none).block x.1 Fb (by simp)).trans (h.box x hx)))
 have hnc:∀(j:Nat) (ob:Obj),K.N.heap[j]?=some ob->ob.isCells=false->(w1.setCell ⟨K.gp,2,none⟩ (.slice (some ⟨g1,0,none⟩) (n+1) c1)).heap[j]?=some ob:=fun j ob hj ho=>by
  have e:=h.nc.2 j ob hj ho;have Fb:=(ah.1 e).1;have n1:j≠K.gp:=fun e1=>by rw[e1,h1]at e;obtain rfl:=aZ e;cases ho
  refine(bo _ _ _ _ n1).trans ((ji.block j (by rw[aL];omega) (fun e1=>?_)).trans (((nI W _ none).block j Fb (by simp)).trans e));obtain⟨_,_,cur,k3⟩:=hv j e1.symm;rw[k3]at e;obtain rfl:=aZ e;cases ho
 obtain⟨⟨s',m',E,k,o⟩,q2,q3,q4,q5,q6,q7⟩:=h;exact⟨hPw,⟨s',m',S.iG.vV E vV,k,o.fresh vV (fun i hi=>Or.inr hi)⟩,by have:=vV.size;omega,(fin K.gb q3.lt (by omega) (Or.inl tE)).trans q3,⟨n+1,_,_,hPw,by omega,by omega⟩,fun x hx=>new _ _ (q5 x hx),hbx,⟨ak q7.1 vV.size,hnc⟩⟩
def Es(N W:World):Prop:=N.heap.size<=W.heap.size/\∀(j:Nat) (o:Obj),N.heap[j]?=some o->o.isCells=false->W.heap[j]?=some o
theorem Es.next{N:World}(h:Es N W)(b:Below W.heap.size W W'):Es N W':=⟨ak h.1 b.size,fun j o hj hc=>(b.block j (by have:=(ah.1 hj).1;have:=h.1;omega)).trans (h.2 j o hj hc)⟩
theorem Es.trans{N:World}(h:Es N W)(k:Es W W'):Es N W':=⟨ak h.1 k.1,fun j o hj hc=>k.2 j o (h.2 j o hj hc) hc⟩
theorem YY(hN:Es K.N W)(hX:K.X=[])(hg:K.gp=W.heap.size+1)(E:fc W K.gz K.gw K.gv K.gr K.gd K.gm K.gt K.gk K.ge K.g s' K.l m' K.T)(h0:0<=s')(h1:s'<=K.s+(c:Int))(o:Out (·=K.g) K.w W)(hB:K.B<=W.heap.size)(hZ:cW W K.gb zs)(hr:aU K.B W r K.p):ZB K zs c [] ((W.alloc (.cells #[r] 38)).alloc (.cells #[.pointer (some ⟨K.gz,0,none⟩),.int .i64 (K.db:Int),.slice (some ⟨W.heap.size,0,none⟩) 1 1] 117)):=by
 obtain⟨ra,rl,rc,hrs⟩:=hr.shape;have b:Below W.heap.size W ((W.alloc (.cells #[r] 38)).alloc (.cells #[.pointer (some ⟨K.gz,0,none⟩),.int .i64 (K.db:Int),.slice (some ⟨W.heap.size,0,none⟩) 1 1] 117)):=((aj _ W).alloc (af _) _).alloc (by simp) _;refine⟨⟨s',m',E.next b,⟨h0,h1⟩,o.next b⟩,ak hB b.size,hZ.next b,⟨1,_,[r],⟨?_,⟨rfl,Or.inr ⟨W.heap.size,1,#[r],rfl,hB,?_,af _,by unfold maxLen;omega,rfl,rfl⟩⟩,fun j hj=>?_,fun x hx=>?_⟩,by omega,by omega⟩,(fun x hx=>by cases hx),(fun x hx=>by rw[hX]at hx;cases hx),hN.next b⟩
 ·have:=aI (W.alloc (.cells #[r] 38)) (.cells #[.pointer (some ⟨K.gz,0,none⟩),.int .i64 (K.db:Int),.slice (some ⟨W.heap.size,0,none⟩) 1 1] 117);rw[aL, <-hg]at this;exact this
 ·exact(FY _ _ _ (by simp)).trans (aI W _)
 ·obtain rfl:j=0:=by omega
  have:=hr.next b;rw[cL,fi];exact this
 ·rw[hX]at hx;cases hx
end
end
section
open Go.RowKit
set_option linter.unusedSimpArgs false
theorem XE(h:p<18446744073709551616){e:Nat}(he:0<e):wl (p^e)<=e:=iY _ _ (Nat.pow_lt_pow_left h (by omega))
theorem AF(h:p<18446744073709551616)(hi:i<=13):wl (p^2^i)<=8192:=by have h1:=XE h (bC i);have h2:=aA (n:=2) (by omega) hi;omega
theorem aap(p n:Nat)(h:0<n):p^2^(n-1)*p^2^(n-1)=p^2^n:=by obtain⟨k,rfl⟩:∃k,n=k+1:=⟨n-1,by omega⟩;rw[<-aQ,dF,aE,Nat.mul_two]
def acM:Option Value->Nat
 |some (.slice _ n _)=>n
 |_=>0
section
variable {K : ZK} {W : World} {zs : List Nat} {c : Nat} {L : List (Value × Nat)}
theorem AY.is(h:AY K n v us W)(h0:0<n):∃gq cap,v=.slice (some ⟨gq,0,none⟩) n cap/\n<=cap/\W.cell? ⟨K.gp,2,none⟩=some v/\∀j,j<n->W.cell? ⟨gq,j,none⟩=some (us.getD j undef):=by
 obtain⟨ga,b,cap,rfl,hl,h1,h2⟩:=uS h.2.1;obtain⟨rfl,_⟩:=h1 h0;refine⟨b,cap,rfl,?_,ay _ K.gp 2 _ _ (0,0) h.1,fun j hj=>by have:=h2 j hj;rwa [bh]at this⟩;rcases h.2.1.2 with⟨e,_⟩|⟨_,_,_,e,_,_,h3,_⟩
 ·cases e
 ·cases e;exact h3
theorem ZB.step(h:ZB K zs c L W)(S:ZS K)(hP:AY K n v us W)(h0:0<n)(hn:n<=13)(h1:c<=288230376151711744):Calls Tryz.prog 84 #[.pointer (some ⟨K.gm,0,none⟩),us.getD (n-1) undef] W fun e w'=>∃ra rl rc,e=.returned (.slice ra rl rc)/\ZB K zs (c+4294967296) L w'/\AY K n v us w'/\aU K.B w' (.slice ra rl rc) (K.p^2^n):=by
 obtain⟨s',m',E,k,o⟩:=h.at';have E':=E.root;have:=S.s0;have hg:=S.g';have hb:=S.b1;have hu:jg W (us.getD (n-1) undef) (K.p^2^(n-1)):=(hP.2.2.1 (n-1) (by omega)).toM (jM (ak (AF S.p9 (by omega)) (show 8192<=16384 by omega))) (af _);refine(VH To W K.gm K.gt K.gk K.ge K.g s' K.l m' K.T _ _ E'.div.nP.div.mul (S.iG.tb o S.tb) k.1 (by omega) S.l0 (by have:=S.l9;omega) hu).mono ?_;rintro e w' ⟨r,s2,m2,rfl,nr,E2,k1,k2,o2⟩;obtain⟨ra,rl,rc,rfl⟩:=nr.shape;rw[aap K.p n h0]at nr;exact⟨ra,rl,rc,rfl,h.turn S o2 (E.kept o2 (E'.kept o2 (E'.div.kept o2 (E'.div.nP.kept o2 (E'.div.nP.div.kept o2 E2))))) k1 (by omega),hP.turn S.b2 (fun j h1 h2=>o2.block j h2 (by omega)),nr.mono h.size⟩
theorem se(S:ZS K)(h:ZB K zs c L W)(i:Nat)(hi:i<=13)(h1:c<=280000000000000000):Calls Tryz.prog 71 #[.pointer (some ⟨K.gp,0,none⟩),.int .i64 (i:Int)] W fun e w'=>∃ga la ca,e=.returned (.slice ga la ca)/\ZB K zs (c+60129542144) ((.slice ga la ca,K.p^2^i) :: L) w':=by
 obtain⟨n0,v0,us0,ke,Uk,qH⟩:=h.IM;have H0:=ag (And.intro h ke);have HX:Hid (∀W n v us d,ZB K zs d L W/\AY K n v us W->0<n->n<=13->d<=c+60129542144->Calls Tryz.prog 84 #[.pointer (some ⟨K.gm,0,none⟩),us.getD (n-1) undef] W fun e w'=>∃ra rl rc,e=.returned (.slice ra rl rc)/\(ZB K zs (d+4294967296) L w'/\AY K n v us w')/\aU K.B w' (.slice ra rl rc) (K.p^2^n)):=fun W n v us d h k0 k1 k2=>(h.1.step S h.2 k0 k1 (by omega)).mono fun e w' ⟨ra,rl,rc,a,b,c,d⟩=>⟨ra,rl,rc,a,⟨b,c⟩,d⟩;have HY:Hid (∀W n v us d,ZB K zs d L W/\AY K n v us W->zp K W):=fun W n v us d h=>h.1.way;have HZ:Hid (∀W n v us d ra rl rc,ZB K zs d L W/\AY K n v us W->n<=13->aU K.B W (.slice ra rl rc) (K.p^2^n)->∃g1 c1 w1,(Builtin.append_ #[115,115] 115 #[v,.slice (some ⟨W.heap.size,0,none⟩) 1 1]).run Tryz.prog (W.alloc (.cells #[.slice ra rl rc] 38))=.ok (.slice (some ⟨g1,0,none⟩) (n+1) c1) w1/\zp K w1/\w1.cell? ⟨K.gp,2,none⟩=some v/\w1.frozen? ⟨K.gp,2,none⟩=false/\zp K (w1.setCell ⟨K.gp,2,none⟩ (.slice (some ⟨g1,0,none⟩) (n+1) c1))/\
   ZB K zs d L (w1.setCell ⟨K.gp,2,none⟩ (.slice (some ⟨g1,0,none⟩) (n+1) c1))/\AY K (n+1) (.slice (some ⟨g1,0,none⟩) (n+1) c1) (us++[.slice ra rl rc]) (w1.setCell ⟨K.gp,2,none⟩ (.slice (some ⟨g1,0,none⟩) (n+1) c1))):=fun W n v us d ra rl rc h hn hr=>by
  obtain⟨g1,c1,w1,k1,k2,k3,k4,k5,k6⟩:=h.1.grow S h.2 hn hr;exact⟨g1,c1,w1,k1,k2,k3,k4,k6.way,k6,k5⟩
 have HF:Hid (∀W n v us d ga la ca,ZB K zs d L W/\AY K n v us W->i<n->d<=c+60129542144->us.getD i undef=.slice ga la ca->ZB K zs (c+60129542144) ((.slice ga la ca,K.p^2^i) :: L) W):=fun W n v us d ga la ca h hi hd he=>by
  have hz:=h.1.up hd;refine⟨hz.at',hz.size,hz.row,hz.IM,fun x hx=>?_,hz.box,hz.nc⟩;rcases ei.1 hx with rfl|hx
  ·rw[<-he];exact h.2.2.2.1 i hi
  ·exact hz.live x hx
 have HD:Hid (∀W n v us d,ZB K zs d L W/\AY K n v us W->ZB K zs d L W.drew/\AY K n v us W.drew):=fun W n v us d h=>⟨h.1.next S.b2 (aj _ _).drew,h.2.turn S.b2 (fun _ _ _=>rfl)⟩;have HV:Hid (∀W n v us,AY K n v us W->0<n->∃gq cap,v=.slice (some ⟨gq,0,none⟩) n cap/\n<=cap/\W.cell? ⟨K.gp,2,none⟩=some v/\∀j,j<n->W.cell? ⟨gq,j,none⟩=some (us.getD j undef)):=fun W n v us h k=>h.is k;have H2:Hid (∀W n v us,AY K n v us W->W.cell? ⟨K.gp,2,none⟩=some v):=fun W n v us h=>ay _ K.gp 2 _ _ (0,0) h.1;have HS:Hid (∀W n v us,AY K n v us W->∀j,j<n->∃ga la ca,us.getD j undef=.slice ga la ca):=fun W n v us h j hj=>(h.2.2.1 j hj).shape;go_enter Tryz.func71,Tryz.ntmps71;go_wp2
 go_loopw [] (fun wr=>∃(n d:Nat) (v:Value) (us:List Value),0<n/\n<=14/\d<=c+4294967296*n/\Hid (ZB K zs d L wr/\AY K n v us wr)) (fun wr=>14-acM (wr.cell? ⟨K.gp,2,none⟩))
 case atStart=>exact⟨n0,c,v0,us0,Uk,qH,by omega,H0⟩
 case round=>
  clear S h ke H0 Uk qH;obtain⟨n,d,v,us,h0,hn,hd,hz⟩:=hrel;obtain⟨gq,cap,rfl,ks,cv,ce⟩:=ae HV _ _ _ _ (ae hz).2 h0;have hd2:d<=c+60129542144:=ak hd (gB (show 4294967296*n<=60129542144 from ak (au 4294967296 hn) (by decide)) c);have Nc:acM (wr.cell? ⟨K.gp,2,none⟩)=n:=by rw[cv];rfl
  by_cases hni:n<=i
  ·obtain⟨k,rfl⟩:∃k,n=k+1:=⟨n-1,by omega⟩;have MZ:=ce k (by omega);obtain⟨ea,el,ec,he⟩:=ae HS _ _ _ _ (ae hz).2 k (by omega);rw[he]at MZ;have hzd:=ae HD _ _ _ _ _ (ae hz);have HXk:=ag (ae HX _ _ _ _ _ hzd (by omega) (by omega) hd2);rw[dF,he]at HXk;have HZk:=ag (fun W ra rl rc hz=>ae HZ W (k+1) (.slice (some ⟨gq,0,none⟩) (k+1) cap) us (d+4294967296) ra rl rc hz (by omega));have ch:=ae HY _ _ _ _ _ hzd;have cvd:wr.drew.cell? ⟨K.gp,2,none⟩=_:=cv;have ced:wr.drew.cell? ⟨gq,k,none⟩=_:=MZ;have k1:(k:Int)<((k+1:Nat):Int):=(by omega);have k2:(0:Int)<=(k:Int):=(by omega);have k3:IntKind.i64.wrap (k:Int)=(k:Int):=by rw[ao];omega
   have k4:((k+1:Nat):Int)-1=(k:Int):=(by omega);have k5:((k+1:Nat):Int)<=(i:Int):=(by omega);obtain⟨N,hN⟩:∃N,N=k+1:=⟨_,rfl⟩;have HM:Hid (14-acM (wr.cell? ⟨K.gp,2,none⟩)=14-N):=by show _=_;rw[Nc,hN]
   rw[<-hN]at cv cvd k1 k4 k5 HXk HZk hz;have HNN:=ag hN;obtain⟨ch0,ch1,ch2,ch3,ch4,ch5⟩:=ch;clear hzd hz HX HZ HD hN ce Nc HF he;go_wp2;refine Hv 41 (fun w'=>w'.cell? ⟨K.gp,0,none⟩=some (.pointer (some ⟨K.gz,0,none⟩))/\w'.cell? ⟨K.gz,0,none⟩=some (.pointer (some ⟨K.gw,0,none⟩))/\w'.cell? ⟨K.gw,0,none⟩=some (.pointer (some ⟨K.gv,0,none⟩))/\w'.cell? ⟨K.gv,0,none⟩=some (.pointer (some ⟨K.gr,0,none⟩))/\w'.cell? ⟨K.gr,0,none⟩=some (.pointer (some ⟨K.gd,0,none⟩))/\w'.cell? ⟨K.gd,0,none⟩=some (.pointer (some ⟨K.gm,0,none⟩))/\w'.cell? ⟨K.gp,2,none⟩=some (.slice (some ⟨gq,0,none⟩) N cap)) (by kernel_rfl) (by kernel_rfl) (by rfl) (by kernel_rfl) (by kernel_rfl) ⟨ch0,ch1,ch2,ch3,ch4,ch5,cvd⟩ (fun hHeld=>?_);simp only[List.take_succ_cons,List.take_zero,List.drop_succ_cons,List.drop_zero];refine kH 0 (by assumption) ?_;simp only[Act.put,List.setIfInBounds_toArray,List.set_cons_zero,List.set_cons_succ];refine kH 1 (by assumption) ?_;simp only[Act.put,List.setIfInBounds_toArray,List.set_cons_zero,List.set_cons_succ];refine kH 2 (by assumption) ?_;simp only[Act.put,List.setIfInBounds_toArray,List.set_cons_zero,List.set_cons_succ];refine kH 3 (by assumption) ?_;simp only[Act.put,List.setIfInBounds_toArray,List.set_cons_zero,List.set_cons_succ];refine kH 4 (by assumption) ?_;simp only[Act.put,List.setIfInBounds_toArray,List.set_cons_zero,List.set_cons_succ];refine kH 5 (by assumption) ?_;simp only[Act.put,List.setIfInBounds_toArray,List.set_cons_zero,List.set_cons_succ];refine kH 6 (by assumption) ?_;simp only[Act.put,List.setIfInBounds_toArray,List.set_cons_zero,List.set_cons_succ];refine kH 7 (by assumption) ?_;simp only[Act.put,List.setIfInBounds_toArray,List.set_cons_zero,List.set_cons_succ];refine kH 8 (by assumption) ?_;simp only[Act.put,List.setIfInBounds_toArray,List.set_cons_zero,List.set_cons_succ];refine kH 9 (by assumption) ?_;simp only[Act.put,List.setIfInBounds_toArray,List.set_cons_zero,List.set_cons_succ];refine kH 10 (by assumption) ?_;simp only[Act.put,List.setIfInBounds_toArray,List.set_cons_zero,List.set_cons_succ];refine kH 11 (by assumption) ?_;simp only[Act.put,List.setIfInBounds_toArray,List.set_cons_zero,List.set_cons_succ];refine kH 12 (by assumption) ?_;simp only[Act.put,List.setIfInBounds_toArray,List.set_cons_zero,List.set_cons_succ];refine kH 13 (by assumption) ?_;simp only[Act.put,List.setIfInBounds_toArray,List.set_cons_zero,List.set_cons_succ];refine kH 14 (by assumption) ?_;simp only[Act.put,List.setIfInBounds_toArray,List.set_cons_zero,List.set_cons_succ];refine kH 15 (by assumption) ?_;simp only[Act.put,List.setIfInBounds_toArray,List.set_cons_zero,List.set_cons_succ];refine kH 16 (by assumption) ?_;simp only[Act.put,List.setIfInBounds_toArray,List.set_cons_zero,List.set_cons_succ];refine kH 17 (by assumption) ?_;simp only[Act.put,List.setIfInBounds_toArray,List.set_cons_zero,List.set_cons_succ];refine kH 18 (by assumption) ?_;simp only[Act.put,List.setIfInBounds_toArray,List.set_cons_zero,List.set_cons_succ];refine kH 19 (by assumption) ?_;simp only[Act.put,List.setIfInBounds_toArray,List.set_cons_zero,List.set_cons_succ];refine kH 20 (by assumption) ?_;simp only[Act.put,List.setIfInBounds_toArray,List.set_cons_zero,List.set_cons_succ];refine kH 21 (by assumption) ?_;simp only[Act.put,List.setIfInBounds_toArray,List.set_cons_zero,List.set_cons_succ];refine kH 22 (by assumption) ?_;simp only[Act.put,List.setIfInBounds_toArray,List.set_cons_zero,List.set_cons_succ];refine kH 23 (by assumption) ?_;simp only[Act.put,List.setIfInBounds_toArray,List.set_cons_zero,List.set_cons_succ];refine kH 24 (by assumption) ?_;simp only[Act.put,List.setIfInBounds_toArray,List.set_cons_zero,List.set_cons_succ];refine kH 25 (by assumption) ?_;simp only[Act.put,List.setIfInBounds_toArray,List.set_cons_zero,List.set_cons_succ];refine kH 26 (by assumption) ?_;simp only[Act.put,List.setIfInBounds_toArray,List.set_cons_zero,List.set_cons_succ];refine kH 27 (by assumption) ?_
   simp only[Act.put,List.setIfInBounds_toArray,List.set_cons_zero,List.set_cons_succ];refine kH 28 (by assumption) ?_;simp only[Act.put,List.setIfInBounds_toArray,List.set_cons_zero,List.set_cons_succ];refine kH 29 (by assumption) ?_;simp only[Act.put,List.setIfInBounds_toArray,List.set_cons_zero,List.set_cons_succ];refine kH 30 (by assumption) ?_;simp only[Act.put,List.setIfInBounds_toArray,List.set_cons_zero,List.set_cons_succ];refine kH 31 (by assumption) ?_;simp only[Act.put,List.setIfInBounds_toArray,List.set_cons_zero,List.set_cons_succ];refine kH 32 (by assumption) ?_;simp only[Act.put,List.setIfInBounds_toArray,List.set_cons_zero,List.set_cons_succ];refine kH 33 (by assumption) ?_;simp only[Act.put,List.setIfInBounds_toArray,List.set_cons_zero,List.set_cons_succ];refine kH 34 (by assumption) ?_;simp only[Act.put,List.setIfInBounds_toArray,List.set_cons_zero,List.set_cons_succ];refine wpAnyH_ready (rs:=[35]) (by kernel_rfl) (by simp) ?_;refine AllReadyH.cons (o:=_) rfl (fun Kx hK=>?_) AllReadyH.nil;go_simp;refine hK.out _ _ (by assumption) (fun hHeld=>?_);clear hK Kx
   (try simp only[Act.put,List.setIfInBounds_toArray,List.set_cons_zero,List.set_cons_succ])
   refine wpAnyH_ready (rs:=[36]) (by kernel_rfl) (by simp) ?_;refine AllReadyH.cons (o:=_) rfl (fun Kx hK=>?_) AllReadyH.nil;go_simp;refine(ae HXk).mono ?_;rintro e w3 ⟨ra,rl,rc,rfl,hG,hN⟩;obtain⟨g1,c1,w4,ir,hS4,c42,f42,w_,hF⟩:=ae HZk _ _ _ _ hG hN;obtain⟨x0,x1,x2,x3,x4,x5⟩:=ae HY _ _ _ _ _ hG;have x6:=ae H2 _ _ _ _ hG.2;have Ua:=ag hF;clear hF hN
   go_wp2_with fail
   refine hK.out _ _ ⟨x0,x1,x2,x3,x4,x5,x6⟩ (fun hHeld=>?_);clear hK Kx
   (try simp only[Act.put,List.setIfInBounds_toArray,List.set_cons_zero,List.set_cons_succ])
   refine wpAnyH_ready (rs:=[37]) (by kernel_rfl) (by simp) ?_;refine AllReadyH.cons (o:=_) rfl (fun Kx hK=>?_) AllReadyH.nil;go_simp;refine hK.out _ _ ⟨fF x0 _,fF x1 _,fF x2 _,fF x3 _,fF x4 _,fF x5 _,fF x6 _⟩ (fun hHeld=>?_);clear hK Kx
   (try simp only[Act.put,List.setIfInBounds_toArray,List.set_cons_zero,List.set_cons_succ])
   refine wpAnyH_ready (rs:=[38]) (by kernel_rfl) (by simp) ?_;refine AllReadyH.cons (o:=_) rfl (fun Kx hK=>?_) AllReadyH.nil;refine fH rfl (.tmp 16) (.tmp 49) 115 rfl rfl rfl ir ?_;refine hK.out _ _ ⟨hS4.1,hS4.2.1,hS4.2.2.1,hS4.2.2.2.1,hS4.2.2.2.2.1,hS4.2.2.2.2.2,c42⟩ (fun hHeld=>?_);clear hK Kx
   (try simp only[Act.put,List.setIfInBounds_toArray,List.set_cons_zero,List.set_cons_succ])
   refine kH 39 (by assumption) ?_;simp only[Act.put,List.setIfInBounds_toArray,List.set_cons_zero,List.set_cons_succ];refine kH 40 (by assumption) ?_;simp only[Act.put,List.setIfInBounds_toArray,List.set_cons_zero,List.set_cons_succ];refine wpAnyH_done (by kernel_rfl) ?_ _;show wpList _ _ _ _ _ _;have e40:=hS4.1;clear hG x0 x1 x2 x3 x4 x5 x6 ir hS4 w_ hHeld ch0 ch1 ch2 ch3 ch4 ch5 cvd ced HXk HZk cv MZ;go_wp2
   go_roundw
   case rel=>exact⟨N+1,d+4294967296,_,_,by omega,by have:=ae HNN;omega,by omega,Ua⟩
   case measure=>have e:=ae H2 _ _ _ _ (ae Ua).2;have:=ae HNN;have:=ae HM;rw[e];show 14-(N+1)<_;omega
  ·obtain⟨ea,el,ec,he⟩:=ae HS _ _ _ _ (ae hz).2 i (by omega);have MZ:=ce i (by omega);rw[he]at MZ;have HFk:=ag (ae HF _ _ _ _ _ _ _ _ (ae hz) (by omega) hd2 he);have k1:(i:Int)<(n:Int):=(by omega);have k2:(0:Int)<=(i:Int):=(by omega);have k5:¬(n:Int)<=(i:Int):=(by omega);clear hz HX HZ HD ce he HF HY HV HS;go_wp2;go_ret;exact⟨_,_,_,rfl,ae HFk⟩
end
end
section
open Go.RowKit
theorem FU(W:World)(gq Q i R C:Nat)(ga:Option Addr)(ba oa cap l:Nat)(zs xs:List Nat)(hZ:cW W gq zs)(hz:zs.length=Q)(hR:cH W ga ba oa cap xs)(hl:xs.length=l)(hi:i+R<=Q)(hlR:l<=R):∃W',(∀ty,(Builtin.copy_ #[24,38] ty #[.slice (some ⟨gq,i,none⟩) R C,.slice ga l cap]).run Tryz.prog W=.ok (.int .i64 (l:Int)) W')/\cW W' gq (zs.take i++xs++zs.drop (i+xs.length))/\Out (·=gq) W W':=by
 subst hl;by_cases h0:xs.length=0
 ·obtain rfl:xs=[]:=eu h0;refine⟨W,fun ty=>adt W 24 38 ty 47 _ _ _ _ _ _ bm Tryz.pL (by simp),by simpa using hZ,Out.refl _ _⟩
 ·obtain rfl:=hR.head (by omega);have hZ':W.heap[gq]?=some (.cells (cellsOf zs).toArray 47 (0,0)):=hZ;have ecl:goInt ((iU xs).length:Int)=.int .i64 (xs.length:Int):=by rw[dL];rfl
  have hc:=run_copy_row (P:=Tryz.prog) W 24 38 (cs:=iU xs) (elem:=47) (g:=gq) (o:=i) (dLen:=R) (dCap:=C) (a:=⟨ba,oa,none⟩) (sLen:=xs.length) (sCap:=cap) (cur:=(cellsOf zs).toArray) (t:=47);have hsr:∀j v,(iU xs)[j]?=some v->W.cell? ((⟨ba,oa,none⟩:Addr).add j)=some v:=by
   intro j v hj;have Uj:j<xs.length:=by have:=(fq.1 hj).1;rwa [dL]at this
   have:=hR.cell j Uj;have e:(⟨ba,oa,none⟩:Addr).add j=⟨ba,oa+j,none⟩:=by unfold Addr.add;split<;>simp_all
   rw[e,this, <-hj];simp[iU,cellsOf,Uj]
  refine⟨_,fun ty=>by rw[<-ecl];exact hc ty bm Tryz.pL hZ' (by rw[dL];exact(bu hlR).symm) hsr (by rw[dL];simp[cellsOf];omega) (gD _),?_,?_⟩
  ·have h:=XW W gq _ ((cellsOf zs).toArray.toList.take i++iU xs++(cellsOf zs).toArray.toList.drop (i+(iU xs).length)).toArray _ _ hZ';show _=_;rw[h];simp[iU,cellsOf]
  ·exact Out.bX ⟨rfl,rfl,rfl,by simp[World.setRow],fun k hk hne=>setRow_other W gq k _ (fun e=>hne (by rw[e]))⟩
theorem aaB(pre post ds:List Nat)(o q k x:Nat)(ho:pre.length=o)(hq:ds.length=q):(pre++(ds++List.replicate (k+1) 0)++post).take (o+q)++[x]++(pre++(ds++List.replicate (k+1) 0)++post).drop (o+q+1)=pre++(ds++[x]++List.replicate k 0)++post:=by
 have e:pre++(ds++List.replicate (k+1) 0)++post=(pre++ds)++(0 :: (List.replicate k 0++post)):=by simp[List.replicate_succ]
 have hl:(pre++ds).length=o+q:=by rw[bU,ho,hq]
 rw[e, <-hl,AR];rw[show(pre++ds).length+1=(pre++ds).length+1 from rfl, <-UF,List.drop_left];simp
theorem XP(pre post ds:List Nat)(k:Nat):pre++(ds++List.replicate (k+1) 0)++post=pre++(ds++[0]++List.replicate k 0)++post:=by simp[List.replicate_succ]
section
variable {K : ZK} {W : World} {zs : List Nat} {c : Nat} {L : List (Value × Nat)}
def Has(K:ZK)(L:List (Value×Nat))(u:Value)(A:Nat):Prop:=∀c zs W,ZB K zs c L W->jg W u A
theorem Ay(h:(u,A) ∈ L)(hw:wl A<=16384):Has K L u A:=fun _ _ _ hz=>(hz.live _ h).toM (jM hw) (af _)
theorem Has.sub{L':List (Value×Nat)}(h:Has K L u A)(hs:∀x,x ∈ L->x ∈ L'):Has K L' u A:=fun c zs W hz=>h c zs W (hz.sub hs)
theorem ZB.aeu(S:ZS K){pv:Value}(h:ZB K zs c ((pv,K.p^2^i) :: L) W)(hi:i<=13)(h1:c<=288230376151711744)(hu:Has K L u A)(wA:wl A<=250):Calls Tryz.prog 70 #[.pointer (some ⟨K.gv,0,none⟩),u,pv] W fun e w'=>∃ga la ca ha hl hc,e=.returned (.tuple #[.slice ga la ca,.slice ha hl hc,.int .i64 0])/\ZB K zs (c+4294967296) ((.slice ga la ca,A/K.p^2^i) :: (.slice ha hl hc,A%K.p^2^i) :: L) w':=
 (h.div S h1 (hu.sub (fun x hx=>.tail _ hx) _ _ _ h) (Ay (.head _) (ak (AF S.p9 hi) (show 8192<=16384 by omega)) _ _ _ h) (bR (by have:=S.p2;omega)) wA).mono fun e w' ⟨ga,la,ca,ha,hl,hc,k1,k2⟩=>⟨ga,la,ca,ha,hl,hc,k1,k2.sub (fun x hx=>by
  rcases ei.1 hx with rfl|hx
  ·exact .head _
  rcases ei.1 hx with rfl|hx
  ·exact .tail _ (.head _)
  ·exact .tail _ (.tail _ (.tail _ hx)))⟩
theorem Gm(S:ZS K)(h:ZB K (pre++List.replicate n 0++post) c L W)(ho:pre.length=o)(hu:Has K L u A)(hA:A<K.p^n)(wA:wl A<=250)(hn:n<=10000)(A_:n<=cap)(h1:c+64424509440*n<=270000000000000000):Calls Tryz.prog 68 #[.pointer (some ⟨K.gp,0,none⟩),.slice (some ⟨K.gb,o,none⟩) n cap,u] W fun e w'=>∃v,e=.returned v/\ZB K (pre++pd K.p n A++post) (c+64424509440*n) L w':=by
 have Un:=S.p2;have HN:Hid (∀q,q<=n->A/K.p^q≠0->q<n):=fun q hq h0=>by refine Nat.lt_of_le_of_ne hq (fun e=>h0 ?_);rw[e];exact bq hA
 have HE:Hid (∀q,q<=n->A/K.p^q=0->pd K.p q A++List.replicate (n-q) 0=pd K.p n A):=fun q hq h0=>by have:=Ch K.p q (n-q) A;rw[h0,Hq,show q+(n-q)=n by omega]at this;exact this.symm
 have CZ:Hid (∀W d ys Lq av q,ZB K ys d Lq W->Has K Lq av (A/K.p^q)->Calls Tryz.prog 77 #[av] W fun e w'=>e=.returned (.bool (decide (A/K.p^q=0)))/\w'=W):=fun W d ys Lq av q hz hh=>pQ (hh _ _ _ hz).gE _ rfl;have CP:Hid (∀W d ys Lq,ZB K ys d Lq W->d<=280000000000000000->Calls Tryz.prog 71 #[.pointer (some ⟨K.gp,0,none⟩),.int .i64 0] W fun e w'=>∃ga la ca,e=.returned (.slice ga la ca)/\ZB K ys (d+60129542144) ((.slice ga la ca,K.p^2^0) :: Lq) w'):=fun W d ys Lq hz hd=>se S hz 0 (by omega) hd;have CD:Hid (∀W d ys Lq av pv q,ZB K ys d ((pv,K.p^2^0) :: Lq) W->d<=288230376151711744->Has K Lq av (A/K.p^q)->Calls Tryz.prog 70 #[.pointer (some ⟨K.gv,0,none⟩),av,pv] W fun e w'=>∃ga la ca ha hl hc,e=.returned (.tuple #[.slice ga la ca,.slice ha hl hc,.int .i64 0])/\ZB K ys (d+4294967296) ((.slice ga la ca,A/K.p^(q+1)) :: (.slice ha hl hc,A/K.p^q%K.p) :: Lq) w'):=fun W d ys Lq av pv q hz hd hh=>by have:=hz.aeu S (by omega) hd hh (ak (fw (bT _ _)) wA);rw[cL,fi,cI, <-aE]at this;exact this
 have CC:Hid (∀W d Lq q k x0 dv cc,ZB K (pre++(pd K.p q A++List.replicate (k+1) 0)++post) d (x0 :: (dv,A/K.p^q%K.p) :: Lq) W->∃W' ga la ca,dv=.slice ga la ca/\(∀ty,(Builtin.copy_ #[24,38] ty #[.slice (some ⟨K.gb,o+q,none⟩) (k+1) cc,dv]).run Tryz.prog W=.ok (.int .i64 (la:Int)) W')/\ZB K (pre++(pd K.p (q+1) A++List.replicate k 0)++post) d (x0 :: (dv,A/K.p^q%K.p) :: Lq) W'):=fun W d Lq q k x0 dv cc hz=>by
  have hr:=hz.live (dv,A/K.p^q%K.p) (.tail _ (.head _));obtain⟨ga,b,cap,xs,e,hR,hc,hv,_⟩:=aU.rep (v:=dv) hr;subst e;replace hv:aB xs=A/K.p^q%K.p:=hv;have h9:=S.p9;have hx:A/K.p^q%K.p<K.p:=aD _ (by omega);rw[PK];rcases KB hc (by rw[hv];omega)with⟨rfl,h0⟩|⟨x,rfl,Fa,Ml⟩
  ·obtain⟨W',k1,k2,k3⟩:=FU W K.gb _ (o+q) (k+1) cc ga b 0 cap 0 _ [] hz.row rfl hR rfl (by simp[oV];omega) (by omega);refine⟨W',ga,0,cap,rfl,k1,?_⟩;rw[hv]at h0;rw[h0, <-XP];have:=hz.write S k3 k2;simp only[List.append_nil,List.length_nil,Nat.add_zero,List.take_append_drop]at this;rw[h0]at this;exact this
  ·obtain⟨W',k1,k2,k3⟩:=FU W K.gb _ (o+q) (k+1) cc ga b 0 cap 1 _ [x] hz.row rfl hR rfl (by simp[oV];omega) (by omega);refine⟨W',ga,1,cap,rfl,k1,?_⟩;have:=hz.write S k3 k2;rw[kD,aaB pre post _ o q k x ho (oV _ _ _), <-Fa,hv]at this;exact this
 have HS:Hid (∀W d ys Lq av x,ZB K ys d Lq W->Has K Lq av x->∃ga la ca,av=.slice ga la ca):=fun W d ys Lq av x hz hh=>by obtain⟨ga,b,oo,cap,xs,rfl,_⟩:=hh _ _ _ hz;exact⟨_,_,_,rfl⟩
 have HB:Hid (∀ys d Lq W W',ZB K ys d Lq W->Below W.heap.size W W'->ZB K ys d Lq W'):=fun ys d Lq W W' hz hb=>hz.next S.b2 hb;have HW:Hid (∀ys d Lq W,ZB K ys d Lq W->W.cell? ⟨K.gp,0,none⟩=some (.pointer (some ⟨K.gz,0,none⟩))/\W.cell? ⟨K.gz,0,none⟩=some (.pointer (some ⟨K.gw,0,none⟩))/\W.cell? ⟨K.gw,0,none⟩=some (.pointer (some ⟨K.gv,0,none⟩))):=fun ys d Lq W hz=>⟨hz.way.1,hz.way.2.1,hz.way.2.2.1⟩;have HM:Hid (∀ys d Lq av dv x y W,ZB K ys d ((av,x) :: (dv,y) :: Lq) W->x<=A->(∀z,z ∈ L->z ∈ Lq)->ZB K ys d ((av,x) :: L) W/\Has K ((av,x) :: L) av x):=fun ys d Lq av dv x y W hz hx hL=>⟨hz.sub (fun z h=>by
  rcases ei.1 h with rfl|h
  ·exact .head _
  ·exact .tail _ (.tail _ (hL z h))),Ay (.head _) (ak (ak (fw hx) wA) (by omega))⟩
 have HLe:Hid (∀q,A/K.p^q<=A):=fun q=>bT _ _;have I0:Hid (ZB K (pre++(pd K.p 0 A++List.replicate (n-0) 0)++post) c L W):=h;have I1:Hid (Has K L u (A/K.p^0)):=by show Has _ _ _ _;rw[cL,nT];exact hu
 obtain⟨_,_,_,GV⟩:=ae HS _ _ _ _ _ _ h hu;subst GV;clear h hu hA wA ho S;go_enter Tryz.func68,Tryz.ntmps68;go_wp2
 go_loopw [2,6,7] (fun av iv xv wr=>∃(q d:Nat) (Lq:List (Value×Nat)),q<=n/\iv=.int .i64 (q:Int)/\Hid (d=c+64424509440*q)/\Hid (∀x,x ∈ L->x ∈ Lq)/\Hid (Has K Lq av (A/K.p^q))/\Hid (ZB K (pre++(pd K.p q A++List.replicate (n-q) 0)++post) d Lq wr)) (fun _ iv _ _=>n-(intOf iv).toNat)
 case atStart=>exact⟨0,c,L,aO _,rfl,by show _=_;omega,fun x h=>h,I1,I0⟩
 case round=>
  obtain⟨q,d,Lq,hq,rfl,hd,hL,hh,hz⟩:=hrel;have CZ:=ag (ae CZ _ _ _ _ _ _ (ae hz) (ae hh));obtain⟨aa,al,ac,hav⟩:=ae HS _ _ _ _ _ _ (ae hz) (ae hh);subst hav;by_cases h0:A/K.p^q=0
  ·have HX:Hid (ZB K (pre++pd K.p n A++post) (c+64424509440*n) L wr):=by
    have:=(ae hz).sub (ae hL);rw[ae HE q hq h0]at this;refine this.up ?_;rw[ae hd];exact gB (au _ hq) c
   rw[bg h0]at CZ;clear h0 hz hh hL CP CD CC HB HW HM HLe I0 I1 HN HE
   go_wp2_with fail
   with_reducible refine(ae CZ).mono ?_
   rintro e w2 ⟨rfl,hw⟩;obtain rfl:=hw.symm;clear hw CZ;go_wp2
   go_end0
   exact⟨_,rfl,ae HX⟩
  ·rw[aM h0]at CZ;have IJ:=ae HN q hq h0;obtain⟨k,hk⟩:∃k,n-q=k+1:=⟨n-q-1,by omega⟩;rw[hk]at hz;have hd9:d<=270000000000000000:=by rw[ae hd];exact ak (gB (au _ (by omega)) c) h1
   have HD2:Hid (d+60129542144+4294967296=c+64424509440*(q+1)):=by show _=_;rw[ae hd];omega
   clear h1 hd;clear h0 IJ HN HE
   go_wp2_with fail
   with_reducible refine(ae CZ).mono ?_
   rintro e w2 ⟨rfl,hw⟩;obtain rfl:=hw.symm;clear hw CZ;have hG:=ae HB _ _ _ _ wr.drew (ae hz) (aj _ _).drew;obtain⟨e0,e1,e2⟩:=ae HW _ _ _ _ hG;have TZ:=ag (ae CP _ _ _ _ hG (by omega));have Uz:=ag (fun W pv hz=>ae CD W (d+60129542144) (pre++(pd K.p q A++List.replicate (k+1) 0)++post) Lq _ pv q hz (by omega) (ae hh));clear hz hG CP CD I0 I1;go_wp2
   go_region_held3 (fun w'=>w'.cell? ⟨K.gp,0,none⟩=some (.pointer (some ⟨K.gz,0,none⟩))/\w'.cell? ⟨K.gz,0,none⟩=some (.pointer (some ⟨K.gw,0,none⟩))/\w'.cell? ⟨K.gw,0,none⟩=some (.pointer (some ⟨K.gv,0,none⟩))) (first|(exact ae HW _ _ _ _ hG)|go_keep) (first
    |(with_reducible refine(ae TZ).mono ?_;rintro e w3 ⟨pa,pl,pc,rfl,hG⟩)
    |(with_reducible refine(ae Uz _ _ hG).mono ?_;rintro e w4 ⟨qa,ql,qc,ra,rl,rc,rfl,hG⟩)
    |fail)
   obtain⟨cq,hcq⟩:∃cq,cap-q=cq:=⟨_,rfl⟩;obtain⟨W9,xa,xl,xc,Ui,afQ,hG9⟩:=ae CC _ _ _ q k _ _ cq hG;cases Ui;obtain⟨hz9,hh9⟩:=ae HM _ _ _ _ _ _ _ _ hG9 (ae HLe (q+1)) (ae hL);rw[ae HD2,show k=n-(q+1) by omega]at hz9;have HZ9:=ag hz9;have HH9:=ag hh9;have j1:q<=n/\q<=cap/\¬cap=q/\¬n=q:=(by omega);obtain⟨j1,j2,j3,j4⟩:=j1;have HMs:Hid (n-(q+1)<n-q):=by show _<_;omega
   have afq:q+1<=n:=(by omega);have hK1:0<=(q:Int):=(by omega);clear hG hG9 hz9 hh9 CC HM HLe Uz TZ HW HB HS CZ hL hh e0 e1 e2 HD2;go_wp2
   go_roundw
   case rel=>exact⟨q+1,_,_,afq,by go_num,rfl,fun x h=>.tail _ h,HH9,HZ9⟩
   case measure=>simp[intOf];have:=ae HMs;omega
end
end
section
open Go.RowKit Go.Shelf
attribute [local go_sem] Oper.semAt_some
set_option linter.unusedSimpArgs false
theorem rR{P:Program}{id lp:Nat}{Q:Exit->Act->World->Prop}{a:Act}{l:List Oper}(n:Nat)(S:World->Prop)(hm:P.follows .mixedOrders=true)(hd:Hk l.toArray=true)(hL:¬LetsOut Q)(hC:EG .any l.toArray n=true)(hn:l.length=n+1)(hr:Region.ready .any l.toArray (canon n 1)=[n])(Uo:Region.ready .any l.toArray ((canon n 1).setIfInBounds n true)=[])(hS:S W.drew)(h:S W.drew->wpAnyH P .any (l.take n).toArray (tg (wpList P l.toArray Q (l.drop n)) Q) S n (Array.replicate n false) a W.drew):(Code.region id l.toArray true).wpIn (Fence.wide.inRound lp) d P Q a W:=wpIn_region_any hm (qu (xK hd) hL _ _ _ _ (Ew n S hC hn hr Uo hS h))
section
variable {K : ZK} {W : World} {zs : List Nat} {c : Nat} {L : List (Value × Nat)}
def ZK.x(K:ZK)(X:List (Nat×Obj))(N:World):ZK:={ K with X:=X,N:=N }
theorem ZS.x(h:ZS K){X:List (Nat×Obj)}{N:World}(hX:∀x,x ∈ X->K.B<=x.1/\x.1≠K.gp):ZS (K.x X N):=⟨h.iG,h.tb,h.s0,h.l0,h.l9,h.b0,h.b1,h.b2,h.p2,h.p9,h.d0,h.d9,hX⟩
theorem ZB.drop{X:List (Nat×Obj)}{N:World}(h:ZB (K.x X N) zs c L W)(h0:K.X=[])(hN:Es K.N W):ZB K zs c L W:=by obtain⟨h1,h2,h3,⟨n,v,us,⟨k1,k2,k3,_⟩,h4⟩,h5,_,_⟩:=h;exact⟨h1,h2,h3,⟨n,v,us,⟨k1,k2,k3,fun x hx=>by rw[h0]at hx;cases hx⟩,h4⟩,h5,fun x hx=>(by rw[h0]at hx;cases hx),hN⟩
theorem ZB.ref{X:List (Nat×Obj)}{N:World}(h:ZB (K.x X N) zs c L W):ZB (K.x X W) zs c L W:=⟨h.at',h.size,h.row,h.IM,h.live,h.box,af _,fun _ _ hj _=>hj⟩
theorem ZB.put{X:List (Nat×Obj)}(h:ZB K zs c L W)(S:ZS K)(b:Below W.heap.size W W')(hX:∀x,x ∈ X->W.heap.size<=x.1/\W'.heap[x.1]?=some x.2):ZB (K.x X W') zs c L W'/\∀x,x ∈ X->K.B<=x.1/\x.1≠K.gp:=by
 obtain⟨h1,h2,h3,⟨n,v,us,⟨k1,k2,k3,k4⟩,h4⟩,h5,h6,h7⟩:=h.next S.b2 b;have kF:=h.size;obtain⟨_,_,_,⟨n0,v0,us0,⟨q1,q2,q3,q4⟩,h40⟩,_,_,_⟩:=h;have b2:=S.b2;have hgp:=(ah.1 q1).1;refine⟨⟨h1,h2,h3,⟨n0,v0,us0,⟨(b.block K.gp hgp).trans q1,qM b q2,fun j hj=>(q3 j hj).next b,fun x hx e=>?_⟩,h40⟩,h5,fun x hx=>(hX x hx).2,af _,fun _ _ hj _=>hj⟩,fun x hx=>⟨by have:=(hX x hx).1;omega,by have:=(hX x hx).1;omega⟩⟩;rcases q2.2 with⟨e2,e3⟩|⟨g,cap,cur,e2,_,e3,_⟩
 ·omega
 ·rw[e2]at e;have e5:g=x.1:=by simpa [Value.ownBlock]using e
  have:=(ah.1 e3).1;have:=(hX x hx).1;omega
theorem ZB.O5{P1:Nat}{X:List (Nat×Obj)}{u':Value}{N:World}(h:ZB (K.x ((P1,.cells #[u] 38) :: X) N) zs c L W)(S:ZS K)(hP:∀x,x ∈ X->x.1≠P1)(h1:K.B<=P1)(h2:P1≠K.gp):ZB (K.x ((P1,.cells #[u'] 38) :: X) N) zs c L (W.setCell ⟨P1,0,none⟩ u'):=by
 obtain⟨⟨s',m',E,k,o⟩,q2,q3,⟨n,v,us,⟨k1,k2,k3,k4⟩,h4⟩,h5,h6,h7⟩:=h;have tE:Boxed W P1 38 u:=h6 _ (.head _);have oo:Out (·=P1) W (W.setCell ⟨P1,0,none⟩ u'):=Out.bX (aY _ _ _ _);have b1:=S.b1;have b0:=S.b0;have e1:K.w.heap.size<=P1:=by omega
 have hv:=k4 (P1,.cells #[u] 38) (.head _);have new:∀x y,aU K.B W x y->aU K.B (W.setCell ⟨P1,0,none⟩ u') x y:=fun x y hx=>hx.turn (fun k ys hk=>oo.block k hk.lt (fun e=>by subst e;have:=tE.symm.trans hk;simp at this));refine⟨⟨s',m',S.iG.vV E (oo.mono (fun j e=>by rw[e];exact e1)),k,o.fresh oo (fun i e=>Or.inr (by rw[e];exact e1))⟩,ak q2 oo.size,oo.kM q3 (show ¬K.gb=P1 by omega),⟨n,v,us,⟨(oo.block _ (ah.1 k1).1 (Ne.symm h2)).trans k1,k2.kept oo.grown (Or.inr hv),fun j hj=>new _ _ (k3 j hj),fun x hx=>?_⟩,h4⟩,fun x hx=>new _ _ (h5 x hx),fun x hx=>?_,⟨ak h7.1 oo.size,fun j ob hj ho=>?_⟩⟩
 ·rcases ei.1 hx with rfl|hx
  ·exact hv
  ·exact k4 _ (.tail _ hx)
 ·rcases ei.1 hx with rfl|hx
  ·exact tE.set u'
  ·have Ab:=h6 _ (.tail _ hx);exact(oo.block x.1 (ah.1 Ab).1 (hP x hx)).trans Ab
 ·have e:=h7.2 j ob hj ho;refine(oo.block j (ah.1 e).1 (fun e1=>?_)).trans e;subst e1;rw[show W.heap[j]?=_ from tE]at e;obtain rfl:=aZ e;cases ho
theorem ZB.kc{X:List (Nat×Obj)}{N:World}(h:ZB (K.x X N) zs c L W)(S:ZS K)(hX:∀x,x ∈ X->x.2.isCells=true)(kc:Kc W W')(o':Out (fun j=>K.w.heap.size<=j) W W'):ZB (K.x X W') zs c L W':=by obtain⟨⟨s',m',E,k,o⟩,q2,q3,⟨n,v,us,⟨k1,k2,k3,k4⟩,h4⟩,h5,h6,h7⟩:=h;exact⟨⟨s',m',S.iG.vV E o',k,o.fresh o' (fun i hi=>Or.inr hi)⟩,ak q2 o'.size,(kc _ _ q3 rfl).trans q3,⟨n,v,us,⟨(kc _ _ k1 rfl).trans k1,kc.owns k2,fun j hj=>kc.mb (k3 j hj),k4⟩,h4⟩,fun x hx=>kc.mb (h5 x hx),fun x hx=>(kc _ _ (h6 x hx) (hX x hx)).trans (h6 x hx),af _,fun _ _ hj _=>hj⟩
def UX(K:ZK)(P0 n cap:Nat)(ga:Option Addr)(u:Value):List (Nat×Obj):=[(P0+1,.cells #[u] 38),(P0,.cells #[.pointer (some ⟨K.gp,0,none⟩)] 100),(P0+1+1,.cells #[.slice ga n cap] 24)]
def UI(K:ZK)(P0:Nat)(zs ys:List Nat)(c:Nat)(L:List (Value×Nat))(cap:Nat)(ga:Option Addr)(r:Nat)(W:World):Prop:=
 ∃u,ZB (K.x (UX K P0 ys.length cap ga u) W) zs (c+64424509440*r) ((u,vl K.p (ys.drop (ys.length-r))) :: L) W/\Es K.N W
theorem Iw{x:Nat×Obj}(hx:x ∈ UX K P0 n cap ga u):(x.1=P0\/x.1=P0+1\/x.1=P0+1+1)/\x.2.isCells=true:=by unfold UX at hx;simp only[List.mem_cons,List.not_mem_nil,or_false]at hx;rcases hx with rfl|rfl|rfl<;>simp[Obj.isCells]
theorem UI.own(S:ZS K)(hb:K.w.heap.size<=base)(jA:K.N.heap.size<=base):OwnFrom base (UI K P0 zs ys c L cap ga):=fun r A B row hs hg hr=>by obtain⟨u,h,hN⟩:=hs;exact⟨u,h.kc S (fun x hx=>(Iw hx).2) (tK hg hr) (uE hb hg hr),ak hN.1 hg.size,fun j o hj hc=>(hg.block j (ah.1 (hN.2 j o hj hc)).1 (fun e=>by have:=(hr j e.symm).1;have:=(ah.1 hj).1;omega)).trans (hN.2 j o hj hc)⟩
theorem aa8(p:Nat)(ys:List Nat)(r:Nat)(h:r<ys.length):vl p (ys.drop (ys.length-(r+1)))=vl p (ys.drop (ys.length-r))*p+ys.getD (ys.length-1-r) 0:=by rw[show ys.length-(r+1)=ys.length-1-r by omega,Qp p ys _ (by omega),show ys.length-1-r+1=ys.length-r by omega]
theorem Ox(S:ZS K)(hX:K.X=[])(h:ZB K zs c L W)(Np:zs=pre++ys++post)(ho:pre.length=o)(hn:ys.length=n)(hd:∀d,d ∈ ys->d<K.p)(DS:n<=8000)(ga:Option Addr)(GG:0<n->ga=some ⟨K.gb,o,none⟩)(h1:c+64424509440*n<=270000000000000000):Calls Tryz.prog 72 #[.pointer (some ⟨K.gp,0,none⟩),.slice ga n cap] W fun e w'=>∃xa la ca,e=.returned (.slice xa la ca)/\ZB K zs (c+64424509440*n) ((.slice xa la ca,vl K.p ys) :: L) w':=by
 obtain⟨P0,ke⟩:∃P0,W.heap.size=P0:=⟨_,rfl⟩;have CB:=ag (Ex 7 ga n cap);obtain⟨W4,wb⟩:∃W4,(((W.alloc (.cells #[.pointer (some ⟨K.gp,0,none⟩)] 100)).alloc (.cells #[.slice none 0 0] 38)).alloc (.cells #[.slice ga n cap] 24))=W4:=⟨_,rfl⟩;have hNP:K.N.heap.size<=P0:=by have:=h.nc.1;omega
 have hN4:Es K.N W:=h.nc;have b4:Below W.heap.size W W4:=by rw[<-wb];exact(((aj _ W).alloc (af _) _).alloc (by simp) _).alloc (by simp;omega) _
 have x0:Boxed W4 P0 100 (.pointer (some ⟨K.gp,0,none⟩)):=by have:=((Boxed.new W 100 (.pointer (some ⟨K.gp,0,none⟩))).alloc (.cells #[.slice none 0 0] 38)).alloc (.cells #[.slice ga n cap] 24);rw[wb,ke]at this;exact this
 have x1:Boxed W4 (P0+1) 38 (.slice none 0 0):=by have:=(Boxed.new (W.alloc (.cells #[.pointer (some ⟨K.gp,0,none⟩)] 100)) 38 (.slice none 0 0)).alloc (.cells #[.slice ga n cap] 24);rw[wb,aL,ke]at this;exact this
 have xS:Boxed W4 (P0+1+1) 24 (.slice ga n cap):=by have:=Boxed.new ((W.alloc (.cells #[.pointer (some ⟨K.gp,0,none⟩)] 100)).alloc (.cells #[.slice none 0 0] 38)) 24 (.slice ga n cap);rw[wb,aL,aL,ke]at this;exact this
 have sz4:W4.heap.size=P0+1+1+1:=by rw[<-wb];simp[ke]
 obtain⟨z4,hbx⟩:=h.put (X:=UX K P0 n cap ga (.slice none 0 0)) S b4 (fun x hx=>by
  refine⟨by have:=(Iw hx).1;omega,?_⟩;unfold UX at hx;simp only[List.mem_cons,List.not_mem_nil,or_false]at hx;rcases hx with rfl|rfl|rfl
  ·exact x1
  ·exact x0
  ·exact xS)
 have sG:K.B<=P0+1/\P0+1≠K.gp:=hbx _ (.head _);have hB0:K.B<=P0/\P0≠K.gp:=hbx _ (.tail _ (.head _));have wa:K.B<=P0+1+1/\P0+1+1≠K.gp:=hbx _ (.tail _ (.tail _ (.head _)));have I0:Hid (UI K P0 zs ys c L cap ga 0 W4):=by
  refine⟨.slice none 0 0,?_,hN4.next b4⟩;rw[hn];refine⟨z4.at',z4.size,z4.row,z4.IM,fun x hx=>?_,z4.box,z4.nc⟩;rcases ei.1 hx with rfl|hx
  ·rw[lQ, <-hn,List.drop_length];exact tQ _ _
  ·exact z4.live x hx
 have tG:cW W4 K.gb zs:=z4.row;have kG:o+n<=zs.length:=by rw[Np];simp;omega
 have jK:∀j,j<n->W4.cell? ⟨K.gb,o+j,none⟩=some (.int .u64 ((ys.getD j 0:Nat):Int)):=fun j hj=>by rw[tG.cell (o+j) (by omega),Np];rw[fB,aq,lC (by omega),show o+j-pre.length=j by omega,gK (by omega), <-aq]
 have SQ:=ag (Be 7 (by omega) (P0+1+1) K.gb o n cap ga GG (by omega) ys hn W4 xS.lt xS.cell jK);have wc:=tG.lt;have r_:=xS.lt;have hwB:=S.b0;have hbB:=S.b1;have SX:∀(u:Value) (N:World),ZS (K.x (UX K P0 n cap ga u) N):=fun u N=>S.x (fun x hx=>by
  rcases(Iw hx).1 with e|e|e<;>rw[e]
  ·exact hB0
  ·exact sG
  ·exact wa)
 have HS:=ag S;have HSX:=ag SX;have HD:=ag hd;clear h hd z4 hbx x0 x1 S SX jK tG Np;refine(du (n:=8)).1 ?_;refine callsIn_of_wp_marks Tryz.func72 rfl trivial ?_ rfl;simp only[Tryz.ntmps72,List.size_toArray,List.length_cons,List.length_nil,Nat.reduceAdd,Nat.reduceSub,Array.replicate_succ,Array.replicate_zero,List.push_toArray,List.append_toArray,List.nil_append,List.cons_append]
 gi_wp2
 refine⟨trivial,?_⟩;refine(ae CB _).mono ?_;rintro e W4' ⟨rfl,hw⟩;rw[wb]at hw;obtain rfl:=hw.symm;clear hw CB
 gi_wp2
 refine wh (by omega) (gf:=50) (lb:=#[.pointer (some ⟨P0+1+1,0,none⟩)]) rfl (enters_of Tryz.func50 (by kernel_rfl) rfl)
  (ae SQ) (aj _ _) rI (AD r_ wc) (fun _=>rfl)
  (UI K P0 zs ys c L cap ga) (UI.own (ae HS) (by omega) (by omega)) (ae I0)
  (fun x=>{ tmps:=#[.pointer (some ⟨K.gp,0,none⟩),.slice ga n cap,.pointer (some ⟨P0,0,none⟩),undef,.pointer (some ⟨P0+1,0,none⟩),undef,.int .u64 ((ys.getD (n-1-x) 0:Nat):Int),.slice ga n cap,.func (.func 50) #[] #[.pointer (some ⟨P0+1+1,0,none⟩)],.int .i64 ((n-1-x:Nat):Int),.int .u64 ((ys.getD (n-1-x) 0:Nat):Int),undef,undef,undef,undef,undef,undef,undef,undef,undef,undef,undef,undef,undef,undef,undef,undef,undef,undef,undef,undef,undef,undef,undef,undef,undef,undef,undef],defers:=[] }) ?assign ?body ?done
 case assign=>
  intro lp x W5 K2 xt
  gi_wp2
  exact xt
 case body=>
  rintro lp x W5 hx Rq;obtain⟨u,hz,hN5⟩:=Rq;rw[hn]at hz;obtain⟨V,hV⟩:∃V,V=vl K.p (ys.drop (n-x)):=⟨_,rfl⟩;obtain⟨dg,hdg⟩:∃dg,dg=ys.getD (n-1-x) 0:=⟨_,rfl⟩;have hVn:Hid (vl K.p (ys.drop (n-(x+1)))=V*K.p+dg):=by show _=_;have:=aa8 K.p ys x (by omega);rw[hn]at this;rw[hV,hdg,this]
  have RN:=(ae HS).p9;have jA:=(ae HS).b2;have aco:dg<18446744073709551616:=by
   have hm:dg ∈ ys:=by rw[hdg,aq,bj (by omega),df];exact gO _
   have:=ae HD dg hm;omega
  obtain⟨M,hM⟩:∃M,M=8000:=⟨_,rfl⟩;have wV:wl V<=M:=by refine iY _ _ ?_;have h2:=zV (b:=K.p) (ys.drop (n-x)) (fun d hd=>ae HD d (fQ hd));rw[hV];refine az h2 (ak (di (fk RN) _) (aA (by decide) ?_));rw[gP];omega
  rw[<-hV]at hz;obtain⟨ua,ul,uc,GV⟩:=aU.shape (hz.live _ (.head _));have GV:u=.slice ua ul uc:=GV;subst GV;obtain⟨d0,lZ⟩:∃d0,d0=c+64424509440*x:=⟨_,rfl⟩;have hd9:d0<=270000000000000000:=by rw[lZ];exact ak (gB (au _ (by omega)) c) h1
  have HD2:Hid (d0+60129542144+4294967296=c+64424509440*(x+1)):=by show _=_;rw[lZ];omega
  rw[<-lZ]at hz;clear lZ;have wVp:wl (V*K.p)<=16384:=by have h2:=qi V K.p;have h3:wl K.p<=1:=iY 1 _ (by rw[fi];exact RN);omega
  have z5:ZB (K.x (UX K P0 n cap ga (.slice ua ul uc)) W5) zs d0 ((.slice ua ul uc,V) :: L) W5.drew:=hz.next jA (aj _ _).drew;have CP:Hid (Calls Tryz.prog 71 #[.pointer (some ⟨K.gp,0,none⟩),.int .i64 0] W5.drew fun e w'=>∃xa la ca,e=.returned (.slice xa la ca)/\ZB (K.x (UX K P0 n cap ga (.slice ua ul uc)) W5) zs (d0+60129542144) ((.slice xa la ca,K.p^2^0) :: (.slice ua ul uc,V) :: L) w'):=se (ae HSX _ _) z5 0 (by omega) (by omega);have CM:Hid (∀W pv,ZB (K.x (UX K P0 n cap ga (.slice ua ul uc)) W5) zs (d0+60129542144) ((pv,K.p^2^0) :: (.slice ua ul uc,V) :: L) W->Calls Tryz.prog 74 #[.pointer (some ⟨K.gm,0,none⟩),.slice ua ul uc,pv] W fun e w'=>∃xa la ca,e=.returned (.slice xa la ca)/\ZB (K.x (UX K P0 n cap ga (.slice ua ul uc)) W5) zs (d0+60129542144+4294967296) ((.slice xa la ca,V*K.p) :: (pv,K.p^2^0) :: (.slice ua ul uc,V) :: L) w'):=fun W pv h=>by have:=h.mul (ae HSX _ _) (by omega) ((h.live _ (.tail _ (.head _))).toM (jM (ak wV (show M<=16384 by omega))) (af _)) ((h.live _ (.head _)).toM (jM (ak (AF RN (show 0<=13 by omega)) (show 8192<=16384 by omega))) (af _));simp only[Nat.pow_zero,Nat.pow_one]at this ⊢;exact this
  have CO:Hid (∀W d Lq,ZB (K.x (UX K P0 n cap ga (.slice ua ul uc)) W5) zs d Lq W->Calls Tryz.prog 67 #[.int .u64 (dg:Int)] W fun e w'=>∃xa la ca,e=.returned (.slice xa la ca)/\ZB (K.x (UX K P0 n cap ga (.slice ua ul uc)) W5) zs d ((.slice xa la ca,dg) :: Lq) w'):=fun W d Lq h=>h.call jA (Fo W dg aco);have CA:Hid (∀W d mv ov Lq,ZB (K.x (UX K P0 n cap ga (.slice ua ul uc)) W5) zs d ((ov,dg) :: (mv,V*K.p) :: Lq) W->Calls Tryz.prog 73 #[mv,ov] W fun e w'=>∃xa la ca,e=.returned (.slice xa la ca)/\ZB (K.x (UX K P0 n cap ga (.slice ua ul uc)) W5) zs d ((.slice xa la ca,V*K.p+dg) :: (ov,dg) :: (mv,V*K.p) :: Lq) w'):=fun W d mv ov Lq h=>h.call jA (th W mv ov _ _ ((h.live _ (.tail _ (.head _))).sR (ak wVp (show 16384<=_ by omega))) ((h.live _ (.head _)).sR (ak (iY 1 dg (by rw[fi];exact aco)) (show 1<=_ by omega))));have HC:Hid (∀W d Lq,ZB (K.x (UX K P0 n cap ga (.slice ua ul uc)) W5) zs d Lq W->W.cell? ⟨P0,0,none⟩=some (.pointer (some ⟨K.gp,0,none⟩))/\W.cell? ⟨P0+1,0,none⟩=some (.slice ua ul uc)/\zp K W/\W.frozen? ⟨P0+1,0,none⟩=false):=fun W d Lq h=>⟨Boxed.cell (h.box _ (.tail _ (.head _))),Boxed.cell (h.box _ (.head _)),h.way,Boxed.frozen (h.box _ (.head _))⟩;have HF:Hid (∀W ra rl rc y1 y2 y3,ZB (K.x (UX K P0 n cap ga (.slice ua ul uc)) W5) zs (d0+60129542144+4294967296) ((.slice ra rl rc,V*K.p+dg) :: y1 :: y2 :: y3 :: (.slice ua ul uc,V) :: L) W->KeepsFrom (P0+1+1+1) W5 (W.setCell ⟨P0+1,0,none⟩ (.slice ra rl rc))/\mV (P0+1+1) K.gb o n W5 (W.setCell ⟨P0+1,0,none⟩ (.slice ra rl rc))/\UI K P0 zs ys c L cap ga (x+1) (W.setCell ⟨P0+1,0,none⟩ (.slice ra rl rc))):=fun W ra rl rc y1 y2 y3 h=>by
   have bx1:Boxed W (P0+1) 38 (.slice ua ul uc):=h.box _ (.head _);have bx2:Boxed W (P0+1+1) 24 (.slice ga n cap):=h.box _ (.tail _ (.tail _ (.head _)));have bx5:Boxed W5 (P0+1+1) 24 (.slice ga n cap):=hz.box _ (.tail _ (.tail _ (.head _)));have hne:K.gb≠P0+1:=(by omega);refine⟨⟨by have:=h.nc.1;rw[show(W.setCell ⟨P0+1,0,none⟩ (.slice ra rl rc)).heap.size=W.heap.size by simp];exact this,fun k ob hk h5 h6=>?_⟩,⟨?_,fun j hj=>?_⟩,.slice ra rl rc,?_,?_⟩
   ·have e:=h.nc.2 k ob h5 h6;refine(bo _ _ _ _ (fun e1=>?_)).trans e;have e1:k=P0+1:=e1;rw[e1,show W.heap[P0+1]?=_ from bx1]at e;obtain rfl:=aZ e;cases h6
   ·exact(World.cell?_setCell_far _ _ _ _ (by show P0+1≠P0+1+1;omega)).trans (bx2.cell.trans bx5.cell.symm)
   ·have r1:cW W K.gb zs:=h.row;have r5:cW W5 K.gb zs:=hz.row;refine(World.cell?_setCell_far _ _ _ _ (by show P0+1≠K.gb;omega)).trans ?_;rw[r1.cell (o+j) (by omega),r5.cell (o+j) (by omega)]
   ·have hs:=h.O5 (u':=.slice ra rl rc) (ae HS) (fun y hy=>?_) sG.1 sG.2
    ·have h2:=hs.ref;rw[hn,ae hVn, <-ae HD2];exact h2.sub (fun y hy=>by
      rcases ei.1 hy with rfl|hy
      ·exact .head _
      ·exact .tail _ (.tail _ (.tail _ (.tail _ (.tail _ hy)))))
    ·simp only[List.mem_cons,List.not_mem_nil,or_false]at hy;rcases hy with rfl|rfl
     ·show P0≠P0+1;omega
     ·show P0+1+1≠P0+1;omega
   ·have h7:=hN5.trans h.nc;refine⟨by rw[show(W.setCell ⟨P0+1,0,none⟩ (.slice ra rl rc)).heap.size=W.heap.size by simp];exact h7.1,fun k ob hk h6=>(bo _ _ _ _ (by have:=(ah.1 hk).1;show k≠P0+1;omega)).trans (h7.2 k ob hk h6)⟩
  obtain⟨k0,k1,k2,_⟩:=ae HC _ _ _ z5;obtain⟨k2,k3,k4,k5,k6,k7⟩:=k2;rw[<-hdg];clear hz z5 hV hVn hdg aco wV wVp RN HD2 I0 SQ hM
  gi_wp2
  refine rR 26 (fun w'=>w'.cell? ⟨P0,0,none⟩=some (.pointer (some ⟨K.gp,0,none⟩))/\w'.cell? ⟨P0+1,0,none⟩=some (.slice ua ul uc)/\w'.cell? ⟨K.gp,0,none⟩=some (.pointer (some ⟨K.gz,0,none⟩))/\w'.cell? ⟨K.gz,0,none⟩=some (.pointer (some ⟨K.gw,0,none⟩))/\w'.cell? ⟨K.gw,0,none⟩=some (.pointer (some ⟨K.gv,0,none⟩))/\w'.cell? ⟨K.gv,0,none⟩=some (.pointer (some ⟨K.gr,0,none⟩))/\w'.cell? ⟨K.gr,0,none⟩=some (.pointer (some ⟨K.gd,0,none⟩))/\w'.cell? ⟨K.gd,0,none⟩=some (.pointer (some ⟨K.gm,0,none⟩))) (by kernel_rfl) (by kernel_rfl) (fun⟨_,_,h⟩=>h) (by kernel_rfl) (by rfl) (by kernel_rfl) (by kernel_rfl) ⟨k0,k1,k2,k3,k4,k5,k6,k7⟩ (fun hHeld=>?_);simp only[List.take_succ_cons,List.take_zero,List.drop_succ_cons,List.drop_zero];refine kH 0 (by assumption) ?_;simp only[Act.put,List.setIfInBounds_toArray,List.set_cons_zero,List.set_cons_succ];refine kH 1 (by assumption) ?_;simp only[Act.put,List.setIfInBounds_toArray,List.set_cons_zero,List.set_cons_succ];refine kH 2 (by assumption) ?_;simp only[Act.put,List.setIfInBounds_toArray,List.set_cons_zero,List.set_cons_succ];refine kH 3 (by assumption) ?_;simp only[Act.put,List.setIfInBounds_toArray,List.set_cons_zero,List.set_cons_succ];refine kH 4 (by assumption) ?_;simp only[Act.put,List.setIfInBounds_toArray,List.set_cons_zero,List.set_cons_succ];refine kH 5 (by assumption) ?_;simp only[Act.put,List.setIfInBounds_toArray,List.set_cons_zero,List.set_cons_succ];refine kH 6 (by assumption) ?_;simp only[Act.put,List.setIfInBounds_toArray,List.set_cons_zero,List.set_cons_succ];refine kH 7 (by assumption) ?_;simp only[Act.put,List.setIfInBounds_toArray,List.set_cons_zero,List.set_cons_succ];refine kH 8 (by assumption) ?_;simp only[Act.put,List.setIfInBounds_toArray,List.set_cons_zero,List.set_cons_succ];refine kH 9 (by assumption) ?_;simp only[Act.put,List.setIfInBounds_toArray,List.set_cons_zero,List.set_cons_succ];refine kH 10 (by assumption) ?_;simp only[Act.put,List.setIfInBounds_toArray,List.set_cons_zero,List.set_cons_succ];refine kH 11 (by assumption) ?_;simp only[Act.put,List.setIfInBounds_toArray,List.set_cons_zero,List.set_cons_succ];refine kH 12 (by assumption) ?_;simp only[Act.put,List.setIfInBounds_toArray,List.set_cons_zero,List.set_cons_succ];refine kH 13 (by assumption) ?_;simp only[Act.put,List.setIfInBounds_toArray,List.set_cons_zero,List.set_cons_succ];refine kH 14 (by assumption) ?_;simp only[Act.put,List.setIfInBounds_toArray,List.set_cons_zero,List.set_cons_succ];refine kH 15 (by assumption) ?_;simp only[Act.put,List.setIfInBounds_toArray,List.set_cons_zero,List.set_cons_succ];refine kH 16 (by assumption) ?_;simp only[Act.put,List.setIfInBounds_toArray,List.set_cons_zero,List.set_cons_succ];refine kH 17 (by assumption) ?_;simp only[Act.put,List.setIfInBounds_toArray,List.set_cons_zero,List.set_cons_succ];refine kH 18 (by assumption) ?_;simp only[Act.put,List.setIfInBounds_toArray,List.set_cons_zero,List.set_cons_succ];refine kH 19 (by assumption) ?_;simp only[Act.put,List.setIfInBounds_toArray,List.set_cons_zero,List.set_cons_succ];refine kH 20 (by assumption) ?_;simp only[Act.put,List.setIfInBounds_toArray,List.set_cons_zero,List.set_cons_succ];refine kH 23 (by assumption) ?_;simp only[Act.put,List.setIfInBounds_toArray,List.set_cons_zero,List.set_cons_succ];refine wpAnyH_ready (rs:=[21]) (by kernel_rfl) (by simp) ?_;refine AllReadyH.cons (o:=_) rfl (fun Kx hK=>?_) AllReadyH.nil;go_simp;refine(ae CP).mono ?_;rintro e w6 ⟨pa,pl,pc,rfl,hG⟩;obtain⟨q0,q1,q2,qf⟩:=ae HC _ _ _ hG;obtain⟨q2,q3,q4,q5,q6,q7⟩:=q2
  go_wp2_with fail
  refine hK.out _ _ ⟨q0,q1,q2,q3,q4,q5,q6,q7⟩ (fun hHeld=>?_);clear hK Kx
  (try simp only[Act.put,List.setIfInBounds_toArray,List.set_cons_zero,List.set_cons_succ])
  refine wpAnyH_ready (rs:=[22]) (by kernel_rfl) (by simp) ?_;refine AllReadyH.cons (o:=_) rfl (fun Kx hK=>?_) AllReadyH.nil;go_simp;refine(ae CM _ _ hG).mono ?_;rintro e w7 ⟨ma,ml,mc,rfl,hG⟩;obtain⟨q0,q1,q2,qf⟩:=ae HC _ _ _ hG;obtain⟨q2,q3,q4,q5,q6,q7⟩:=q2
  go_wp2_with fail
  refine hK.out _ _ ⟨q0,q1,q2,q3,q4,q5,q6,q7⟩ (fun hHeld=>?_);clear hK Kx
  (try simp only[Act.put,List.setIfInBounds_toArray,List.set_cons_zero,List.set_cons_succ])
  refine wpAnyH_ready (rs:=[24]) (by kernel_rfl) (by simp) ?_;refine AllReadyH.cons (o:=_) rfl (fun Kx hK=>?_) AllReadyH.nil;go_simp;refine(ae CO _ _ _ hG).mono ?_;rintro e w8 ⟨oa,ol,oc,rfl,hG⟩;obtain⟨q0,q1,q2,qf⟩:=ae HC _ _ _ hG;obtain⟨q2,q3,q4,q5,q6,q7⟩:=q2
  go_wp2_with fail
  refine hK.out _ _ ⟨q0,q1,q2,q3,q4,q5,q6,q7⟩ (fun hHeld=>?_);clear hK Kx
  (try simp only[Act.put,List.setIfInBounds_toArray,List.set_cons_zero,List.set_cons_succ])
  refine wpAnyH_ready (rs:=[25]) (by kernel_rfl) (by simp) ?_;refine AllReadyH.cons (o:=_) rfl (fun Kx hK=>?_) AllReadyH.nil;go_simp;refine(ae CA _ _ _ _ _ hG).mono ?_;rintro e w9 ⟨ra,rl,rc,rfl,hG⟩;obtain⟨q0,q1,q2,qf⟩:=ae HC _ _ _ hG;obtain⟨q2,q3,q4,q5,q6,q7⟩:=q2
  go_wp2_with fail
  refine hK.out _ _ ⟨q0,q1,q2,q3,q4,q5,q6,q7⟩ (fun hHeld=>?_);clear hK Kx
  (try simp only[Act.put,List.setIfInBounds_toArray,List.set_cons_zero,List.set_cons_succ])
  refine wpAnyH_done (by kernel_rfl) ?_ _;show wpList _ _ _ _ _ _;have Ua:=ag (ae HF _ _ _ _ _ _ _ hG);clear hG hHeld CP CM CO CA HC HF;go_wp2;exact ae Ua
 case done=>
  rintro D W5 hD Rq MT;obtain⟨u,hz,hN5⟩:=Rq;rw[hn,gW,dN]at hz;obtain⟨ua,ul,uc,GV⟩:=aU.shape (hz.live _ (.head _));have GV:u=.slice ua ul uc:=GV;subst GV;have bx1:Boxed W5 (P0+1) 38 (.slice ua ul uc):=hz.box _ (.head _);have fX:=hz.O5 (u':=.slice ua ul uc) (ae HS) (fun y hy=>by
   simp only[List.mem_cons,List.not_mem_nil,or_false]at hy;rcases hy with rfl|rfl
   ·show P0≠P0+1;omega
   ·show P0+1+1≠P0+1;omega) sG.1 sG.2
  have HM:Hid (Marks P0 (W5.setCell ⟨P0+1,0,none⟩ (.slice ua ul uc)) W5.heap.size [{ target:=.collected D,args:=#[] }]):=⟨D,rfl,by omega,(ah.1 MT).1,(bo _ _ _ _ (by show D≠P0+1;omega)).trans MT,trivial⟩;have HA:Hid (∀W',Kc (W5.setCell ⟨P0+1,0,none⟩ (.slice ua ul uc)) W'->Out (fun j=>P0<=j) (W5.setCell ⟨P0+1,0,none⟩ (.slice ua ul uc)) W'->ZB K zs (c+64424509440*n) ((.slice ua ul uc,vl K.p ys) :: L) W'/\W'.cell? ⟨P0+1,0,none⟩=some (.slice ua ul uc)):=fun W' kc o=>by have h:=fX.kc (ae HS) (fun x hx=>(Iw (u:=.slice ua ul uc) hx).2) kc (o.mono (fun j hj=>by omega));have h5:=o.size;rw[show(W5.setCell ⟨P0+1,0,none⟩ (.slice ua ul uc)).heap.size=W5.heap.size by simp]at h5;exact⟨h.drop hX ⟨ak hN5.1 h5,fun j ob hj hc=>by have h6:=(ah.1 hj).1;exact((o.block j (by rw[show(W5.setCell ⟨P0+1,0,none⟩ (.slice ua ul uc)).heap.size=W5.heap.size by simp];have:=hN5.1;omega) (by omega)).trans (bo _ _ _ _ (by show j≠P0+1;omega))).trans (hN5.2 j ob hj hc)⟩,Boxed.cell (h.box _ (.head _))⟩
  have c1:=bx1.cell;have f1:=bx1.frozen;clear hz fX bx1 I0 SQ MT
  gi_wp2
  refine kN (ae HM) (fun W' kc o=>?_);obtain⟨a1,a2⟩:=ae HA W' kc o;refine⟨.slice ua ul uc,by simp[results,Tryz.results72,go_sem,a2],?_⟩;exact⟨_,_,_,rfl,a1⟩
end
end
section
open Go.RowKit
theorem FD(T:bJ):2<=T.bD.row.getD 6 0/\T.bD.row.getD 6 0<=1024:=by unfold bJ.bD bJ.row;exact⟨vR (by omega),At⟩
theorem acY(p P R A:Nat):pd p P (A%p^P)++pd p R (A/p^P)=pd p (P+R) A:=by rw[NT, <-Ch]
def zu:Nat:=64424509440
def zc(n:Nat):Nat:=zu*(2*n-1)
theorem AM(n:Nat):64424509440*n<=zc n:=by unfold zc zu;refine au _ ?_;omega
theorem Qt(h:P+Q=n)(hP:1<=P)(hQ:1<=Q):zu+zc P+zc Q=zc n:=by unfold zc;rw[<-h,show 2*(P+Q)-1=1+(2*P-1)+(2*Q-1) by omega,aH,aH,dG]
theorem Y4:zu=64424509440:=rfl
def Mo(K:ZK)(f:Nat):Prop:=∀(n o cap A c:Nat) (pre post:List Nat) (u:Value) (L:List (Value×Nat)) (W:World),n<f->ZB K (pre++List.replicate n 0++post) c L W->pre.length=o->Has K L u A->A<K.p^n->wl A<=250->n<=8000->n<=cap->cap<=1000000->c+zc n<=270000000000000000->
 Calls Tryz.prog 56 #[.pointer (some ⟨K.gp,0,none⟩),.slice (some ⟨K.gb,o,none⟩) n cap,u] W fun e w'=>∃v,e=.returned v/\ZB K (pre++pd K.p n A++post) (c+zc n) L w'
theorem Rk{K:ZK}(S:ZS K)(f:Nat)(IH:Mo K f):Mo K (f+1):=by
 intro n o cap A c pre post u L W hf h ho hu hA wA hn A_ ks h1;obtain⟨R,hR⟩:∃R,R=K.T.bD.row.getD 6 0:=⟨_,rfl⟩;have Gy:=FD K.T;rw[<-hR]at Gy;have hM:=hu _ _ _ h;have CLn:Hid (∀u':Old W,Calls Tryz.prog 57 #[u] u'.val fun e w'=>e=.returned (.int .i64 (wl A:Int))/\Below u'.val.heap.size u'.val w'):=fun u'=>(Ct (hM.next u'.jD)).mono fun e w' k=>⟨k.1,by rw[k.2];exact aj _ _⟩;obtain⟨c0,c1,c2,c3,c4,c5⟩:=h.way;obtain⟨c6,c7,c8,c9,Vh⟩:=h.aeE;rw[<-hR]at Vh;have q0:=Old.cell c0;have q1:=Old.cell c1;have q2:=Old.cell c2;have q3:=Old.cell c3;have q4:=Old.cell c4;have q5:=Old.cell c5;have q6:=Old.cell c6;have q7:=Old.cell c7;have q8:=Old.cell c8;have q9:=Old.cell c9;have q10:=Old.cell (p:=⟨K.g,9,none⟩) Vh;obtain⟨ua,ub,uo,uc,xs,GV,_⟩:=hM;subst GV;have inst:=gM W;have Zv:Hid (∀W',Below W.heap.size W W'->ZB K (pre++List.replicate n 0++post) c L W'):=fun W' b=>h.next S.b2 b;clear c0 c1 c2 c3 c4 c5 c6 c7 c8 c9 Vh;by_cases hs:(wl A:Int)<R
 ·have CH:Hid (∀W',Below W.heap.size W W'->Calls Tryz.prog 68 #[.pointer (some ⟨K.gp,0,none⟩),.slice (some ⟨K.gb,o,none⟩) n cap,.slice ua xs.length uc] W' fun e w'=>∃v,e=.returned v/\ZB K (pre++pd K.p n A++post) (c+zc n) L w'):=fun W' b=>(Gm S (ae Zv W' b) ho hu hA wA (by omega) A_ (ak (gB (AM n) c) h1)).mono fun e w' ⟨v,k1,k2⟩=>⟨v,k1,k2.up (gB (AM n) c)⟩;clear h hu hA wA ho IH Zv hR h1 hn;generalize wl A=na at *;go_enter Tryz.func56,Tryz.ntmps56
  go_wp2_with fail
  refine fo (by kernel_rfl) (by kernel_rfl) ?_
  repeat (go_big_quiet_step (first|(go_at_call 57;exact Calls.jD (ae CLn _))|fail))
  refine wpQuiet_nil ?_;intro w5 tH;obtain⟨u5,rfl⟩:=tH
  go_wp2_with fail
  with_reducible refine(ae CH _ u5.jD).mono ?_
  rintro e w2 ⟨v,rfl,hz⟩;have HX:=ag hz;clear hz CH CLn;go_wp2;refine dR (results_none rfl _ _ _) rfl ?_;exact⟨_,rfl,ae HX⟩
 ·have xA:2<=n:=by
   refine cG fun dh=>?_;have h3:A<18446744073709551616^1:=by
    rw[fi];rcases fl n 1 with h4|h4
    ·obtain rfl:n=0:=(by omega);rw[cL]at hA;omega
    ·obtain rfl:n=1:=(by omega);rw[fi]at hA;exact jY hA S.p9
   have:=iY 1 A h3;omega
  have Uy:=ag (fun W=>LX W n xA (by omega));have CP:Hid (∀(W:World) (i:Nat),ZB K (pre++List.replicate n 0++post) c L W->2^i<=n-1->Calls Tryz.prog 71 #[.pointer (some ⟨K.gp,0,none⟩),.int .i64 (i:Int)] W fun e w'=>∃ga la ca,e=.returned (.slice ga la ca)/\ZB K (pre++List.replicate n 0++post) (c+60129542144) ((.slice ga la ca,K.p^2^i) :: L) w'):=fun W i hz hi=>se S hz i (by refine cG fun dh=>?_;have:=aA (n:=2) (by omega) dh;omega) (by omega);have CD:Hid (∀(W:World) (i:Nat) (pv:Value),ZB K (pre++List.replicate n 0++post) (c+60129542144) ((pv,K.p^2^i) :: L) W->2^i<=n-1->Calls Tryz.prog 70 #[.pointer (some ⟨K.gv,0,none⟩),.slice ua xs.length uc,pv] W fun e w'=>∃ga la ca ha hl hc,e=.returned (.tuple #[.slice ga la ca,.slice ha hl hc,.int .i64 0])/\ZB K (pre++List.replicate n 0++post) (c+zu) ((.slice ga la ca,A/K.p^2^i) :: (.slice ha hl hc,A%K.p^2^i) :: L) w'):=fun W i pv hz hi=>(hz.aeu S (by refine cG fun dh=>?_;have:=aA (n:=2) (by omega) dh;omega) (by have:=Y4;omega) hu wA).mono fun e w' ⟨a,b,c,d,e,f,k1,k2⟩=>⟨a,b,c,d,e,f,k1,k2.up (by have:=Y4;omega)⟩;have wl1:∀x,wl (A/x)<=250:=fun x=>ak (fw (bT _ _)) wA;have wl2:∀x,wl (A%x)<=250:=fun x=>ak (fw (UJ _ _)) wA;have Zk:∀P Q,1<=P->P+Q=n->1<=Q->c+zu+zc P+zc Q=c+zc n:=fun P Q h1 h2 h3=>by have:=Qt h2 h1 h3;omega
  have UA:Hid (∀W P Q hv lv,ZB K (pre++List.replicate n 0++post) (c+zu) ((hv,A/K.p^P) :: (lv,A%K.p^P) :: L) W->1<=P->P+Q=n->1<=Q->Calls Tryz.prog 56 #[.pointer (some ⟨K.gp,0,none⟩),.slice (some ⟨K.gb,o,none⟩) P cap,lv] W fun e w'=>∃v,e=.returned v/\ZB K (pre++pd K.p P (A%K.p^P)++(List.replicate Q 0++post)) (c+zu+zc P) ((hv,A/K.p^P) :: (lv,A%K.p^P) :: L) w'):=fun W P Q hv lv hz hP MU hQ=>by
   have e:pre++List.replicate n 0++post=pre++List.replicate P 0++(List.replicate Q 0++post):=by rw[<-MU, <-List.replicate_append_replicate];simp only[List.append_assoc]
   rw[e]at hz;exact IH P o cap _ _ pre _ lv _ W (by omega) hz ho (Ay (.tail _ (.head _)) (ak (wl2 _) (by omega))) (aD _ (bR (by have:=S.p2;omega))) (wl2 _) (by omega) (by omega) ks (by have:=Zk P Q hP MU hQ;omega)
  have TY:Hid (∀W P Q oP cP hv lv,ZB K (pre++pd K.p P (A%K.p^P)++(List.replicate Q 0++post)) (c+zu+zc P) ((hv,A/K.p^P) :: (lv,A%K.p^P) :: L) W->1<=P->P+Q=n->1<=Q->o+P=oP->cap-P=cP->Calls Tryz.prog 56 #[.pointer (some ⟨K.gp,0,none⟩),.slice (some ⟨K.gb,oP,none⟩) Q cP,hv] W fun e w'=>∃v,e=.returned v/\ZB K (pre++pd K.p n A++post) (c+zc n) L w'):=fun W P Q oP cP hv lv hz hP MU hQ hoP z_=>by
   have e:pre++pd K.p P (A%K.p^P)++(List.replicate Q 0++post)=(pre++pd K.p P (A%K.p^P))++List.replicate Q 0++post:=(by simp);rw[e]at hz;refine(IH Q oP cP _ _ _ post hv _ W (by omega) hz (by rw[bU,oV,ho,hoP]) (Ay (.head _) (ak (wl1 _) (by omega))) ?_ (wl1 _) (by omega) (by omega) (by omega) (by have:=Zk P Q hP MU hQ;omega)).mono ?_
   ·rw[aR (bR (by have:=S.p2;omega)), <-aQ,fj Q,MU];exact hA
   ·rintro e w' ⟨v,k1,k2⟩;refine⟨v,k1,?_⟩;rw[fB pre,acY,MU]at k2;exact(k2.sub (fun x hx=>.tail _ (.tail _ hx))).up (gV (Zk P Q hP MU hQ))
  have HB:Hid (∀ys d Lq W W',ZB K ys d Lq W->Below W.heap.size W W'->ZB K ys d Lq W'):=fun ys d Lq W W' hz hb=>hz.next S.b2 hb;have HW:Hid (∀ys d Lq W,ZB K ys d Lq W->W.cell? ⟨K.gp,0,none⟩=some (.pointer (some ⟨K.gz,0,none⟩))/\W.cell? ⟨K.gz,0,none⟩=some (.pointer (some ⟨K.gw,0,none⟩))/\W.cell? ⟨K.gw,0,none⟩=some (.pointer (some ⟨K.gv,0,none⟩))):=fun ys d Lq W hz=>⟨hz.way.1,hz.way.2.1,hz.way.2.2.1⟩;clear h hu hA ho hR h1 wl1 wl2 wA IH Gy Zk;generalize wl A=na at *;go_enter Tryz.func56,Tryz.ntmps56
  go_wp2_with fail
  refine fo (by kernel_rfl) (by kernel_rfl) ?_
  repeat (go_big_quiet_step (first|(go_at_call 57;exact Calls.jD (ae CLn _))|fail))
  refine wpQuiet_nil ?_;intro w5 tH;obtain⟨u5,rfl⟩:=tH;have hG:=ae Zv _ u5.jD;generalize u5.val=w5 at *;clear CLn Zv u5 q0 q1 q2 q3 q4 q5 q6 q7 q8 q9 q10 inst
  go_wp2_with fail
  with_reducible refine(ae Uy _).mono ?_
  rintro e w2 ⟨i,rfl,Wl,zI,hw⟩;obtain rfl:=hw.symm;clear hw Uy;have TZ:=ag (fun W hz=>ae CP W i hz Wl);have Uz:=ag (fun W pv hz=>ae CD W i pv hz Wl);clear CP CD;have hG:=ae HB _ _ _ _ w5.drew hG (aj _ _).drew;obtain⟨e0,e1,e2⟩:=ae HW _ _ _ _ hG;have i64:i<=13:=by refine cG fun dh=>?_;have:=aA (n:=2) (by omega) dh;omega
  have i0:IntKind.i64.wrap (((2:Int)^i))=((2^i:Nat):Int):=by rw[lK,ao];generalize 2^i=p at *;omega
  have hi0:(0:Int)<=(i:Int):=by omega
  have i1:min i 64=i:=by omega
  have i2:=lK i;have hPp:=bC i;obtain⟨P,hP⟩:∃P,P=2^i:=⟨_,rfl⟩;obtain⟨Q,hQ⟩:∃Q,n-P=Q:=⟨_,rfl⟩;obtain⟨oP,hoP⟩:∃oP,o+P=oP:=⟨_,rfl⟩;obtain⟨cP,z_⟩:∃cP,cap-P=cP:=⟨_,rfl⟩;clear zI;rw[<-hP]at i0 i2 Wl hPp;have j1:P<=n/\P<=cap/\¬cap=P/\¬n=P:=by omega
  obtain⟨j1,j2,j3,j4⟩:=j1;have HPP:=ag hP;have iP:IntKind.i64.wrap (P:Int)=(P:Int):=by rw[ao];omega
  clear hP;have UA:=ag (fun W hv lv hz=>ae UA W P Q hv lv hz (by omega) (by omega) (by omega));have TY:=ag (fun W hv lv hz=>ae TY W P Q oP cP hv lv hz (by omega) (by omega) (by omega) hoP z_);go_wp2
  go_region_held3 (fun w'=>w'.cell? ⟨K.gp,0,none⟩=some (.pointer (some ⟨K.gz,0,none⟩))/\w'.cell? ⟨K.gz,0,none⟩=some (.pointer (some ⟨K.gw,0,none⟩))/\w'.cell? ⟨K.gw,0,none⟩=some (.pointer (some ⟨K.gv,0,none⟩))) (first|(exact ae HW _ _ _ _ hG)|go_keep) (first
    |(with_reducible refine(ae TZ _ hG).mono ?_;rintro e w3 ⟨pa,pl,pc,rfl,hG⟩)
    |(with_reducible refine(ae Uz _ _ hG).mono ?_;rintro e w4 ⟨qa,ql,qc,ra,rl,rc,rfl,hG⟩)
    |fail)
  rw[<-ae HPP]at hG;have UA:=ag (ae UA _ _ _ hG);clear hG TZ Uz
  go_wp2_with fail
  with_reducible refine(ae UA).mono ?_
  rintro e w7 ⟨v7,rfl,hG⟩;have TY:=ag (ae TY _ _ _ hG);clear hG UA
  go_wp2_with fail
  with_reducible refine(ae TY).mono ?_
  rintro e w8 ⟨v8,rfl,hG⟩;have HX:=ag hG;clear hG TY;go_wp2
  go_end0
  exact⟨_,rfl,ae HX⟩
theorem JU{K:ZK}(S:ZS K):∀f,Mo K f
 |0=>fun n _ _ _ _ _ _ _ _ _ h=>absurd h (by omega)
 |f+1=>Rk S f (JU S f)
end
end Go.Proofs.YtkdmippllpekfaaGreatDoor
