import Derived.Test.YtkdmippllpekfaaGreatDoorB28
import Derived.Test.YtkdmippllpekfaaGreatDoorB14
namespace Go.Proofs.YtkdmippllpekfaaGreatDoor
set_option maxRecDepth 100000
set_option maxHeartbeats 12800000
open Go.RowKit
theorem zd(w:World)(u:Value)(qa:Option Addr)(qc:Nat)(h:jO w u 0):Calls Tryz.prog 19 #[u,.slice qa 0 qc] w fun e w'=>e=.returned (.bool true)/\Below w.heap.size w w':=
 K6 w u qa 0 0 qc 0 0 2 [] rfl (by omega) (by decide) h (cH.nil _ _ _ _ _) ue rfl
theorem Ak(SN:mX)(ST:mW)(SP:kJ)(SX:zt)(T:bJ)(bs:List UInt8)(w:World)(z:Int)(gY: -9223372036854775808<=z)(fX:z<=9223372036854775807)(hT:TB w):Calls Tryz.prog 4 #[T.val,.string ⟨⟨bs⟩⟩,.int .i64 z] w fun e w'=>e=.returned (.bool true)/\Below w.heap.size w w':=by
 obtain⟨L,hL⟩:∃L,L=bs.length:=⟨_,rfl⟩;obtain⟨S,hS⟩:∃S:ByteArray,S=⟨⟨bs⟩⟩:=⟨_,rfl⟩;have hSz:S.size=L:=by rw[hS,hL];rfl
 have bl:=aj w.heap.size w;rw[<-hS];have HS:=ag hS;have HL:=ag hL;clear hS hL;have b0:Below w.heap.size w (w.alloc (.cells #[.int .i64 T.b,.int .i64 T.t,.int .i64 T.n,.int .i64 T.d,.int .i64 T.r,.int .i64 T.l,.int .i64 T.x,.int .i64 T.p,.int .i64 T.k,.int .i64 T.s,.int .i64 T.e] 23)):=(aj _ _).alloc (af _) _;have tA:=jy w T 23;obtain⟨W1,mP⟩:∃W,w.alloc (.cells #[.int .i64 T.b,.int .i64 T.t,.int .i64 T.n,.int .i64 T.d,.int .i64 T.r,.int .i64 T.l,.int .i64 T.x,.int .i64 T.p,.int .i64 T.k,.int .i64 T.s,.int .i64 T.e] 23)=W:=⟨_,rfl⟩;rw[mP]at b0 tA;obtain⟨P0,ke⟩:∃P,w.heap.size=P:=⟨_,rfl⟩;rw[ke]at tA;have lP:P0<W1.heap.size:=tA.lt;have HT:=ag hT;clear hT;have b00:=b0;clear b0;have CK:=ag (fun W h=>gA SN ST SP W h);have CN:=ag (fun W=>SN T W);have HP:=ag SP;have HX:=ag SX;clear SN ST SP SX;have bl:=aJ bl b00;clear b00;unfold bJ.val at CN ⊢;by_cases hlen:400<L
 ·have q1:decide ((400:Int)<(L:Int))=true:=bg (by omega);go_enter vi,QO
  go_wp2_with fail
  refine(ae CK _ ((ae HT).next bl)).mono ?_;rintro e w1 ⟨rfl,b⟩;have bl:=aJ bl b;clear b;go_wp2;go_ret;exact⟨rfl,bl⟩
 ·have q1:decide ((400:Int)<(L:Int))=false:=aM (by omega);have hLb:bs.length<=400:=by rw[<-ae HL];omega
  rcases(by
   by_cases h:z<2\/36<z
   ·exact Or.inl h
   ·by_cases h0:bs=[]
    ·exact Or.inr (Or.inl ⟨by omega,by omega,h0⟩)
    ·rcases hp:pv z.toNat 0 bs with _|n
     ·exact Or.inr (Or.inr (Or.inl ⟨z.toNat,by omega,by omega,by omega,h0,hp⟩))
     ·exact Or.inr (Or.inr (Or.inr ⟨z.toNat,n,by omega,by omega,by omega,h0,hp⟩)):
   (z<2\/36<z)\/(2<=z/\z<=36/\bs=[])\/(∃b:Nat,z=(b:Int)/\2<=b/\b<=36/\bs≠[]/\pv b 0 bs=none)\/(∃b n:Nat,z=(b:Int)/\2<=b/\b<=36/\bs≠[]/\pv b 0 bs=some n))with hc|⟨z1,z2,h0⟩|⟨b,rfl,k1,k2,h0,hp⟩|⟨b,n,rfl,k1,k2,h0,hp⟩
  ·have CR0:Hid (∀W,Calls Tryz.prog 18 #[.string S,.int .i64 z] W fun e w'=>e=.returned (.tuple #[.slice none 0 0,.int .i64 1])/\w'=W):=fun W=>N5 W S z hc;go_enter vi,QO;have Ip:=tA;obtain⟨p0,p1,p2,p3,p4,p5,p6,p7,p8,p9,wF⟩:=Ip
   go_wp2_with fail
   refine(ae CN _).mono ?_;rintro e w1 ⟨gz,gw,gv,gr,gd,gm,gt,gk,ge,g,rfl,E,hn,b⟩;clear p0 p1 p2 p3 p4 p5 p6 p7 p8 p9 wF;have hg:w.heap.size<=g:=by have:=bl.size;omega
   clear hn tA lP CN;have bl:=aJ bl b;clear b;have CL:=ag (ae HX _ gz gw gv gr gd gm gt gk ge g 0 0 0 T bs z 1 E ((ae HT).next bl) (by decide) (by decide) (by decide) (by decide) (by omega) (by omega) (by omega) (Or.inl ⟨hc,rfl⟩));rw[<-ae HS]at CL
   go_wp2_with fail
   with_reducible refine(ae CL).mono ?_
   rintro e w2 ⟨qa,qc,s',m',rfl,E2,_,o⟩;clear CL;have bl:=bl.trans (o.below (B:=w.heap.size) bl.size (fun k hk=>by rw[hk];exact hg));have E:=E2;clear o E2;clear E
   go_wp2_with fail
   with_reducible refine(ae CR0 _).mono ?_
   rintro e wr ⟨rfl,rfl⟩
   go_wp2_with fail
   refine(zd _ _ qa qc (uI _)).mono ?_;rintro e w3 ⟨rfl,b⟩;have bl:=aJ bl b;clear b
   go_wp2_with fail
   refine(ae CK _ ((ae HT).next bl)).mono ?_;rintro e w4 ⟨rfl,b⟩;have bl:=aJ bl b;clear b;go_wp2;go_ret;exact⟨rfl,bl⟩
  ·have EZ:S.size=0:=by rw[hSz,ae HL,h0];rfl
   have CR0:Hid (∀W,Calls Tryz.prog 18 #[.string S,.int .i64 z] W fun e w'=>e=.returned (.tuple #[.slice none 0 0,.int .i64 11])/\w'=W):=fun W=>KU W S z z1 z2 EZ;clear EZ;go_enter vi,QO;have Ip:=tA;obtain⟨p0,p1,p2,p3,p4,p5,p6,p7,p8,p9,wF⟩:=Ip
   go_wp2_with fail
   refine(ae CN _).mono ?_;rintro e w1 ⟨gz,gw,gv,gr,gd,gm,gt,gk,ge,g,rfl,E,hn,b⟩;clear p0 p1 p2 p3 p4 p5 p6 p7 p8 p9 wF;have hg:w.heap.size<=g:=by have:=bl.size;omega
   clear hn tA lP CN;have bl:=aJ bl b;clear b;have CL:=ag (ae HX _ gz gw gv gr gd gm gt gk ge g 0 0 0 T bs z 11 E ((ae HT).next bl) (by decide) (by decide) (by decide) (by decide) (by omega) (by omega) (by omega) (Or.inr ⟨z1,z2,Or.inl h0,rfl⟩));rw[<-ae HS]at CL
   go_wp2_with fail
   with_reducible refine(ae CL).mono ?_
   rintro e w2 ⟨qa,qc,s',m',rfl,E2,_,o⟩;clear CL;have bl:=bl.trans (o.below (B:=w.heap.size) bl.size (fun k hk=>by rw[hk];exact hg));have E:=E2;clear o E2;clear E
   go_wp2_with fail
   with_reducible refine(ae CR0 _).mono ?_
   rintro e wr ⟨rfl,rfl⟩
   go_wp2_with fail
   refine(zd _ _ qa qc (uI _)).mono ?_;rintro e w3 ⟨rfl,b⟩;have bl:=aJ bl b;clear b
   go_wp2_with fail
   refine(ae CK _ ((ae HT).next bl)).mono ?_;rintro e w4 ⟨rfl,b⟩;have bl:=aJ bl b;clear b;go_wp2;go_ret;exact⟨rfl,bl⟩
  ·have CR0:Hid (∀W,Calls Tryz.prog 18 #[.string S,.int .i64 (b:Int)] W fun e w'=>e=.returned (.tuple #[.slice none 0 0,.int .i64 11])/\Below W.heap.size W w'):=fun W=>by
    rw[ae HS];refine(Cm W bs b none k1 k2 h0 (by omega) hp).mono ?_;rintro e w' (⟨n,r,h,_⟩|⟨_,h1,h2⟩)
    ·cases h
    ·exact⟨h1,h2⟩
   go_enter vi,QO;have Ip:=tA;obtain⟨p0,p1,p2,p3,p4,p5,p6,p7,p8,p9,wF⟩:=Ip
   go_wp2_with fail
   refine(ae CN _).mono ?_;rintro e w1 ⟨gz,gw,gv,gr,gd,gm,gt,gk,ge,g,rfl,E,hn,b⟩;clear p0 p1 p2 p3 p4 p5 p6 p7 p8 p9 wF;have hg:w.heap.size<=g:=by have:=bl.size;omega
   clear hn tA lP CN;have bl:=aJ bl b;clear b;have CL:=ag (ae HX _ gz gw gv gr gd gm gt gk ge g 0 0 0 T bs (b:Int) 11 E ((ae HT).next bl) (by decide) (by decide) (by decide) (by decide) (by omega) (by omega) (by omega) (Or.inr ⟨by omega,by omega,Or.inr (by rw[dV];exact hp),rfl⟩));rw[<-ae HS]at CL
   go_wp2_with fail
   with_reducible refine(ae CL).mono ?_
   rintro e w2 ⟨qa,qc,s',m',rfl,E2,_,o⟩;clear CL;have bl:=bl.trans (o.below (B:=w.heap.size) bl.size (fun k hk=>by rw[hk];exact hg));have E:=E2;clear o E2;clear E
   go_wp2_with fail
   with_reducible refine(ae CR0 _).mono ?_
   rintro e wr ⟨rfl,b⟩;have bl:=aJ bl b;clear b
   go_wp2_with fail
   refine(zd _ _ qa qc (uI _)).mono ?_;rintro e w3 ⟨rfl,b⟩;have bl:=aJ bl b;clear b
   go_wp2_with fail
   refine(ae CK _ ((ae HT).next bl)).mono ?_;rintro e w4 ⟨rfl,b⟩;have bl:=aJ bl b;clear b;go_wp2;go_ret;exact⟨rfl,bl⟩
  ·have CR0:Hid (∀W,Calls Tryz.prog 18 #[.string S,.int .i64 (b:Int)] W fun e w'=>∃r,e=.returned (.tuple #[r,.int .i64 0])/\jO w' r n/\Below W.heap.size W w'):=fun W=>by
    rw[ae HS];refine(Cm W bs b (some n) k1 k2 h0 (by omega) hp).mono ?_;rintro e w' (⟨m,r,h,h1,h2,h3⟩|⟨h,_⟩)
    ·cases h;exact⟨r,h1,h2,h3⟩
    ·cases h
   obtain⟨K,hK⟩:∃K,K=400:=⟨_,rfl⟩;have LN:=abu (by omega) bs 0 0 n (by simp) hp;have LN2:Hid (n<18446744073709551616^K):=by show _<_;exact az LN (ak (di (by omega) _) (aA (by omega) (by omega)))
   have wln:wl n<=600:=ak (iY _ _ (ae LN2)) (by omega);clear LN;go_enter vi,QO;have Ip:=tA;obtain⟨p0,p1,p2,p3,p4,p5,p6,p7,p8,p9,wF⟩:=Ip
   go_wp2_with fail
   refine(ae CN _).mono ?_;rintro e w1 ⟨gz,gw,gv,gr,gd,gm,gt,gk,ge,g,rfl,E,hn,b⟩;clear p0 p1 p2 p3 p4 p5 p6 p7 p8 p9 wF;have hg:w.heap.size<=g:=by have:=bl.size;omega
   clear hn tA lP CN;have bl:=aJ bl b;clear b;have lg:=E.met.lt;have CL:=ag (ae HP _ gz gw gv gr gd gm gt gk ge g 0 0 0 T bs n b E ((ae HT).next bl) (by decide) (by decide) (by decide) (by decide) k1 k2 h0 (by omega) hp wln);rw[<-ae HS]at CL
   go_wp2_with fail
   with_reducible refine(ae CL).mono ?_
   rintro e w2 ⟨q,s',m',rfl,nq,E2,_,o⟩;clear CL;have bl:=bl.trans (o.below (B:=w.heap.size) bl.size (fun k hk=>by rw[hk];exact hg));have E:=E2;clear o E2;clear E;obtain⟨qa,ql,qc,rfl⟩:=nq.shape
   go_wp2_with fail
   with_reducible refine(ae CR0 _).mono ?_
   rintro e wr ⟨v1,rfl,n1,b⟩;have nq:=nq.next b;have bl:=aJ bl b;clear b
   go_wp2_with fail
   refine(pe _ _ _ _ _ K (by omega) (ae LN2) n1 nq).mono ?_;rintro e w3 ⟨rfl,b⟩;clear n1 nq;have bl:=aJ bl b;clear b
   go_wp2_with fail
   refine(ae CK _ ((ae HT).next bl)).mono ?_;rintro e w4 ⟨rfl,b⟩;have bl:=aJ bl b;clear b;go_wp2;go_ret;exact⟨rfl,bl⟩
end Go.Proofs.YtkdmippllpekfaaGreatDoor
