import Derived.Deep.RegionHeld3
import Derived.Test.YtkdmippllpekfaaGreatDoorB12
namespace Go.Proofs.YtkdmippllpekfaaGreatDoor
set_option maxRecDepth 100000
set_option maxHeartbeats 3200000
open Go.RowKit
variable{qs xs:List Nat}{d n r:Nat}{v:Value}{w w':World}
theorem NZ(w:World)(c b:Nat)(hc:c<256):Calls Tryz.prog 35 #[.int .u8 (c:Int),.int .i64 (b:Int)] w fun e w'=>e=.returned (.int .i64 (sC b c:Int))/\w'=w:=by
 obtain⟨D,hD⟩:∃D,D=sC b c:=⟨_,rfl⟩;rw[<-hD];unfold sC at hD;have HD:=ag hD;clear hD;rcases(by omega:(48<=c/\c<=57)\/(97<=c/\c<=122)\/(c<48)\/(57<c/\c<97)\/122<c)with h|h|h|h|h
 ·have q1:decide ((48:Int)<=(c:Int))=true:=bg (by omega);have q2:decide ((c:Int)<=57)=true:=bg (by omega);have q3:decide ((97:Int)<=(c:Int))=false:=aM (by omega);go_enter QL,Jo;go_wp2
  all_goals
   go_ret;refine⟨gi (fun x:Int=>Ending.returned (.int .i64 x)) ?_,rfl⟩;rw[ae HD]
   (repeat' split)<;>omega
 ·have q1:decide ((48:Int)<=(c:Int))=true:=bg (by omega);have q2:decide ((c:Int)<=57)=false:=aM (by omega);have q3:decide ((97:Int)<=(c:Int))=true:=bg (by omega);have q4:decide ((c:Int)<=122)=true:=bg (by omega);go_enter QL,Jo;go_wp2
  all_goals
   go_ret;refine⟨gi (fun x:Int=>Ending.returned (.int .i64 x)) ?_,rfl⟩;rw[ae HD]
   (repeat' split)<;>omega
 ·have q1:decide ((48:Int)<=(c:Int))=false:=aM (by omega);have q3:decide ((97:Int)<=(c:Int))=false:=aM (by omega);go_enter QL,Jo;go_wp2
  all_goals
   go_ret;refine⟨gi (fun x:Int=>Ending.returned (.int .i64 x)) ?_,rfl⟩;rw[ae HD]
   (repeat' split)<;>omega
 ·have q1:decide ((48:Int)<=(c:Int))=true:=bg (by omega);have q2:decide ((c:Int)<=57)=false:=aM (by omega);have q3:decide ((97:Int)<=(c:Int))=false:=aM (by omega);go_enter QL,Jo;go_wp2
  all_goals
   go_ret;refine⟨gi (fun x:Int=>Ending.returned (.int .i64 x)) ?_,rfl⟩;rw[ae HD]
   (repeat' split)<;>omega
 ·have q1:decide ((48:Int)<=(c:Int))=true:=bg (by omega);have q2:decide ((c:Int)<=57)=false:=aM (by omega);have q3:decide ((97:Int)<=(c:Int))=true:=bg (by omega);have q4:decide ((c:Int)<=122)=false:=aM (by omega);go_enter QL,Jo;go_wp2
  all_goals
   go_ret;refine⟨gi (fun x:Int=>Ending.returned (.int .i64 x)) ?_,rfl⟩;rw[ae HD]
   (repeat' split)<;>omega
theorem Cn(w:World)(ga:Option Addr)(ba oa ca la b:Nat)(xs:List Nat)(hl:xs.length=la)(hn:la<=2000)(hR:cH w ga ba oa ca xs)(hb:b<18446744073709551616)(hd:∀j,xs.getD j 0<18446744073709551616)(hx:∀d,d ∈ xs->d<b):Calls Tryz.prog 26 #[.int .u64 (b:Int),.slice ga la ca] w fun e w'=>∃r,e=.returned r/\jO w' r (vl b xs)/\Below w.heap.size w w':=by
 obtain⟨M,hM⟩:∃M,M=4002:=⟨_,rfl⟩;have hw:(18446744073709551616:Nat)=4294967296^2:=rfl;have HB:Hid (∀i,i<=la->vl b (xs.drop i)<4294967296^M):=fun i hi=>by
  have h1:=zV (xs.drop i) (fun d h=>hx d (fQ h));have h2:b^(xs.drop i).length<=18446744073709551616^(xs.drop i).length:=di (by omega) _;have uF:2*(xs.drop i).length<=M:=by rw[gP];omega
  rw[hw, <-dH]at h2;exact az h1 (ak h2 (aA (by decide) uF))
 have ID:Hid (b<4294967296^M):=by rw[hw]at hb;exact az hb (aA (by decide) (by omega))
 have HB3:Hid (∀i,i<=la->vl b (xs.drop i)*b<4294967296^(M+M)):=fun i hi=>by have:=eU (HB.out i hi) ID.out;rwa [<-aQ]at this
 have HB4:Hid (∀i,xs.getD i 0<4294967296^(M+M)):=fun i=>by have:=hd i;rw[hw]at this;exact az this (aA (by decide) (by omega))
 obtain⟨M2,hM2⟩:∃M2,M2=M+M:=⟨_,rfl⟩;rw[<-hM2]at HB3 HB4;clear hw;have CB:Hid (∀W,Calls Tryz.prog 38 #[.int .u64 (b:Int)] W fun e w'=>∃v,e=.returned v/\jO w' v b/\Below W.heap.size W w'):=fun W=>by have:=qP (b:Int) (by omega) (by omega) W;rw[dV]at this;exact this
 have HDr:Hid (∀i,i<la->xs.drop i=xs.getD i 0 :: xs.drop (i+1)):=fun i hi=>by rw[aq,bj (by omega),df];exact cK (by omega)
 have h0:vl b (xs.drop la)=0:=by rw[aT (by omega)];rfl
 have HD:=ag hd;have HE:=ag hl;clear hd hx;go_enter Tryz.func26,Tryz.ntmps26;go_wp2
 go_loopw [5,6] (fun r i wr=>∃(q:Nat),q<=la/\i=.int .i64 ((q:Int)-1)/\jO wr r (vl b (xs.drop q))/\Below w.heap.size w wr)
  (fun _ i _=>(intOf i+1).toNat)
 case atStart=>exact⟨la,af _,rfl,by rw[h0];exact uI _,aj _ _⟩
 case round=>
  obtain⟨q,hq,rfl,hN,en⟩:=hrel;by_cases h1:0<q
  ·obtain⟨i,rfl⟩:∃i,q=i+1:=⟨q-1,by omega⟩;have ej:((i+1:Nat):Int)-1=(i:Int):=(by omega);rw[ej];clear ej;obtain rfl:=hR.head (by omega);have hRn:=hR.next en;have i0:(0:Int)<=(i:Int):=(by omega);have i1:(i:Int)<(la:Int):=(by omega);have hwi:=ae HD i;have CD:Hid (∀W,Calls Tryz.prog 38 #[.int .u64 ((xs.getD i 0:Nat):Int)] W fun e w'=>∃v,e=.returned v/\jO w' v (xs.getD i 0)/\Below W.heap.size W w'):=fun W=>by have:=qP ((xs.getD i 0:Nat):Int) (by omega) (by omega) W;rw[dV]at this;exact this
   have CV:=ag (fun W u v (h:jO W u (vl b (xs.drop (i+1)))) (k:jO W v b)=>PE W u v _ b M (by omega) (ae HB (i+1) hq) (ae ID) h k);have CA:=ag (fun W u v (h:jO W u (vl b (xs.drop (i+1))*b)) (k:jO W v (xs.getD i 0))=>OO W u v _ _ M2 (by omega) (ae HB3 (i+1) hq) (ae HB4 i) h k);have hE:Hid (vl b (xs.drop (i+1))*b+xs.getD i 0=vl b (xs.drop i)):=by show _=_;rw[ae HDr i (by omega)];rfl
   have HC:=ag (fun w' (q:Below wr.heap.size wr w')=>(hRn.next q).cell i (by omega));generalize vl b (xs.drop (i+1))=V at *;generalize xs.getD i 0=X at *;have QN:=ag (fun W (q:Below wr.heap.size wr W)=>hN.next q);have b0:Below wr.heap.size wr wr.drew:=(aj _ _).drew;have vn:=hR.room;clear hRn hN hM hM2;go_wp2
   go_region_held3 (fun w'=>w'.cell? ⟨ba,oa+i,none⟩=some (.int .u64 (X:Int))) (first|(with_reducible exact ae HC _ b0)|go_keep) (first
    |(with_reducible refine(ae CV _ _ _ (ae QN _ b0) n1).mono ?_;rintro e wf2 ⟨v2,rfl,n2,b⟩;have b0:=b0.trans (b.mono b0.size);clear b n1)
    |(with_reducible refine(ae CA _ _ _ n2 n3).mono ?_;rintro e wf4 ⟨v4,rfl,n4,b⟩;have b0:=b0.trans (b.mono b0.size);clear b n2 n3)
    |(with_reducible refine(ae CB _).mono ?_;rintro e wf1 ⟨v1,rfl,n1,b⟩;have b0:=b0.trans (b.mono b0.size);clear b)
    |(with_reducible refine(ae CD _).mono ?_;rintro e wf3 ⟨v3,rfl,n3,b⟩;have b0:=b0.trans (b.mono b0.size);have n2:=n2.next b;clear b)
    |fail)
   all_goals
    focus
     have n4:=n4;rw[ae hE]at n4;have bl:=aJ en b0;clear HC CV CA CB CD QN hE en b0;go_wp2
     go_roundw
     case rel=>exact⟨i,by omega,by go_num,n4,bl⟩
     case measure=>simp[intOf]
  ·obtain rfl:q=0:=(by omega);go_wp2;go_ret;exact⟨_,rfl,hN,en⟩
def adC(w:World)(X:Option Nat)(e:Ending)(w':World):Prop:=
 (∃n r,X=some n/\e=.returned (.tuple #[r,.int .i64 0])/\jO w' r n/\Below w.heap.size w w')\/(X=none/\e=.returned (.tuple #[.slice none 0 0,.int .i64 11])/\Below w.heap.size w w')
theorem Cm(w:World)(bs:List UInt8)(b:Nat)(X:Option Nat)(h2:2<=b)(h36:b<=36)(h0:bs≠[])(hl:bs.length<=6000)(hn:pv b 0 bs=X):Calls Tryz.prog 18 #[.string ⟨⟨bs⟩⟩,.int .i64 (b:Int)] w (adC w X):=by
 have q1:decide ((b:Int)<2)=false:=aM (by omega);have q2:decide ((36:Int)<(b:Int))=false:=aM (by omega);obtain⟨L,hL⟩:∃L,L=bs.length:=⟨_,rfl⟩;have hL0:0<L:=by rw[hL];exact DH.2 h0
 have q3:decide ((L:Int)<1)=false:=aM (by omega);have q4:decide ((65536:Int)<(L:Int))=false:=aM (by omega);obtain⟨S,hS⟩:∃S:ByteArray,S=⟨⟨bs⟩⟩:=⟨_,rfl⟩;have hSz:S.size=L:=by rw[hS,hL];rfl
 have HS:=ag hS;have HN:=ag hn;have HL:=ag hL;have hl6:L<=6000:=by rw[hL];exact hl
 rw[<-hS];clear hS hn hL h0 hl;go_enter Tryz.func18,abQ;go_wp2
 go_loopw [6,7] (fun r i wr=>∃(q a:Nat),q<=L/\i=.int .i64 (q:Int)/\jO wr r a/\Hid (a<4294967296^q)/\Hid (pv b a (bs.drop q)=X)/\Below w.heap.size w wr)
  (fun _ i _=>L-(intOf i).toNat)
 case atStart=>exact⟨0,0,aO _,rfl,uI _,by show 0<_;simp,HN,aj _ _⟩
 case round=>
  obtain⟨q,a,hq,rfl,hN,hA,hP,en⟩:=hrel;by_cases h1:q<L
  ·have hqS:q<S.size:=(by omega);obtain⟨c,hc⟩:∃c,S[q].toNat=c:=⟨_,rfl⟩;have rC:c<256:=by rw[<-hc];exact S[q].toNat_lt
   have hD:Hid (∃x:UInt8,x.toNat=c/\bs.drop q=x :: bs.drop (q+1)):=by have e:=ae HS;subst e;refine⟨bs[q]'(by have:=ae HL;omega),hc,?_⟩;exact cK _
   have q0:(0:Int)<=(q:Int):=(by omega);have q5:(q:Int)<(L:Int):=(by omega);obtain⟨d,hd⟩:∃d,d=sC b c:=⟨_,rfl⟩;have BD:d<=b:=by rw[hd];unfold sC;omega
   have CD:=ag (fun W=>NZ W c b rC);rw[<-hd]at CD;obtain⟨x,hx,hdr⟩:=hD;have Y5:Hid (if d<b then pv b (a*b+d) (bs.drop (q+1))=X else X=none):=by
    have h:=ae hP;rw[hdr]at h;simp only[pv]at h;rw[hx, <-hd]at h;show if _ then _ else _
    split
    ·rename_i h1;rw[aW h1]at h;exact h
    ·rename_i h1;rw[aV h1]at h;exact h.symm
   clear hP hd hx hdr rC
   go_wp2_with fail
   refine(ae CD _).mono ?_;rintro e wd ⟨rfl,hw⟩;obtain rfl:=hw.symm;clear hw CD;by_cases ad4:d<b
   ·have Qx:Hid (pv b (a*b+d) (bs.drop (q+1))=X):=by have:=ae Y5;rw[aW ad4]at this;exact this
    have q6:decide ((b:Int)<=(d:Int))=false:=aM (by omega);have CB:Hid (∀W,Calls Tryz.prog 38 #[.int .u64 (b:Int)] W fun e w'=>∃v,e=.returned v/\jO w' v b/\Below W.heap.size W w'):=fun W=>by have:=qP (b:Int) (by omega) (by omega) W;rw[dV]at this;exact this
    have CS:Hid (∀W,Calls Tryz.prog 38 #[.int .u64 (d:Int)] W fun e w'=>∃v,e=.returned v/\jO w' v d/\Below W.heap.size W w'):=fun W=>by have:=qP (d:Int) (by omega) (by omega) W;rw[dV]at this;exact this
    have hA1:a*b<4294967296^(q+1):=by have:=eU (ae hA) (show b<4294967296 by omega);rwa [<-aE]at this
    have hA2:Hid (a*b+d<4294967296^(q+1)):=by have h1:=ax b (vE (ae hA));rw[dJ]at h1;have h2:4294967296^q*b<=4294967296^q*4294967296:=au _ (by omega);rw[<-aE]at h2;show _<_;omega
    have hA3:a<4294967296^(q+1):=az (ae hA) (aA (by omega) (by omega));have tE:b<4294967296^(q+1):=az (show b<4294967296^1 by omega) (aA (by omega) (by omega));have sJ:d<4294967296^(q+1):=az (show d<4294967296^1 by omega) (aA (by omega) (by omega));have CM:=ag (fun W u v (h:jO W u a) (k:jO W v b)=>PE W u v a b (q+1) (by omega) hA3 tE h k);have CA:=ag (fun W u v (h:jO W u (a*b)) (k:jO W v d)=>OO W u v (a*b) d (q+1) (by omega) hA1 sJ h k);have bw:IntKind.u64.wrap (b:Int)=(b:Int):=LU b (by omega);have dw:IntKind.u64.wrap (d:Int)=(d:Int):=LU d (by omega);clear Y5 hA1 hA3 tE sJ hA;generalize a*b=ab at *
    go_wp2_with fail
    refine(ae CB _).mono ?_;rintro e w2 ⟨v2,rfl,n2,b2⟩;have hN:=hN.next b2;have en:=aJ en b2;clear b2 CB
    go_wp2_with fail
    refine(ae CM _ _ _ hN n2).mono ?_;rintro e w3 ⟨v3,rfl,n3,b3⟩;have en:=aJ en b3;clear b3 CM n2 hN
    go_wp2_with fail
    refine(ae CS _).mono ?_;rintro e w4 ⟨v4,rfl,n4,b4⟩;have n3:=n3.next b4;have en:=aJ en b4;clear b4 CS
    go_wp2_with fail
    refine(ae CA _ _ _ n3 n4).mono ?_;rintro e w5 ⟨v5,rfl,n5,b5⟩;have en:=aJ en b5;clear b5 CA n3 n4;go_wp2;exact⟨⟨q+1,_,by omega,by go_num,n5,hA2,Qx,en⟩,by simp[intOf];omega⟩
   ·have Qx:Hid (X=none):=by have:=ae Y5;rw[aV ad4]at this;exact this
    have q6:decide ((b:Int)<=(d:Int))=true:=bg (by omega);clear Y5;go_wp2
    go_ret2
    exact Or.inr ⟨ae Qx,rfl,en⟩
  ·obtain rfl:q=L:=(by omega);have e:bs.drop q=[]:=aT (by have:=ae HL;omega);have Aa:Hid (some a=X):=by have:=ae hP;rw[e]at this;exact this
   clear e hP;go_wp2
   go_ret2
   exact Or.inl ⟨a,_,(ae Aa).symm,rfl,hN,en⟩
theorem N5(w:World)(S:ByteArray)(z:Int)(hz:z<2\/36<z):Calls Tryz.prog 18 #[.string S,.int .i64 z] w fun e w'=>e=.returned (.tuple #[.slice none 0 0,.int .i64 1])/\w'=w:=by
 rcases hz with h|h
 ·have q1:decide (z<2)=true:=bg h;clear h;go_enter Tryz.func18,abQ;go_wp2
  go_ret2
  exact⟨rfl,rfl⟩
 ·have q1:decide (z<2)=false:=aM (by omega);have q2:decide ((36:Int)<z)=true:=bg h;clear h;go_enter Tryz.func18,abQ;go_wp2
  go_ret2
  exact⟨rfl,rfl⟩
theorem KU(w:World)(S:ByteArray)(z:Int)(h1:2<=z)(h2:z<=36)(hS:S.size=0):Calls Tryz.prog 18 #[.string S,.int .i64 z] w fun e w'=>e=.returned (.tuple #[.slice none 0 0,.int .i64 11])/\w'=w:=by
 have q1:decide (z<2)=false:=aM (by omega);have q2:decide ((36:Int)<z)=false:=aM (by omega);clear h1 h2;go_enter Tryz.func18,abQ;go_wp2
 go_ret2
 exact⟨rfl,rfl⟩
def Le:Value->Nat
 | .slice _ n _=>n
 |_=>0
theorem KB{ws:List Nat}(h:iS ws)(hv:aB ws<18446744073709551616):ws=[]/\aB ws=0\/∃d,ws=[d]/\aB ws=d/\0<d:=by
 have hl:=mT h (L:=1) (by rw[fi];exact hv)
 match ws,hl,h with
 |[],_,_=>exact Or.inl ⟨rfl,rfl⟩
 |[d],_,h=>
  have e:aB [d]=d:=by simp[aB]
  exact Or.inr ⟨d,rfl,e,by have:=h.2 (by simp);simpa using this⟩
theorem qM{base:Nat}{t:TypeId}{us:List Value}(b:Below w.heap.size w w')(h:w.ownsRow base t 1 v n us):w'.ownsRow base t 1 v n us:=by
 refine⟨h.1,?_⟩;rcases h.2 with h0|⟨g,cap,cur,hv,hb,hg,rest⟩
 ·exact .inl h0
 ·exact .inr ⟨g,cap,cur,hv,hb,(b.block g (ah.1 hg).1).trans hg,rest⟩
theorem Yx(w:World)(v:Value)(n L:Nat)(hL:L<=1073741824)(hn:n<4294967296^L)(h:jO w v n):Calls Tryz.prog 39 #[v] w fun e w'=>∃ga b cap ws,e=.returned (.slice ga ws.length cap)/\cH w' ga b 0 cap ws/\iS ws/\aB ws=n/\Below w.heap.size w w':=by
 obtain⟨ga,b,o,cap,xs,rfl,hR,hc,hv⟩:=h;have hl:=oQ hc (L:=L) (by rw[hv];exact hn);refine(Yw w ga b o cap _ xs rfl (by omega) hR hc).mono ?_;rintro e w' ⟨ga,b,cap,ws,rfl,h1,h2,h3,h4,_⟩;exact⟨ga,b,cap,ws,rfl,h1,h2,h3.trans hv,h4⟩
theorem jO.aan{row:Option Nat}(h:jO w v n)(hg:w.grownBy w' row)(hk:∀g,row=some g->∀a m c,v=.slice (some a) m c->0<m->a.block≠g):jO w' v n:=by obtain⟨ga,b,o,cap,xs,rfl,hr,hc,hv⟩:=h;refine⟨ga,b,o,cap,xs,rfl,⟨hr.head,hr.room,fun j hj=>?_⟩,hc,hv⟩;refine(cZ (hg.block b (hr.lt (by omega)) (fun e=>?_))).trans (hr.cell j hj);have hh:=hr.head (by omega);subst hh;exact hk b e.symm _ _ _ rfl (by omega) rfl
theorem KT(w:World)(v:Value)(A b L:Nat)(hA:A<4294967296^L)(hL:L<=1000)(hb:2<=b)(jA:b<18446744073709551616)(hv:jO w v A):Calls Tryz.prog 23 #[v,.int .u64 (b:Int)] w fun e w'=>∃ga bb cap n,e=.returned (.slice ga n cap)/\(dg b A).length=n/\cH w' ga bb 0 cap (dg b A)/\Below w.heap.size w w':=by
 obtain⟨i0,hi,jx,gY,fX⟩:=fE Tryz.mf;have CB:Hid (∀W,Calls Tryz.prog 38 #[.int .u64 (b:Int)] W fun e w'=>∃v,e=.returned v/\jO w' v b/\Below W.heap.size W w'):=fun W=>by have:=qP (b:Int) (by omega) (by omega) W;rw[dV]at this;exact this
 have wE:(dg b A).length<=32*L:=tz hb (32*L) A (by
  have e:(4294967296:Nat)^L=2^(32*L):=by rw[dH]
  rw[e]at hA;exact az hA (di hb _))
 obtain⟨M,hM⟩:∃M,M=L+2:=⟨_,rfl⟩;have HB:Hid (b<4294967296^M):=az (show b<4294967296^2 from jA) (aA (by omega) (by omega));have HA:Hid (∀x,x<=A->x<4294967296^M):=fun x hx=>az (aN hx hA) (aA (by omega) (by omega));obtain⟨N,hN⟩:∃N,N=(dg b A).length:=⟨_,rfl⟩;have xw:N<=32000:=by rw[hN];omega
 have HN:=ag hN;have hM2:M<=2000:=by omega
 clear hN wE hA hM;go_enter Tryz.func23,Tryz.ntmps23
 go_wp2_with fail
 refine(ae CB _).mono ?_;rintro e w1 ⟨r0,rfl,n0,b1⟩;have hv:=hv.next b1;clear CB;have bz:Below w1.heap.size w1 w1:=aj _ _;go_wp2
 go_loopw [0,5] (fun av out wr=>∃(x:Nat) (gw:Option Addr) (cw k:Nat) (pre:List Nat),x<=A/\k<=N/\Hid (dg b A=pre++dg b x)/\Hid (pre.length=k)/\jO wr av x/\out=.slice gw k cw/\
   wr.ownsRow w1.heap.size 47 1 (.slice gw k cw) k (cellsOf pre)/\Below w1.heap.size w1 wr)
  (fun _ out _=>N-Le out)
 case atStart=>exact⟨A,none,0,0,[],af _,aO _,by show _=_;simp,by show _=_;rfl,hv,rfl,il _ _ _ _,bz⟩
 case round=>
  clear hv bz;obtain⟨x,gw,cw,k,pre,hxA,hkN,hD,hK,hx,rfl,cV,en⟩:=hrel;have kF:=en.size;by_cases h0:x=0
  ·subst h0;have CZ:=ag (oC _ _ _ true (by simp) hx);have hD2:Hid (dg b A=pre):=by have:=ae hD;rw[py,dU]at this;exact this
   clear hD
   go_wp2_with fail
   refine(ae CZ).mono ?_;rintro e wz ⟨rfl,hw⟩;obtain rfl:=hw.symm;clear hw CZ;obtain⟨g1,b2,c1,he,qk,ld,tE⟩:=fS cV;cases he;go_wp2;go_ret;rw[ae hD2];exact⟨gw,b2,cw,k,rfl,qk,ld,aJ b1 en⟩
  ·have CZ:=ag (oC _ _ _ false (by simp[h0]) hx);have hD2:=ag (ae hD);have fR:Hid (dg b A=(pre++[x%b])++dg b (x/b)):=by show _=_;rw[ae hD,oY hb h0];simp
   have DF:k+1<=N:=by rw[ae HN,ae hD,oY hb h0,bU,ae hK];simp
   have hq:x/b<=A:=ak (bT _ _) hxA;have hm:x%b<b:=aD _ (by omega);have CM:=ag (fun W u v (h:jO W u x) (k:jO W v b)=>MN W u v x b M (by omega) (ae HA x hxA) (ae HB) (by omega) h k);unfold Ap at CM;obtain⟨Q,hQ⟩:∃Q,Q=x/b:=⟨_,rfl⟩;obtain⟨R,hR⟩:∃R,R=x%b:=⟨_,rfl⟩;rw[<-hQ, <-hR]at CM fR;rw[<-hQ]at hq;rw[<-hR]at hm;clear hQ hR hD hD2
   go_wp2_with fail
   refine(ae CZ).mono ?_;rintro e wz ⟨rfl,hw⟩;obtain rfl:=hw.symm;clear hw CZ;have nV:Hid (∀g,gw=some ⟨g,0,none⟩->g<wr.heap.size):=fun g hg=>by subst hg;exact(cV.lt g rfl).2
   have hr:=n0.below en (af _)
   go_wp2_with fail
   refine(ae CM _ _ _ hx hr).mono ?_;rintro e w2 ⟨q,r,rfl,nq,nr,b2,nw⟩;have cV:=qM b2 cV;have en:=en.trans (b2.mono en.size);have CT:=ag (fun W u (h:jO W u R)=>Yx W u R M (by omega) (jY hm (ae HB)) h);clear CM hx b2 hr
   go_wp2_with fail
   refine(ae CT _ _ nr).mono ?_;rintro e w3 ⟨gn,bn,cn,ws,rfl,hrw,hcw,hvw,b3⟩;have nq:=nq.next b3;have cV:=qM b3 cV;have en:=en.trans (b3.mono en.size);have kF:=en.size;have NW:=ag nw;clear CT nr b3 nw;rcases KB hcw (by rw[hvw];omega)with⟨rfl,h0w⟩|⟨d,rfl,hd,lZ⟩
   ·obtain rfl:R=0:=by rw[<-hvw];exact h0w
    clear hrw hcw hvw h0w;simp only[List.length_nil]
    go_wp2_with (at_builtin;refine jE _ rfl (.tmp 30) (.tmp 32) 24 rfl w1.heap.size 47 i0 (.int .u64 0) 1 8 bm hi jx gY fX rfl (by omega) (.slice gw k cw) k _ rfl (cV.alloc _) ⟨w3.heap.size,0,none⟩ 1 1 [.int .u64 ((0:Nat):Int)] rfl rfl (by exact fU w3 [.int .u64 ((0:Nat):Int)] 47) (by intro u hu;simp at hu;subst hu;rfl) (by unfold maxLen;omega) (by omega) (by simp;omega) ?_;intro v1 w4 iq fe sk)
    have qX:=uR iq;have jA:=im (en.alloc kF _) (cV.alloc _) fe (by simp;omega);have nq:=(nq.next ((aj _ _).alloc (af _) (Obj.cells #[.int .u64 ((0:Nat):Int)] 47))).aan fe (fun g hg a m c e hm=>by
     have h1:=ae NW a m c e hm;have h2:∃a,gw=some a/\a.block=g:=by cases gw with|none=>cases hg|some a=>exact⟨a,rfl,by cases hg;rfl⟩
     obtain⟨a2,h3,h4⟩:=h2;have h5:gw=some ⟨g,0,none⟩:=by
      rcases cV.2 with h|⟨g',bM,cur,hv,_⟩
      ·cases h.1;cases h3
      ·cases hv;cases h3;cases h4;rfl
     have h6:=ae nV g h5;omega)
    obtain⟨g1,b1,c1,rfl,_,_,_⟩:=fS qX;have HO:=ag qX;have HQ:=ag nq;clear iq fe sk cV nq qX;go_wp2
    go_roundw
    case rel=>exact⟨Q,g1,c1,k+1,pre++[0],hq,DF,fR,by show _=_;rw[bU,ae hK];rfl,ae HQ,rfl,ae HO,jA⟩
    case measure=>simp[Le];omega
   ·obtain rfl:R=d:=by rw[<-hvw];exact hd
    obtain rfl:=hrw.head (by simp);have zG:=hrw.cell 0 (by simp);simp only[Nat.add_zero,List.getD_cons_zero]at zG;clear hrw hcw hvw hd lZ;simp only[List.length_cons,List.length_nil,Nat.zero_add]
    go_wp2_with (at_builtin;refine jE _ rfl (.tmp 30) (.tmp 32) 24 rfl w1.heap.size 47 i0 (.int .u64 0) 1 8 bm hi jx gY fX rfl (by omega) (.slice gw k cw) k _ rfl (cV.alloc _) ⟨w3.heap.size,0,none⟩ 1 1 [.int .u64 ((R:Nat):Int)] rfl rfl (by exact fU w3 [.int .u64 ((R:Nat):Int)] 47) (by intro u hu;simp at hu;subst hu;rfl) (by unfold maxLen;omega) (by omega) (by simp;omega) ?_;intro v1 w4 iq fe sk)
    have qX:=uR iq;have jA:=im (en.alloc kF _) (cV.alloc _) fe (by simp;omega);have nq:=(nq.next ((aj _ _).alloc (af _) (Obj.cells #[.int .u64 ((R:Nat):Int)] 47))).aan fe (fun g hg a m c e hm=>by
     have h1:=ae NW a m c e hm;have h2:∃a,gw=some a/\a.block=g:=by cases gw with|none=>cases hg|some a=>exact⟨a,rfl,by cases hg;rfl⟩
     obtain⟨a2,h3,h4⟩:=h2;have h5:gw=some ⟨g,0,none⟩:=by
      rcases cV.2 with h|⟨g',bM,cur,hv,_⟩
      ·cases h.1;cases h3
      ·cases hv;cases h3;cases h4;rfl
     have h6:=ae nV g h5;omega)
    obtain⟨g1,b1,c1,rfl,_,_,_⟩:=fS qX;have HO:=ag qX;have HQ:=ag nq;clear iq fe sk cV nq qX;go_wp2
    go_roundw
    case rel=>exact⟨Q,g1,c1,k+1,pre++[R],hq,DF,fR,by show _=_;rw[bU,ae hK];rfl,ae HQ,rfl,ae HO,jA⟩
    case measure=>simp[Le];omega
def QF(xs:List Nat)(d i:Nat)(qs:List Nat)(r:Nat):Prop:=qs.length=xs.length/\oI qs/\r<d/\val (xs.drop i)=val (qs.drop i)*d+r
theorem Of(xs:List Nat)(d:Nat)(hd:0<d):QF xs d xs.length (List.replicate xs.length 0) 0:=by
 refine⟨by simp,fun j=>?_,hd,?_⟩
 ·rw[aq,nS];split<;>simp
 ·rw[aT (af _),aT (by simp)];simp[val]
theorem Tc{i s:Nat}(h:QF xs d (i+1) qs r)(hx:oI xs)(hi:i<xs.length)(hd:d<=4294967296)(hs:s=r*4294967296+xs.getD i 0):QF xs d i (qs.set i (s/d)) (s%d)/\s/d<4294967296:=by
 obtain⟨h1,h2,h3,h4⟩:=h;have Fb:=hx i;have lZ:0<d:=by omega
 have hq:s/d<4294967296:=by rw[aR lZ];have:=ax 4294967296 (vE h3);rw[dJ]at this;rw[aC 4294967296 d];omega
 refine⟨⟨by rw[Qy,h1],Aw h2 (by omega) hq,aD _ lZ,?_⟩,hq⟩;have e1:(qs.set i (s/d)).getD i 0=s/d:=by rw[aq,abG (by omega),df]
 have e2:val ((qs.set i (s/d)).drop (i+1))=val (qs.drop (i+1)):=xX (fun t ht=>by rw[aq,adz (by omega), <-aq]);rw[vJ,vJ (qs.set i (s/d)),e1,e2,h4,aX,aF];have e3:=aS s d;rw[aC]at e3;generalize val (qs.drop (i+1))*d=V at *;omega
theorem XX(h:QF xs d 0 qs r):val qs=val xs/d/\r=val xs%d:=by
 obtain⟨_,_,h3,h4⟩:=h;rw[dN,dN]at h4;rw[h4];constructor
 ·rw[aC,gC (by omega),bq h3,dB]
 ·rw[aC,kq,bc h3]
theorem N9(w:World)(u:Value)(A d L:Nat)(hA:A<4294967296^L)(hL:L<=1000)(lZ:0<d)(hd:d<=4294967296)(hu:jO w u A):Calls Tryz.prog 31 #[u,.int .u64 (d:Int)] w fun e w'=>∃q,e=.returned (.tuple #[q,.int .u64 ((A%d:Nat):Int)])/\jO w' q (A/d)/\Below w.heap.size w w'/\abM w.heap.size q:=by
 obtain⟨ga,ba,oa,ca,xs,rfl,hR,hc,hv⟩:=hu;obtain⟨i0,hi,jx,gY,fX⟩:=fE Tryz.mf;have hl:=oQ hc (L:=L) (by rw[hv];exact hA);obtain⟨n,hn⟩:∃n,n=xs.length:=⟨_,rfl⟩;have hX:=hc.1;have S0:=ag (Of xs d lZ);have EV:Hid (∀qs r,QF xs d 0 qs r->val qs=A/d/\r=A%d):=fun qs r h=>by rw[<-hv];exact XX h
 have HN:=ag hn;have HX:=ag hX;rw[<-hn]at S0 hl ⊢;have dz:((d:Int)==0)=false:=by simp only[beq_eq_false_iff_ne];omega
 clear hn hX hc hv hA;go_enter Tryz.func31,Tryz.ntmps31
 go_wp2_with (at_make;refine zW _ rfl _ _ 34 rfl w.heap.size 47 i0 (.int .u64 0) 1 fT hi jx gY _ _ _ _ n rfl rfl ?c0 ?c1 ?c2 ?c3 ?c4 ?_)
 case c0=>omega
 case c1=>omega
 case c2=>rw[fX];omega
 case c3=>unfold maxLen;omega
 case c4=>exact af _
 intro w2 Ps Mf;rw[oK]at Ps;have bl:Below w.heap.size w w2:=(aj _ _).grown Mf (af _) (fun k h=>by cases h);obtain⟨g,hg⟩:∃g,g=w.heap.size:=⟨_,rfl⟩;have yQ:w.heap.size<=g:=by omega
 rw[<-hg]at Ps
 try rw[<-hg]
 have HG:=ag hg;clear Mf hg;go_wp2
 go_loopw [7,8] (fun rv iv wr=>∃(q r:Nat) (qs:List Nat),q<=n/\iv=.int .i64 ((q:Int)-1)/\rv=.int .u64 (r:Int)/\Hid (QF xs d q qs r)/\wr.ownsRow g 47 1 (.slice (some ⟨g,0,none⟩) n n) n (cellsOf qs)/\Below w.heap.size w wr)
  (fun _ iv _=>(intOf iv+1).toNat)
 case atStart=>exact⟨n,0,_,af _,rfl,rfl,S0,Ps,bl⟩
 case round=>
  clear Ps bl S0;obtain⟨q,r,qs,hq,rfl,rfl,hA,cV,bl⟩:=hrel;by_cases h1:0<q
  ·obtain⟨i,rfl⟩:∃i,q=i+1:=⟨q-1,by omega⟩;have ej:((i+1:Nat):Int)-1=(i:Int):=(by omega);rw[ej];clear ej;obtain rfl:=hR.head (by have:=ae HN;omega);have hRn:=hR.next bl;have hc:=hRn.cell i (by have:=ae HN;omega);obtain⟨x,hx⟩:∃x,x=xs.getD i 0:=⟨_,rfl⟩;have tI:x<4294967296:=by rw[hx];exact ae HX i
   rw[<-hx]at hc;have hr:=(ae hA).2.2.1;obtain⟨s,hs⟩:∃s,s=r*4294967296+x:=⟨_,rfl⟩;have fR:=Tc (ae hA) (ae HX) (i:=i) (by have:=ae HN;omega) hd (s:=s) (by rw[hs,hx]);have i0:(0:Int)<=(i:Int):=(by omega);have i1:(i:Int)<(n:Int):=(by omega);have HS:=ag fR;have e1:(r:Int)*4294967296+(x:Int)=(s:Int):=(by omega);obtain⟨Q,hQ⟩:∃Q,Q=s/d:=⟨_,rfl⟩;obtain⟨R,hRr⟩:∃R,R=s%d:=⟨_,rfl⟩;have e2:(s:Int)/(d:Int)=(Q:Int):=by rw[hQ];rfl
   have e3:(s:Int)%(d:Int)=(R:Int):=by rw[hRr];rfl
   rw[<-hQ, <-hRr]at HS;have e4:IntKind.u64.wrap (Q:Int)=(Q:Int):=LU Q (by have:=(ae HS).2;omega);have fz:=cV.frozenAt i;have cz:∃z,wr.cell? ⟨g,i,none⟩=some (.int .u64 (z:Int)):=⟨qs.getD i 0,by have:=(de cV).2.cell i (by have:=(de cV).1;omega);rw[bh]at this;exact this⟩;obtain⟨z,cz⟩:=cz;have vp:=cV.stored i (.int .u64 (Q:Int));rw[qA]at vp;have H1:=ag vp.1;have H2:Hid (Below w.heap.size w (wr.setCell ⟨g,i,none⟩ (.int .u64 (Q:Int)))):=bl.setCell (p:=⟨g,i,none⟩) yQ _;have rw1:r*4294967296<18446744073709551616:=(by omega);clear fR hx vp hs hQ hRr hA;go_wp2;exact⟨⟨i,R,_,by omega,by first|rfl|go_num,by first|rfl|go_num,(ae HS).1,ae H1,ae H2⟩,by simp[intOf]⟩
  ·obtain rfl:q=0:=(by omega);obtain⟨sL,AA⟩:=ae EV qs r (ae hA);have hql:qs.length=n:=(ae hA).1.trans (ae HN).symm;have hqd:oI qs:=(ae hA).2.1;have ld:=(de cV).2;have HV:=ag sL;have HRm:=ag AA;have HQd:=ag hqd;have HQl:=ag hql;clear hA sL AA hqd hql cV EV;go_wp2
   go_loopw [6] (fun out wz=>∃(k:Nat),k<=n/\out=.slice (some ⟨g,0,none⟩) k n/\Hid (val (qs.take k)=A/d)/\wz=wr) (fun out _=>Le out)
   case atStart=>exact⟨n,af _,rfl,by show _=_;rw[bK (by have:=ae HQl;omega)];exact ae HV,rfl⟩
   case round=>
    obtain⟨k,hk,rfl,hV,hw⟩:=hrel;obtain rfl:=hw.symm;clear hw;by_cases sj:k=0
    ·have DF:¬0<k:=(by omega);have hN:jO wr (.slice (some ⟨g,0,none⟩) k n) (A/d):=⟨_,g,0,n,qs.take k,by rw[cF,ae HQl,bu hk],ld.take k (by have:=ae HQl;omega),by rw[sj,AU];exact Gh,ae hV⟩;clear sj hV;go_wp2
     go_ret2
     rw[ae HRm];exact⟨_,rfl,hN,bl,fun a m c e _=>by cases e;exact yQ⟩
    ·obtain⟨j,rfl⟩:∃j,k=j+1:=⟨k-1,by omega⟩;have hc:=ld.cell j (by have:=ae HQl;omega);rw[bh]at hc;have e1:((j+1:Nat):Int)-1=(j:Int):=(by omega);have i0:(0:Int)<=(j:Int):=(by omega);have i1:(j:Int)<((j+1:Nat):Int):=(by omega);have i2:(0:Int)<((j+1:Nat):Int):=(by omega);obtain⟨t,ht⟩:∃t,t=qs.getD j 0:=⟨_,rfl⟩;rw[<-ht]at hc;by_cases Nm:t=0
     ·have hz:((t:Int)==0)=true:=by rw[Nm];rfl
      have hV2:Hid (val (qs.take j)=A/d):=by have h:=ae hV;rw[cO, <-ht,Nm,dO,dB]at h;exact h
      clear hV ht Nm sj;go_wp2;exact⟨⟨j,by omega,rfl,hV2,by first|rfl|trivial⟩,by simp[Le]⟩
     ·have hz:((t:Int)==0)=false:=by simp only[beq_eq_false_iff_ne];omega
      have hN:jO wr (.slice (some ⟨g,0,none⟩) (j+1) n) (A/d):=⟨_,g,0,n,qs.take (j+1),by rw[cF,ae HQl,bu hk],ld.take (j+1) (by have:=ae HQl;omega),⟨JO (ae HQd) _,fun _=>by rw[cF,ae HQl,bu hk,dF,aq,iO,aW (by omega), <-aq, <-ht];omega⟩,ae hV⟩;clear hV ht Nm sj;go_wp2
      go_ret2
      rw[ae HRm];exact⟨_,rfl,hN,bl,fun a m c e _=>by cases e;exact yQ⟩
end Go.Proofs.YtkdmippllpekfaaGreatDoor
