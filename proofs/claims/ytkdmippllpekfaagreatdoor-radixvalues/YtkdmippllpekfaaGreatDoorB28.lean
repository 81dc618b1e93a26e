import Derived.Test.YtkdmippllpekfaaGreatDoorB24
import Derived.Test.YtkdmippllpekfaaGreatDoorB23
namespace Go.Proofs.YtkdmippllpekfaaGreatDoor
set_option maxRecDepth 100000
set_option maxHeartbeats 6400000
variable{bl:Bool}{l l' m m' s s':Int}{zs:List Nat}{B0 C L M P P0 P1 P2 P3 P4 Z a g ge gk gm gt h i l1 n p q t v:Nat}{f:Nat->Nat}{St:Nat->World->Prop}{r u v0 v1 v2 v4 x0 x1 x2 x3 x4 y y0 y1 y2 y3 y4:Value}{W W' W0 w w' w5 wr:World}
section
open Go.RowKit
theorem zx.lt{T:bJ}(h:zx w g T):g<w.heap.size:=aw _ _ h.c0
theorem aU.shape{B:Nat}{v:Value}(h:aU B w v n):∃ga l cap,v=.slice ga l cap:=by obtain⟨ga,b,cap,xs,rfl,_⟩:=h.rep;exact⟨ga,_,cap,rfl⟩
theorem OV(w:World)(a:Nat):cW (w.alloc (.cells #[.int .u64 (a:Int)] 47)) w.heap.size [a]:=aI w _
theorem Pe(h:a<18446744073709551616):bG [a]:=fun j=>by
 match j with
 |0=>exact h
 |j+1=>exact Nat.zero_lt_succ _
theorem Z0(h:a<18446744073709551616)(h0:0<a):iS [a]:=⟨Pe h,fun _=>h0⟩
theorem K_(w:World)(a:Nat)(h:a<18446744073709551616):jg (w.alloc (.cells #[.int .u64 (a:Int)] 47)) (.slice (some ⟨w.heap.size,0,none⟩) 1 1) a:=
 ⟨_,_,_,_,[a],rfl,cW.whole (OV w a) (n:=1) rfl,Pe h,by simp[aB],by simp⟩
theorem XU(w:World)(B a:Nat)(r:Value)(h:a<18446744073709551616)(h0:0<a)(nr:aU B w r a):Calls Tryz.prog 22 #[r,.slice (some ⟨w.heap.size,0,none⟩) 1 1] (w.alloc (.cells #[.int .u64 (a:Int)] 47)) fun e w'=>e=.returned (.bool true)/\Below w.heap.size w w':=by
 have hb:Below w.heap.size w (w.alloc (.cells #[.int .u64 (a:Int)] 47)):=(aj _ _).alloc (af _) _;obtain⟨ga,b,cap,rfl,rr⟩:=Ss nr (Z0 h h0) (by simp[aB]);refine(xD _ ga _ b 0 cap _ 0 1 1 [a] rfl (by omega) (rr.next hb) (cW.whole (OV w a) (n:=1) rfl)).mono ?_;rintro e w' ⟨rfl,b2⟩;exact⟨rfl,aJ hb b2⟩
theorem ru(w:World)(ga:Option Addr)(b o cap n A:Nat)(us:List Nat)(hl:us.length=n)(hn:n<=1073741824)(hR:cH w ga b o cap us)(hd:bG us)(hA:A=aB us):Calls Tryz.prog 15 #[.slice ga n cap] w fun e w'=>∃v,e=.returned v/\jO w' v A/\Below w.heap.size w w':=by
 subst hl;have CF:=ag (JW w ga b o cap us (by omega) hR (YO hd));rw[<-hA]at CF;clear hA;generalize us.length=n at *;go_enter Tryz.func15,Tryz.ntmps15
 go_wp2_with fail
 refine(ae CF).mono ?_;rintro e w1 ⟨v,rfl,h1,h2⟩;clear CF;go_wp2;go_ret;exact⟨v,rfl,h1,h2⟩
theorem gA(SN:mX)(ST:mW)(SP:kJ)(w:World)(hT:TB w):Calls Tryz.prog 13 #[] w fun e w'=>e=.returned (.bool true)/\Below w.heap.size w w':=by
 have CN:=ag (fun w=>SN ⟨0,0,0,0,0,0,0,0,0,0,0⟩ w);unfold bJ.val at CN;have HST:=ag ST;have HSP:=ag SP;have HT:=ag hT;clear SN ST SP hT;go_enter Tryz.func13,Tryz.ntmps13
 go_wp2_with fail
 refine(ae CN _).mono ?_;rintro e w1 ⟨gz,gw,gv,gr,gd,gm,gt,gk,ge,g,rfl,E,hn,b⟩;have bl:=b;have hg:w.heap.size<=g:=by omega
 have d1:Below w1.heap.size w1 (w1.alloc (.cells #[.int .u64 255] 47)):=(aj _ _).alloc (af _) _;have i1:=K_ w1 255 (by decide);have E2:=E.next d1;have b2:=ag (aJ bl d1);have aeD:wl 255<=100:=ak (iY 1 255 (by decide)) (by decide);have t255:txt 16 255=[102,102]:=by decide
 have CP:=ag (ae HST _ gz gw gv gr gd gm gt gk ge g 0 0 0 _ _ 255 16 E2 ((ae HT).next (ae b2)) (by decide) (by decide) (by decide) (by decide) i1 aeD (by decide) (by decide));rw[t255]at CP;clear d1 E b bl hn CN i1 E2 HST aeD t255
 go_wp2_with fail
 refine(ae CP).mono ?_;generalize (w1.alloc (.cells #[.int .u64 255] 47))=W2 at *;rintro e w5 ⟨s',m',rfl,E3,⟨sa,sb⟩,o⟩;have b5:=ag ((ae b2).trans (o.below (B:=w.heap.size) (ae b2).size (fun k hk=>by rw[hk];exact hg)));have w7:wl 7<=600:=ak (iY 1 7 (by decide)) (by decide);have CP:=ag (ae HSP _ gz gw gv gr gd gm gt gk ge g s' 0 m' _ [48,48,55] 7 8 E3 ((ae HT).next (ae b5)) sa (by omega) (by decide) (by decide) (by decide) (by decide) (by decide) (by decide) (by decide) w7);clear b2 o sa sb E3 w7 HSP
 go_wp2_with fail
 refine(ae CP).mono ?_;rintro e w6 ⟨q,s2,m2,rfl,nq,_,_,o⟩;have b6:=ag ((ae b5).trans (o.below (B:=w.heap.size) (ae b5).size (fun k hk=>by rw[hk];exact hg)));have CS:=ag (XU w6 _ 7 q (by decide) (by decide) nq);obtain⟨qa,ql,qc,rfl⟩:=nq.shape;clear CP b5 nq o
 go_wp2_with fail
 refine(ae CS).mono ?_;rintro e w7 ⟨rfl,b7⟩;have bl:=aJ (ae b6) b7;clear CS b6 b7;go_wp2;go_ret;exact⟨rfl,bl⟩
end
section
open Go.RowKit
end
section
open Go.RowKit
theorem JH(T:bJ)(n m:Nat)(hn:n<=16384)(hm:m<=16384):0<=qB T (n:Int) (m:Int)/\qB T (n:Int) (m:Int)<=8*((n*m:Nat):Int):=by
 unfold qB;rw[aW (by omega)];have h:=Gj T.MP (max n m+1) (max n m) (min n m) (by omega) (by omega);have e1:(max (n:Int) (m:Int)).toNat=max n m:=by omega
 have e2:(min (n:Int) (m:Int)).toNat=min n m:=by omega
 have e3:max n m*min n m=n*m:=by
  by_cases hc:m<=n
  ·rw[nH hc,iF hc]
  ·rw[pX (by omega),bu (by omega),aC]
 rw[e1,e2];rw[e3]at h;generalize lS T.B T.D T.N (max n m) (min n m)=c at *;generalize n*m=q at *;omega
def kK(M:Nat):Prop:=∀(w:World) (gm gt gk ge g:Nat) (s l m:Int) (T:bJ) (ga gb:Option Addr) (b o cap la b' o' bM lb:Nat) (xs ys:List Nat),
 dI w gm gt gk ge g s l m T->TB w->0<=s->s+35184372088832*((M:Int)+1)<=2305843009213693952->0<=l->l+(M:Int)<=100000->
 xs.length=la->cH w ga b o cap xs->bG xs->ys.length=lb->cH w gb b' o' bM ys->bG ys->la<=M->lb<=M->
 Calls Tryz.prog 87 #[.pointer (some ⟨gm,0,none⟩),.slice ga la cap,.slice gb lb bM] w fun e w'=>∃r m',e=.returned r/\aU w.heap.size w' r (aB xs*aB ys)/\dI w' gm gt gk ge g (s+(lS T.B T.D T.N (max la lb) (min la lb):Nat)) l m' T/\m<=m'/\m'<=max m (l+(sr (max la lb):Nat))/\Out (·=g) w w'
def rj(M:Nat):Prop:=∀(w:World) (gm gt gk ge g:Nat) (s l m:Int) (T:bJ) (ga:Option Addr) (b o cap la:Nat) (xs:List Nat),
 dI w gm gt gk ge g s l m T->TB w->0<=s->s+35184372088832*((M:Int)+1)<=2305843009213693952->0<=l->l+(M:Int)<=100000->
 xs.length=la->cH w ga b o cap xs->bG xs->la<=M->
 Calls Tryz.prog 106 #[.pointer (some ⟨gm,0,none⟩),.slice ga la cap] w fun e w'=>∃r m',e=.returned r/\aU w.heap.size w' r (aB xs*aB xs)/\dI w' gm gt gk ge g (s+(qZ T.B T.D T.N la:Nat)) l m' T/\m<=m'/\m'<=max m (l+(sr la:Nat))/\Out (·=g) w w'
theorem rp{B D N m:Nat}(e:AP B D N)(hm:m<=n)(hn:n<=16384):lS B D N n m<=2147483648:=by have h:=Gj e (n+1) n m (by omega) hm;have:n*m<=16384*16384:=aP hn (by omega);omega
theorem uW{B D N:Nat}(e:AP B D N)(hn:n<=16384):qZ B D N n<=2147483648:=by have h:=Fx e n;have:n*n<=16384*16384:=aP hn hn;omega
def acc(f:Nat->Nat):Nat->Nat
 |0=>0
 |i+1=>acc f i+f i
theorem Bc{f:Nat->Nat}{c:Nat}(h:∀i,f i<=c):∀i,acc f i<=i*c
 |0=>by simp[acc]
 |i+1=>by have:=Bc h i;have:=h i;rw[acc,dJ];omega
theorem dI.Ut{T:bJ}(h:dI w gm gt gk ge g s l m T):gm<w.heap.size/\gt<w.heap.size/\gk<w.heap.size/\ge<w.heap.size/\g<w.heap.size:=
 ⟨h.lt,h.jf.lt,h.jf.fY.lt,aw _ _ h.iG.ptr,h.met.lt⟩
theorem dI.vV{T:bJ}(h:dI w gm gt gk ge g s l m T)(k:dI W gm gt gk ge g s' l' m' T)(o:Out (fun j=>w.heap.size<=j) W W'):dI W' gm gt gk ge g s' l' m' T:=by obtain⟨h0,h1,h2,h3,h4⟩:=h.Ut;exact k.out o (sZ.2 h0) (sZ.2 h1) (sZ.2 h2) (sZ.2 h3) (sZ.2 h4)
theorem TB.vV(h:TB w)(k:TB W)(o:Out (fun j=>w.heap.size<=j) W W'):TB W':=
 ⟨fun j hj=>o.cell (k.b j hj) (sZ.2 (aw _ _ (h.b j hj))),fun j hj=>o.cell (k.d j hj) (sZ.2 (aw _ _ (h.d j hj)))⟩
def LZ(gm gt gk ge g:Nat)(s l m:Int)(T:bJ)(L:Nat)(f:Nat->Nat)(i:Nat)(W:World):Prop:=
 ∃m1:Int,dI W gm gt gk ge g (s+(acc f i:Nat)) (l+1) m1 T/\max m (l+1)<=m1/\m1<=max m (l+1+(L:Nat))/\TB W
theorem LZ.next{T:bJ}(h:LZ gm gt gk ge g s l m T L f i W)(b:Below W.heap.size W W'):LZ gm gt gk ge g s l m T L f i W':=by obtain⟨m1,h1,h2,h3,h4⟩:=h;exact⟨m1,h1.next b,h2,h3,h4.next b⟩
theorem LZ.vV{s0 l0 m0:Int}{T:bJ}(hE:dI w gm gt gk ge g s0 l0 m0 T)(hT:TB w)(h:LZ gm gt gk ge g s l m T L f i W)(o:Out (fun j=>w.heap.size<=j) W W'):LZ gm gt gk ge g s l m T L f i W':=by obtain⟨m1,h1,h2,h3,h4⟩:=h;exact⟨m1,hE.vV h1 o,h2,h3,hT.vV h4 o⟩
theorem LZ.call(IH:kK M){T:bJ}(h:LZ gm gt gk ge g s l m T L f i W)(hM:M<=16384)(h0:0<=s)(h1:s+35184372088832*((M:Int)+2)<=2305843009213693952)(h2:0<=l)(h3:l+1+(M:Int)<=100000)(ha:acc f i<=35184372088832)(hL:sr M<=L){D:Nat->Prop}{v:Value}{c l2:Nat}(hu:Ub D W u a l1)(hv:Ub D W v c l2)(k1:l1<=M)(k2:l2<=l1)(hf:f i=lS T.B T.D T.N l1 l2):Calls Tryz.prog 87 #[.pointer (some ⟨gm,0,none⟩),u,v] W fun e W'=>∃r,e=.returned r/\ft W.heap.size W' r (a*c)/\LZ gm gt gk ge g s l m T L f (i+1) W'/\Out (·=g) W W':=by
 obtain⟨m1,E,q1,q2,tb⟩:=h;have lu:=Nq hu;have lv:=Nq hv;obtain⟨ga,b,o,cap,xs,rfl,hl,hr,hd,rfl,_⟩:=hu;obtain⟨gb,b',o',bM,ys,rfl,Ad,hr',II,rfl,_⟩:=hv;refine(IH W gm gt gk ge g _ _ _ T ga gb b o cap l1 b' o' bM l2 xs ys E tb (by omega) (by omega) (by omega) (by omega) hl hr hd Ad hr' II k1 (by omega)).mono ?_;rintro e W' ⟨r,m2,rfl,nr,E2,q3,q4,oo⟩;have hp:aB xs*aB ys<18446744073709551616^(l1+l2):=by rw[aQ];exact eU lu lv
 have el:sr (max l1 l2)<=L:=ak (Kk (by omega) (by omega)) hL;rw[nH k2,iF k2]at E2;refine⟨r,rfl,nr.toI hp (by omega),⟨m2,?_,by omega,by omega,E.tb oo tb⟩,oo⟩;rw[acc,hf,fL, <-Zx];exact E2
theorem LZ.sqr(IH:rj M){T:bJ}(h:LZ gm gt gk ge g s l m T L f i W)(hM:M<=16384)(h0:0<=s)(h1:s+35184372088832*((M:Int)+2)<=2305843009213693952)(h2:0<=l)(h3:l+1+(M:Int)<=100000)(ha:acc f i<=35184372088832)(hL:sr M<=L){D:Nat->Prop}(hu:Ub D W u a l1)(k1:l1<=M)(hf:f i=qZ T.B T.D T.N l1):Calls Tryz.prog 106 #[.pointer (some ⟨gm,0,none⟩),u] W fun e W'=>∃r,e=.returned r/\ft W.heap.size W' r (a*a)/\LZ gm gt gk ge g s l m T L f (i+1) W'/\Out (·=g) W W':=by
 obtain⟨m1,E,q1,q2,tb⟩:=h;have lu:=Nq hu;obtain⟨ga,b,o,cap,xs,rfl,hl,hr,hd,rfl,_⟩:=hu;refine(IH W gm gt gk ge g _ _ _ T ga b o cap l1 xs E tb (by omega) (by omega) (by omega) (by omega) hl hr hd k1).mono ?_;rintro e W' ⟨r,m2,rfl,nr,E2,q3,q4,oo⟩;have hp:aB xs*aB xs<18446744073709551616^(l1+l1):=by rw[aQ];exact eU lu lu
 have el:sr l1<=L:=ak (Kk (by omega) (by omega)) hL;refine⟨r,rfl,nr.toI hp (by omega),⟨m2,?_,by omega,by omega,E.tb oo tb⟩,oo⟩;rw[acc,hf,fL, <-Zx];exact E2
def rf(w:World)(gm gt gk ge g:Nat)(s l m:Int)(T:bJ)(P C L:Nat)(e:Ending)(w':World):Prop:=
 ∃r m',e=.returned (.tuple #[r,.bool true])/\aU w.heap.size w' r P/\dI w' gm gt gk ge g (s+(C:Nat)) l m' T/\m<=m'/\m'<=max m (l+(L:Nat))/\Out (·=g) w w'
def ik(w:World)(gm gt gk ge g:Nat)(s l m:Int)(T:bJ)(P C L:Nat)(r:Value)(w':World):Prop:=
 ∃m',aU w.heap.size w' r P/\dI w' gm gt gk ge g (s+(C:Nat)) l m' T/\m<=m'/\m'<=max m (l+(L:Nat))/\Out (·=g) w w'
theorem mA{T:bJ}{e:Ending}(h:rf w gm gt gk ge g s l m T P C L e w'):∃r,e=.returned (.tuple #[r,.bool true])/\ik w gm gt gk ge g s l m T P C L r w':=by obtain⟨r,m',h1,h2⟩:=h;exact⟨r,h1,m',h2⟩
def Ki(B D N n m h:Nat)(i:Nat):Nat:=if i=0 then lS B D N h h else if i=1 then lS B D N (n-h) (m-h) else lS B D N (h+1) (h+1)
def Lu(B D N n m h:Nat)(i:Nat):Nat:=if i=0 then lS B D N h h else if i=4 then lS B D N (n-2*h) (m-2*h) else lS B D N (h+1) (h+1)
def ksq(B D N n h:Nat)(i:Nat):Nat:=if i=0 then qZ B D N h else if i=1 then qZ B D N (n-h) else qZ B D N (h+1)
def tsq(B D N n h:Nat)(i:Nat):Nat:=if i=0 then qZ B D N h else if i=4 then qZ B D N (n-2*h) else qZ B D N (h+1)
theorem WV{B D N m:Nat}(e:AP B D N)(hm:m<=n)(hn:n<=16384)(hh:h+1<=16384)(i:Nat):Ki B D N n m h i<=2147483648:=by
 unfold Ki;split
 ·exact rp e (af _) (by omega)
 ·split
  ·exact rp e (by omega) (by omega)
  ·exact rp e (af _) (by omega)
theorem Yn{B D N m:Nat}(e:AP B D N)(hm:m<=n)(hn:n<=16384)(hh:h+1<=16384)(i:Nat):Lu B D N n m h i<=2147483648:=by
 unfold Lu;split
 ·exact rp e (af _) (by omega)
 ·split
  ·exact rp e (by omega) (by omega)
  ·exact rp e (af _) (by omega)
theorem acL{B D N:Nat}(e:AP B D N)(hn:n<=16384)(hh:h+1<=16384)(i:Nat):ksq B D N n h i<=2147483648:=by
 unfold ksq;split
 ·exact uW e (by omega)
 ·split
  ·exact uW e (by omega)
  ·exact uW e (by omega)
theorem adi{B D N:Nat}(e:AP B D N)(hn:n<=16384)(hh:h+1<=16384)(i:Nat):tsq B D N n h i<=2147483648:=by
 unfold tsq;split
 ·exact uW e (by omega)
 ·split
  ·exact uW e (by omega)
  ·exact uW e (by omega)
end
section
open Go.RowKit
end
section
open Go.RowKit
end
section
open Go.RowKit
end
section
open Go.RowKit
end
section
open Go.RowKit
def Bx(w:World)(q t:Nat)(x y:Value):Prop:=w.heap[q]?=some (.cells #[x,y] t (0,0))
theorem Bx.lt{x:Value}(h:Bx w q t x y):q<w.heap.size:=(ah.1 h).1
theorem Bx.next{x:Value}(h:Bx w q t x y)(b:Below w.heap.size w w'):Bx w' q t x y:=(b.block q h.lt).trans h
theorem Bx.c0{x:Value}(h:Bx w q t x y):w.cell? ⟨q,0,none⟩=some x:=ay _ q 0 _ _ (0,0) h
theorem Bx.c1{x:Value}(h:Bx w q t x y):w.cell? ⟨q,1,none⟩=some y:=ay _ q 1 _ _ (0,0) h
theorem abV(w:World)(t:Nat)(x y:Value):Bx (w.alloc (.cells #[x,y] t)) w.heap.size t x y:=aI w _
theorem aU.form{B:Nat}{v:Value}(h:aU B w v n):∃ga l cap,v=.slice ga l cap:=by obtain⟨ga,b,cap,xs,rfl,_⟩:=h.rep;exact⟨ga,_,cap,rfl⟩
theorem Bx.f0{x:Value}(h:Bx w q t x y):w.frozen? ⟨q,0,none⟩=false:=bZ _ q 0 _ _ h
theorem Bx.f1{x:Value}(h:Bx w q t x y):w.frozen? ⟨q,1,none⟩=false:=bZ _ q 1 _ _ h
theorem Bx.set{x:Value}(h:Bx w q t x y)(u v:Value):Bx ((w.setCell ⟨q,0,none⟩ u).setCell ⟨q,1,none⟩ v) q t u v:=by have h1:=jC w q 0 _ _ u h;have h2:=jC (w.setCell ⟨q,0,none⟩ u) q 1 _ _ v h1;exact h2
theorem Bx.other{x:Value}(h:Bx w q t x y)(hp:q≠p)(u v:Value):Bx ((w.setCell ⟨p,0,none⟩ u).setCell ⟨p,1,none⟩ v) q t x y:=by show _=_;rw[bo _ ⟨p,1,none⟩ q v hp,bo _ ⟨p,0,none⟩ q u hp];exact h
theorem Vd(w:World)(o1 o2 o3 o4 o5:Obj):(((((w.alloc o1).alloc o2).alloc o3).alloc o4).alloc o5).heap[w.heap.size]?=some o1/\(((((w.alloc o1).alloc o2).alloc o3).alloc o4).alloc o5).heap[w.heap.size+1]?=some o2/\(((((w.alloc o1).alloc o2).alloc o3).alloc o4).alloc o5).heap[w.heap.size+1+1]?=some o3/\(((((w.alloc o1).alloc o2).alloc o3).alloc o4).alloc o5).heap[w.heap.size+1+1+1]?=some o4/\(((((w.alloc o1).alloc o2).alloc o3).alloc o4).alloc o5).heap[w.heap.size+1+1+1+1]?=some o5:=by
 obtain⟨h1,h2,h3⟩:=Mx w o1 o2 o3;have s3:(((w.alloc o1).alloc o2).alloc o3).heap.size=w.heap.size+1+1+1:=by simp
 have s4:((((w.alloc o1).alloc o2).alloc o3).alloc o4).heap.size=w.heap.size+1+1+1+1:=by simp
 generalize ((w.alloc o1).alloc o2).alloc o3=v at *;have b1:Below v.heap.size v (v.alloc o4):=(aj _ _).alloc (af _) _;have b2:Below (v.alloc o4).heap.size (v.alloc o4) ((v.alloc o4).alloc o5):=(aj _ _).alloc (af _) _;refine⟨(b2.block _ (by omega)).trans ((b1.block _ (by omega)).trans h1),(b2.block _ (by omega)).trans ((b1.block _ (by omega)).trans h2),(b2.block _ (by omega)).trans ((b1.block _ (by omega)).trans h3),?_,?_⟩
 ·rw[<-s3];exact(b2.block _ (by omega)).trans (aI v o4)
 ·rw[<-s4];exact aI (v.alloc o4) o5
theorem U7(w:World)(o1 o2 o3 o4 o5:Obj):Below w.heap.size w (((((w.alloc o1).alloc o2).alloc o3).alloc o4).alloc o5):=
 (((((aj _ _).alloc (af _) _).alloc (by simp) _).alloc (by simp;omega) _).alloc (by simp;omega) _).alloc (by simp;omega) _
theorem bO{B:Nat}(x y:Value)(h:aU B W r n)(hP:P<B):aU B ((W.setCell ⟨P,0,none⟩ x).setCell ⟨P,1,none⟩ y) r n:=
 (Out.bX (cj (aY W P 0 x) (aY _ P 1 y))).mb h (fun k e=>by rw[e];exact hP)
theorem gJ(x y:Value)(h:Below w.heap.size w W)(hP:w.heap.size<=P):Below w.heap.size w ((W.setCell ⟨P,0,none⟩ x).setCell ⟨P,1,none⟩ y):=
 (h.setCell (p:=⟨P,0,none⟩) hP x).setCell (p:=⟨P,1,none⟩) hP y
theorem ze(W:World)(P:Nat)(x y:Value):((W.setCell ⟨P,0,none⟩ x).setCell ⟨P,1,none⟩ y).heap.size=W.heap.size:=by simp
theorem Vw(w:World)(u v:Value)(m n:Nat)(hu:fI w u m)(hv:fI w v n):Calls Tryz.prog 208 #[u,v] w fun e w'=>∃r,e=.returned (.agg #[r,.bool (decide (m<n))])/\aU w.heap.size w' r (nd m n)/\Below w.heap.size w w':=by
 have HV:=ag (fun W (b:Below w.heap.size w W) (h:m<=n)=>mK W v u n m h (hv.next b) (hu.next b));have CS:=ag (fun W (b:Below w.heap.size w W)=>su W u v m n (hu.next b) (hv.next b));have hX:Bx (w.alloc (.cells #[.slice none 0 0,.bool false] 226)) w.heap.size 226 (.slice none 0 0) (.bool false):=abV _ _ _ _;have b0:Below w.heap.size w (w.alloc (.cells #[.slice none 0 0,.bool false] 226)):=(aj _ _).alloc (af _) _;have s0:w.heap.size<(w.alloc (.cells #[.slice none 0 0,.bool false] 226)).heap.size:=by simp
 clear hu hv;go_enter Tryz.func208,Tryz.ntmps208
 go_wp2_with fail
 refine(ae CS _ b0).mono ?_;generalize (w.alloc (.cells #[.slice none 0 0,.bool false] 226))=W1 at *;rintro e w2 ⟨b2,⟨hle,r2,rfl,h2⟩|⟨dh,rfl⟩⟩
 ·obtain⟨ga,l,cap,rfl⟩:=h2.form;have X2:=hX.next b2;have c0:=X2.c0;have c1:=X2.c1;have f0:=X2.f0;have f1:=X2.f1;have N:=ag (bO (.slice ga l cap) (.bool false) h2 s0);have BB:=ag (gJ (.slice ga l cap) (.bool false) (aJ b0 b2) (af _));have E:Hid (m-n=nd m n):=by show _=_;unfold nd;omega
  have E2:Hid (decide (m<n)=false):=aM (by omega);have S0:=ag (fk s0);clear h2 X2 hX HV CS b0 b2 s0 hle;go_wp2;refine dR (v:=.agg #[.slice ga l cap,.bool false]) (by simp[results,Tryz.results208,go_sem,c0,c1]) rfl ?_;refine⟨_,by rw[ae E2],?_,ae BB⟩;rw[<-ae E];exact(ae N).mono (ae S0)
 ·have b02:=aJ b0 b2;have CM:=ag (ae HV _ b02 (fk dh));have S2:=b2.size;clear HV CS
  go_wp2_with fail
  refine(ae CM).mono ?_;rintro e w3 ⟨r3,rfl,h3,b3⟩;obtain⟨ga,l,cap,rfl⟩:=h3.form;have X2:=(hX.next b2).next b3;have c0:=X2.c0;have c1:=X2.c1;have f0:=X2.f0;have f1:=X2.f1;have N:=ag (bO (.slice ga l cap) (.bool true) h3 (az s0 S2));have BB:=ag (gJ (.slice ga l cap) (.bool true) (aJ b02 b3) (af _));have E:Hid (n-m=nd m n):=by show _=_;unfold nd;omega
  have E2:Hid (decide (m<n)=true):=bg dh;have S0:=ag (b02.size);clear h3 X2 hX CM b0 b2 s0 dh b3 b02 S2;go_wp2;refine dR (v:=.agg #[.slice ga l cap,.bool true]) (by simp[results,Tryz.results208,go_sem,c0,c1]) rfl ?_;refine⟨_,by rw[ae E2],?_,ae BB⟩;rw[<-ae E];exact(ae N).mono (ae S0)
structure PB(w:World)(P:Nat)(x0 y0 x1 y1 x2 y2 x3 y3 x4 y4:Value):Prop where
 b0:Bx w P 226 x0 y0
 b1:Bx w (P+1) 226 x1 y1
 b2:Bx w (P+1+1) 226 x2 y2
 b3:Bx w (P+1+1+1) 226 x3 y3
 b4:Bx w (P+1+1+1+1) 226 x4 y4
theorem PB.next(h:PB w P x0 y0 x1 y1 x2 y2 x3 y3 x4 y4)(b:Below w.heap.size w w'):PB w' P x0 y0 x1 y1 x2 y2 x3 y3 x4 y4:=⟨h.b0.next b,h.b1.next b,h.b2.next b,h.b3.next b,h.b4.next b⟩
theorem PB.XV(h:PB w P x0 y0 x1 y1 x2 y2 x3 y3 x4 y4)(u v:Value):PB ((w.setCell ⟨P,0,none⟩ u).setCell ⟨P,1,none⟩ v) P u v x1 y1 x2 y2 x3 y3 x4 y4:=⟨h.b0.set u v,h.b1.other (by omega) u v,h.b2.other (by omega) u v,h.b3.other (by omega) u v,h.b4.other (by omega) u v⟩
theorem PB.Oe(h:PB w P x0 y0 x1 y1 x2 y2 x3 y3 x4 y4)(u v:Value):PB ((w.setCell ⟨P+1,0,none⟩ u).setCell ⟨P+1,1,none⟩ v) P x0 y0 u v x2 y2 x3 y3 x4 y4:=⟨h.b0.other (by omega) u v,h.b1.set u v,h.b2.other (by omega) u v,h.b3.other (by omega) u v,h.b4.other (by omega) u v⟩
theorem PB.Tb(h:PB w P x0 y0 x1 y1 x2 y2 x3 y3 x4 y4)(u v:Value):PB ((w.setCell ⟨P+1+1,0,none⟩ u).setCell ⟨P+1+1,1,none⟩ v) P x0 y0 x1 y1 u v x3 y3 x4 y4:=⟨h.b0.other (by omega) u v,h.b1.other (by omega) u v,h.b2.set u v,h.b3.other (by omega) u v,h.b4.other (by omega) u v⟩
theorem PB.aex(h:PB w P x0 y0 x1 y1 x2 y2 x3 y3 x4 y4)(u v:Value):PB ((w.setCell ⟨P+1+1+1,0,none⟩ u).setCell ⟨P+1+1+1,1,none⟩ v) P x0 y0 x1 y1 x2 y2 u v x4 y4:=⟨h.b0.other (by omega) u v,h.b1.other (by omega) u v,h.b2.other (by omega) u v,h.b3.set u v,h.b4.other (by omega) u v⟩
theorem PB.aey(h:PB w P x0 y0 x1 y1 x2 y2 x3 y3 x4 y4)(u v:Value):PB ((w.setCell ⟨P+1+1+1+1,0,none⟩ u).setCell ⟨P+1+1+1+1,1,none⟩ v) P x0 y0 x1 y1 x2 y2 x3 y3 u v:=⟨h.b0.other (by omega) u v,h.b1.other (by omega) u v,h.b2.other (by omega) u v,h.b3.other (by omega) u v,h.b4.set u v⟩
theorem NU(w:World)(u:Value)(m K L:Nat)(k:Int)(a0 a1 a2:Nat)(hu:fI w u m)(hL:L<=1048576)(hm:m<18446744073709551616^L)(hK:K=pcs k)(h0:a0=m%18446744073709551616^K)(h1:a1=m/18446744073709551616^K%18446744073709551616^K)(h2:a2=m/18446744073709551616^K/18446744073709551616^K):Calls Tryz.prog 185 #[u,.int .i64 k] w fun e w'=>∃v0 v1 v2 v3 v4,e=.returned (.tuple #[.agg #[v0,.bool false],.agg #[v1,.bool false],.agg #[v2,.bool (decide (a0+a2<a1))],.agg #[v3,.bool false],.agg #[v4,.bool false]])/\aU w.heap.size w' v0 a0/\aU w.heap.size w' v1 (a0+a1+a2)/\aU w.heap.size w' v2 (nd (a0+a2) a1)/\aU w.heap.size w' v3 (a0+2*a1+4*a2)/\aU w.heap.size w' v4 a2/\Below w.heap.size w w':=by
 have jx:min (max k 1) 16384=(K:Int):=by rw[hK];unfold pcs;omega
 have gY:(K:Int)=min (max (K:Int) 0) 16384:=by omega
 have g1:m/18446744073709551616^K<=m:=bT _ _;have g2:a0<=m:=by rw[h0];exact UJ _ _
 have g3:a1<=m:=by rw[h1];exact ak (UJ _ _) g1
 have g4:a2<=m:=by rw[h2];exact ak (bT _ _) g1
 have hp:18446744073709551616*m<18446744073709551616^(L+1):=by rw[aE];omega
 have L0:Hid (a0<18446744073709551616^(L+1)):=aN (by omega) hp;have L1:Hid (a1<18446744073709551616^(L+1)):=aN (by omega) hp;have L2:Hid (a2<18446744073709551616^(L+1)):=aN (by omega) hp;have LQ:Hid (m/18446744073709551616^K<18446744073709551616^(L+1)):=aN (by omega) hp;have LE:Hid (a0+a2<18446744073709551616^(L+1)):=aN (by omega) hp;have LM:Hid (a0+a1*2<18446744073709551616^(L+1)):=aN (by omega) hp;have Gw:Hid (L+1<=1073741824):=by show _<=_;omega
 have CS:=ag (fun W (b:Below w.heap.size w W)=>P6 W u (K:Int) m K gY (hu.next b));have CT:=ag (fun W v (i:fI W v (m/18446744073709551616^K))=>P6 W v (K:Int) _ K gY i);rw[<-h0]at CS;rw[<-h1, <-h2]at CT;obtain⟨k0,k1,k2,k3,k4⟩:=Vd w (.cells #[.slice none 0 0,.bool false] 226) (.cells #[.slice none 0 0,.bool false] 226) (.cells #[.slice none 0 0,.bool false] 226) (.cells #[.slice none 0 0,.bool false] 226) (.cells #[.slice none 0 0,.bool false] 226);have b0:=U7 w (.cells #[.slice none 0 0,.bool false] 226) (.cells #[.slice none 0 0,.bool false] 226) (.cells #[.slice none 0 0,.bool false] 226) (.cells #[.slice none 0 0,.bool false] 226) (.cells #[.slice none 0 0,.bool false] 226);have X0:PB (((((w.alloc (.cells #[.slice none 0 0,.bool false] 226)).alloc (.cells #[.slice none 0 0,.bool false] 226)).alloc (.cells #[.slice none 0 0,.bool false] 226)).alloc (.cells #[.slice none 0 0,.bool false] 226)).alloc (.cells #[.slice none 0 0,.bool false] 226)) w.heap.size (.slice none 0 0) (.bool false) (.slice none 0 0) (.bool false) (.slice none 0 0) (.bool false) (.slice none 0 0) (.bool false) (.slice none 0 0) (.bool false):=⟨k0,k1,k2,k3,k4⟩;have s0:w.heap.size+1+1+1+1<(((((w.alloc (.cells #[.slice none 0 0,.bool false] 226)).alloc (.cells #[.slice none 0 0,.bool false] 226)).alloc (.cells #[.slice none 0 0,.bool false] 226)).alloc (.cells #[.slice none 0 0,.bool false] 226)).alloc (.cells #[.slice none 0 0,.bool false] 226)).heap.size:=X0.b4.lt;clear k0 k1 k2 k3 k4 hu hm hp h0 h1 h2 hK g1 g2 g3 g4 hL gY;generalize hQ:m/18446744073709551616^K=Q at *;clear hQ;go_enter Tryz.func185,Tryz.ntmps185
 go_wp2_with fail
 refine(ae CS _ b0).mono ?_;generalize (((((w.alloc (.cells #[.slice none 0 0,.bool false] 226)).alloc (.cells #[.slice none 0 0,.bool false] 226)).alloc (.cells #[.slice none 0 0,.bool false] 226)).alloc (.cells #[.slice none 0 0,.bool false] 226)).alloc (.cells #[.slice none 0 0,.bool false] 226))=W0 at *;rintro e w1 ⟨lo,hi,B1,M1,B2,M2,rfl,n1,n2,q1,q2,_,_,_,b1⟩;have n0:=n1.rb.mono q1;have nh:=n2.rb.mono q2;have BW:=aJ b0 b1;have X1:=X0.next b1;clear n1 n2 q1 q2 CS X0 b0;have CT:=ag (ae CT w1 hi (nh.kj (ae LQ) (ae Gw)))
 go_wp2_with fail
 refine(ae CT).mono ?_;rintro e w2 ⟨mi,to,B3,M3,B4,M4,rfl,n3,n4,q3,q4,_,_,_,b2⟩;have sz1:=b1.size;have n1:=n3.rb.mono (ak sz1 q3);have n2:=n4.rb.mono (ak sz1 q4);have n0:=n0.next b2;have BW:=aJ BW b2;have X2:=X1.next b2;have sz2:=ak sz1 b2.size;clear n3 n4 q3 q4 CT X1 nh b1 b2 sz1;obtain⟨A0,A1,A2,rfl⟩:=n0.form;obtain⟨A3,A4,A5,rfl⟩:=n1.form;obtain⟨A6,A7,A8,rfl⟩:=n2.form
 go_wp2_with fail
 refine(th _ _ _ _ _ (n0.kj (ae L0) (ae Gw)) (n2.kj (ae L2) (ae Gw))).mono ?_;rintro e w3 ⟨r3,rfl,n3,b3⟩;have n3:=n3.mono sz2;have n0:=n0.next b3;have n1:=n1.next b3;have n2:=n2.next b3;have BW:=aJ BW b3;have X3:=X2.next b3;have sz3:=ak sz2 b3.size;clear X2 b3 sz2;have c0:=X3.b0.c0;have c1:=X3.b0.c1;have f0:=X3.b0.f0;have f1:=X3.b0.f1;have n0:=bO (P:=w.heap.size) (.slice A0 A1 A2) (.bool false) n0 (by omega);have n1:=bO (P:=w.heap.size) (.slice A0 A1 A2) (.bool false) n1 (by omega);have n2:=bO (P:=w.heap.size) (.slice A0 A1 A2) (.bool false) n2 (by omega);have n3:=bO (P:=w.heap.size) (.slice A0 A1 A2) (.bool false) n3 (by omega);have BW:=gJ (P:=w.heap.size) (.slice A0 A1 A2) (.bool false) BW (by omega);have X4:=X3.XV (.slice A0 A1 A2) (.bool false);have sz:W0.heap.size<=((w3.setCell ⟨w.heap.size,0,none⟩ (.slice A0 A1 A2)).setCell ⟨w.heap.size,1,none⟩ (.bool false)).heap.size:=by rw[ze];assumption
 clear X3;have HB:=ag BW;have HX:=ag X4;clear BW X4
 go_wp2_with fail
 refine(th _ _ _ _ _ (n3.kj (ae LE) (ae Gw)) (n1.kj (ae L1) (ae Gw))).mono ?_;clear c0 c1 f0 f1;have BW:=ae HB;have X4:=ae HX;clear HB HX;generalize ((w3.setCell ⟨w.heap.size,0,none⟩ (.slice A0 A1 A2)).setCell ⟨w.heap.size,1,none⟩ (.bool false))=w4 at *;rintro e w5 ⟨r5,rfl,n5,b5⟩;have n5:=n5.mono sz;have n0:=n0.next b5;have n1:=n1.next b5;have n2:=n2.next b5;have n3:=n3.next b5;have BW:=aJ BW b5;have X5:=X4.next b5;have sz5:=ak sz b5.size;clear X4 b5 sz;obtain⟨A9,yj,ym,rfl⟩:=n5.form;have c0:=X5.b1.c0;have c1:=X5.b1.c1;have f0:=X5.b1.f0;have f1:=X5.b1.f1;have n0:=bO (P:=w.heap.size+1) (.slice A9 yj ym) (.bool false) n0 (by omega);have n1:=bO (P:=w.heap.size+1) (.slice A9 yj ym) (.bool false) n1 (by omega);have n2:=bO (P:=w.heap.size+1) (.slice A9 yj ym) (.bool false) n2 (by omega);have n3:=bO (P:=w.heap.size+1) (.slice A9 yj ym) (.bool false) n3 (by omega);have n5:=bO (P:=w.heap.size+1) (.slice A9 yj ym) (.bool false) n5 (by omega);have BW:=gJ (P:=w.heap.size+1) (.slice A9 yj ym) (.bool false) BW (by omega);have X6:=X5.Oe (.slice A9 yj ym) (.bool false);have sz:W0.heap.size<=((w5.setCell ⟨w.heap.size+1,0,none⟩ (.slice A9 yj ym)).setCell ⟨w.heap.size+1,1,none⟩ (.bool false)).heap.size:=by rw[ze];assumption
 clear X5;have HB:=ag BW;have HX:=ag X6;clear BW X6
 go_wp2_with fail
 refine(Vw _ _ _ _ _ (n3.kj (ae LE) (ae Gw)) (n1.kj (ae L1) (ae Gw))).mono ?_;clear c0 c1 f0 f1;have BW:=ae HB;have X6:=ae HX;clear HB HX;generalize ((w5.setCell ⟨w.heap.size+1,0,none⟩ (.slice A9 yj ym)).setCell ⟨w.heap.size+1,1,none⟩ (.bool false))=w6 at *;rintro e w7 ⟨r7,rfl,n7,b7⟩;have n7:=n7.mono sz;have n0:=n0.next b7;have n1:=n1.next b7;have n2:=n2.next b7;have n5:=n5.next b7;have BW:=aJ BW b7;have X7:=X6.next b7;have sz7:=ak sz b7.size;clear X6 b7 sz n3;obtain⟨yn,yt,yu,rfl⟩:=n7.form;have ae9:∃D,decide (a0+a2<a1)=D:=⟨_,rfl⟩;obtain⟨D,hD⟩:=ae9;rw[hD];have HD:=ag hD;clear hD;have c0:=X7.b2.c0;have c1:=X7.b2.c1;have f0:=X7.b2.f0;have f1:=X7.b2.f1;have n0:=bO (P:=w.heap.size+1+1) (.slice yn yt yu) (.bool D) n0 (by omega);have n1:=bO (P:=w.heap.size+1+1) (.slice yn yt yu) (.bool D) n1 (by omega);have n2:=bO (P:=w.heap.size+1+1) (.slice yn yt yu) (.bool D) n2 (by omega);have n5:=bO (P:=w.heap.size+1+1) (.slice yn yt yu) (.bool D) n5 (by omega);have n7:=bO (P:=w.heap.size+1+1) (.slice yn yt yu) (.bool D) n7 (by omega);have BW:=gJ (P:=w.heap.size+1+1) (.slice yn yt yu) (.bool D) BW (by omega);have X8:=X7.Tb (.slice yn yt yu) (.bool D);have sz:W0.heap.size<=((w7.setCell ⟨w.heap.size+1+1,0,none⟩ (.slice yn yt yu)).setCell ⟨w.heap.size+1+1,1,none⟩ (.bool D)).heap.size:=by rw[ze];assumption
 clear X7;have HB:=ag BW;have HX:=ag X8;clear BW X8
 go_wp2_with fail
 refine(Jp _ _ _ _ _ 2 (by decide) (n0.kj (ae L0) (ae Gw)) (n1.kj (ae L1) (ae Gw))).mono ?_;clear c0 c1 f0 f1;have BW:=ae HB;have X8:=ae HX;clear HB HX;generalize ((w7.setCell ⟨w.heap.size+1+1,0,none⟩ (.slice yn yt yu)).setCell ⟨w.heap.size+1+1,1,none⟩ (.bool D))=w8 at *;rintro e w9 ⟨r9,rfl,n9,b9⟩;have n9:=n9.mono sz;have n0:=n0.next b9;have n2:=n2.next b9;have n5:=n5.next b9;have n7:=n7.next b9;have BW:=aJ BW b9;have X9:=X8.next b9;have sz9:=ak sz b9.size;clear X8 b9 sz n1
 go_wp2_with fail
 refine(Jp _ _ _ _ _ 4 (by decide) (n9.kj (ae LM) (ae Gw)) (n2.kj (ae L2) (ae Gw))).mono ?_;rintro e w10 ⟨r10,rfl,y8,DP⟩;have y8:=y8.mono sz9;have n0:=n0.next DP;have n2:=n2.next DP;have n5:=n5.next DP;have n7:=n7.next DP;have BW:=aJ BW DP;have Ma:=X9.next DP;have af9:=ak sz9 DP.size;clear X9 DP n9;obtain⟨IV,IW,IX,rfl⟩:=y8.form;have c0:=Ma.b3.c0;have c1:=Ma.b3.c1;have f0:=Ma.b3.f0;have f1:=Ma.b3.f1;have d0:=Ma.b4.c0;have d1:=Ma.b4.c1;have e0:=Ma.b4.f0;have e1:=Ma.b4.f1;have n0:=bO (P:=w.heap.size+1+1+1) (.slice IV IW IX) (.bool false) n0 (by omega);have n2:=bO (P:=w.heap.size+1+1+1) (.slice IV IW IX) (.bool false) n2 (by omega);have n5:=bO (P:=w.heap.size+1+1+1) (.slice IV IW IX) (.bool false) n5 (by omega);have n7:=bO (P:=w.heap.size+1+1+1) (.slice IV IW IX) (.bool false) n7 (by omega);have y8:=bO (P:=w.heap.size+1+1+1) (.slice IV IW IX) (.bool false) y8 (by omega);have BW:=gJ (P:=w.heap.size+1+1+1) (.slice IV IW IX) (.bool false) BW (by omega);have Ma:=Ma.aex (.slice IV IW IX) (.bool false);have n0:=bO (P:=w.heap.size+1+1+1+1) (.slice A6 A7 A8) (.bool false) n0 (by omega);have n2:=bO (P:=w.heap.size+1+1+1+1) (.slice A6 A7 A8) (.bool false) n2 (by omega);have n5:=bO (P:=w.heap.size+1+1+1+1) (.slice A6 A7 A8) (.bool false) n5 (by omega);have n7:=bO (P:=w.heap.size+1+1+1+1) (.slice A6 A7 A8) (.bool false) n7 (by omega);have y8:=bO (P:=w.heap.size+1+1+1+1) (.slice A6 A7 A8) (.bool false) y8 (by omega);have BW:=gJ (P:=w.heap.size+1+1+1+1) (.slice A6 A7 A8) (.bool false) BW (by omega);have Ma:=Ma.aey (.slice A6 A7 A8) (.bool false);have BW:=ag BW;have n0:=ag n0;have n2:=ag n2;have n5:=ag n5;have n7:=ag n7;have y8:=ag y8;have Ma:=ag Ma;go_wp2;clear c0 c1 f0 f1 d0 d1 e0 e1;generalize ((((w10.setCell ⟨w.heap.size+1+1+1,0,none⟩ (.slice IV IW IX)).setCell ⟨w.heap.size+1+1+1,1,none⟩ (.bool false)).setCell ⟨w.heap.size+1+1+1+1,0,none⟩ (.slice A6 A7 A8)).setCell ⟨w.heap.size+1+1+1+1,1,none⟩ (.bool false))=w11 at *;have DC:=ae Ma;have c0:=DC.b0.c0;have d0:=DC.b0.c1;have f0:=DC.b0.f0;have e0:=DC.b0.f1;have c1:=DC.b1.c0;have d1:=DC.b1.c1;have f1:=DC.b1.f0;have e1:=DC.b1.f1;have c2:=DC.b2.c0;have d2:=DC.b2.c1;have f2:=DC.b2.f0;have e2:=DC.b2.f1;have c3:=DC.b3.c0;have d3:=DC.b3.c1;have f3:=DC.b3.f0;have e3:=DC.b3.f1;have c4:=DC.b4.c0;have d4:=DC.b4.c1;have f4:=DC.b4.f0;have e4:=DC.b4.f1;have Y:=DC;have Y:=Y.XV (.slice A0 A1 A2) (.bool false);have Y:=Y.Oe (.slice A9 yj ym) (.bool false);have Y:=Y.Tb (.slice yn yt yu) (.bool D);have Y:=Y.aex (.slice IV IW IX) (.bool false);have Y:=Y.aey (.slice A6 A7 A8) (.bool false);have Y:=ag (Y.next (aj _ _).drew);have n0:=ae n0;have n0:=bO (P:=w.heap.size) (.slice A0 A1 A2) (.bool false) n0 (by omega);have n0:=bO (P:=w.heap.size+1) (.slice A9 yj ym) (.bool false) n0 (by omega);have n0:=bO (P:=w.heap.size+1+1) (.slice yn yt yu) (.bool D) n0 (by omega);have n0:=bO (P:=w.heap.size+1+1+1) (.slice IV IW IX) (.bool false) n0 (by omega);have n0:=bO (P:=w.heap.size+1+1+1+1) (.slice A6 A7 A8) (.bool false) n0 (by omega);have n0:=ag ((n0.next (aj _ _).drew).mono (show w.heap.size<=W0.heap.size by omega));have n2:=ae n2;have n2:=bO (P:=w.heap.size) (.slice A0 A1 A2) (.bool false) n2 (by omega);have n2:=bO (P:=w.heap.size+1) (.slice A9 yj ym) (.bool false) n2 (by omega);have n2:=bO (P:=w.heap.size+1+1) (.slice yn yt yu) (.bool D) n2 (by omega);have n2:=bO (P:=w.heap.size+1+1+1) (.slice IV IW IX) (.bool false) n2 (by omega);have n2:=bO (P:=w.heap.size+1+1+1+1) (.slice A6 A7 A8) (.bool false) n2 (by omega);have n2:=ag ((n2.next (aj _ _).drew).mono (show w.heap.size<=W0.heap.size by omega));have n5:=ae n5;have n5:=bO (P:=w.heap.size) (.slice A0 A1 A2) (.bool false) n5 (by omega);have n5:=bO (P:=w.heap.size+1) (.slice A9 yj ym) (.bool false) n5 (by omega);have n5:=bO (P:=w.heap.size+1+1) (.slice yn yt yu) (.bool D) n5 (by omega);have n5:=bO (P:=w.heap.size+1+1+1) (.slice IV IW IX) (.bool false) n5 (by omega);have n5:=bO (P:=w.heap.size+1+1+1+1) (.slice A6 A7 A8) (.bool false) n5 (by omega)
 have n5:=ag ((n5.next (aj _ _).drew).mono (show w.heap.size<=W0.heap.size by omega));have n7:=ae n7;have n7:=bO (P:=w.heap.size) (.slice A0 A1 A2) (.bool false) n7 (by omega);have n7:=bO (P:=w.heap.size+1) (.slice A9 yj ym) (.bool false) n7 (by omega);have n7:=bO (P:=w.heap.size+1+1) (.slice yn yt yu) (.bool D) n7 (by omega);have n7:=bO (P:=w.heap.size+1+1+1) (.slice IV IW IX) (.bool false) n7 (by omega);have n7:=bO (P:=w.heap.size+1+1+1+1) (.slice A6 A7 A8) (.bool false) n7 (by omega);have n7:=ag ((n7.next (aj _ _).drew).mono (show w.heap.size<=W0.heap.size by omega));have y8:=ae y8;have y8:=bO (P:=w.heap.size) (.slice A0 A1 A2) (.bool false) y8 (by omega);have y8:=bO (P:=w.heap.size+1) (.slice A9 yj ym) (.bool false) y8 (by omega);have y8:=bO (P:=w.heap.size+1+1) (.slice yn yt yu) (.bool D) y8 (by omega);have y8:=bO (P:=w.heap.size+1+1+1) (.slice IV IW IX) (.bool false) y8 (by omega);have y8:=bO (P:=w.heap.size+1+1+1+1) (.slice A6 A7 A8) (.bool false) y8 (by omega);have y8:=ag ((y8.next (aj _ _).drew).mono (show w.heap.size<=W0.heap.size by omega));have BW:=ae BW;have BW:=gJ (P:=w.heap.size) (.slice A0 A1 A2) (.bool false) BW (by omega);have BW:=gJ (P:=w.heap.size+1) (.slice A9 yj ym) (.bool false) BW (by omega);have BW:=gJ (P:=w.heap.size+1+1) (.slice yn yt yu) (.bool D) BW (by omega);have BW:=gJ (P:=w.heap.size+1+1+1) (.slice IV IW IX) (.bool false) BW (by omega);have BW:=gJ (P:=w.heap.size+1+1+1+1) (.slice A6 A7 A8) (.bool false) BW (by omega);have BW:=ag BW.drew;clear DC Ma;clear L0 L1 L2 LE LM Gw s0 jx
 go_big_region
 clear c0 d0 f0 e0 c1 d1 f1 e1 c2 d2 f2 e2 c3 d3 f3 e3 c4 d4 f4 e4;generalize (((((((((((w11.setCell ⟨w.heap.size,0,none⟩ (.slice A0 A1 A2)).setCell ⟨w.heap.size,1,none⟩ (.bool false)).setCell ⟨w.heap.size+1,0,none⟩ (.slice A9 yj ym)).setCell ⟨w.heap.size+1,1,none⟩ (.bool false)).setCell ⟨w.heap.size+1+1,0,none⟩ (.slice yn yt yu)).setCell ⟨w.heap.size+1+1,1,none⟩ (.bool D)).setCell ⟨w.heap.size+1+1+1,0,none⟩ (.slice IV IW IX)).setCell ⟨w.heap.size+1+1+1,1,none⟩ (.bool false)).setCell ⟨w.heap.size+1+1+1+1,0,none⟩ (.slice A6 A7 A8)).setCell ⟨w.heap.size+1+1+1+1,1,none⟩ (.bool false))).drew=w12 at *;have c0:=(ae Y).b0.c0;have d0:=(ae Y).b0.c1;have c1:=(ae Y).b1.c0;have d1:=(ae Y).b1.c1;have c2:=(ae Y).b2.c0;have d2:=(ae Y).b2.c1;have c3:=(ae Y).b3.c0;have d3:=(ae Y).b3.c1;have c4:=(ae Y).b4.c0;have d4:=(ae Y).b4.c1;go_wp2;refine dR (v:=.tuple #[.agg #[.slice A0 A1 A2,.bool false],.agg #[.slice A9 yj ym,.bool false],.agg #[.slice yn yt yu,.bool D],.agg #[.slice IV IW IX,.bool false],.agg #[.slice A6 A7 A8,.bool false]]) (by simp[results,Tryz.results185,go_sem,c0,d0,c1,d1,c2,d2,c3,d3,c4,d4]) rfl ?_;refine⟨_,_,_,_,_,by rw[ae HD],ae n0,?_,ae n7,?_,ae n2,ae BW⟩
 ·rw[show a0+a1+a2=a0+a2+a1 by omega];exact ae n5
 ·rw[show a0+2*a1+4*a2=a0+a1*2+a2*4 by omega];exact ae y8
structure Vb(B:Nat)(w:World)(g:Nat)(zs:List Nat)(l v:Nat):Prop where
 ge:B<=g
 kM:cW w g zs
 len:zs.length=l
 MK:bG zs
 val:aB zs=v
theorem Vb.next{B l:Nat}(h:Vb B w g zs l v)(b:Below w.heap.size w w'):Vb B w' g zs l v:=⟨h.ge,(b.block _ h.kM.lt).trans h.kM,h.len,h.MK,h.val⟩
theorem Vb.out{D:Nat->Prop}{B l:Nat}(h:Vb B w g zs l v)(o:Out D w w')(hd:¬D g):Vb B w' g zs l v:=⟨h.ge,o.kM h.kM hd,h.len,h.MK,h.val⟩
theorem Vb.mono{B l:Nat}(h:Vb B w g zs l v)(hb:C<=B):Vb C w g zs l v:=⟨ak hb h.ge,h.kM,h.len,h.MK,h.val⟩
structure aeO(B:Nat)(w:World)(v:Value)(a0 a1 a2 h H1 n2:Nat):Prop where
 out:∃g0 g1 g2 g3 g4 z0 z1 z2 z3 z4,v=.agg #[.slice (some ⟨g0,0,none⟩) h h,.slice (some ⟨g1,0,none⟩) H1 H1,.slice (some ⟨g2,0,none⟩) H1 H1,.slice (some ⟨g3,0,none⟩) H1 H1,.slice (some ⟨g4,0,none⟩) n2 n2,.bool (decide (a0+a2<a1))]/\
  Vb B w g0 z0 h a0/\Vb B w g1 z1 H1 (a0+a1+a2)/\Vb B w g2 z2 H1 (nd (a0+a2) a1)/\Vb B w g3 z3 H1 (a0+2*a1+4*a2)/\Vb B w g4 z4 n2 a2
theorem ud(w:World)(ga:Option Addr)(b o cap n h:Nat)(xs:List Nat)(a0 a1 a2:Nat)(hl:xs.length=n)(hn:n<=16384)(h0:0<h)(hh:2*h<n)(h3:n<=3*h)(hR:cH w ga b o cap xs)(hd:bG xs)(e0:a0=aB xs%18446744073709551616^h)(e1:a1=aB xs/18446744073709551616^h%18446744073709551616^h)(e2:a2=aB xs/18446744073709551616^h/18446744073709551616^h):Calls Tryz.prog 159 #[.slice ga n cap,.int .i64 (h:Int)] w fun e w'=>∃v,e=.returned v/\aeO w.heap.size w' v a0 a1 a2 h (h+1) (n-2*h)/\Below w.heap.size w w':=by
 have hm:aB xs<18446744073709551616^n:=by have:=bF hd;rwa [hl]at this
 have hP:0<18446744073709551616^h:=bR (by omega);have p0:a0<18446744073709551616^h:=by rw[e0];exact aD _ hP
 have p1:a1<18446744073709551616^h:=by rw[e1];exact aD _ hP
 have p2:a2<18446744073709551616^(n-2*h):=by rw[e2];exact Yt hm (by omega)
 have p2':a2<18446744073709551616^h:=az p2 (XD (by omega));have q1:Hid (a0+a1+a2<18446744073709551616^(h+1)):=by show _<_;rw[aE];exact aa5 p0 p1 p2'
 have qn:Hid (nd (a0+a2) a1<18446744073709551616^(h+1)):=by show _<_;rw[aE];exact aa7 p0 p1 p2'
 have q2:Hid (a0+2*a1+4*a2<18446744073709551616^(h+1)):=by show _<_;rw[aE];exact aa6 p0 p1 p2'
 have hpc:h=pcs (h:Int):=by unfold pcs;omega
 have CP:=ag (fun W (bb:Below w.heap.size w W)=>NU W _ (aB xs) h n (h:Int) a0 a1 a2 (GZ (hR.next bb) hd hl (by omega)) (by omega) hm hpc e0 e1 e2);have b0:Below w.heap.size w (w.alloc (.cells #[.slice none 0 0,.slice none 0 0,.slice none 0 0,.slice none 0 0,.slice none 0 0,.bool false] 201)):=(aj _ _).alloc (af _) _;have H0:=ag p0;have H2:=ag p2;clear hm hP p0 p1 p2 p2' hR hd e0 e1 e2 hpc hl;go_enter Tryz.func159,Tryz.ntmps159
 go_wp2_with fail
 refine(ae CP _ b0).mono ?_;rintro e w1 ⟨v0,v1,v2,v3,v4,rfl,n0,n1,n2,n3,n4,b1⟩;obtain⟨A0,A1,A2,rfl⟩:=n0.form;obtain⟨A3,A4,A5,rfl⟩:=n1.form;obtain⟨A6,A7,A8,rfl⟩:=n2.form;obtain⟨A9,yj,ym,rfl⟩:=n3.form;obtain⟨yn,yt,yu,rfl⟩:=n4.form;clear CP
 -- mark
 obtain⟨D,hD⟩:∃D,decide (a0+a2<a1)=D:=⟨_,rfl⟩;rw[hD];have HD:=ag hD;clear hD;obtain⟨H1,lV⟩:∃H1,h+1=H1:=⟨_,rfl⟩;obtain⟨K2,xt⟩:∃K2,2*h=K2:=⟨_,rfl⟩;obtain⟨N2,xw⟩:∃N2,n-K2=N2:=⟨_,rfl⟩;have i1:(h:Int)+1=(H1:Int):=by omega
 have i2:IntKind.i64.wrap (H1:Int)=(H1:Int):=by rw[ao];omega
 have i3:2*(h:Int)=(K2:Int):=by omega
 have i4:IntKind.i64.wrap (K2:Int)=(K2:Int):=by rw[ao];omega
 have i5:(n:Int)-(K2:Int)=(N2:Int):=by omega
 have i6:IntKind.i64.wrap (N2:Int)=(N2:Int):=by rw[ao];omega
 rw[xt,xw]at H2;rw[lV]at q1 qn q2;have EZ:w.heap.size<(w.alloc (.cells #[.slice none 0 0,.slice none 0 0,.slice none 0 0,.slice none 0 0,.slice none 0 0,.bool false] 201)).heap.size:=by simp
 have s1:w.heap.size<w1.heap.size:=az EZ b1.size;have kR:w1.heap[w.heap.size]?=some (.cells #[.slice none 0 0,.slice none 0 0,.slice none 0 0,.slice none 0 0,.slice none 0 0,.bool false] 201 (0,0)):=(b1.block w.heap.size (by simp)).trans (aI w _);have BW:=aJ b0 b1;obtain⟨k0,k1,k2,k3,k4⟩:=Vd w1 (.cells #[.slice A0 A1 A2,.bool false] 226) (.cells #[.slice A3 A4 A5,.bool false] 226) (.cells #[.slice A6 A7 A8,.bool D] 226) (.cells #[.slice A9 yj ym,.bool false] 226) (.cells #[.slice yn yt yu,.bool false] 226);have b5:=U7 w1 (.cells #[.slice A0 A1 A2,.bool false] 226) (.cells #[.slice A3 A4 A5,.bool false] 226) (.cells #[.slice A6 A7 A8,.bool D] 226) (.cells #[.slice A9 yj ym,.bool false] 226) (.cells #[.slice yn yt yu,.bool false] 226);have kR:=(b5.block w.heap.size s1).trans kR;have BW:=ag (aJ BW b5);have n0:=n0.next b5;have n1:=n1.next b5;have n2:=n2.next b5;have n3:=n3.next b5;have n4:=n4.next b5;have xB:w1.heap.size<=(((((w1.alloc (.cells #[.slice A0 A1 A2,.bool false] 226)).alloc (.cells #[.slice A3 A4 A5,.bool false] 226)).alloc (.cells #[.slice A6 A7 A8,.bool D] 226)).alloc (.cells #[.slice A9 yj ym,.bool false] 226)).alloc (.cells #[.slice yn yt yu,.bool false] 226)).heap.size:=b5.size;clear b0 b1 EZ b5;go_wp2;generalize (((((w1.alloc (.cells #[.slice A0 A1 A2,.bool false] 226)).alloc (.cells #[.slice A3 A4 A5,.bool false] 226)).alloc (.cells #[.slice A6 A7 A8,.bool D] 226)).alloc (.cells #[.slice A9 yj ym,.bool false] 226)).alloc (.cells #[.slice yn yt yu,.bool false] 226))=W0 at *;generalize hP:w1.heap.size=P at *;generalize hG:w.heap.size=G at *;have GP:G<P:=by omega
 have HG:=ag hG;have HC:Hid (∀W,Below W0.heap.size W0 W->W.cell? ⟨P,0,none⟩=some (.slice A0 A1 A2)/\W.cell? ⟨P+1,0,none⟩=some (.slice A3 A4 A5)/\W.cell? ⟨P+1+1,0,none⟩=some (.slice A6 A7 A8)/\W.cell? ⟨P+1+1+1,0,none⟩=some (.slice A9 yj ym)/\W.cell? ⟨P+1+1+1+1,0,none⟩=some (.slice yn yt yu)/\W.cell? ⟨P+1+1,1,none⟩=some (.bool D)):=fun W q=>by have j0:=(q.block (P) (ah.1 k0).1).trans k0;have j1:=(q.block (P+1) (ah.1 k1).1).trans k1;have j2:=(q.block (P+1+1) (ah.1 k2).1).trans k2;have j3:=(q.block (P+1+1+1) (ah.1 k3).1).trans k3;have j4:=(q.block (P+1+1+1+1) (ah.1 k4).1).trans k4;exact⟨ay _ (P) 0 _ _ (0,0) j0,ay _ (P+1) 0 _ _ (0,0) j1,ay _ (P+1+1) 0 _ _ (0,0) j2,ay _ (P+1+1+1) 0 _ _ (0,0) j3,ay _ (P+1+1+1+1) 0 _ _ (0,0) j4,ay _ (P+1+1) 1 _ _ (0,0) j2⟩
 have GR:Hid (∀(W:World) (x0 x1 x2 x3 x4 x5:Value),W.grownBy ((((((W.setCell ⟨G,0,none⟩ x0).setCell ⟨G,1,none⟩ x1).setCell ⟨G,2,none⟩ x2).setCell ⟨G,3,none⟩ x3).setCell ⟨G,4,none⟩ x4).setCell ⟨G,5,none⟩ x5) (some G)):=fun W x0 x1 x2 x3 x4 x5=>cj (cj (cj (cj (cj (aY W G 0 x0) (aY _ G 1 x1)) (aY _ G 2 x2)) (aY _ G 3 x3)) (aY _ G 4 x4)) (aY _ G 5 x5);have HC2:Hid (∀W x0 x1 x2 x3 x4 x5,Below W0.heap.size W0 W->((((((W.setCell ⟨G,0,none⟩ x0).setCell ⟨G,1,none⟩ x1).setCell ⟨G,2,none⟩ x2).setCell ⟨G,3,none⟩ x3).setCell ⟨G,4,none⟩ x4).setCell ⟨G,5,none⟩ x5).cell? ⟨P,0,none⟩=some (.slice A0 A1 A2)/\((((((W.setCell ⟨G,0,none⟩ x0).setCell ⟨G,1,none⟩ x1).setCell ⟨G,2,none⟩ x2).setCell ⟨G,3,none⟩ x3).setCell ⟨G,4,none⟩ x4).setCell ⟨G,5,none⟩ x5).cell? ⟨P+1,0,none⟩=some (.slice A3 A4 A5)/\((((((W.setCell ⟨G,0,none⟩ x0).setCell ⟨G,1,none⟩ x1).setCell ⟨G,2,none⟩ x2).setCell ⟨G,3,none⟩ x3).setCell ⟨G,4,none⟩ x4).setCell ⟨G,5,none⟩ x5).cell? ⟨P+1+1,0,none⟩=some (.slice A6 A7 A8)/\((((((W.setCell ⟨G,0,none⟩ x0).setCell ⟨G,1,none⟩ x1).setCell ⟨G,2,none⟩ x2).setCell ⟨G,3,none⟩ x3).setCell ⟨G,4,none⟩ x4).setCell ⟨G,5,none⟩ x5).cell? ⟨P+1+1+1,0,none⟩=some (.slice A9 yj ym)/\((((((W.setCell ⟨G,0,none⟩ x0).setCell ⟨G,1,none⟩ x1).setCell ⟨G,2,none⟩ x2).setCell ⟨G,3,none⟩ x3).setCell ⟨G,4,none⟩ x4).setCell ⟨G,5,none⟩ x5).cell? ⟨P+1+1+1+1,0,none⟩=some (.slice yn yt yu)/\((((((W.setCell ⟨G,0,none⟩ x0).setCell ⟨G,1,none⟩ x1).setCell ⟨G,2,none⟩ x2).setCell ⟨G,3,none⟩ x3).setCell ⟨G,4,none⟩ x4).setCell ⟨G,5,none⟩ x5).cell? ⟨P+1+1,1,none⟩=some (.bool D)):=fun W x0 x1 x2 x3 x4 x5 q=>by obtain⟨j0,j1,j2,j3,j4,j5⟩:=ae HC W q;have g:=ae GR W x0 x1 x2 x3 x4 x5;exact⟨g.cell j0 (by simp;omega),g.cell j1 (by simp;omega),g.cell j2 (by simp;omega),g.cell j3 (by simp;omega),g.cell j4 (by simp;omega),g.cell j5 (by simp;omega)⟩
 have GW:G<W0.heap.size:=(ah.1 kR).1;have HX:Hid (∀W,Below W0.heap.size W0 W->W.heap[G]?=some (.cells #[.slice none 0 0,.slice none 0 0,.slice none 0 0,.slice none 0 0,.slice none 0 0,.bool false] 201 (0,0))):=fun W q=>(q.block G GW).trans kR;have Q0:Hid (∀W,Below W0.heap.size W0 W->Calls Tryz.prog 186 #[.slice A0 A1 A2,.int .i64 (h:Int)] W fun e w'=>∃g zs,e=.returned (.slice (some ⟨g,0,none⟩) h h)/\Vb W0.heap.size w' g zs h (a0)/\Below W.heap.size W w'):=fun W q=>by refine(ui W _ _ _ h (ae H0) (by omega) (n0.next q)).mono ?_;rintro e w' ⟨zs,rfl,y1,y2,y3,y4,y5⟩;exact⟨_,zs,rfl,⟨q.size,y1,y2,y3,y4⟩,y5⟩
 have Q1:Hid (∀W,Below W0.heap.size W0 W->Calls Tryz.prog 186 #[.slice A3 A4 A5,.int .i64 (H1:Int)] W fun e w'=>∃g zs,e=.returned (.slice (some ⟨g,0,none⟩) H1 H1)/\Vb W0.heap.size w' g zs H1 (a0+a1+a2)/\Below W.heap.size W w'):=fun W q=>by refine(ui W _ _ _ H1 (ae q1) (by omega) (n1.next q)).mono ?_;rintro e w' ⟨zs,rfl,y1,y2,y3,y4,y5⟩;exact⟨_,zs,rfl,⟨q.size,y1,y2,y3,y4⟩,y5⟩
 have Q2:Hid (∀W,Below W0.heap.size W0 W->Calls Tryz.prog 186 #[.slice A6 A7 A8,.int .i64 (H1:Int)] W fun e w'=>∃g zs,e=.returned (.slice (some ⟨g,0,none⟩) H1 H1)/\Vb W0.heap.size w' g zs H1 (nd (a0+a2) a1)/\Below W.heap.size W w'):=fun W q=>by refine(ui W _ _ _ H1 (ae qn) (by omega) (n2.next q)).mono ?_;rintro e w' ⟨zs,rfl,y1,y2,y3,y4,y5⟩;exact⟨_,zs,rfl,⟨q.size,y1,y2,y3,y4⟩,y5⟩
 have Q3:Hid (∀W,Below W0.heap.size W0 W->Calls Tryz.prog 186 #[.slice A9 yj ym,.int .i64 (H1:Int)] W fun e w'=>∃g zs,e=.returned (.slice (some ⟨g,0,none⟩) H1 H1)/\Vb W0.heap.size w' g zs H1 (a0+2*a1+4*a2)/\Below W.heap.size W w'):=fun W q=>by refine(ui W _ _ _ H1 (ae q2) (by omega) (n3.next q)).mono ?_;rintro e w' ⟨zs,rfl,y1,y2,y3,y4,y5⟩;exact⟨_,zs,rfl,⟨q.size,y1,y2,y3,y4⟩,y5⟩
 have Q4:Hid (∀W,Below W0.heap.size W0 W->Calls Tryz.prog 186 #[.slice yn yt yu,.int .i64 (N2:Int)] W fun e w'=>∃g zs,e=.returned (.slice (some ⟨g,0,none⟩) N2 N2)/\Vb W0.heap.size w' g zs N2 (a2)/\Below W.heap.size W w'):=fun W q=>by refine(ui W _ _ _ N2 (ae H2) (by omega) (n4.next q)).mono ?_;rintro e w' ⟨zs,rfl,y1,y2,y3,y4,y5⟩;exact⟨_,zs,rfl,⟨q.size,y1,y2,y3,y4⟩,y5⟩
 have HE:Hid (h+1=H1/\n-2*h=N2):=⟨lV,by omega⟩;have Ia:Hid (G<=W0.heap.size):=fk GW;obtain⟨p0,p1,p2,p3,p4,p5⟩:=ae HC _ (aj _ _);have bl:Below W0.heap.size W0 W0.drew:=(aj _ _).drew;have GL:=ag GW;clear n0 n1 n2 n3 n4 k0 k1 k2 k3 k4 kR GW xB lV xt xw hn h0 hh h3 s1 H0 H2 q1 qn q2 hP hG GP
 go_region_held3 (fun w'=>w'.cell? ⟨P,0,none⟩=some (.slice A0 A1 A2)/\w'.cell? ⟨P+1,0,none⟩=some (.slice A3 A4 A5)/\w'.cell? ⟨P+1+1,0,none⟩=some (.slice A6 A7 A8)/\w'.cell? ⟨P+1+1+1,0,none⟩=some (.slice A9 yj ym)/\w'.cell? ⟨P+1+1+1+1,0,none⟩=some (.slice yn yt yu)/\w'.cell? ⟨P+1+1,1,none⟩=some (.bool D)) (first|(with_reducible exact ae HC _ bl)|(with_reducible exact ae HC2 _ _ _ _ _ _ _ bl)|go_keep) (first
  |(with_reducible refine(ae Q0 _ bl).mono ?_;rintro e w3 ⟨g0,z0,rfl,t0,bb⟩;have bl:=bl.trans (bb.mono bl.size);clear bb;obtain⟨p0,p1,p2,p3,p4,p5⟩:=ae HC _ bl)
  |(with_reducible refine(ae Q1 _ bl).mono ?_;rintro e w4 ⟨g1,z1,rfl,t1,bb⟩;have bl:=bl.trans (bb.mono bl.size);have t0:=t0.next bb;clear bb;obtain⟨p0,p1,p2,p3,p4,p5⟩:=ae HC _ bl)
  |(with_reducible refine(ae Q2 _ bl).mono ?_;rintro e w5 ⟨g2,z2,rfl,t2,bb⟩;have bl:=bl.trans (bb.mono bl.size);have t0:=t0.next bb;have t1:=t1.next bb;clear bb;obtain⟨p0,p1,p2,p3,p4,p5⟩:=ae HC _ bl)
  |(with_reducible refine(ae Q3 _ bl).mono ?_;rintro e w6 ⟨g3,z3,rfl,t3,bb⟩;have bl:=bl.trans (bb.mono bl.size);have t0:=t0.next bb;have t1:=t1.next bb;have t2:=t2.next bb;clear bb;obtain⟨p0,p1,p2,p3,p4,p5⟩:=ae HC _ bl)
  |(with_reducible refine(ae Q4 _ bl).mono ?_;rintro e w7 ⟨g4,z4,rfl,t4,bb⟩;have bl:=bl.trans (bb.mono bl.size);have t0:=t0.next bb;have t1:=t1.next bb;have t2:=t2.next bb;have t3:=t3.next bb;clear bb;obtain⟨p0,p1,p2,p3,p4,p5⟩:=ae HC _ bl;have kx:=ae HX _ bl;have c0:=ay _ G 0 _ _ (0,0) kx;have f0:=bZ _ G 0 _ _ kx;have c1:=ay _ G 1 _ _ (0,0) kx;have f1:=bZ _ G 1 _ _ kx;have c2:=ay _ G 2 _ _ (0,0) kx;have f2:=bZ _ G 2 _ _ kx;have c3:=ay _ G 3 _ _ (0,0) kx;have f3:=bZ _ G 3 _ _ kx;have c4:=ay _ G 4 _ _ (0,0) kx;have f4:=bZ _ G 4 _ _ kx;have c5:=ay _ G 5 _ _ (0,0) kx;have f5:=bZ _ G 5 _ _ kx;clear kx)
  |fail)
 have gr:=ae GR w7 (.slice (some ⟨g0,0,none⟩) h h) (.slice (some ⟨g1,0,none⟩) H1 H1) (.slice (some ⟨g2,0,none⟩) H1 H1) (.slice (some ⟨g3,0,none⟩) H1 H1) (.slice (some ⟨g4,0,none⟩) N2 N2) (.bool D);have ng:=ae GL;have t0:=ag (t0.out (Out.bX gr) (fun e=>by have:=t0.ge;omega));have t1:=ag (t1.out (Out.bX gr) (fun e=>by have:=t1.ge;omega));have t2:=ag (t2.out (Out.bX gr) (fun e=>by have:=t2.ge;omega));have t3:=ag (t3.out (Out.bX gr) (fun e=>by have:=t3.ge;omega));have t4:=ag (t4.out (Out.bX gr) (fun e=>by have:=t4.ge;omega));have FB:=ag (gS ((ae BW).trans (bl.mono (ae Ia))) gr (af _) (ak (ae Ia) bl.size));clear gr ng bl p0 p1 p2 p3 p4 p5 Q0 Q1 Q2 Q3 Q4 HC HC2 HX GR;go_wp2;refine dR (v:=.agg #[.slice (some ⟨g0,0,none⟩) h h,.slice (some ⟨g1,0,none⟩) H1 H1,.slice (some ⟨g2,0,none⟩) H1 H1,.slice (some ⟨g3,0,none⟩) H1 H1,.slice (some ⟨g4,0,none⟩) N2 N2,.bool D]) (by simp[results,Tryz.results159,go_sem,c0,c1,c2,c3,c4,c5]) rfl ?_;refine⟨_,rfl,?_,by rw[ae HG];exact ae FB⟩;obtain⟨sL,AA⟩:=ae HE;rw[sL,AA,ae HG];exact⟨⟨g0,g1,g2,g3,g4,z0,z1,z2,z3,z4,by rw[ae HD],(ae t0).mono (ae Ia),(ae t1).mono (ae Ia),(ae t2).mono (ae Ia),(ae t3).mono (ae Ia),(ae t4).mono (ae Ia)⟩⟩
theorem gQ.one{o:Nat}(h:gQ w g o s l m)(k:gQ w g o s' l' m'):s=s'/\l=l'/\m=m':=by have e0:=h.c0.symm.trans k.c0;have e1:=h.c1.symm.trans k.c1;have e2:=h.c2.symm.trans k.c2;simp only[Option.some.injEq,Value.int.injEq,true_and]at e0 e1 e2;exact⟨e0,e1,e2⟩
theorem iL{D:Nat->Prop}{l:Nat}(h:cW w g zs)(hl:zs.length=l)(hd:bG zs)(hn:¬D g):Ub D w (.slice (some ⟨g,0,none⟩) l l) (aB zs) l:=
 ⟨_,g,0,l,zs,rfl,hl,h.whole hl,hd,rfl,fun _=>hn⟩
theorem R_(w:World)(gk ge g:Nat)(s l m:Int)(T:bJ)(ga gb:Option Addr)(b o cap la b' o' bM lb h:Nat)(xs ys:List Nat)(k:Nat)(fs cs:Array Value)(D:Nat->Prop)(St:Nat->World->Prop)(hE:ko w gk ge g s l m T)(vn:0<=l)(qk:l<=1000000)(jw:xs.length=la)(hR:cH w ga b o cap xs)(mB:bG xs)(_hbD:0<la->¬D b)(kt:ys.length=lb)(kV:cH w gb b' o' bM ys)(vm:bG ys)(_hbD':0<lb->¬D b')(fA:la<=16384)(kl:lb<=16384)(hh:h=(max la lb+1)/2)(dh:h<min la lb)(_nk:¬D gk)(_ne:¬D ge)(ng:¬D g)(hD:∀j,D j->j<w.heap.size)(hI:abE gk ge g l T (max la lb) (min la lb) h k fs cs D St)(hS:∀W,Out (·=g) w W->ko W gk ge g s (l+1) (max m (l+1)) T->St 0 W)(Wt:¬la<lb):Calls Tryz.prog 137 #[.pointer (some ⟨gk,0,none⟩),.slice ga la cap,.slice gb lb bM,.func (.func k) fs cs] w fun e w'=>∃v W,e=.returned (.tuple #[v,.bool true])/\aU w.heap.size w' v (aB xs*aB ys)/\St 3 W/\Out (·=g) W w'/\(∀s' m',ko W gk ge g s' (l+1) m' T->ko w' gk ge g s' l m' T)/\Out (fun j=>D j\/j=g) w w':=by
 have hn:max la lb=la:=by omega
 have hm:min la lb=lb:=by omega
 rw[hn,hm]at hI;rw[hn]at hh;rw[hm]at dh;have CH:=ag (fun w=>Bw w ga la cap h fA hh);have hM:=hE.iG.met;have nV:=hM.lt;have CE:=ag (jS (l+1) (max m (l+1)) hM rfl rfl (by omega) (by omega));have e0:=hE.ptr;have e1:=hE.iG.ptr;have HE:=ag hE;have ngt:¬lb<=h:=by omega
 have HI:=ag hI;have HS:=ag hS;have HD:=ag hD;have HR:=ag hR;have IG:=ag kV;have h2:la<=2*h:=by omega
 have hle:lb<=la:=by omega
 have NG:=ag ng;have Ug:=hI.go;clear hE hM hI hS hD hR kV hh hn hm;clear _nk _ne ng _hbD _hbD'
 go_enter_defers Tryz.func137,Tryz.ntmps137
 go_wp2_with fail
 refine(ae CH _).mono ?_;rintro e w1 ⟨rfl,DX⟩;obtain rfl:=DX.symm;clear DX CH
 go_wp2_with fail
 refine(ae CE).mono ?_;rintro e w1 ⟨rfl,M1,T1⟩;have K1:=(ae HE).step M1 T1;have r1:=(ae HR).iy (ae HE).iG.met T1;have XL:=(ae IG).iy (ae HE).iG.met T1;have e0:=K1.ptr;have e1:=K1.iG.ptr;have s1:=T1.grown.size;have O1:=ag (Out.bX T1.grown);clear CE M1 T1
 go_wp2_with fail
 refine(tL _ _ _ _ _ _ h xs jw fA (by omega) (by omega) (by omega) r1 mB).mono ?_;rintro e w2 ⟨v2,rfl,p2,b2⟩
 go_wp2_with fail
 refine(tL _ _ _ _ _ _ h ys kt kl (by omega) (by omega) (by omega) (XL.next b2) vm).mono ?_;rintro e w3 ⟨v3,rfl,p3,b3⟩;obtain⟨g0,g1,g2,zs,rfl,i0,i1,i2,k0,k1,k2,z0,z1,z2⟩:=p2.out;obtain⟨sD,sE,sF,sM,rfl,i0',i1',i2',WU,Ur,IL,Uw,z1',z2'⟩:=p3.out;rw[jw,kt];have s2:=b2.size;have s3:=b3.size;have k0:cW w3 g0 _:=(b3.block _ k0.lt).trans k0;have k1:cW w3 g1 _:=(b3.block _ k1.lt).trans k1;have k2:cW w3 g2 _:=(b3.block _ k2.lt).trans k2;have O3:=ag (((ae O1).next b2).next b3);have K3:=(K1.next b2).next b3;clear r1 XL p2 p3 b2 b3 e0 e1;obtain⟨H1,lV⟩:∃H1,h+1=H1:=⟨_,rfl⟩;obtain⟨n1,qH⟩:∃n1,la-h=n1:=⟨_,rfl⟩;obtain⟨m1,ox⟩:∃m1,lb-h=m1:=⟨_,rfl⟩;have lx0:(xs.take h).length=h:=by simp;omega
 have ly0:(ys.take h).length=h:=by simp;omega
 have lx1:(xs.drop h).length=n1:=by simp;omega
 have ly1:(ys.drop h).length=m1:=by simp;omega
 have dx0:=gH mB h;have dy0:=gH vm h;have dx1:=fJ mB h;have dy1:=fJ vm h;rw[lV,qH,ox];rw[lV]at z0 Uw;have HV:=ag (yV xs ys h);have HL:Hid (aB (xs.take h)*aB (ys.take h)+aB (xs.drop h)*aB (ys.drop h)<=aB zs*aB sM):=by show _<=_;rw[z2,z2'];exact G8 _ _ _ _
 have HP:Hid (aB zs*aB sM<18446744073709551616^(H1+H1)):=by show _<_;rw[aQ];have q1:=bF z1;have q2:=bF z1';rw[z0]at q1;rw[Uw]at q2;exact eU q1 q2
 rw[<-z2, <-z2']at HV;clear z2 z2'
 -- the two boxes
 have bb:Below w3.heap.size w3 ((w3.alloc (.cells #[.slice (some ⟨g0,0,none⟩) h h,.slice (some ⟨g1,0,none⟩) n1 n1,.slice (some ⟨g2,0,none⟩) H1 H1] 196)).alloc (.cells #[.slice (some ⟨sD,0,none⟩) h h,.slice (some ⟨sE,0,none⟩) m1 m1,.slice (some ⟨sF,0,none⟩) H1 H1] 196)):=((aj _ _).alloc (af _) _).alloc (by simp) _;have kP:=(((aj _ _).alloc (af _) (.cells #[.slice (some ⟨sD,0,none⟩) h h,.slice (some ⟨sE,0,none⟩) m1 m1,.slice (some ⟨sF,0,none⟩) H1 H1] 196)).block w3.heap.size (by simp)).trans (aI w3 (.cells #[.slice (some ⟨g0,0,none⟩) h h,.slice (some ⟨g1,0,none⟩) n1 n1,.slice (some ⟨g2,0,none⟩) H1 H1] 196));have kQ:=aI (w3.alloc (.cells #[.slice (some ⟨g0,0,none⟩) h h,.slice (some ⟨g1,0,none⟩) n1 n1,.slice (some ⟨g2,0,none⟩) H1 H1] 196)) (.cells #[.slice (some ⟨sD,0,none⟩) h h,.slice (some ⟨sE,0,none⟩) m1 m1,.slice (some ⟨sF,0,none⟩) H1 H1] 196);have sQ:(w3.alloc (.cells #[.slice (some ⟨g0,0,none⟩) h h,.slice (some ⟨g1,0,none⟩) n1 n1,.slice (some ⟨g2,0,none⟩) H1 H1] 196)).heap.size=w3.heap.size+1:=by simp
 rw[sQ]at kQ;obtain⟨W0,GA⟩:∃W0,(w3.alloc (.cells #[.slice (some ⟨g0,0,none⟩) h h,.slice (some ⟨g1,0,none⟩) n1 n1,.slice (some ⟨g2,0,none⟩) H1 H1] 196)).alloc (.cells #[.slice (some ⟨sD,0,none⟩) h h,.slice (some ⟨sE,0,none⟩) m1 m1,.slice (some ⟨sF,0,none⟩) H1 H1] 196)=W0:=⟨_,rfl⟩;rw[GA]at bb kP kQ;obtain⟨P0,ke⟩:∃P0,w3.heap.size=P0:=⟨_,rfl⟩;rw[ke]at kP kQ;have sW:=bb.size;have k0:cW W0 g0 _:=(bb.block _ k0.lt).trans k0;have k1:cW W0 g1 _:=(bb.block _ k1.lt).trans k1;have k2:cW W0 g2 _:=(bb.block _ k2.lt).trans k2;have WU:cW W0 sD _:=(bb.block _ WU.lt).trans WU;have Ur:cW W0 sE _:=(bb.block _ Ur.lt).trans Ur;have IL:cW W0 sF _:=(bb.block _ IL.lt).trans IL;have O3:=ag ((ae O3).next bb);have S0:=ag (ae HS _ (ae O3) (K3.next bb));have DN:∀q,w.heap.size<=q->¬(D q\/q=g):=fun q hq x=>by
  rcases x with x|x
  ·have:=ae HD q x;omega
  ·omega
 have DB:∀q,(D q\/q=g)->q<W0.heap.size:=fun q x=>by
  rcases x with x|x
  ·have:=ae HD q x;omega
  ·omega
 have HC:Hid (∀W,Out (fun j=>D j\/j=g) W0 W->W.cell? ⟨P0,0,none⟩=some (.slice (some ⟨g0,0,none⟩) h h)/\W.cell? ⟨P0,1,none⟩=some (.slice (some ⟨g1,0,none⟩) n1 n1)/\W.cell? ⟨P0,2,none⟩=some (.slice (some ⟨g2,0,none⟩) H1 H1)/\W.cell? ⟨P0+1,0,none⟩=some (.slice (some ⟨sD,0,none⟩) h h)/\W.cell? ⟨P0+1,1,none⟩=some (.slice (some ⟨sE,0,none⟩) m1 m1)/\W.cell? ⟨P0+1,2,none⟩=some (.slice (some ⟨sF,0,none⟩) H1 H1)):=fun W q=>by have j0:=(q.block P0 (ah.1 kP).1 (DN P0 (by omega))).trans kP;have j1:=(q.block (P0+1) (ah.1 kQ).1 (DN (P0+1) (by omega))).trans kQ;exact⟨ay _ P0 0 _ _ (0,0) j0,ay _ P0 1 _ _ (0,0) j0,ay _ P0 2 _ _ (0,0) j0,ay _ (P0+1) 0 _ _ (0,0) j1,ay _ (P0+1) 1 _ _ (0,0) j1,ay _ (P0+1) 2 _ _ (0,0) j1⟩
 have Q0:Hid (∀W,Out (fun j=>D j\/j=g) W0 W->St 0 W->Calls Tryz.prog k (fs++(#[.slice (some ⟨g0,0,none⟩) h h,.slice (some ⟨sD,0,none⟩) h h]++cs)) W fun e W'=>∃r,e=.returned r/\ft W0.heap.size W' r (aB (xs.take h)*aB (ys.take h))/\St 1 W'/\Out (fun j=>D j\/j=g) W0 W'/\Out (fun j=>D j\/j=g) W W'):=fun W q st=>by rw[<-ck];refine((ae HI).call 0 W _ _ _ _ (by omega) st (iL (q.kM k0 (DN _ (by omega))) lx0 dx0 (DN _ (by omega))) (iL (q.kM WU (DN _ (by omega))) ly0 dy0 (DN _ (by omega)))).mono ?_;rintro e W' ⟨r,rfl,n,kg,q'⟩;exact⟨r,rfl,n.mono q.size,kg,q.trans q',q'⟩
 have Q1:Hid (∀W,Out (fun j=>D j\/j=g) W0 W->St 1 W->Calls Tryz.prog k (fs++(#[.slice (some ⟨g1,0,none⟩) n1 n1,.slice (some ⟨sE,0,none⟩) m1 m1]++cs)) W fun e W'=>∃r,e=.returned r/\ft W0.heap.size W' r (aB (xs.drop h)*aB (ys.drop h))/\St 2 W'/\Out (fun j=>D j\/j=g) W0 W'/\Out (fun j=>D j\/j=g) W W'):=fun W q st=>by rw[<-ck];refine((ae HI).call 1 W _ _ _ _ (by omega) st (by rw[show(yY la lb h 1).1=n1 from qH];exact iL (q.kM k1 (DN _ (by omega))) lx1 dx1 (DN _ (by omega))) (by rw[show(yY la lb h 1).2=m1 from ox];exact iL (q.kM Ur (DN _ (by omega))) ly1 dy1 (DN _ (by omega)))).mono ?_;rintro e W' ⟨r,rfl,n,kg,q'⟩;exact⟨r,rfl,n.mono q.size,kg,q.trans q',q'⟩
 have Q2:Hid (∀W,Out (fun j=>D j\/j=g) W0 W->St 2 W->Calls Tryz.prog k (fs++(#[.slice (some ⟨g2,0,none⟩) H1 H1,.slice (some ⟨sF,0,none⟩) H1 H1]++cs)) W fun e W'=>∃r,e=.returned r/\ft W0.heap.size W' r (aB zs*aB sM)/\St 3 W'/\Out (fun j=>D j\/j=g) W0 W'/\Out (fun j=>D j\/j=g) W W'):=fun W q st=>by rw[<-ck];refine((ae HI).call 2 W _ _ _ _ (by omega) st (by rw[show(yY la lb h 2).1=H1 from lV];exact iL (q.kM k2 (DN _ (by omega))) z0 z1 (DN _ (by omega))) (by rw[show(yY la lb h 2).2=H1 from lV];exact iL (q.kM IL (DN _ (by omega))) Uw z1' (DN _ (by omega)))).mono ?_;rintro e W' ⟨r,rfl,n,kg,q'⟩;exact⟨r,rfl,n.mono q.size,kg,q.trans q',q'⟩
 have DB:=ag DB;have h16:h<=16384:=by omega
 have HH1:Hid (H1+H1<=1073741824):=by show _<=_;omega
 have Ia:=ag (show w.heap.size<=W0.heap.size by omega);have uF:=ag vn;have Ng:=ag qk;generalize aB (xs.take h)=X0 at *;generalize aB (xs.drop h)=X1 at *;generalize aB (ys.take h)=Y0 at *;generalize aB (ys.drop h)=Y1 at *;generalize aB zs=X2 at *;generalize aB sM=Y2 at *;clear k0 k1 k2 WU Ur IL kP kQ K3 K1 HE HS HR IG HD lx0 lx1 ly0 ly1 dx0 dx1 dy0 dy1 z0 Uw z1 z1' DN sQ bb O1 i0 i1 i2 i0' i1' i2' s1 s2 s3 sW nV lV qH ox vn qk;go_wp2;clear GA;obtain⟨p0,p1,p2,p3,p4,p5⟩:=ae HC W0 (Out.refl _ _);have st0:=(ae HI).next 0 W0 W0.drew (ae S0) ((aj _ _).drew);have o0:Out (fun j=>D j\/j=g) W0 W0.drew:=Out.bQ ((aj _ _).drew)
 go_region_held3 (fun w'=>w'.cell? ⟨P0,0,none⟩=some (.slice (some ⟨g0,0,none⟩) h h)/\w'.cell? ⟨P0,1,none⟩=some (.slice (some ⟨g1,0,none⟩) n1 n1)/\w'.cell? ⟨P0,2,none⟩=some (.slice (some ⟨g2,0,none⟩) H1 H1)/\w'.cell? ⟨P0+1,0,none⟩=some (.slice (some ⟨sD,0,none⟩) h h)/\w'.cell? ⟨P0+1,1,none⟩=some (.slice (some ⟨sE,0,none⟩) m1 m1)/\w'.cell? ⟨P0+1,2,none⟩=some (.slice (some ⟨sF,0,none⟩) H1 H1)) (first|(exact ae HC _ o4)|(exact ae HC _ o3)|(exact ae HC _ o2)|(exact ae HC _ o1)|(exact ae HC _ o0)|go_keep) (first
  |(refine(ae Q0 _ o0 st0).mono ?_;rintro e w5 ⟨r5,rfl,n5,Uu,o1,q1⟩;obtain⟨p0,p1,p2,p3,p4,p5⟩:=ae HC _ o1)
  |(refine(ae Q1 _ o1 Uu).mono ?_;rintro e w6 ⟨r6,rfl,n6,IP,o2,q2⟩;have n5:=n5.out q2 (ae DB);obtain⟨p0,p1,p2,p3,p4,p5⟩:=ae HC _ o2)
  |(refine(ae Q2 _ o2 IP).mono ?_;rintro e w7 ⟨r7,rfl,n7,st3,o3,q3⟩;have n5:=n5.out q3 (ae DB);have n6:=n6.out q3 (ae DB);obtain⟨p0,p1,p2,p3,p4,p5⟩:=ae HC _ o3)
  |(go_at_call 157;refine(yX _ _ _ _ _ _ _ h (H1+H1) h16 (ae HH1) (ae HP) (ae HL) n5.gE n6.gE n7.gE).mono ?_;rintro e w8 ⟨r8,rfl,n8,b8⟩;have o4:=o3.next b8;obtain⟨p0,p1,p2,p3,p4,p5⟩:=ae HC _ o4)
  |fail)
 have Dd:=(ae HI).next 3 w7 w8 st3 b8;obtain⟨s8,m8,K8⟩:=(ae HI).iG 3 w8 Dd;rw[ae HV]at n8;have UO:=ag Dd;have M8:=ag K8.iG.met;have OA:=ag (((ae O3).mono (fun k e=>Or.inr e)).trans o4);have N8:=ag n8;have SZ:=ag (ak (ae Ia) o3.size);have GL:=ag (az (ae DB g (Or.inr rfl)) o3.size);clear p0 p1 p2 p3 p4 p5 n5 n6 n7 n8 Dd st3 IP Uu st0 o4 o3 o2 o1 o0 q1 q2 q3 b8 K8 HV HL HP HC Q0 Q1 Q2 Ug S0;go_wp2;refine sm (f:=125) (args:=#[.pointer (some ⟨g,0,none⟩)]) (by simp) (by simp[go_sem]) ?_;refine(hU l .returning (ae M8) (by have:=ae uF;omega) (by have:=ae uF;omega) (by have:=ae Ng;omega)).mono ?_;rintro e u' w9 ⟨rfl,rfl,M9,T9⟩;have O9:=Out.bX T9.grown;refine⟨_,gG rfl _ _ _,r8,w8,rfl,?_,ae UO,O9,?_,?_⟩
 ·skip
  exact(O9.mb (ae N8) (fun k e=>by rw[e];exact ae GL)).mono (ae SZ)
 ·intro s' m' K;obtain⟨rfl,_,rfl⟩:=K.iG.met.one (ae M8);exact K.step M9 T9
 ·exact(ae OA).trans (O9.mono (fun k e=>Or.inr e))
theorem S_(w:World)(gk ge g:Nat)(s l m:Int)(T:bJ)(ga gb:Option Addr)(b o cap la b' o' bM lb h:Nat)(xs ys:List Nat)(k:Nat)(fs cs:Array Value)(D:Nat->Prop)(St:Nat->World->Prop)(hE:ko w gk ge g s l m T)(vn:0<=l)(qk:l<=1000000)(jw:xs.length=la)(hR:cH w ga b o cap xs)(mB:bG xs)(_hbD:0<la->¬D b)(kt:ys.length=lb)(kV:cH w gb b' o' bM ys)(vm:bG ys)(_hbD':0<lb->¬D b')(fA:la<=16384)(kl:lb<=16384)(hh:h=(max la lb+1)/2)(dh:h<min la lb)(_nk:¬D gk)(_ne:¬D ge)(ng:¬D g)(hD:∀j,D j->j<w.heap.size)(hI:abE gk ge g l T (max la lb) (min la lb) h k fs cs D St)(hS:∀W,Out (·=g) w W->ko W gk ge g s (l+1) (max m (l+1)) T->St 0 W)(Wt:la<lb):Calls Tryz.prog 137 #[.pointer (some ⟨gk,0,none⟩),.slice ga la cap,.slice gb lb bM,.func (.func k) fs cs] w fun e w'=>∃v W,e=.returned (.tuple #[v,.bool true])/\aU w.heap.size w' v (aB xs*aB ys)/\St 3 W/\Out (·=g) W w'/\(∀s' m',ko W gk ge g s' (l+1) m' T->ko w' gk ge g s' l m' T)/\Out (fun j=>D j\/j=g) w w':=by
 have hn:max la lb=lb:=by omega
 have hm:min la lb=la:=by omega
 rw[hn,hm]at hI;rw[hn]at hh;rw[hm]at dh;have CH:=ag (fun w=>Bw w gb lb bM h kl hh);have hM:=hE.iG.met;have nV:=hM.lt;have CE:=ag (jS (l+1) (max m (l+1)) hM rfl rfl (by omega) (by omega));have e0:=hE.ptr;have e1:=hE.iG.ptr;have HE:=ag hE;have ngt:¬la<=h:=by omega
 have HI:=ag hI;have HS:=ag hS;have HD:=ag hD;have HR:=ag hR;have IG:=ag kV;have h2:lb<=2*h:=by omega
 have hle:la<=lb:=by omega
 have NG:=ag ng;have Ug:=hI.go;clear hE hM hI hS hD hR kV hh hn hm;clear _nk _ne ng _hbD _hbD'
 go_enter_defers Tryz.func137,Tryz.ntmps137
 go_wp2_with fail
 refine(ae CH _).mono ?_;rintro e w1 ⟨rfl,DX⟩;obtain rfl:=DX.symm;clear DX CH
 go_wp2_with fail
 refine(ae CE).mono ?_;rintro e w1 ⟨rfl,M1,T1⟩;have K1:=(ae HE).step M1 T1;have r1:=(ae IG).iy (ae HE).iG.met T1;have XL:=(ae HR).iy (ae HE).iG.met T1;have e0:=K1.ptr;have e1:=K1.iG.ptr;have s1:=T1.grown.size;have O1:=ag (Out.bX T1.grown);clear CE M1 T1
 go_wp2_with fail
 refine(tL _ _ _ _ _ _ h ys kt kl (by omega) (by omega) (by omega) r1 vm).mono ?_;rintro e w2 ⟨v2,rfl,p2,b2⟩
 go_wp2_with fail
 refine(tL _ _ _ _ _ _ h xs jw fA (by omega) (by omega) (by omega) (XL.next b2) mB).mono ?_;rintro e w3 ⟨v3,rfl,p3,b3⟩;obtain⟨g0,g1,g2,zs,rfl,i0,i1,i2,k0,k1,k2,z0,z1,z2⟩:=p2.out;obtain⟨sD,sE,sF,sM,rfl,i0',i1',i2',WU,Ur,IL,Uw,z1',z2'⟩:=p3.out;rw[kt,jw];have s2:=b2.size;have s3:=b3.size;have k0:cW w3 g0 _:=(b3.block _ k0.lt).trans k0;have k1:cW w3 g1 _:=(b3.block _ k1.lt).trans k1;have k2:cW w3 g2 _:=(b3.block _ k2.lt).trans k2;have O3:=ag (((ae O1).next b2).next b3);have K3:=(K1.next b2).next b3;clear r1 XL p2 p3 b2 b3 e0 e1;obtain⟨H1,lV⟩:∃H1,h+1=H1:=⟨_,rfl⟩;obtain⟨n1,qH⟩:∃n1,lb-h=n1:=⟨_,rfl⟩;obtain⟨m1,ox⟩:∃m1,la-h=m1:=⟨_,rfl⟩;have lx0:(ys.take h).length=h:=by simp;omega
 have ly0:(xs.take h).length=h:=by simp;omega
 have lx1:(ys.drop h).length=n1:=by simp;omega
 have ly1:(xs.drop h).length=m1:=by simp;omega
 have dx0:=gH vm h;have dy0:=gH mB h;have dx1:=fJ vm h;have dy1:=fJ mB h;rw[lV,qH,ox];rw[lV]at z0 Uw;have HV:=ag (yV ys xs h);have HL:Hid (aB (ys.take h)*aB (xs.take h)+aB (ys.drop h)*aB (xs.drop h)<=aB zs*aB sM):=by show _<=_;rw[z2,z2'];exact G8 _ _ _ _
 have HP:Hid (aB zs*aB sM<18446744073709551616^(H1+H1)):=by show _<_;rw[aQ];have q1:=bF z1;have q2:=bF z1';rw[z0]at q1;rw[Uw]at q2;exact eU q1 q2
 rw[<-z2, <-z2']at HV;clear z2 z2'
 -- the two boxes
 have bb:Below w3.heap.size w3 ((w3.alloc (.cells #[.slice (some ⟨g0,0,none⟩) h h,.slice (some ⟨g1,0,none⟩) n1 n1,.slice (some ⟨g2,0,none⟩) H1 H1] 196)).alloc (.cells #[.slice (some ⟨sD,0,none⟩) h h,.slice (some ⟨sE,0,none⟩) m1 m1,.slice (some ⟨sF,0,none⟩) H1 H1] 196)):=((aj _ _).alloc (af _) _).alloc (by simp) _;have kP:=(((aj _ _).alloc (af _) (.cells #[.slice (some ⟨sD,0,none⟩) h h,.slice (some ⟨sE,0,none⟩) m1 m1,.slice (some ⟨sF,0,none⟩) H1 H1] 196)).block w3.heap.size (by simp)).trans (aI w3 (.cells #[.slice (some ⟨g0,0,none⟩) h h,.slice (some ⟨g1,0,none⟩) n1 n1,.slice (some ⟨g2,0,none⟩) H1 H1] 196));have kQ:=aI (w3.alloc (.cells #[.slice (some ⟨g0,0,none⟩) h h,.slice (some ⟨g1,0,none⟩) n1 n1,.slice (some ⟨g2,0,none⟩) H1 H1] 196)) (.cells #[.slice (some ⟨sD,0,none⟩) h h,.slice (some ⟨sE,0,none⟩) m1 m1,.slice (some ⟨sF,0,none⟩) H1 H1] 196);have sQ:(w3.alloc (.cells #[.slice (some ⟨g0,0,none⟩) h h,.slice (some ⟨g1,0,none⟩) n1 n1,.slice (some ⟨g2,0,none⟩) H1 H1] 196)).heap.size=w3.heap.size+1:=by simp
 rw[sQ]at kQ;obtain⟨W0,GA⟩:∃W0,(w3.alloc (.cells #[.slice (some ⟨g0,0,none⟩) h h,.slice (some ⟨g1,0,none⟩) n1 n1,.slice (some ⟨g2,0,none⟩) H1 H1] 196)).alloc (.cells #[.slice (some ⟨sD,0,none⟩) h h,.slice (some ⟨sE,0,none⟩) m1 m1,.slice (some ⟨sF,0,none⟩) H1 H1] 196)=W0:=⟨_,rfl⟩;rw[GA]at bb kP kQ;obtain⟨P0,ke⟩:∃P0,w3.heap.size=P0:=⟨_,rfl⟩;rw[ke]at kP kQ;have sW:=bb.size;have k0:cW W0 g0 _:=(bb.block _ k0.lt).trans k0;have k1:cW W0 g1 _:=(bb.block _ k1.lt).trans k1;have k2:cW W0 g2 _:=(bb.block _ k2.lt).trans k2;have WU:cW W0 sD _:=(bb.block _ WU.lt).trans WU;have Ur:cW W0 sE _:=(bb.block _ Ur.lt).trans Ur;have IL:cW W0 sF _:=(bb.block _ IL.lt).trans IL;have O3:=ag ((ae O3).next bb);have S0:=ag (ae HS _ (ae O3) (K3.next bb));have DN:∀q,w.heap.size<=q->¬(D q\/q=g):=fun q hq x=>by
  rcases x with x|x
  ·have:=ae HD q x;omega
  ·omega
 have DB:∀q,(D q\/q=g)->q<W0.heap.size:=fun q x=>by
  rcases x with x|x
  ·have:=ae HD q x;omega
  ·omega
 have HC:Hid (∀W,Out (fun j=>D j\/j=g) W0 W->W.cell? ⟨P0,0,none⟩=some (.slice (some ⟨g0,0,none⟩) h h)/\W.cell? ⟨P0,1,none⟩=some (.slice (some ⟨g1,0,none⟩) n1 n1)/\W.cell? ⟨P0,2,none⟩=some (.slice (some ⟨g2,0,none⟩) H1 H1)/\W.cell? ⟨P0+1,0,none⟩=some (.slice (some ⟨sD,0,none⟩) h h)/\W.cell? ⟨P0+1,1,none⟩=some (.slice (some ⟨sE,0,none⟩) m1 m1)/\W.cell? ⟨P0+1,2,none⟩=some (.slice (some ⟨sF,0,none⟩) H1 H1)):=fun W q=>by have j0:=(q.block P0 (ah.1 kP).1 (DN P0 (by omega))).trans kP;have j1:=(q.block (P0+1) (ah.1 kQ).1 (DN (P0+1) (by omega))).trans kQ;exact⟨ay _ P0 0 _ _ (0,0) j0,ay _ P0 1 _ _ (0,0) j0,ay _ P0 2 _ _ (0,0) j0,ay _ (P0+1) 0 _ _ (0,0) j1,ay _ (P0+1) 1 _ _ (0,0) j1,ay _ (P0+1) 2 _ _ (0,0) j1⟩
 have Q0:Hid (∀W,Out (fun j=>D j\/j=g) W0 W->St 0 W->Calls Tryz.prog k (fs++(#[.slice (some ⟨g0,0,none⟩) h h,.slice (some ⟨sD,0,none⟩) h h]++cs)) W fun e W'=>∃r,e=.returned r/\ft W0.heap.size W' r (aB (ys.take h)*aB (xs.take h))/\St 1 W'/\Out (fun j=>D j\/j=g) W0 W'/\Out (fun j=>D j\/j=g) W W'):=fun W q st=>by rw[<-ck];refine((ae HI).call 0 W _ _ _ _ (by omega) st (iL (q.kM k0 (DN _ (by omega))) lx0 dx0 (DN _ (by omega))) (iL (q.kM WU (DN _ (by omega))) ly0 dy0 (DN _ (by omega)))).mono ?_;rintro e W' ⟨r,rfl,n,kg,q'⟩;exact⟨r,rfl,n.mono q.size,kg,q.trans q',q'⟩
 have Q1:Hid (∀W,Out (fun j=>D j\/j=g) W0 W->St 1 W->Calls Tryz.prog k (fs++(#[.slice (some ⟨g1,0,none⟩) n1 n1,.slice (some ⟨sE,0,none⟩) m1 m1]++cs)) W fun e W'=>∃r,e=.returned r/\ft W0.heap.size W' r (aB (ys.drop h)*aB (xs.drop h))/\St 2 W'/\Out (fun j=>D j\/j=g) W0 W'/\Out (fun j=>D j\/j=g) W W'):=fun W q st=>by rw[<-ck];refine((ae HI).call 1 W _ _ _ _ (by omega) st (by rw[show(yY lb la h 1).1=n1 from qH];exact iL (q.kM k1 (DN _ (by omega))) lx1 dx1 (DN _ (by omega))) (by rw[show(yY lb la h 1).2=m1 from ox];exact iL (q.kM Ur (DN _ (by omega))) ly1 dy1 (DN _ (by omega)))).mono ?_;rintro e W' ⟨r,rfl,n,kg,q'⟩;exact⟨r,rfl,n.mono q.size,kg,q.trans q',q'⟩
 have Q2:Hid (∀W,Out (fun j=>D j\/j=g) W0 W->St 2 W->Calls Tryz.prog k (fs++(#[.slice (some ⟨g2,0,none⟩) H1 H1,.slice (some ⟨sF,0,none⟩) H1 H1]++cs)) W fun e W'=>∃r,e=.returned r/\ft W0.heap.size W' r (aB zs*aB sM)/\St 3 W'/\Out (fun j=>D j\/j=g) W0 W'/\Out (fun j=>D j\/j=g) W W'):=fun W q st=>by rw[<-ck];refine((ae HI).call 2 W _ _ _ _ (by omega) st (by rw[show(yY lb la h 2).1=H1 from lV];exact iL (q.kM k2 (DN _ (by omega))) z0 z1 (DN _ (by omega))) (by rw[show(yY lb la h 2).2=H1 from lV];exact iL (q.kM IL (DN _ (by omega))) Uw z1' (DN _ (by omega)))).mono ?_;rintro e W' ⟨r,rfl,n,kg,q'⟩;exact⟨r,rfl,n.mono q.size,kg,q.trans q',q'⟩
 have DB:=ag DB;have h16:h<=16384:=by omega
 have HH1:Hid (H1+H1<=1073741824):=by show _<=_;omega
 have Ia:=ag (show w.heap.size<=W0.heap.size by omega);have uF:=ag vn;have Ng:=ag qk;generalize aB (ys.take h)=X0 at *;generalize aB (ys.drop h)=X1 at *;generalize aB (xs.take h)=Y0 at *;generalize aB (xs.drop h)=Y1 at *;generalize aB zs=X2 at *;generalize aB sM=Y2 at *;clear k0 k1 k2 WU Ur IL kP kQ K3 K1 HE HS HR IG HD lx0 lx1 ly0 ly1 dx0 dx1 dy0 dy1 z0 Uw z1 z1' DN sQ bb O1 i0 i1 i2 i0' i1' i2' s1 s2 s3 sW nV lV qH ox vn qk;go_wp2;clear GA;obtain⟨p0,p1,p2,p3,p4,p5⟩:=ae HC W0 (Out.refl _ _);have st0:=(ae HI).next 0 W0 W0.drew (ae S0) ((aj _ _).drew);have o0:Out (fun j=>D j\/j=g) W0 W0.drew:=Out.bQ ((aj _ _).drew)
 go_region_held3 (fun w'=>w'.cell? ⟨P0,0,none⟩=some (.slice (some ⟨g0,0,none⟩) h h)/\w'.cell? ⟨P0,1,none⟩=some (.slice (some ⟨g1,0,none⟩) n1 n1)/\w'.cell? ⟨P0,2,none⟩=some (.slice (some ⟨g2,0,none⟩) H1 H1)/\w'.cell? ⟨P0+1,0,none⟩=some (.slice (some ⟨sD,0,none⟩) h h)/\w'.cell? ⟨P0+1,1,none⟩=some (.slice (some ⟨sE,0,none⟩) m1 m1)/\w'.cell? ⟨P0+1,2,none⟩=some (.slice (some ⟨sF,0,none⟩) H1 H1)) (first|(exact ae HC _ o4)|(exact ae HC _ o3)|(exact ae HC _ o2)|(exact ae HC _ o1)|(exact ae HC _ o0)|go_keep) (first
  |(refine(ae Q0 _ o0 st0).mono ?_;rintro e w5 ⟨r5,rfl,n5,Uu,o1,q1⟩;obtain⟨p0,p1,p2,p3,p4,p5⟩:=ae HC _ o1)
  |(refine(ae Q1 _ o1 Uu).mono ?_;rintro e w6 ⟨r6,rfl,n6,IP,o2,q2⟩;have n5:=n5.out q2 (ae DB);obtain⟨p0,p1,p2,p3,p4,p5⟩:=ae HC _ o2)
  |(refine(ae Q2 _ o2 IP).mono ?_;rintro e w7 ⟨r7,rfl,n7,st3,o3,q3⟩;have n5:=n5.out q3 (ae DB);have n6:=n6.out q3 (ae DB);obtain⟨p0,p1,p2,p3,p4,p5⟩:=ae HC _ o3)
  |(go_at_call 157;refine(yX _ _ _ _ _ _ _ h (H1+H1) h16 (ae HH1) (ae HP) (ae HL) n5.gE n6.gE n7.gE).mono ?_;rintro e w8 ⟨r8,rfl,n8,b8⟩;have o4:=o3.next b8;obtain⟨p0,p1,p2,p3,p4,p5⟩:=ae HC _ o4)
  |fail)
 have Dd:=(ae HI).next 3 w7 w8 st3 b8;obtain⟨s8,m8,K8⟩:=(ae HI).iG 3 w8 Dd;rw[ae HV]at n8;have UO:=ag Dd;have M8:=ag K8.iG.met;have OA:=ag (((ae O3).mono (fun k e=>Or.inr e)).trans o4);have N8:=ag n8;have SZ:=ag (ak (ae Ia) o3.size);have GL:=ag (az (ae DB g (Or.inr rfl)) o3.size);clear p0 p1 p2 p3 p4 p5 n5 n6 n7 n8 Dd st3 IP Uu st0 o4 o3 o2 o1 o0 q1 q2 q3 b8 K8 HV HL HP HC Q0 Q1 Q2 Ug S0;go_wp2;refine sm (f:=125) (args:=#[.pointer (some ⟨g,0,none⟩)]) (by simp) (by simp[go_sem]) ?_;refine(hU l .returning (ae M8) (by have:=ae uF;omega) (by have:=ae uF;omega) (by have:=ae Ng;omega)).mono ?_;rintro e u' w9 ⟨rfl,rfl,M9,T9⟩;have O9:=Out.bX T9.grown;refine⟨_,gG rfl _ _ _,r8,w8,rfl,?_,ae UO,O9,?_,?_⟩
 ·rw[aC];exact(O9.mb (ae N8) (fun k e=>by rw[e];exact ae GL)).mono (ae SZ)
 ·intro s' m' K;obtain⟨rfl,_,rfl⟩:=K.iG.met.one (ae M8);exact K.step M9 T9
 ·exact(ae OA).trans (O9.mono (fun k e=>Or.inr e))
theorem Ti:UT:=by
 intro w gk ge g s l m T ga gb b o cap la b' o' bM lb h xs ys k fs cs D St hE vn qk jw hR mB hbD kt kV vm adX fA kl hh dh nk ne ng hD hI hS;by_cases Wt:la<lb
 ·exact S_ w gk ge g s l m T ga gb b o cap la b' o' bM lb h xs ys k fs cs D St hE vn qk jw hR mB hbD kt kV vm adX fA kl hh dh nk ne ng hD hI hS Wt
 ·exact R_ w gk ge g s l m T ga gb b o cap la b' o' bM lb h xs ys k fs cs D St hE vn qk jw hR mB hbD kt kV vm adX fA kl hh dh nk ne ng hD hI hS Wt
theorem Vb.Ah{F E:Nat->Prop}{B l:Nat}(h:Vb B w g zs l v)(q:Out F w W)(hf:¬F g)(he:¬E g):Ub E W (.slice (some ⟨g,0,none⟩) l l) v l:=by have:=iL (q.kM h.kM hf) h.len h.MK he;rwa [h.val]at this
structure mY(B0:Nat)(D:Nat->Prop)(g Z:Nat)(bl:Bool)(St:Nat->World->Prop)(W0 wr:World)(i:Nat)(v0 v1 v2 v3 v4:Value)(P0 P1 P2 P3 P4:Nat):Prop where
 st:St i wr
 box:ou wr Z [v0,v1,v2,v3,v4,.bool bl] 201
 out:Out (fun j=>(D j\/j=g)\/j=Z) W0 wr
 r0:0<i->ft B0 wr v0 P0
 r1:1<i->ft B0 wr v1 P1
 r2:2<i->ft B0 wr v2 P2
 r3:3<i->ft B0 wr v3 P3
 r4:4<i->ft B0 wr v4 P4
theorem mY.qy{D:Nat->Prop}{v3:Value}(h:mY B0 D g Z bl St W0 wr i v0 v1 v2 v3 v4 P0 P1 P2 P3 P4)(o:Out (fun j=>D j\/j=g) wr w5)(hz:¬(D Z\/Z=g)):ou w5 Z [v0,v1,v2,v3,v4,.bool bl] 201:=
 (o.block Z h.box.lt hz).trans h.box
theorem OX{v3 x:Value}(h:ou w Z [v0,v1,v2,v3,v4,x] t):w.cell? ⟨Z,0,none⟩=some v0:=h.cell 0 (by simp)
theorem OY{v3 x:Value}(h:ou w Z [v0,v1,v2,v3,v4,x] t):w.cell? ⟨Z,1,none⟩=some v1:=h.cell 1 (by simp)
theorem OZ{v3 x:Value}(h:ou w Z [v0,v1,v2,v3,v4,x] t):w.cell? ⟨Z,2,none⟩=some v2:=h.cell 2 (by simp)
theorem O2{v3 x:Value}(h:ou w Z [v0,v1,v2,v3,v4,x] t):w.cell? ⟨Z,3,none⟩=some v3:=h.cell 3 (by simp)
theorem O4{v3 x:Value}(h:ou w Z [v0,v1,v2,v3,v4,x] t):w.cell? ⟨Z,4,none⟩=some v4:=h.cell 4 (by simp)
theorem mY.drew{B:Nat}{D:Nat->Prop}{v3:Value}(h:mY B0 D g Z bl St W0 wr i v0 v1 v2 v3 v4 P0 P1 P2 P3 P4)(nx:∀i W W',St i W->Out (fun j=>B<=j) W W'->St i W'):mY B0 D g Z bl St W0 wr.drew i v0 v1 v2 v3 v4 P0 P1 P2 P3 P4:=
 have b:Below wr.heap.size wr wr.drew:=(aj _ _).drew
 ⟨nx i wr _ h.st (Out.bQ b),h.box.next b,h.out.next b,fun e=>(h.r0 e).next b,fun e=>(h.r1 e).next b,fun e=>(h.r2 e).next b,fun e=>(h.r3 e).next b,fun e=>(h.r4 e).next b⟩
theorem mY.Yd{B:Nat}{D:Nat->Prop}{v3:Value}(h:mY B0 D g Z bl St W0 wr 0 v0 v1 v2 v3 v4 P0 P1 P2 P3 P4)(nx:∀i W W',St i W->Out (fun j=>B<=j) W W'->St i W')(y_:B<=Z)(hz:¬(D Z\/Z=g))(BD:∀k,(D k\/k=g)\/k=Z->k<B0)(nr:ft B0 w5 r P0)(st:St 1 w5)(o:Out (fun j=>D j\/j=g) wr w5):mY B0 D g Z bl St W0 (w5.setCell ⟨Z,0,none⟩ r) 1 r v1 v2 v3 v4 P0 P1 P2 P3 P4:=by
 have gr:=Out.bX (aY w5 Z 0 r);have hk:∀k,k=Z->k<B0:=fun k e=>BD k (Or.inr e);refine⟨nx 1 w5 _ st (gr.mono (fun k (e:k=Z)=>by rw[e];exact y_)),(h.qy o hz).set 0 r,(h.out.trans (o.mono (fun k e=>Or.inl e))).trans (gr.mono (fun k e=>Or.inr e)),fun _=>nr.out gr hk,fun h=>absurd h (by decide),fun h=>absurd h (by decide),fun h=>absurd h (by decide),fun h=>absurd h (by decide)⟩
theorem mY.Ye{B:Nat}{D:Nat->Prop}{v3:Value}(h:mY B0 D g Z bl St W0 wr 1 v0 v1 v2 v3 v4 P0 P1 P2 P3 P4)(nx:∀i W W',St i W->Out (fun j=>B<=j) W W'->St i W')(y_:B<=Z)(hz:¬(D Z\/Z=g))(BD:∀k,(D k\/k=g)\/k=Z->k<B0)(nr:ft B0 w5 r P1)(st:St 2 w5)(o:Out (fun j=>D j\/j=g) wr w5):mY B0 D g Z bl St W0 (w5.setCell ⟨Z,1,none⟩ r) 2 v0 r v2 v3 v4 P0 P1 P2 P3 P4:=by
 have gr:=Out.bX (aY w5 Z 1 r);have hk:∀k,k=Z->k<B0:=fun k e=>BD k (Or.inr e);refine⟨nx 2 w5 _ st (gr.mono (fun k (e:k=Z)=>by rw[e];exact y_)),(h.qy o hz).set 1 r,(h.out.trans (o.mono (fun k e=>Or.inl e))).trans (gr.mono (fun k e=>Or.inr e)),fun _=>(((h.r0 (by decide)).out o (fun k hk=>BD k (Or.inl hk))).out gr hk),fun _=>nr.out gr hk,fun h=>absurd h (by decide),fun h=>absurd h (by decide),fun h=>absurd h (by decide)⟩
theorem mY.Yf{B:Nat}{D:Nat->Prop}{v3:Value}(h:mY B0 D g Z bl St W0 wr 2 v0 v1 v2 v3 v4 P0 P1 P2 P3 P4)(nx:∀i W W',St i W->Out (fun j=>B<=j) W W'->St i W')(y_:B<=Z)(hz:¬(D Z\/Z=g))(BD:∀k,(D k\/k=g)\/k=Z->k<B0)(nr:ft B0 w5 r P2)(st:St 3 w5)(o:Out (fun j=>D j\/j=g) wr w5):mY B0 D g Z bl St W0 (w5.setCell ⟨Z,2,none⟩ r) 3 v0 v1 r v3 v4 P0 P1 P2 P3 P4:=by
 have gr:=Out.bX (aY w5 Z 2 r);have hk:∀k,k=Z->k<B0:=fun k e=>BD k (Or.inr e);refine⟨nx 3 w5 _ st (gr.mono (fun k (e:k=Z)=>by rw[e];exact y_)),(h.qy o hz).set 2 r,(h.out.trans (o.mono (fun k e=>Or.inl e))).trans (gr.mono (fun k e=>Or.inr e)),fun _=>(((h.r0 (by decide)).out o (fun k hk=>BD k (Or.inl hk))).out gr hk),fun _=>(((h.r1 (by decide)).out o (fun k hk=>BD k (Or.inl hk))).out gr hk),fun _=>nr.out gr hk,fun h=>absurd h (by decide),fun h=>absurd h (by decide)⟩
theorem mY.Yg{B:Nat}{D:Nat->Prop}{v3:Value}(h:mY B0 D g Z bl St W0 wr 3 v0 v1 v2 v3 v4 P0 P1 P2 P3 P4)(nx:∀i W W',St i W->Out (fun j=>B<=j) W W'->St i W')(y_:B<=Z)(hz:¬(D Z\/Z=g))(BD:∀k,(D k\/k=g)\/k=Z->k<B0)(nr:ft B0 w5 r P3)(st:St 4 w5)(o:Out (fun j=>D j\/j=g) wr w5):mY B0 D g Z bl St W0 (w5.setCell ⟨Z,3,none⟩ r) 4 v0 v1 v2 r v4 P0 P1 P2 P3 P4:=by
 have gr:=Out.bX (aY w5 Z 3 r);have hk:∀k,k=Z->k<B0:=fun k e=>BD k (Or.inr e);refine⟨nx 4 w5 _ st (gr.mono (fun k (e:k=Z)=>by rw[e];exact y_)),(h.qy o hz).set 3 r,(h.out.trans (o.mono (fun k e=>Or.inl e))).trans (gr.mono (fun k e=>Or.inr e)),fun _=>(((h.r0 (by decide)).out o (fun k hk=>BD k (Or.inl hk))).out gr hk),fun _=>(((h.r1 (by decide)).out o (fun k hk=>BD k (Or.inl hk))).out gr hk),fun _=>(((h.r2 (by decide)).out o (fun k hk=>BD k (Or.inl hk))).out gr hk),fun _=>nr.out gr hk,fun h=>absurd h (by decide)⟩
theorem mY.Yh{B:Nat}{D:Nat->Prop}{v3:Value}(h:mY B0 D g Z bl St W0 wr 4 v0 v1 v2 v3 v4 P0 P1 P2 P3 P4)(nx:∀i W W',St i W->Out (fun j=>B<=j) W W'->St i W')(y_:B<=Z)(hz:¬(D Z\/Z=g))(BD:∀k,(D k\/k=g)\/k=Z->k<B0)(nr:ft B0 w5 r P4)(st:St 5 w5)(o:Out (fun j=>D j\/j=g) wr w5):mY B0 D g Z bl St W0 (w5.setCell ⟨Z,4,none⟩ r) 5 v0 v1 v2 v3 r P0 P1 P2 P3 P4:=by
 have gr:=Out.bX (aY w5 Z 4 r);have hk:∀k,k=Z->k<B0:=fun k e=>BD k (Or.inr e);refine⟨nx 5 w5 _ st (gr.mono (fun k (e:k=Z)=>by rw[e];exact y_)),(h.qy o hz).set 4 r,(h.out.trans (o.mono (fun k e=>Or.inl e))).trans (gr.mono (fun k e=>Or.inr e)),fun _=>(((h.r0 (by decide)).out o (fun k hk=>BD k (Or.inl hk))).out gr hk),fun _=>(((h.r1 (by decide)).out o (fun k hk=>BD k (Or.inl hk))).out gr hk),fun _=>(((h.r2 (by decide)).out o (fun k hk=>BD k (Or.inl hk))).out gr hk),fun _=>(((h.r3 (by decide)).out o (fun k hk=>BD k (Or.inl hk))).out gr hk),fun _=>nr.out gr hk⟩
theorem Dg(h m n a0 a1 a2 b0 b1 b2:Nat)(p0:a0=m%18446744073709551616^h)(p1:a1=m/18446744073709551616^h%18446744073709551616^h)(p2:a2=m/18446744073709551616^h/18446744073709551616^h)(q0:b0=n%18446744073709551616^h)(q1:b1=n/18446744073709551616^h%18446744073709551616^h)(q2:b2=n/18446744073709551616^h/18446744073709551616^h):Ik h (a0*b0) (a0*b1+a1*b0) (a0*b2+a1*b1+a2*b0) (a1*b2+a2*b1) (a2*b2)=m*n:=by
 have e1:=Lw m (18446744073709551616^h);have e2:=Lw n (18446744073709551616^h);rw[<-p0, <-p1, <-p2]at e1;rw[<-q0, <-q1, <-q2]at e2;have e3:=MQ (18446744073709551616^h) a0 a1 a2 b0 b1 b2;rw[e1,e2]at e3;unfold Ik;rw[dH,dH,dH];clear p0 p1 p2 q0 q1 q2 e1 e2;generalize 18446744073709551616^h=P at *;rw[show P^2=P*P by rw[aE,fi],show P^3=P*P*P by rw[aE,aE,fi],show P^4=P*P*P*P by rw[aE,aE,aE,fi]];exact e3
theorem zl(hp:p<18446744073709551616^(h+1))(hq:q<18446744073709551616^(h+1)):2*(p*q)<18446744073709551616^(h+1+(h+1)+1):=by have:=eU hp hq;rw[aE _ (h+1+(h+1)),aQ];omega
end
end Go.Proofs.YtkdmippllpekfaaGreatDoor
