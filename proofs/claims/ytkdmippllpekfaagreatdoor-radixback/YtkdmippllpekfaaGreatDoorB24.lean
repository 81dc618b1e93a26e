import Derived.Test.YtkdmippllpekfaaGreatDoorB20
import Derived.Test.YtkdmippllpekfaaGreatDoorB10
namespace Go.Proofs.YtkdmippllpekfaaGreatDoor
set_option maxRecDepth 100000
set_option maxHeartbeats 6400000
variable{bl:Bool}{dp l l' lv m m' s s':Int}{xs:List Nat}{Gs Gt Gu Gv Mc Md P Ro Zb a a0 a1 a2 b c2 c3 c4 cap g gd ge gk gm gr gt gv gw m1 n o oo p p1 p2 t:Nat}{ga:Option Addr}{v:Value}{w w':World}
section
open Go.RowKit
structure En(w:World)(ge g:Nat)(s:Int)(l:Int:=0)(m:Int:=0):Prop where
 ptr:w.cell? ⟨ge,0,none⟩=some (.pointer (some ⟨g,0,none⟩))
 met:gQ w g 0 s l m
 ne:ge≠g
 ints:∀j v,w.cell? ⟨g,j,none⟩=some v->∃z,v=.int .i64 z
theorem En.next(h:En w ge g s l m)(b:Below w.heap.size w w'):En w' ge g s l m:=
 ⟨(b.cell (aw _ _ h.ptr)).trans h.ptr,h.met.next b,h.ne,fun j v hv=>h.ints j v ((b.cell (p:=⟨g,j,none⟩) h.met.lt).symm.trans hv)⟩
theorem En.step{lv' dp':Int}(h:En w ge g s lv dp)(m:gQ w' g 0 s' lv' dp')(t:Touch g 0 3 w w'):En w' ge g s' lv' dp':=
 ⟨t.grown.cell h.ptr (by simpa using h.ne),m,h.ne,fun j v hv=>by
  by_cases hj:3<=j
  ·exact h.ints j v ((t.cell j (by omega)).symm.trans hv)
  ·match j,hj with
   |0,_=>exact⟨_,aZ (hv.symm.trans m.c0)⟩
   |1,_=>exact⟨_,aZ (hv.symm.trans m.c1)⟩
   |2,_=>exact⟨_,aZ (hv.symm.trans m.c2)⟩
   |j+3,hj=>omega⟩
theorem En.QQ(h:En w ge g s l m)(r:cH w ga b o cap xs):0<xs.length->b≠g:=fun h0 e=>by
 subst e;obtain⟨z,hz⟩:=h.ints _ _ (r.cell 0 h0);injection hz with hk
 cases hk
theorem En.rep(h:En w ge g s l m)(G:w.grownBy w' (some g))(r:cH w ga b o cap xs):cH w' ga b o cap xs:=r.but G (h.QQ r)
theorem wW.ints{T:bJ}(h:wW w g T):∀j v,w.cell? ⟨g,j,none⟩=some v->∃z,v=.int .i64 z:=fun j v hv=>by rw[ay w g j _ _ (0,0) h.row]at hv;have hm:=fD hv;simp at hm;rcases hm with h|h|h|h|h|h|h|h|h|h|h|h<;>exact⟨_,h⟩
def InG(g:Nat)(w:World)(v:Value)(n l:Nat):Prop:=
 ∃ga b o cap xs,v=.slice ga l cap/\xs.length=l/\cH w ga b o cap xs/\bG xs/\aB xs=n/\(0<l->b≠g)
theorem zU(h:Touch g 0 3 w w'):w.grownBy w' (some g):=h.grown
theorem Xl{la lb:Nat}(ha:la<=1048576)(hb:lb<=1048576):la*lb<=1099511627776:=aP ha hb
theorem K7(E:En w ge g s lv dp)(u v:Value)(m n la lb:Nat)(hu:InG g w u m la)(hv:InG g w v n lb)(ha:la<=1048576)(hb:lb<=1048576)(EZ:0<=s)(hs:s<=4611686018427387904):Calls Tryz.prog 136 #[.pointer (some ⟨ge,0,none⟩),u,v] w fun e w'=>∃r,e=.returned r/\aU w.heap.size w' r (m*n)/\En w' ge g (s+((la*lb:Nat):Int)) lv dp/\Touch g 0 3 w w':=by
 obtain⟨ga,ba,oa,ca,xs,rfl,hx,rA,dx,rfl,na⟩:=hu;obtain⟨gb,bb,ob,cb,ys,rfl,hy,rB,dy,rfl,nb⟩:=hv;have cE:=E.ptr;have hpm:=Xl ha hb;obtain⟨P,hP⟩:∃P,P=la*lb:=⟨_,rfl⟩;have hPi:(la:Int)*(lb:Int)=(P:Int):=by rw[hP];exact(aG la lb).symm
 rw[<-hP]at hpm ⊢;have hwP:IntKind.i64.wrap (P:Int)=(P:Int):=by rw[ao];omega
 have CS:=ag (jU (P:Int) (s+(P:Int)) E.met (by omega) (by omega) (by omega));obtain⟨N,hN⟩:∃N,N=la+lb:=⟨_,rfl⟩;have hN':(la:Int)+(lb:Int)=(N:Int):=by omega
 have hwN:IntKind.i64.wrap (N:Int)=(N:Int):=by rw[ao];omega
 have qG:=iV N N (N:Int) rfl rfl (by omega);have HE:=ag E;have HN:=ag hN;have zE:N<=2097152:=by omega
 have rA:=rA.but (w':=w) (iD _ _) (by rw[hx];exact na);have NA:Hid (0<xs.length->ba≠g):=by rw[hx];exact na
 have NB:Hid (0<ys.length->bb≠g):=by rw[hy];exact nb
 clear hP E hN hs na nb;go_enter Tryz.func136,Tryz.ntmps136
 go_wp2_with fail
 refine(ae CS).mono ?_;rintro e w1 ⟨rfl,M1,T1⟩;have G1:=zU T1;have rA:=rA.but G1 (ae NA);have rB:=rB.but G1 (ae NB);have E1:=ag ((ae HE).step M1 T1);have S1:=ag G1.size;have G1:=ag T1;have bA:Hid (0<xs.length->ba<w1.heap.size):=fun h=>rA.lt h;have sj:=ag (mZ w1 N);have yA:=ag ((aj w1.heap.size w1).alloc (af _) (.cells (dS N).toArray 47));clear CS M1 T1 cE;go_wp2;have vp:Hid (QA xs ys (List.replicate N 0) N 0):=V_ xs ys N
 go_loopw [30] (fun i wr=>∃(k:Nat) (zs:List Nat),k<=lb/\i=.int .i64 (k:Int)/\cW wr w1.heap.size zs/\Hid (QA xs ys zs N k)/\Below w1.heap.size w1 wr)
  (fun i _=>lb-(intOf i).toNat)
 case atStart=>exact⟨0,_,aO _,rfl,ae sj,vp,ae yA⟩
 case round=>
  obtain⟨k,z0,hk,rfl,ef,fN,en⟩:=hrel;have kG:z0.length=N:=fN.out.1;by_cases h1:k<lb
  ·obtain rfl:=rB.head (by omega);obtain⟨y,hyy⟩:∃y:Nat,y=ys.getD k 0:=⟨_,rfl⟩;have Kd:y<18446744073709551616:=by rw[hyy];exact dy k
   have cy:wr.cell? ⟨bb,ob+k,none⟩=some (.int .u64 (y:Int)):=by rw[hyy];exact(rB.next en).cell k (by omega)
   obtain⟨M,hM⟩:∃M,N=k+M:=⟨N-k,by have:=ae HN;omega⟩;obtain⟨t,ht⟩:∃t,t=k+la:=⟨_,rfl⟩;have CA:=ag (fun W (hB:cW W w1.heap.size z0) (hr:cH W ga ba oa ca xs)=>wX W w1.heap.size k M M ba oa ca la y ga z0 xs (by rw[kG,hM]) hx (by have:=ae HN;omega) (by omega) Kd hB fN.out.2.1 hr dx (fun h=>by have:=ae bA h;omega));have e4:(k:Int)+(la:Int)=(t:Int):=(by omega);have H_:IntKind.i64.wrap (t:Int)=(t:Int):=by rw[ao];omega
   have i9:0<=(t:Int)/\(t:Int)<(N:Int):=by have:=ae HN;omega
   have i10:t<N:=(by omega);have i1:0<=(k:Int)/\(k:Int)<=(N:Int):=by have:=ae HN;omega
   have i3:k<=N:=(by omega);have i4:N-k=M:=(by omega);have i5:¬N=k:=by have:=ae HN;omega
   have HZN:=ag kG;have HC:Hid (∀c zs,Y9 z0 zs xs y k la c->QA xs ys (zs.set t c) N (k+1)):=fun c zs h=>by subst ht hx;exact acS fN.out h hyy (by have:=ae HN;omega)
   have kF:=en.size;clear hyy ht hM kG qG sj vp yA
   go_wp2_with fail
   refine(ae CA _ ef (rA.next en)).mono ?_;rintro e w4 ⟨c,zs,rfl,hS,k4,g4⟩;have c4:=k4.cell t (by rw[hS.1,ae HZN];omega);have f4:=k4.frozen t;have hS:=ag hS;go_wp2;exact⟨⟨k+1,zs.set t c,by omega,by go_num,k4.set t c,ae HC _ _ hS.out,(gS en g4 (af _) kF).setCell (af _) _⟩,by simp[intOf];omega⟩
  ·obtain rfl:k=lb:=(by omega);have qF:fI wr (.slice (some ⟨w1.heap.size,0,none⟩) N N) (aB z0):=by have hr:=ef.rep 0 N N (by omega) (af _);rw[dN,bK (by omega)]at hr;exact⟨_,_,_,_,z0,by rw[kG],hr,fN.out.2.1,rfl,by omega⟩
   have hval:aB z0=aB xs*aB ys:=(by rw[fN.out.2.2.1,eZ _ _ (by omega)]);rw[hval]at qF;have CNm:=ag (nO _ _ _ qF);clear qF hval
   go_wp2_with fail
   refine(ae CNm).mono ?_;rintro e w5 ⟨r,rfl,hr,b5⟩;have b6:=aJ en b5;have kF:=ak (ae S1) en.size;go_wp2;go_ret;exact⟨r,rfl,hr.mono kF,(ae E1).next b6,(ae G1).then b6 (ae E1).met.lt⟩
theorem Vc{N m:Nat}{zs:List Nat}(h:cW w g zs)(hl:zs.length=N)(hN:N<=1073741824)(hd:bG zs)(hm:aB zs=m):fI w (.slice (some ⟨g,0,none⟩) N N) m:=by have hr:=h.rep 0 N N (by omega) (af _);rw[dN,bK (by omega)]at hr;exact⟨_,_,_,_,zs,by rw[hl],hr,hd,hm,by omega⟩
theorem La(E:En w ge g s lv dp)(u:Value)(m la P:Nat)(hu:InG g w u m la)(ha:la<=1048576)(EZ:0<=s)(hs:s<=4611686018427387904)(hP:P=la*(la+1)/2):Calls Tryz.prog 129 #[.pointer (some ⟨ge,0,none⟩),u] w fun e w'=>∃r,e=.returned r/\aU w.heap.size w' r (m*m)/\En w' ge g (s+(P:Int)) lv dp/\Touch g 0 3 w w':=by
 obtain⟨ga,ba,oa,ca,xs,rfl,hx,rA,dx,rfl,na⟩:=hu;have cE:=E.ptr;obtain⟨l1,qk⟩:∃l1,l1=la+1:=⟨_,rfl⟩;have hpm:la*l1<=1048576*1048577:=aP ha (by omega);rw[<-qk]at hP;obtain⟨Q,hQ⟩:∃Q,Q=la*l1:=⟨_,rfl⟩;rw[<-hQ]at hP hpm;have e1:(la:Int)+1=(l1:Int):=by omega
 have hQi:(la:Int)*(l1:Int)=(Q:Int):=by rw[hQ];exact(aG la l1).symm
 have DX:IntKind.i64.wrap (l1:Int)=(l1:Int):=by rw[ao];omega
 have hwQ:IntKind.i64.wrap (Q:Int)=(Q:Int):=by rw[ao];omega
 have hwP:IntKind.i64.wrap (P:Int)=(P:Int):=by rw[ao];omega
 have e2:(Q:Int).tdiv 2=(P:Int):=by rw[lz (by omega)];omega
 have e3:(Q:Int)/2=(P:Int):=by omega
 have CS:=ag (jU (P:Int) (s+(P:Int)) E.met (by omega) (by omega) (by omega));have HE:=ag E;have NA:Hid (0<xs.length->ba≠g):=by rw[hx];exact na
 clear hP E hs na qk hQ;go_enter Tryz.func129,Tryz.ntmps129
 go_wp2_with fail
 refine(ae CS).mono ?_;rintro e w1 ⟨rfl,M1,T1⟩;have G1:=zU T1;have rA:=rA.but G1 (ae NA);have E1:=ag ((ae HE).step M1 T1);have S1:=ag G1.size;have G1:=ag T1;clear CS M1 T1 cE
 go_wp2_with fail
 refine(Ra _ ga ba oa ca la xs hx (by omega) rA dx).mono ?_;rintro e w2 ⟨zs,rfl,hC,k2,b2⟩;have rA:=rA.next b2;have i2:=Vc k2 hC.1 (by omega) hC.2.1 hC.2.2.1;have B2:=ag b2;have HV:=ag (Tu xs la (by omega));obtain⟨N,hN⟩:∃N,N=2*la:=⟨_,rfl⟩;rw[<-hN]at i2 ⊢;have HN:=ag hN;clear hC k2 b2 hN
 go_wp2_with fail
 refine(Lr _ ga ba oa ca la xs hx (by omega) rA dx).mono ?_;rintro e w3 ⟨qs,rfl,hQ,k3,b3⟩;have i2:=i2.next b3;have i3:=Vc k3 hQ.1 (by omega) hQ.2.1 hQ.2.2.1;have adU:2*la=N:=(ae HN).symm;rw[adU]at i3 ⊢;have B3:=ag (aJ (ae B2) b3);clear hQ k3 b3 rA B2 adU;have CW:=ag (FA w3 _ _ _ _ _ _ i2 i2 i3);rw[ae HV]at CW
 go_wp2_with fail
 refine(ae CW).mono ?_;rintro e w4 ⟨r,rfl,hr,b4⟩;have b6:=aJ (ae B3) b4;have kF:=ak (ae S1) (ae B3).size;go_wp2;go_ret;exact⟨r,rfl,hr.mono kF,(ae E1).next b6,(ae G1).then b6 (ae E1).met.lt⟩
end
section
open Go.RowKit
end
section
open Go.RowKit
def bJ.row(T:bJ):List Int:=[T.b,T.t,T.n,T.d,T.r,T.l,T.x,T.p,T.k,T.s,T.e]
def wU(w:World)(g:Nat)(T:bJ):Prop:=∀j,j<11->w.cell? ⟨g,3+j,none⟩=some (.int .i64 (T.bD.row.getD j 0))
theorem wW.afB{T:bJ}(h:wW w g T):wU w g T:=fun j hj=>by
 rw[ay w g (3+j) _ _ (0,0) h.row]
 match j,hj with
 |0,_=>rfl
 |1,_=>rfl
 |2,_=>rfl
 |3,_=>rfl
 |4,_=>rfl
 |5,_=>rfl
 |6,_=>rfl
 |7,_=>rfl
 |8,_=>rfl
 |9,_=>rfl
 |10,_=>rfl
theorem wU.lt{T:bJ}(h:wU w g T):g<w.heap.size:=aw _ _ (h 0 (by decide))
theorem wU.next{T:bJ}(h:wU w g T)(b:Below w.heap.size w w'):wU w' g T:=fun j hj=>(b.cell (p:=⟨g,3+j,none⟩) h.lt).trans (h j hj)
theorem wU.iy{T:bJ}(h:wU w g T)(t:Touch g 0 3 w w'):wU w' g T:=fun j hj=>(t.cell (3+j) (by omega)).trans (h j hj)
theorem wU.out{D:Nat->Prop}{T:bJ}(h:wU w g T)(o:Out D w w')(hd:¬D g):wU w' g T:=fun j hj=>o.cell (h j hj) hd
structure ko(w:World)(gk ge g:Nat)(s l m:Int)(T:bJ):Prop where
 ptr:w.cell? ⟨gk,0,none⟩=some (.pointer (some ⟨ge,0,none⟩))
 iG:En w ge g s l m
 tab:wU w g T
 nk:gk≠g
theorem ko.lt{T:bJ}(h:ko w gk ge g s l m T):gk<w.heap.size:=aw _ _ h.ptr
theorem ko.next{T:bJ}(h:ko w gk ge g s l m T)(b:Below w.heap.size w w'):ko w' gk ge g s l m T:=
 ⟨(b.cell (p:=⟨gk,0,none⟩) h.lt).trans h.ptr,h.iG.next b,h.tab.next b,h.nk⟩
theorem ko.step{T:bJ}(h:ko w gk ge g s l m T)(M:gQ w' g 0 s' l' m')(t:Touch g 0 3 w w'):ko w' gk ge g s' l' m' T:=
 ⟨t.grown.cell h.ptr (by simpa using h.nk),h.iG.step M t,h.tab.iy t,h.nk⟩
theorem En.out{D:Nat->Prop}(h:En w ge g s l m)(o:Out D w w')(h1:¬D ge)(h2:¬D g):En w' ge g s l m:=
 ⟨o.cell h.ptr h1,o.met h.met h2,h.ne,fun j v hv=>h.ints j v ((cZ (a:=⟨g,j,none⟩) (o.block g h.met.lt h2)).symm.trans hv)⟩
theorem ko.out{D:Nat->Prop}{T:bJ}(h:ko w gk ge g s l m T)(o:Out D w w')(h0:¬D gk)(h1:¬D ge)(h2:¬D g):ko w' gk ge g s l m T:=
 ⟨o.cell h.ptr h0,h.iG.out o h1 h2,h.tab.out o h2,h.nk⟩
def Ub(D:Nat->Prop)(w:World)(v:Value)(n l:Nat):Prop:=
 ∃ga b o cap xs,v=.slice ga l cap/\xs.length=l/\cH w ga b o cap xs/\bG xs/\aB xs=n/\(0<l->¬D b)
def ft(B:Nat)(w:World)(v:Value)(n:Nat):Prop:=∃ga b o cap xs,v=.slice ga xs.length cap/\cH w ga b o cap xs/\bG xs/\aB xs=n/\xs.length<=1073741824/\(0<xs.length->B<=b)
theorem ft.out{D:Nat->Prop}{B:Nat}(h:ft B w v n)(o:Out D w w')(hd:∀k,D k->k<B):ft B w' v n:=by obtain⟨ga,b,oo,cap,xs,rfl,hr,hx,hv,hl,hn⟩:=h;exact⟨ga,b,oo,cap,xs,rfl,o.rep hr (fun h x=>by have:=hn h;have:=hd b x;omega),hx,hv,hl,hn⟩
theorem ft.mono{B B':Nat}(h:ft B w v n)(hb:B'<=B):ft B' w v n:=by obtain⟨ga,b,oo,cap,xs,rfl,hr,hx,hv,hl,hn⟩:=h;exact⟨ga,b,oo,cap,xs,rfl,hr,hx,hv,hl,fun h=>by have:=hn h;omega⟩
theorem ft.next{B:Nat}(h:ft B w v n)(b:Below w.heap.size w w'):ft B w' v n:=by obtain⟨ga,k,oo,cap,xs,rfl,hr,hx,hv,hl,hn⟩:=h;exact⟨ga,k,oo,cap,xs,rfl,hr.next b,hx,hv,hl,hn⟩
theorem ft.gE{B:Nat}(h:ft B w v n):fI w v n:=by obtain⟨ga,b,oo,cap,xs,rfl,hr,hx,hv,hl,_⟩:=h;exact⟨ga,b,oo,cap,xs,rfl,hr,hx,hv,hl⟩
theorem aU.toI{B:Nat}(h:aU B w v n)(hn:n<18446744073709551616^p)(hp:p<=1073741824):ft B w v n:=by obtain⟨ga,b,cap,xs,rfl,hr,hc,hv,hb⟩:=h.rep;exact⟨ga,b,0,cap,xs,rfl,hr,hc.1,hv,by have:=mT hc (L:=p) (by rw[hv];exact hn);omega,hb⟩
def yY(n m h:Nat):Nat->Nat×Nat
 |0=>(h,h)
 |1=>(n-h,m-h)
 |_=>(h+1,h+1)
def Je:Prop:=∀(T:bJ) (w:World),Calls Tryz.prog 141 #[T.val] w fun e w'=>∃gk ge g,e=.returned (.pointer (some ⟨gk,0,none⟩))/\ko w' gk ge g 0 0 0 T/\w.heap.size<=gk/\w.heap.size<=ge/\w.heap.size<=g/\Below w.heap.size w w'
structure abE(gk ge g:Nat)(l:Int)(T:bJ)(n m h k:Nat)(fs cs:Array Value)(D:Nat->Prop)(St:Nat->World->Prop):Prop where
 go:∀(args:Array Value) (W:World),(callFunc k args).run Tryz.prog W=.ok (.enter k args) W
 next:∀i W W',St i W->Below W.heap.size W W'->St i W'
 iG:∀i W,St i W->∃s' m',ko W gk ge g s' (l+1) m' T
 call:∀i W u v a c,i<3->St i W->Ub (fun j=>D j\/j=g) W u a (yY n m h i).1->Ub (fun j=>D j\/j=g) W v c (yY n m h i).2->
  Calls Tryz.prog k (fs++#[u,v]++cs) W fun e W'=>∃r,e=.returned r/\ft W.heap.size W' r (a*c)/\St (i+1) W'/\Out (fun j=>D j\/j=g) W W'
def UT:Prop:=∀(w:World) (gk ge g:Nat) (s l m:Int) (T:bJ) (ga gb:Option Addr) (b o cap la b' o' bM lb h:Nat) (xs ys:List Nat) (k:Nat) (fs cs:Array Value) (D:Nat->Prop) (St:Nat->World->Prop),
 ko w gk ge g s l m T->0<=l->l<=1000000->xs.length=la->cH w ga b o cap xs->bG xs->(0<la->¬D b)->ys.length=lb->cH w gb b' o' bM ys->bG ys->(0<lb->¬D b')->la<=16384->lb<=16384->
 h=(max la lb+1)/2->h<min la lb->¬D gk->¬D ge->¬D g->(∀j,D j->j<w.heap.size)->abE gk ge g l T (max la lb) (min la lb) h k fs cs D St->
 (∀W,Out (·=g) w W->ko W gk ge g s (l+1) (max m (l+1)) T->St 0 W)->
 Calls Tryz.prog 137 #[.pointer (some ⟨gk,0,none⟩),.slice ga la cap,.slice gb lb bM,.func (.func k) fs cs] w fun e w'=>∃v W,e=.returned (.tuple #[v,.bool true])/\aU w.heap.size w' v (aB xs*aB ys)/\St 3 W/\Out (·=g) W w'/\(∀s' m',ko W gk ge g s' (l+1) m' T->ko w' gk ge g s' l m' T)/\Out (fun j=>D j\/j=g) w w'
structure aeM(gk ge g:Nat)(l:Int)(T:bJ)(n h k:Nat)(fs cs:Array Value)(D:Nat->Prop)(St:Nat->World->Prop):Prop where
 go:∀(args:Array Value) (W:World),(callFunc k args).run Tryz.prog W=.ok (.enter k args) W
 next:∀i W W',St i W->Below W.heap.size W W'->St i W'
 iG:∀i W,St i W->∃s' m',ko W gk ge g s' (l+1) m' T
 call:∀i W u a,i<3->St i W->Ub (fun j=>D j\/j=g) W u a (yY n n h i).1->
  Calls Tryz.prog k (fs++#[u]++cs) W fun e W'=>∃r,e=.returned r/\ft W.heap.size W' r (a*a)/\St (i+1) W'/\Out (fun j=>D j\/j=g) W W'
def Jf:Prop:=∀(w:World) (gk ge g:Nat) (s l m:Int) (T:bJ) (ga:Option Addr) (b o cap la h:Nat) (xs:List Nat) (k:Nat) (fs cs:Array Value) (D:Nat->Prop) (St:Nat->World->Prop),
 ko w gk ge g s l m T->0<=l->l<=1000000->xs.length=la->cH w ga b o cap xs->bG xs->(0<la->¬D b)->la<=16384->
 h=(la+1)/2->2<=la->¬D gk->¬D ge->¬D g->(∀j,D j->j<w.heap.size)->aeM gk ge g l T la h k fs cs D St->
 (∀W,Out (·=g) w W->ko W gk ge g s (l+1) (max m (l+1)) T->St 0 W)->
 Calls Tryz.prog 130 #[.pointer (some ⟨gk,0,none⟩),.slice ga la cap,.func (.func k) fs cs] w fun e w'=>∃v W,e=.returned (.tuple #[v,.bool true])/\aU w.heap.size w' v (aB xs*aB xs)/\St 3 W/\Out (·=g) W w'/\(∀s' m',ko W gk ge g s' (l+1) m' T->ko w' gk ge g s' l m' T)/\Out (fun j=>D j\/j=g) w w'
structure jH(w:World)(gt gk ge g:Nat)(s l m:Int)(T:bJ):Prop where
 ptr:w.cell? ⟨gt,0,none⟩=some (.pointer (some ⟨gk,0,none⟩))
 fY:ko w gk ge g s l m T
 nt:gt≠g
theorem jH.lt{T:bJ}(h:jH w gt gk ge g s l m T):gt<w.heap.size:=aw _ _ h.ptr
theorem jH.next{T:bJ}(h:jH w gt gk ge g s l m T)(b:Below w.heap.size w w'):jH w' gt gk ge g s l m T:=
 ⟨(b.cell (p:=⟨gt,0,none⟩) h.lt).trans h.ptr,h.fY.next b,h.nt⟩
theorem jH.step{T:bJ}(h:jH w gt gk ge g s l m T)(M:gQ w' g 0 s' l' m')(t:Touch g 0 3 w w'):jH w' gt gk ge g s' l' m' T:=
 ⟨t.grown.cell h.ptr (by simpa using h.nt),h.fY.step M t,h.nt⟩
theorem jH.out{D:Nat->Prop}{T:bJ}(h:jH w gt gk ge g s l m T)(o:Out D w w')(h3:¬D gt)(h0:¬D gk)(h1:¬D ge)(h2:¬D g):jH w' gt gk ge g s l m T:=
 ⟨o.cell h.ptr h3,h.fY.out o h0 h1 h2,h.nt⟩
theorem jH.kept{T:bJ}(h:jH w gt gk ge g s l m T)(o:Out (·=g) w w')(K:ko w' gk ge g s' l' m' T):jH w' gt gk ge g s' l' m' T:=
 ⟨o.cell h.ptr h.nt,K,h.nt⟩
def me(n m h:Nat):Nat->Nat×Nat
 |0=>(h,h)
 |4=>(n-2*h,m-2*h)
 |_=>(h+1,h+1)
def Ji:Prop:=∀(T:bJ) (w:World),Calls Tryz.prog 111 #[T.val] w fun e w'=>∃gt gk ge g,e=.returned (.pointer (some ⟨gt,0,none⟩))/\jH w' gt gk ge g 0 0 0 T/\w.heap.size<=gt/\w.heap.size<=gk/\w.heap.size<=ge/\w.heap.size<=g/\Below w.heap.size w w'
def pcs(k:Int):Nat:=(min (max k 1) 16384).toNat
def nd(a b:Nat):Nat:=(a-b)+(b-a)
structure dI(w:World)(gm gt gk ge g:Nat)(s l m:Int)(T:bJ):Prop where
 ptr:w.cell? ⟨gm,0,none⟩=some (.pointer (some ⟨gt,0,none⟩))
 jf:jH w gt gk ge g s l m T
 nm:gm≠g
theorem dI.lt{T:bJ}(h:dI w gm gt gk ge g s l m T):gm<w.heap.size:=aw _ _ h.ptr
theorem dI.met{T:bJ}(h:dI w gm gt gk ge g s l m T):gQ w g 0 s l m:=h.jf.fY.iG.met
theorem dI.iG{T:bJ}(h:dI w gm gt gk ge g s l m T):En w ge g s l m:=h.jf.fY.iG
theorem dI.way{T:bJ}(h:dI w gm gt gk ge g s l m T):w.cell? ⟨gm,0,none⟩=some (.pointer (some ⟨gt,0,none⟩))/\w.cell? ⟨gt,0,none⟩=some (.pointer (some ⟨gk,0,none⟩))/\w.cell? ⟨gk,0,none⟩=some (.pointer (some ⟨ge,0,none⟩))/\w.cell? ⟨ge,0,none⟩=some (.pointer (some ⟨g,0,none⟩)):=
 ⟨h.ptr,h.jf.ptr,h.jf.fY.ptr,h.jf.fY.iG.ptr⟩
theorem dI.next{T:bJ}(h:dI w gm gt gk ge g s l m T)(b:Below w.heap.size w w'):dI w' gm gt gk ge g s l m T:=
 ⟨(b.cell (p:=⟨gm,0,none⟩) h.lt).trans h.ptr,h.jf.next b,h.nm⟩
theorem dI.step{T:bJ}(h:dI w gm gt gk ge g s l m T)(M:gQ w' g 0 s' l' m')(t:Touch g 0 3 w w'):dI w' gm gt gk ge g s' l' m' T:=
 ⟨t.grown.cell h.ptr (by simpa using h.nm),h.jf.step M t,h.nm⟩
theorem dI.kept{T:bJ}(h:dI w gm gt gk ge g s l m T)(o:Out (·=g) w w')(K:jH w' gt gk ge g s' l' m' T):dI w' gm gt gk ge g s' l' m' T:=
 ⟨o.cell h.ptr h.nm,K,h.nm⟩
theorem dI.out{D:Nat->Prop}{T:bJ}(h:dI w gm gt gk ge g s l m T)(o:Out D w w')(h4:¬D gm)(h3:¬D gt)(h0:¬D gk)(h1:¬D ge)(h2:¬D g):dI w' gm gt gk ge g s l m T:=
 ⟨o.cell h.ptr h4,h.jf.out o h3 h0 h1 h2,h.nm⟩
theorem dI.rep{T:bJ}(h:dI w gm gt gk ge g s l m T)(o:Out (·=g) w w')(r:cH w ga b oo cap xs):cH w' ga b oo cap xs:=h.iG.rep o.grown r
theorem dI.cell{T:bJ}(h:dI w gm gt gk ge g s l m T)(o:Out (·=g) w w'){p:Addr}(hc:w.cell? p=some v)(hs:p.spot=none)(hv:∀z,v≠ .int .i64 z):w'.cell? p=some v:=o.cell hc (fun e=>by obtain⟨b,f,sp⟩:=p;simp only at e hs;subst e hs;obtain⟨z,hz⟩:=h.iG.ints _ _ hc;exact hv z hz)
theorem dI.other{T:bJ}{g':Nat}{T':bJ}(h:dI w gm gt gk ge g s l m T)(o:Out (·=g) w w')(k:dI w Gu Gv Gt Gs g' s' l' m' T')(hg:g'≠g):dI w' Gu Gv Gt Gs g' s' l' m' T':=by
 have e:∀(p:Nat) (q:Option Addr),w.cell? ⟨p,0,none⟩=some (.pointer q)->p≠g:=fun p q hc e=>by subst e;obtain⟨z,hz⟩:=h.iG.ints _ _ hc;cases hz
 exact k.out o (e _ _ k.ptr) (e _ _ k.jf.ptr) (e _ _ k.jf.fY.ptr) (e _ _ k.jf.fY.iG.ptr) hg
def jg(w:World)(v:Value)(n:Nat):Prop:=∃ga b o cap xs,v=.slice ga xs.length cap/\cH w ga b o cap xs/\bG xs/\aB xs=n/\xs.length<=16384
theorem jg.gE(h:jg w v n):fI w v n:=by obtain⟨ga,b,o,cap,xs,rfl,hr,hd,hv,hl⟩:=h;exact⟨ga,b,o,cap,xs,rfl,hr,hd,hv,by omega⟩
theorem jg.next(h:jg w v n)(hb:Below w.heap.size w w'):jg w' v n:=by obtain⟨ga,b,o,cap,xs,rfl,hr,hd,hv,hl⟩:=h;exact⟨ga,b,o,cap,xs,rfl,hr.next hb,hd,hv,hl⟩
theorem pF{l:Nat}{A:Nat}(hr:cH w ga b o cap xs)(hd:bG xs)(hl:xs.length=l)(hA:A=aB xs)(h:l<=16384):jg w (.slice ga l cap) A:=by subst hl hA;exact⟨_,_,_,_,_,rfl,hr,hd,rfl,h⟩
theorem aU.toM{B:Nat}(h:aU B w v n)(hn:n<18446744073709551616^p)(hp:p<=16384):jg w v n:=by obtain⟨ga,b,cap,xs,rfl,hr,hc,hv,_⟩:=h.rep;exact⟨ga,b,0,cap,xs,rfl,hr,hc.1,hv,by have:=mT hc (L:=p) (by rw[hv];exact hn);omega⟩
def UW:Prop:=∀(T:bJ) (w:World),Calls Tryz.prog 89 #[T.val] w fun e w'=>∃gm gt gk ge g,e=.returned (.pointer (some ⟨gm,0,none⟩))/\dI w' gm gt gk ge g 0 0 0 T/\(w.heap.size<=gm/\w.heap.size<=gt/\w.heap.size<=gk/\w.heap.size<=ge/\w.heap.size<=g)/\Below w.heap.size w w'
structure mg(w:World)(gd gm gt gk ge g:Nat)(s l m:Int)(T:bJ):Prop where
 ptr:w.cell? ⟨gd,0,none⟩=some (.pointer (some ⟨gm,0,none⟩))
 mul:dI w gm gt gk ge g s l m T
 nm:gd≠g
theorem mg.lt{T:bJ}(h:mg w gd gm gt gk ge g s l m T):gd<w.heap.size:=aw _ _ h.ptr
theorem mg.met{T:bJ}(h:mg w gd gm gt gk ge g s l m T):gQ w g 0 s l m:=h.mul.met
theorem mg.way{T:bJ}(h:mg w gd gm gt gk ge g s l m T):w.cell? ⟨gd,0,none⟩=some (.pointer (some ⟨gm,0,none⟩))/\w.cell? ⟨gm,0,none⟩=some (.pointer (some ⟨gt,0,none⟩))/\w.cell? ⟨gt,0,none⟩=some (.pointer (some ⟨gk,0,none⟩))/\w.cell? ⟨gk,0,none⟩=some (.pointer (some ⟨ge,0,none⟩))/\w.cell? ⟨ge,0,none⟩=some (.pointer (some ⟨g,0,none⟩)):=
 ⟨h.ptr,h.mul.way⟩
theorem mg.next{T:bJ}(h:mg w gd gm gt gk ge g s l m T)(b:Below w.heap.size w w'):mg w' gd gm gt gk ge g s l m T:=
 ⟨(b.cell (p:=⟨gd,0,none⟩) h.lt).trans h.ptr,h.mul.next b,h.nm⟩
theorem mg.step{T:bJ}(h:mg w gd gm gt gk ge g s l m T)(M:gQ w' g 0 s' l' m')(t:Touch g 0 3 w w'):mg w' gd gm gt gk ge g s' l' m' T:=
 ⟨t.grown.cell h.ptr (by simpa using h.nm),h.mul.step M t,h.nm⟩
theorem mg.kept{T:bJ}(h:mg w gd gm gt gk ge g s l m T)(o:Out (·=g) w w')(K:dI w' gm gt gk ge g s' l' m' T):mg w' gd gm gt gk ge g s' l' m' T:=
 ⟨o.cell h.ptr h.nm,K,h.nm⟩
theorem mg.out{D:Nat->Prop}{T:bJ}(h:mg w gd gm gt gk ge g s l m T)(o:Out D w w')(h5:¬D gd)(h4:¬D gm)(h3:¬D gt)(h0:¬D gk)(h1:¬D ge)(h2:¬D g):mg w' gd gm gt gk ge g s l m T:=
 ⟨o.cell h.ptr h5,h.mul.out o h4 h3 h0 h1 h2,h.nm⟩
theorem mg.rep{T:bJ}(h:mg w gd gm gt gk ge g s l m T)(o:Out (·=g) w w')(r:cH w ga b oo cap xs):cH w' ga b oo cap xs:=h.mul.rep o r
theorem mg.uG{T:bJ}(h:mg w gd gm gt gk ge g s l m T)(o:Out (·=g) w w')(r:jg w v n):jg w' v n:=by obtain⟨ga,b,oo,cap,xs,rfl,hr,hd,hv,hl⟩:=r;exact⟨ga,b,oo,cap,xs,rfl,h.rep o hr,hd,hv,hl⟩
def zN(A C:Nat):Nat:=if wl A<wl C then 0 else (wl A-wl C+1)*(wl C+1)
def UQ:Prop:=∀(T:bJ) (w:World),Calls Tryz.prog 75 #[T.val] w fun e w'=>∃gd gm gt gk ge g,e=.returned (.pointer (some ⟨gd,0,none⟩))/\mg w' gd gm gt gk ge g 0 0 0 T/\(w.heap.size<=gd/\w.heap.size<=gm/\w.heap.size<=gt/\w.heap.size<=gk/\w.heap.size<=ge/\w.heap.size<=g)/\Below w.heap.size w w'
def UU:Prop:=∀(w:World) (gd gm gt gk ge g:Nat) (s l m:Int) (T:bJ) (u v:Value) (A C:Nat),
 mg w gd gm gt gk ge g s l m T->0<=s->s<=1152921504606846976->0<=l->l<=1000->jg w u A->jg w v C->0<C->
 Calls Tryz.prog 81 #[.pointer (some ⟨gd,0,none⟩),u,v] w fun e w'=>∃q r gq gr m',e=.returned (.tuple #[q,r,.int .i64 0])/\gh gq (gq+1) w' q (A/C)/\gh gr (gr+1) w' r (A%C)/\(gq≠gr/\w.heap.size<=gq/\w.heap.size<=gr)/\mg w' gd gm gt gk ge g (s+(zN A C:Int)) l m' T/\m'=m/\Out (·=g) w w'
theorem dI.tb{T:bJ}(h:dI w gm gt gk ge g s l m T)(o:Out (·=g) w w')(t:TB w):TB w':=
 ⟨fun j hj=>h.cell o (t.b j hj) rfl (fun x e=>by cases e),fun j hj=>h.cell o (t.d j hj) rfl (fun x e=>by cases e)⟩
def Jg:Prop:=∀(w:World) (gm gt gk ge g:Nat) (s l m:Int) (T:bJ) (u v:Value) (A C:Nat),
 dI w gm gt gk ge g s l m T->TB w->0<=s->s<=1152921504606846976->0<=l->l<=1000->jg w u A->jg w v C->
 Calls Tryz.prog 74 #[.pointer (some ⟨gm,0,none⟩),u,v] w fun e w'=>∃r m',e=.returned r/\aU w.heap.size w' r (A*C)/\dI w' gm gt gk ge g (s+qB T (wl A:Int) (wl C:Int)) l m' T/\m<=m'/\m'<=max m (l+(jP (max (wl A) (wl C)):Int))/\Out (·=g) w w'
def Jh:Prop:=∀(w:World) (gm gt gk ge g:Nat) (s l m:Int) (T:bJ) (u:Value) (A:Nat),
 dI w gm gt gk ge g s l m T->TB w->0<=s->s<=1152921504606846976->0<=l->l<=1000->jg w u A->
 Calls Tryz.prog 84 #[.pointer (some ⟨gm,0,none⟩),u] w fun e w'=>∃r m',e=.returned r/\aU w.heap.size w' r (A*A)/\dI w' gm gt gk ge g (s+sqT T (wl A:Int)) l m' T/\m<=m'/\m'<=max m (l+(jP (wl A):Int))/\Out (·=g) w w'
def may(r:Int)(n m:Nat):Bool:=if r=1\/r=2\/r=5 then decide (0<m) else if r=3 then decide (0<m/\(n+1)/2<m) else if r=4 then decide (0<m/\2*((n+2)/3)<m) else false
structure dC(w:World)(gr gd gm gt gk ge g:Nat)(s l m:Int)(T:bJ):Prop where
 ptr:w.cell? ⟨gr,0,none⟩=some (.pointer (some ⟨gd,0,none⟩))
 div:mg w gd gm gt gk ge g s l m T
 nm:gr≠g
theorem dC.lt{T:bJ}(h:dC w gr gd gm gt gk ge g s l m T):gr<w.heap.size:=aw _ _ h.ptr
theorem dC.met{T:bJ}(h:dC w gr gd gm gt gk ge g s l m T):gQ w g 0 s l m:=h.div.met
theorem dC.next{T:bJ}(h:dC w gr gd gm gt gk ge g s l m T)(b:Below w.heap.size w w'):dC w' gr gd gm gt gk ge g s l m T:=
 ⟨(b.cell (p:=⟨gr,0,none⟩) h.lt).trans h.ptr,h.div.next b,h.nm⟩
theorem dC.step{T:bJ}(h:dC w gr gd gm gt gk ge g s l m T)(M:gQ w' g 0 s' l' m')(t:Touch g 0 3 w w'):dC w' gr gd gm gt gk ge g s' l' m' T:=
 ⟨t.grown.cell h.ptr (by simpa using h.nm),h.div.step M t,h.nm⟩
theorem dC.kept{T:bJ}(h:dC w gr gd gm gt gk ge g s l m T)(o:Out (·=g) w w')(K:mg w' gd gm gt gk ge g s' l' m' T):dC w' gr gd gm gt gk ge g s' l' m' T:=
 ⟨o.cell h.ptr h.nm,K,h.nm⟩
theorem dC.out{D:Nat->Prop}{T:bJ}(h:dC w gr gd gm gt gk ge g s l m T)(o:Out D w w')(h6:¬D gr)(h5:¬D gd)(h4:¬D gm)(h3:¬D gt)(h0:¬D gk)(h1:¬D ge)(h2:¬D g):dC w' gr gd gm gt gk ge g s l m T:=
 ⟨o.cell h.ptr h6,h.div.out o h5 h4 h3 h0 h1 h2,h.nm⟩
theorem dC.rep{T:bJ}(h:dC w gr gd gm gt gk ge g s l m T)(o:Out (·=g) w w')(r:cH w ga b oo cap xs):cH w' ga b oo cap xs:=h.div.rep o r
theorem dC.uG{T:bJ}(h:dC w gr gd gm gt gk ge g s l m T)(o:Out (·=g) w w')(r:jg w v n):jg w' v n:=h.div.uG o r
theorem dC.other{T:bJ}{g':Nat}{T':bJ}(h:dC w gr gd gm gt gk ge g s l m T)(o:Out (·=g) w w')(k:dC w Md Mc Gu Gv Gt Gs g' s' l' m' T')(hg:g'≠g):dC w' Md Mc Gu Gv Gt Gs g' s' l' m' T':=
 ⟨h.div.mul.cell o k.ptr rfl (fun z e=>by cases e),⟨h.div.mul.cell o k.div.ptr rfl (fun z e=>by cases e),h.div.mul.other o k.div.mul hg,k.div.nm⟩,k.nm⟩
def UY:Prop:=∀(T:bJ) (w:World),Calls Tryz.prog 66 #[T.val] w fun e w'=>∃gr gd gm gt gk ge g,e=.returned (.pointer (some ⟨gr,0,none⟩))/\dC w' gr gd gm gt gk ge g 0 0 0 T/\(w.heap.size<=gr/\w.heap.size<=gd/\w.heap.size<=gm/\w.heap.size<=gt/\w.heap.size<=gk/\w.heap.size<=ge/\w.heap.size<=g)/\Below w.heap.size w w'
structure fC(w:World)(gv gr gd gm gt gk ge g:Nat)(s l m:Int)(T:bJ):Prop where
 ptr:w.cell? ⟨gv,0,none⟩=some (.pointer (some ⟨gr,0,none⟩))
 nP:dC w gr gd gm gt gk ge g s l m T
 nm:gv≠g
theorem fC.lt{T:bJ}(h:fC w gv gr gd gm gt gk ge g s l m T):gv<w.heap.size:=aw _ _ h.ptr
theorem fC.met{T:bJ}(h:fC w gv gr gd gm gt gk ge g s l m T):gQ w g 0 s l m:=h.nP.met
theorem fC.next{T:bJ}(h:fC w gv gr gd gm gt gk ge g s l m T)(b:Below w.heap.size w w'):fC w' gv gr gd gm gt gk ge g s l m T:=
 ⟨(b.cell (p:=⟨gv,0,none⟩) h.lt).trans h.ptr,h.nP.next b,h.nm⟩
theorem fC.kept{T:bJ}(h:fC w gv gr gd gm gt gk ge g s l m T)(o:Out (·=g) w w')(K:dC w' gr gd gm gt gk ge g s' l' m' T):fC w' gv gr gd gm gt gk ge g s' l' m' T:=
 ⟨o.cell h.ptr h.nm,K,h.nm⟩
theorem fC.rep{T:bJ}(h:fC w gv gr gd gm gt gk ge g s l m T)(o:Out (·=g) w w')(r:cH w ga b oo cap xs):cH w' ga b oo cap xs:=h.nP.rep o r
theorem fC.uG{T:bJ}(h:fC w gv gr gd gm gt gk ge g s l m T)(o:Out (·=g) w w')(r:jg w v n):jg w' v n:=h.nP.uG o r
theorem fC.other{T:bJ}{g':Nat}{T':bJ}(h:fC w gv gr gd gm gt gk ge g s l m T)(o:Out (·=g) w w')(k:fC w Ro Md Mc Gu Gv Gt Gs g' s' l' m' T')(hg:g'≠g):fC w' Ro Md Mc Gu Gv Gt Gs g' s' l' m' T':=
 ⟨h.nP.div.mul.cell o k.ptr rfl (fun z e=>by cases e),h.nP.other o k.nP hg,k.nm⟩
def US:Prop:=∀(T:bJ) (w:World),Calls Tryz.prog 49 #[T.val] w fun e w'=>∃gv gr gd gm gt gk ge g,e=.returned (.pointer (some ⟨gv,0,none⟩))/\fC w' gv gr gd gm gt gk ge g 0 0 0 T/\(w.heap.size<=gv/\w.heap.size<=gr/\w.heap.size<=gd/\w.heap.size<=gm/\w.heap.size<=gt/\w.heap.size<=gk/\w.heap.size<=ge/\w.heap.size<=g)/\Below w.heap.size w w'
structure nJ(w:World)(gw gv gr gd gm gt gk ge g:Nat)(s l m:Int)(T:bJ):Prop where
 ptr:w.cell? ⟨gw,0,none⟩=some (.pointer (some ⟨gv,0,none⟩))
 div:fC w gv gr gd gm gt gk ge g s l m T
 nm:gw≠g
theorem nJ.lt{T:bJ}(h:nJ w gw gv gr gd gm gt gk ge g s l m T):gw<w.heap.size:=aw _ _ h.ptr
theorem nJ.met{T:bJ}(h:nJ w gw gv gr gd gm gt gk ge g s l m T):gQ w g 0 s l m:=h.div.met
theorem nJ.next{T:bJ}(h:nJ w gw gv gr gd gm gt gk ge g s l m T)(b:Below w.heap.size w w'):nJ w' gw gv gr gd gm gt gk ge g s l m T:=
 ⟨(b.cell (p:=⟨gw,0,none⟩) h.lt).trans h.ptr,h.div.next b,h.nm⟩
theorem nJ.kept{T:bJ}(h:nJ w gw gv gr gd gm gt gk ge g s l m T)(o:Out (·=g) w w')(K:fC w' gv gr gd gm gt gk ge g s' l' m' T):nJ w' gw gv gr gd gm gt gk ge g s' l' m' T:=
 ⟨o.cell h.ptr h.nm,K,h.nm⟩
theorem nJ.rep{T:bJ}(h:nJ w gw gv gr gd gm gt gk ge g s l m T)(o:Out (·=g) w w')(r:cH w ga b oo cap xs):cH w' ga b oo cap xs:=h.div.rep o r
theorem nJ.uG{T:bJ}(h:nJ w gw gv gr gd gm gt gk ge g s l m T)(o:Out (·=g) w w')(r:jg w v n):jg w' v n:=h.div.uG o r
theorem nJ.other{T:bJ}{g':Nat}{T':bJ}(h:nJ w gw gv gr gd gm gt gk ge g s l m T)(o:Out (·=g) w w')(k:nJ w Zb Ro Md Mc Gu Gv Gt Gs g' s' l' m' T')(hg:g'≠g):nJ w' Zb Ro Md Mc Gu Gv Gt Gs g' s' l' m' T':=
 ⟨h.div.nP.div.mul.cell o k.ptr rfl (fun z e=>by cases e),h.div.other o k.div hg,k.nm⟩
def UR:Prop:=∀(T:bJ) (w:World),Calls Tryz.prog 27 #[T.val] w fun e w'=>∃gw gv gr gd gm gt gk ge g,e=.returned (.pointer (some ⟨gw,0,none⟩))/\nJ w' gw gv gr gd gm gt gk ge g 0 0 0 T/\(w.heap.size<=gw/\w.heap.size<=gv/\w.heap.size<=gr/\w.heap.size<=gd/\w.heap.size<=gm/\w.heap.size<=gt/\w.heap.size<=gk/\w.heap.size<=ge/\w.heap.size<=g)/\Below w.heap.size w w'
structure fc(w:World)(gz gw gv gr gd gm gt gk ge g:Nat)(s l m:Int)(T:bJ):Prop where
 ptr:w.cell? ⟨gz,0,none⟩=some (.pointer (some ⟨gw,0,none⟩))
 root:nJ w gw gv gr gd gm gt gk ge g s l m T
 nm:gz≠g
theorem fc.lt{gz:Nat}{T:bJ}(h:fc w gz gw gv gr gd gm gt gk ge g s l m T):gz<w.heap.size:=aw _ _ h.ptr
theorem fc.met{gz:Nat}{T:bJ}(h:fc w gz gw gv gr gd gm gt gk ge g s l m T):gQ w g 0 s l m:=h.root.met
theorem fc.next{gz:Nat}{T:bJ}(h:fc w gz gw gv gr gd gm gt gk ge g s l m T)(b:Below w.heap.size w w'):fc w' gz gw gv gr gd gm gt gk ge g s l m T:=
 ⟨(b.cell (p:=⟨gz,0,none⟩) h.lt).trans h.ptr,h.root.next b,h.nm⟩
theorem fc.kept{gz:Nat}{T:bJ}(h:fc w gz gw gv gr gd gm gt gk ge g s l m T)(o:Out (·=g) w w')(K:nJ w' gw gv gr gd gm gt gk ge g s' l' m' T):fc w' gz gw gv gr gd gm gt gk ge g s' l' m' T:=
 ⟨o.cell h.ptr h.nm,K,h.nm⟩
theorem fc.rep{gz:Nat}{T:bJ}(h:fc w gz gw gv gr gd gm gt gk ge g s l m T)(o:Out (·=g) w w')(r:cH w ga b oo cap xs):cH w' ga b oo cap xs:=h.root.rep o r
theorem fc.uG{gz:Nat}{T:bJ}(h:fc w gz gw gv gr gd gm gt gk ge g s l m T)(o:Out (·=g) w w')(r:jg w v n):jg w' v n:=h.root.uG o r
theorem fc.out{D:Nat->Prop}{gz:Nat}{T:bJ}(h:fc w gz gw gv gr gd gm gt gk ge g s l m T)(o:Out D w w')(hz:¬D gz)(hw:¬D gw)(hv:¬D gv)(h6:¬D gr)(h5:¬D gd)(h4:¬D gm)(h3:¬D gt)(h0:¬D gk)(h1:¬D ge)(h2:¬D g):fc w' gz gw gv gr gd gm gt gk ge g s l m T:=
 ⟨o.cell h.ptr hz,⟨o.cell h.root.ptr hw,⟨o.cell h.root.div.ptr hv,h.root.div.nP.out o h6 h5 h4 h3 h0 h1 h2,h.root.div.nm⟩,h.root.nm⟩,h.nm⟩
theorem fc.other{gz:Nat}{T:bJ}{gz' g':Nat}{T':bJ}(h:fc w gz gw gv gr gd gm gt gk ge g s l m T)(o:Out (·=g) w w')(k:fc w gz' Zb Ro Md Mc Gu Gv Gt Gs g' s' l' m' T')(hg:g'≠g):fc w' gz' Zb Ro Md Mc Gu Gv Gt Gs g' s' l' m' T':=
 ⟨h.root.div.nP.div.mul.cell o k.ptr rfl (fun z e=>by cases e),h.root.other o k.root hg,k.nm⟩
def mX:Prop:=∀(T:bJ) (w:World),Calls Tryz.prog 10 #[T.val] w fun e w'=>∃gz gw gv gr gd gm gt gk ge g,e=.returned (.pointer (some ⟨gz,0,none⟩))/\fc w' gz gw gv gr gd gm gt gk ge g 0 0 0 T/\(w.heap.size<=gz/\w.heap.size<=gw/\w.heap.size<=gv/\w.heap.size<=gr/\w.heap.size<=gd/\w.heap.size<=gm/\w.heap.size<=gt/\w.heap.size<=gk/\w.heap.size<=ge/\w.heap.size<=g)/\Below w.heap.size w w'
def mW:Prop:=∀(w:World) (gz gw gv gr gd gm gt gk ge g:Nat) (s l m:Int) (T:bJ) (u:Value) (A b:Nat),
 fc w gz gw gv gr gd gm gt gk ge g s l m T->TB w->0<=s->s<=288230376151711744->0<=l->l<=800->jg w u A->wl A<=100->2<=b->b<=36->
 Calls Tryz.prog 12 #[.pointer (some ⟨gz,0,none⟩),u,.int .i64 (b:Int)] w fun e w'=>∃s' m',e=.returned (.tuple #[.string ⟨⟨txt b A⟩⟩,.int .i64 0])/\fc w' gz gw gv gr gd gm gt gk ge g s' l m' T/\(0<=s'/\s'<=s+72057594037927936)/\Out (·=g) w w'
def AZ:Prop:=∀(w:World) (gz gw gv gr gd gm gt gk ge g:Nat) (s l m:Int) (T:bJ) (u:Value) (A:Nat) (z:Int),
 fc w gz gw gv gr gd gm gt gk ge g s l m T->jg w u A->(z<2\/36<z)-> -9223372036854775808<=z->z<=9223372036854775807->
 Calls Tryz.prog 12 #[.pointer (some ⟨gz,0,none⟩),u,.int .i64 z] w fun e w'=>e=.returned (.tuple #[.string ⟨⟨[]⟩⟩,.int .i64 1])/\Below w.heap.size w w'
def kJ:Prop:=∀(w:World) (gz gw gv gr gd gm gt gk ge g:Nat) (s l m:Int) (T:bJ) (bs:List UInt8) (n b:Nat),
 fc w gz gw gv gr gd gm gt gk ge g s l m T->TB w->0<=s->s<=288230376151711744->0<=l->l<=800->2<=b->b<=36->bs≠[]->bs.length<=6000->pv b 0 bs=some n->wl n<=600->
 Calls Tryz.prog 17 #[.pointer (some ⟨gz,0,none⟩),.string ⟨⟨bs⟩⟩,.int .i64 (b:Int)] w fun e w'=>∃q s' m',e=.returned (.tuple #[q,.int .i64 0])/\aU w.heap.size w' q n/\fc w' gz gw gv gr gd gm gt gk ge g s' l m' T/\(0<=s'/\s'<=s+72057594037927936)/\Out (·=g) w w'
def zt:Prop:=∀(w:World) (gz gw gv gr gd gm gt gk ge g:Nat) (s l m:Int) (T:bJ) (bs:List UInt8) (z x:Int),
 fc w gz gw gv gr gd gm gt gk ge g s l m T->TB w->0<=s->s<=288230376151711744->0<=l->l<=800->bs.length<=6000-> -9223372036854775808<=z->z<=9223372036854775807->
 (((z<2\/36<z)/\x=1)\/(2<=z/\z<=36/\(bs=[]\/pv z.toNat 0 bs=none)/\x=11))->
 Calls Tryz.prog 17 #[.pointer (some ⟨gz,0,none⟩),.string ⟨⟨bs⟩⟩,.int .i64 z] w fun e w'=>∃qa qc s' m',e=.returned (.tuple #[.slice qa 0 qc,.int .i64 x])/\fc w' gz gw gv gr gd gm gt gk ge g s' l m' T/\(0<=s'/\s'<=s+72057594037927936)/\Out (·=g) w w'
def vM:Prop:=∀(w:World) (gz gw gv gr gd gm gt gk ge g:Nat) (s l m:Int) (T:bJ) (u:Value) (A b:Nat),
 fc w gz gw gv gr gd gm gt gk ge g s l m T->TB w->0<=s->s<=288230376151711744->0<=l->l<=800->jg w u A->wl A<=100->2<=b->b<18446744073709551616->
 Calls Tryz.prog 21 #[.pointer (some ⟨gz,0,none⟩),u,.int .u64 (b:Int)] w fun e w'=>∃qa qb qo qn qc s' m',e=.returned (.tuple #[.slice qa qn qc,.int .i64 0])/\(dg b A).length=qn/\cH w' qa qb qo qc (dg b A)/\(0<qn->w.heap.size<=qb)/\fc w' gz gw gv gr gd gm gt gk ge g s' l m' T/\(0<=s'/\s'<=s+72057594037927936)/\Out (·=g) w w'
def wS:Prop:=∀(w:World) (gz gw gv gr gd gm gt gk ge g:Nat) (s l m:Int) (T:bJ) (u:Value) (A b:Nat),
 fc w gz gw gv gr gd gm gt gk ge g s l m T->jg w u A->b<2->
 Calls Tryz.prog 21 #[.pointer (some ⟨gz,0,none⟩),u,.int .u64 (b:Int)] w fun e w'=>∃qa qc,e=.returned (.tuple #[.slice qa 0 qc,.int .i64 1])/\Below w.heap.size w w'
def yG:Prop:=∀(w:World) (gz gw gv gr gd gm gt gk ge g:Nat) (s l m:Int) (T:bJ) (ga:Option Addr) (ba oa ca la b:Nat) (xs:List Nat),
 fc w gz gw gv gr gd gm gt gk ge g s l m T->TB w->0<=s->s<=288230376151711744->0<=l->l<=800->xs.length=la->la<=1000->cH w ga ba oa ca xs->2<=b->b<18446744073709551616->(∀d,d ∈ xs->d<b)->
 Calls Tryz.prog 25 #[.pointer (some ⟨gz,0,none⟩),.int .u64 (b:Int),.slice ga la ca] w fun e w'=>∃q s' m',e=.returned (.tuple #[q,.int .i64 0])/\aU w.heap.size w' q (vl b xs)/\fc w' gz gw gv gr gd gm gt gk ge g s' l m' T/\(0<=s'/\s'<=s+72057594037927936)/\Out (·=g) w w'
def zv:Prop:=∀(w:World) (gz gw gv gr gd gm gt gk ge g:Nat) (s l m:Int) (T:bJ) (ga:Option Addr) (ba oa ca la b:Nat) (xs:List Nat),
 fc w gz gw gv gr gd gm gt gk ge g s l m T->TB w->0<=s->s<=288230376151711744->0<=l->l<=800->xs.length=la->la<=1000->cH w ga ba oa ca xs->b<18446744073709551616->(∀d,d ∈ xs->d<18446744073709551616)->(b<2\/∃d,d ∈ xs/\b<=d)->
 Calls Tryz.prog 25 #[.pointer (some ⟨gz,0,none⟩),.int .u64 (b:Int),.slice ga la ca] w fun e w'=>∃qa qc s' m',e=.returned (.tuple #[.slice qa 0 qc,.int .i64 1])/\fc w' gz gw gv gr gd gm gt gk ge g s' l m' T/\(0<=s'/\s'<=s+72057594037927936)/\Out (·=g) w w'
end
section
def sr(n:Nat):Nat:=Lib.bitLen (n-3)
theorem kL:∀(b a:Nat),a<=b->b<18446744073709551616->Lib.bitLen a<=Lib.bitLen b:=by
 intro b;induction b using Nat.strongRecOn with
 |_ b ih=>
  intro a h hb;by_cases h0:a=0
  ·rw[h0,Jv];exact aO _
  ·rw[Lib.bitLen_half a h0 (by omega),Lib.bitLen_half b (by omega) (by omega)];have:=ih (b/2) (by omega) (a/2) (AW h) (by omega);omega
theorem Kk(h:a<=b)(hb:b<=100000):sr a<=sr b:=kL _ _ (by omega) (by omega)
theorem tM(hn:4<=n)(hp:p<=(n-3)/2+3)(hb:n<=100000):sr p+1<=sr n:=by unfold sr;rw[Lib.bitLen_half (n-3) (by omega) (by omega)];have:=kL ((n-3)/2) (p-3) (by omega) (by omega);omega
theorem PC(h:n<=16384):sr n<=jP n:=by have:=kL n (n-3) (by omega) (by omega);unfold sr jP;omega
def chunk(xs:List Nat)(k j:Nat):List Nat:=(xs.drop (k*j)).take k
theorem nX(xs:List Nat)(k j:Nat):(chunk xs k j).length=min k (xs.length-k*j):=by simp[chunk]
theorem Ez(h:bG xs)(k j:Nat):bG (chunk xs k j):=gH (fJ h _) _
theorem MC(xs:List Nat)(k j:Nat)(h:k*j<=xs.length):aB (xs.take (k*(j+1)))=aB (xs.take (k*j))+18446744073709551616^(k*j)*aB (chunk xs k j):=by
 have e:xs.take (k*(j+1))=xs.take (k*j)++chunk xs k j:=by rw[cJ,List.take_add];rfl
 rw[e,jk,cF,bu h]
theorem zM{xs:List Nat}{k q C:Nat}{ns:List Nat}(hn:∀j,j<q->ns.getD j 0=aB (chunk xs k j)*C)(hk:∀j,j<q->k*j<=xs.length):∀i,i<=q->mC k ns i=aB (xs.take (k*i))*C
 |0=>fun _=>by simp[mC,aB]
 |i+1=>fun hi=>by rw[mC,zM hn hk i (by omega),hn i (by omega),MC xs k i (hk i (by omega)),aX,aF]
def zZ(B D N n k:Nat):Nat->Nat
 |0=>0
 |i+1=>zZ B D N n k i+lS B D N k (min k (n-k*i))
theorem yL(B D N n k:Nat):∀i,k*i<=n->zZ B D N n k i=i*lS B D N k k
 |0=>fun _=>by simp[zZ]
 |i+1=>fun h=>by rw[cJ]at h;rw[zZ,yL B D N n k i (by omega),bu (by omega),dJ]
theorem Jy(B D N n k q:Nat)(hk:0<k)(h1:n<=k*q)(h2:k*q<n+k):zZ B D N n k q=n/k*lS B D N k k+lS B D N k (n%k):=by
 have hd:=aS n k;have hm:=aD n hk;by_cases h0:n%k=0
 ·have hq:q=n/k:=by
   refine vf hk ?_;have a1:k*(n/k)=n:=(by omega);rw[a1];have:n∣n:=Nat.dvd_refl n;have c:=DJ (a:=k) (b:=q) (c:=n/k+1) hk;rw[cJ,a1]at c;have:=c.1 h2;have d:=au k (show q<=n/k by omega);omega
  subst hq;rw[yL B D N n k _ (by omega),h0,MH,dB]
 ·obtain⟨p,hp⟩:∃p,q=p+1:=⟨q-1,by
   have:q≠0:=by rintro rfl;rw[dO]at h1;have:n=0:=(by omega);subst this;simp at h0
   omega⟩
  subst hp;rw[cJ]at h1 h2;have hq:p=n/k:=by have c1:=DJ (a:=k) (b:=p) (c:=n/k+1) hk;have c2:=DJ (a:=k) (b:=n/k) (c:=p+1) hk;rw[cJ]at c1 c2;have:=c1.1 (by omega);have:=c2.1 (by omega);omega
  subst hq;rw[zZ,yL B D N n k _ (by omega),show n-k*(n/k)=n%k by omega,iF (by omega)]
def nN(B D N r n m:Nat):Nat:=
 if r=1 then n*m
 else if r=2 then n/m*lS B D N m m+lS B D N m (n%m)
 else if r=3 then lS B D N ((n+1)/2) ((n+1)/2)+lS B D N (n-(n+1)/2) (m-(n+1)/2)+lS B D N ((n+1)/2+1) ((n+1)/2+1)
 else if r=4 then lS B D N ((n+2)/3) ((n+2)/3)+3*lS B D N ((n+2)/3+1) ((n+2)/3+1)+lS B D N (n-2*((n+2)/3)) (m-2*((n+2)/3))
 else if r=5 then tf n m 3 else 0
theorem U6{B D N m:Nat}(e:AP B D N)(hm:m<=n):nN B D N (rt B D N n m) n m=lS B D N n m:=by
 have e1:=e.b1;unfold nN;rcases om n m hm e with⟨r,_⟩|⟨r,_,_⟩|⟨r,h1,h2⟩|⟨r,h1,h2⟩|⟨r,h1,_,h2⟩|⟨r,_,_,_,_⟩
 ·rw[tq r,r];simp
 ·rw[Au r,r];simp
 ·rw[O8 e hm r h1 h2,r];simp
 ·rw[ux e hm r h1 h2,r];simp
 ·rw[xk e hm r h1 h2,r];simp
 ·rw[xj r,r];simp
end
section
open Go.RowKit
structure abF(B gt gk ge g:Nat)(l:Int)(T:bJ)(n m h k:Nat)(fs cs:Array Value)(D:Nat->Prop)(St:Nat->World->Prop):Prop where
 go:∀(args:Array Value) (W:World),(callFunc k args).run Tryz.prog W=.ok (.enter k args) W
 next:∀i W W',St i W->Out (fun j=>B<=j) W W'->St i W'
 iG:∀i W,St i W->∃s' m',jH W gt gk ge g s' (l+1) m' T
 call:∀i W u v a c,i<5->St i W->Ub (fun j=>D j\/j=g) W u a (me n m h i).1->Ub (fun j=>D j\/j=g) W v c (me n m h i).2->
  Calls Tryz.prog k (fs++#[u,v]++cs) W fun e W'=>∃r,e=.returned r/\ft W.heap.size W' r (a*c)/\St (i+1) W'/\Out (fun j=>D j\/j=g) W W'
def QH:Prop:=∀(w:World) (gt gk ge g:Nat) (s l m:Int) (T:bJ) (ga gb:Option Addr) (b o cap la b' o' bM lb h:Nat) (xs ys:List Nat) (k:Nat) (fs cs:Array Value) (D:Nat->Prop) (St:Nat->World->Prop),
 jH w gt gk ge g s l m T->0<=l->l<=1000000->xs.length=la->cH w ga b o cap xs->bG xs->(0<la->¬D b)->ys.length=lb->cH w gb b' o' bM ys->bG ys->(0<lb->¬D b')->la<=16384->lb<=16384->
 h=(max la lb+2)/3->2*h<min la lb->¬D gt->¬D gk->¬D ge->¬D g->(∀j,D j->j<w.heap.size)->abF w.heap.size gt gk ge g l T (max la lb) (min la lb) h k fs cs D St->
 (∀W,Out (·=g) w W->jH W gt gk ge g s (l+1) (max m (l+1)) T->St 0 W)->
 Calls Tryz.prog 138 #[.pointer (some ⟨gt,0,none⟩),.slice ga la cap,.slice gb lb bM,.func (.func k) fs cs] w fun e w'=>∃v W,e=.returned (.tuple #[v,.bool true])/\aU w.heap.size w' v (aB xs*aB ys)/\St 5 W/\Out (·=g) W w'/\(∀s' m',jH W gt gk ge g s' (l+1) m' T->jH w' gt gk ge g s' l m' T)/\Out (fun j=>D j\/j=g) w w'
structure aeN(B gt gk ge g:Nat)(l:Int)(T:bJ)(n h k:Nat)(fs cs:Array Value)(D:Nat->Prop)(St:Nat->World->Prop):Prop where
 go:∀(args:Array Value) (W:World),(callFunc k args).run Tryz.prog W=.ok (.enter k args) W
 next:∀i W W',St i W->Out (fun j=>B<=j) W W'->St i W'
 iG:∀i W,St i W->∃s' m',jH W gt gk ge g s' (l+1) m' T
 call:∀i W u a,i<5->St i W->Ub (fun j=>D j\/j=g) W u a (me n n h i).1->
  Calls Tryz.prog k (fs++#[u]++cs) W fun e W'=>∃r,e=.returned r/\ft W.heap.size W' r (a*a)/\St (i+1) W'/\Out (fun j=>D j\/j=g) W W'
def QG:Prop:=∀(w:World) (gt gk ge g:Nat) (s l m:Int) (T:bJ) (ga:Option Addr) (b o cap la h:Nat) (xs:List Nat) (k:Nat) (fs cs:Array Value) (D:Nat->Prop) (St:Nat->World->Prop),
 jH w gt gk ge g s l m T->0<=l->l<=1000000->xs.length=la->cH w ga b o cap xs->bG xs->(0<la->¬D b)->la<=16384->
 h=(la+2)/3->2*h<la->¬D gt->¬D gk->¬D ge->¬D g->(∀j,D j->j<w.heap.size)->aeN w.heap.size gt gk ge g l T la h k fs cs D St->
 (∀W,Out (·=g) w W->jH W gt gk ge g s (l+1) (max m (l+1)) T->St 0 W)->
 Calls Tryz.prog 131 #[.pointer (some ⟨gt,0,none⟩),.slice ga la cap,.func (.func k) fs cs] w fun e w'=>∃v W,e=.returned (.tuple #[v,.bool true])/\aU w.heap.size w' v (aB xs*aB xs)/\St 5 W/\Out (·=g) W w'/\(∀s' m',jH W gt gk ge g s' (l+1) m' T->jH w' gt gk ge g s' l m' T)/\Out (fun j=>D j\/j=g) w w'
theorem Nq{D:Nat->Prop}{l:Nat}(h:Ub D w v n l):n<18446744073709551616^l:=by obtain⟨ga,b,o,cap,xs,_,hl,_,hd,hv,_⟩:=h;rw[<-hv, <-hl];exact bF hd
def One(w:World)(g:Nat)(v:Value)(t:Nat):Prop:=w.heap[g]?=some (.cells #[v] t (0,0))
theorem One.cell(h:One w g v t):w.cell? ⟨g,0,none⟩=some v:=ay w g 0 _ _ (0,0) h
theorem One.set(h:One w g v t)(u:Value):One (w.setCell ⟨g,0,none⟩ u) g u t:=by have:=jC w g 0 _ _ u h;show _=_;rw[this];rfl
theorem Out.set{D:Nat->Prop}(h:Out D w w'){i:Nat}(hd:D g)(u:Value):Out D w (w'.setCell ⟨g,i,none⟩ u):=
 h.trans ⟨rfl,rfl,rfl,by simp[World.setCell],fun k _ hn=>bo w' ⟨g,i,none⟩ k u (fun e=>hn (by rw[e];exact hd))⟩
end
section
structure zX(bl:Bool)(c0 c1 c2 c3 c4 p1 m1 p2:Nat):Prop where
 one:p1=c0+c1+c2+c3+c4
 neg:bl=true->m1+(c0+c2+c4)=c1+c3
 pos:bl=false->m1+(c1+c3)=c0+c2+c4
 two:p2=c0+2*c1+4*c2+8*c3+16*c4
theorem zX.le{c0 c1:Nat}(h:zX bl c0 c1 c2 c3 c4 p1 m1 p2):m1<=p1:=by
 obtain⟨h1,h2,h3,_⟩:=h;cases bl
 ·have:=h3 rfl;omega
 ·have:=h2 rfl;omega
theorem zX.V9{c0 c1:Nat}(h:zX bl c0 c1 c2 c3 c4 p1 m1 p2):(bl=true->(p1+m1)/2=c1+c3/\(p1-m1)/2=c0+c2+c4)/\(bl=false->(p1+m1)/2=c0+c2+c4/\(p1-m1)/2=c1+c3):=by
 obtain⟨h1,h2,h3,_⟩:=h;refine⟨fun e=>?_,fun e=>?_⟩
 ·have:=h2 e;omega
 ·have:=h3 e;omega
theorem acV(x y u v:Nat):((decide (x<y)!=decide (u<v))=true->nd x y*nd u v+(x*u+y*v)=x*v+y*u)/\((decide (x<y)!=decide (u<v))=false->nd x y*nd u v+(x*v+y*u)=x*u+y*v):=by
 by_cases h1:x<y<;>by_cases h2:u<v
 ·obtain⟨d,rfl⟩:∃d,y=x+d:=⟨y-x,by omega⟩;obtain⟨e,rfl⟩:∃e,v=u+e:=⟨v-u,by omega⟩;have a1:nd x (x+d)=d:=by unfold nd;omega
  have a2:nd u (u+e)=e:=by unfold nd;omega
  rw[a1,a2];simp only[h1,h2,decide_true,bne_self_eq_false];exact⟨fun h=>(Bool.false_ne_true h).elim,fun _=>by grind⟩
 ·obtain⟨d,rfl⟩:∃d,y=x+d:=⟨y-x,by omega⟩;obtain⟨e,rfl⟩:∃e,u=v+e:=⟨u-v,by omega⟩;have a1:nd x (x+d)=d:=by unfold nd;omega
  have a2:nd (v+e) v=e:=by unfold nd;omega
  rw[a1,a2];refine⟨fun _=>by grind,fun h=>?_⟩;rw[bg h1,aM h2]at h;exact absurd h (by decide)
 ·obtain⟨d,rfl⟩:∃d,x=y+d:=⟨x-y,by omega⟩;obtain⟨e,rfl⟩:∃e,v=u+e:=⟨v-u,by omega⟩;have a1:nd (y+d) y=d:=by unfold nd;omega
  have a2:nd u (u+e)=e:=by unfold nd;omega
  rw[a1,a2];refine⟨fun _=>by grind,fun h=>?_⟩;rw[aM h1,bg h2]at h;exact absurd h (by decide)
 ·obtain⟨d,rfl⟩:∃d,x=y+d:=⟨x-y,by omega⟩;obtain⟨e,rfl⟩:∃e,u=v+e:=⟨u-v,by omega⟩;have a1:nd (y+d) y=d:=by unfold nd;omega
  have a2:nd (v+e) v=e:=by unfold nd;omega
  rw[a1,a2];refine⟨fun h=>?_,fun _=>by grind⟩;rw[aM h1,aM h2]at h;exact absurd h (by decide)
theorem Bt(a0 a1 a2 b0 b1 b2:Nat):zX (decide (a0+a2<a1)!=decide (b0+b2<b1)) (a0*b0) (a0*b1+a1*b0) (a0*b2+a1*b1+a2*b0) (a1*b2+a2*b1) (a2*b2) ((a0+a1+a2)*(b0+b1+b2)) (nd (a0+a2) a1*nd (b0+b2) b1) ((a0+2*a1+4*a2)*(b0+2*b1+4*b2)):=by
 obtain⟨h1,h2⟩:=acV (a0+a2) a1 (b0+b2) b1;refine⟨by grind,fun h=>?_,fun h=>?_,by grind⟩
 ·have:=h1 h;generalize nd (a0+a2) a1*nd (b0+b2) b1=D at *
  grind
 ·have:=h2 h;generalize nd (a0+a2) a1*nd (b0+b2) b1=D at *
  grind
theorem VR(a0 a1 a2:Nat):zX false (a0*a0) (a0*a1+a1*a0) (a0*a2+a1*a1+a2*a0) (a1*a2+a2*a1) (a2*a2) ((a0+a1+a2)*(a0+a1+a2)) (nd (a0+a2) a1*nd (a0+a2) a1) ((a0+2*a1+4*a2)*(a0+2*a1+4*a2)):=by
 have h:=Bt a0 a1 a2 a0 a1 a2;rwa [bne_self_eq_false]at h
theorem MQ(P a0 a1 a2 b0 b1 b2:Nat):a0*b0+P*(a0*b1+a1*b0)+P*P*(a0*b2+a1*b1+a2*b0)+P*P*P*(a1*b2+a2*b1)+P*P*P*P*(a2*b2)=(a0+P*a1+P*P*a2)*(b0+P*b1+P*P*b2):=by grind
theorem Lw(m P:Nat):m%P+P*(m/P%P)+P*P*(m/P/P)=m:=by have h1:=aS m P;have h2:=aS (m/P) P;rw[aF,dt, <-aH,fj (m/P%P),h2];omega
theorem Yt{m h:Nat}(hm:m<18446744073709551616^n)(hh:2*h<=n):m/18446744073709551616^h/18446744073709551616^h<18446744073709551616^(n-2*h):=by rw[cI, <-aQ];refine qp ?_;rw[<-aQ];rwa [show h+h+(n-2*h)=n by omega]
theorem XD(h:a<=b):18446744073709551616^a<=18446744073709551616^b:=aA (by omega) h
theorem aa5(h0:a0<P)(h1:a1<P)(h2:a2<P):a0+a1+a2<P*18446744073709551616:=by omega
theorem aa7(h0:a0<P)(h1:a1<P)(h2:a2<P):nd (a0+a2) a1<P*18446744073709551616:=by unfold nd;omega
theorem aa6(h0:a0<P)(h1:a1<P)(h2:a2<P):a0+2*a1+4*a2<P*18446744073709551616:=by omega
end
section
open Go.RowKit
theorem Bw(w:World)(ga:Option Addr)(n cap h:Nat)(hn:n<=16384)(hh:h=(n+1)/2):Calls Tryz.prog 155 #[.slice ga n cap] w fun e w'=>e=.returned (.int .i64 (h:Int))/\w'=w:=by
 obtain⟨m,hm⟩:∃m,m=n+1:=⟨_,rfl⟩;have e1:(n:Int)+1=(m:Int):=by omega
 have e2:IntKind.i64.wrap (m:Int)=(m:Int):=by rw[ao];omega
 have e3:(m:Int).tdiv 2=(h:Int):=by rw[lz (by omega)];omega
 have e4:IntKind.i64.wrap (h:Int)=(h:Int):=by rw[ao];omega
 clear hm hh hn;go_enter Tryz.func155,Tryz.ntmps155;go_wp2;go_ret;exact⟨rfl,rfl⟩
theorem Dr(w:World)(ga:Option Addr)(b o cap n N:Nat)(xs:List Nat)(hl:xs.length=n)(Ul:n<=N)(hN:N<=1099511627776)(hR:cH w ga b o cap xs):Calls Tryz.prog 184 #[.slice ga n cap,.int .i64 (N:Int)] w fun e w'=>e=.returned (.slice (some ⟨w.heap.size,0,none⟩) N N)/\cW w' w.heap.size (xs++List.replicate (N-n) 0)/\Below w.heap.size w w':=by
 have HC:=ag (fun ob=>rm hR ob);clear hR;have qG:=iV N N (N:Int) rfl rfl (by omega);go_enter Tryz.func184,Tryz.ntmps184
 go_wp2_with (refine wpList_copy_splice rfl _ _ 38 38 rfl 47 dT Tryz.pL _ _ N N n cap rfl rfl w.heap.size 0 (dS N) 47 ?h1 (iU xs) ?h2 ?h3 ?h4 (gD _) w.heap.size w ?h5 (af _) ?_)
 case h1=>exact aI w _
 case h2=>rw[dL,hl];exact(bu (by omega)).symm
 case h3=>exact ae HC _
 case h4=>rw[dL,kU,hl];omega
 case h5=>exact(aj _ _).alloc (af _) _
 intro w2 kW jA;have hB:cW w2 w.heap.size (xs++List.replicate (N-n) 0):=by have e:=nj xs n (N-n) hl;rw[show n+(N-n)=N from by omega]at e;have h:=kW.out;rw[e]at h;exact h
 clear kW HC qG;go_wp2;go_ret;exact⟨fg rfl,hB,jA⟩
structure Pcs(B:Nat)(w:World)(v:Value)(xs:List Nat)(h:Nat):Prop where
 out:∃g0 g1 g2 zs,v=.agg #[.slice (some ⟨g0,0,none⟩) h h,.slice (some ⟨g1,0,none⟩) (xs.length-h) (xs.length-h),.slice (some ⟨g2,0,none⟩) (h+1) (h+1)]/\
  B<=g0/\B<=g1/\B<=g2/\cW w g0 (xs.take h)/\cW w g1 (xs.drop h)/\cW w g2 zs/\zs.length=h+1/\bG zs/\aB zs=aB (xs.take h)+aB (xs.drop h)
theorem Nu(w:World)(u v x:Value)(m n p k:Nat)(z:Int)(hz:(k:Int)=min (max z 0) 16384)(hu:fI w u m)(hv:fI w v n)(hx:fI w x p):Calls Tryz.prog 135 #[.int .i64 z,.slice (some ⟨w.heap.size,0,none⟩) 3 3] (w.alloc (.cells #[u,v,x] 38)) fun e w'=>∃r,e=.returned r/\aU w.heap.size w' r (m+18446744073709551616^k*n+18446744073709551616^(2*k)*p)/\Below w.heap.size w w':=by
 have hb:Below w.heap.size w (w.alloc (.cells #[u,v,x] 38)):=(aj _ _).alloc (af _) _;refine(yU _ _ _ _ 3 3 k z _ _ rfl (by omega) hz (zO w u v x m n p 38 hu hv hx)).mono ?_;rintro e w' ⟨r,rfl,hr,h⟩;have e2:mC k [m,n,p] 3=m+18446744073709551616^k*n+18446744073709551616^(2*k)*p:=by simp[mC,Nat.mul_comm k 2]
 rw[e2]at hr;exact⟨r,rfl,hr.mono hb.size,aJ hb h⟩
theorem fI.is(h:fI w v n):∃g l c,v=.slice g l c:=by obtain⟨ga,b,o,cap,xs,rfl,_⟩:=h;exact⟨_,_,_,rfl⟩
theorem yX(w:World)(u v x:Value)(m n p h L:Nat)(hh:h<=16384)(hL:L<=1073741824)(hp:p<18446744073709551616^L)(hle:m+n<=p)(hu:fI w u m)(hv:fI w v n)(hx:fI w x p):Calls Tryz.prog 157 #[.int .i64 (h:Int),u,v,x] w fun e w'=>∃r,e=.returned r/\aU w.heap.size w' r (m+18446744073709551616^h*(p-(m+n))+18446744073709551616^(2*h)*n)/\Below w.heap.size w w':=by
 obtain⟨gu,lu,cu,rfl⟩:=hu.is;obtain⟨gv,lv,cv,rfl⟩:=hv.is;have DU:Hid (m+n<18446744073709551616^L):=aN hle hp;have Un:Hid (p-(m+n)<18446744073709551616^L):=aN (yD _ _) hp;have CA:=ag (th w _ _ m n hu hv);have HU:=ag hu;have HV:=ag hv;have HX:=ag hx;have hz:Hid ((h:Int)=min (max (h:Int) 0) 16384):=by show _=_;omega
 have HL:=ag hle;clear hu hv hx hle hp;go_enter Tryz.func157,Tryz.ntmps157
 go_wp2_with fail
 refine(ae CA).mono ?_;rintro e w1 ⟨r1,rfl,h1,b1⟩;clear CA;have CS:=ag (su w1 x r1 p (m+n) ((ae HX).next b1) (h1.kj (ae DU) hL))
 go_wp2_with fail
 refine(ae CS).mono ?_;rintro e w2 ⟨b2,⟨_,r2,rfl,h2⟩|⟨dh,_⟩⟩
 case inr=>exact absurd (ae HL) (by omega)
 have QR:=aJ b1 b2;have i2:=h2.kj (ae Un) hL;obtain⟨g2,l2,c2,rfl⟩:=i2.is;have CJ:=ag (Nu w2 _ _ _ m (p-(m+n)) n h (h:Int) (ae hz) ((ae HU).next QR) i2 ((ae HV).next QR));clear CS h1 h2 i2
 go_wp2_with fail
 refine(ae CJ).mono ?_;rintro e w3 ⟨r3,rfl,h3,b3⟩;clear CJ;go_wp2;go_ret;exact⟨r3,rfl,h3.mono QR.size,aJ QR b3⟩
theorem GZ{l:Nat}(hr:cH w ga b o cap xs)(hd:bG xs)(hl:xs.length=l)(h:l<=1073741824):fI w (.slice ga l cap) (aB xs):=by subst hl;exact⟨_,_,_,_,_,rfl,hr,hd,rfl,h⟩
theorem MR(w:World)(R:Nat)(x y z:Value):w.grownBy (((w.setCell ⟨R,0,none⟩ x).setCell ⟨R,1,none⟩ y).setCell ⟨R,2,none⟩ z) (some R):=
 cj (cj (aY w R 0 x) (aY _ R 1 y)) (aY _ R 2 z)
theorem tL(w:World)(ga:Option Addr)(b o cap n h:Nat)(xs:List Nat)(hl:xs.length=n)(hn:n<=16384)(h0:0<h)(hh:h<n)(h2:n<=2*h)(hR:cH w ga b o cap xs)(hd:bG xs):Calls Tryz.prog 156 #[.slice ga n cap,.int .i64 (h:Int)] w fun e w'=>∃v,e=.returned v/\Pcs w.heap.size w' v xs h/\Below w.heap.size w w':=by
 have hg:=hR.head (by omega);subst hg;have ks:=hR.room;rw[hl]at ks;have dh:=hR.lt (by omega);obtain⟨k,hk⟩:∃k,n-h=k:=⟨_,rfl⟩;have r0:=hR.take h (by omega);have r1:=hR.drop h (by omega);have vn:(xs.take h).length=h:=by simp;omega
 have qk:(xs.drop h).length=k:=by simp;omega
 have bb:Below w.heap.size w (w.alloc (.cells #[.slice none 0 0,.slice none 0 0,.slice none 0 0] 196)):=(aj _ _).alloc (af _) _;have HX:Hid (∀W,Below (w.alloc (.cells #[.slice none 0 0,.slice none 0 0,.slice none 0 0] 196)).heap.size (w.alloc (.cells #[.slice none 0 0,.slice none 0 0,.slice none 0 0] 196)) W->W.heap[w.heap.size]?=some (.cells #[.slice none 0 0,.slice none 0 0,.slice none 0 0] 196 (0,0))):=fun W q=>(q.block w.heap.size (by simp)).trans (aI w _);obtain⟨W1,mP⟩:∃W1,w.alloc (.cells #[.slice none 0 0,.slice none 0 0,.slice none 0 0] 196)=W1:=⟨_,rfl⟩;rw[mP]at bb HX;obtain⟨G,hG⟩:∃G,w.heap.size=G:=⟨_,rfl⟩;have r0:=r0.next bb;have r1:=r1.next bb;go_enter Tryz.func156,Tryz.ntmps156;have hch:¬cap=h:=by omega
 have afP:h<=cap:=by omega
 have ad1:h<=n:=by omega
 have d0:=gH hd h;have d1:=fJ hd h;have aek:Hid (aB (xs.take h)+aB (xs.drop h)<18446744073709551616^(h+1)):=by
  refine Kh ?_ ?_
  ·have:=bF d0;rwa [vn]at this
  ·refine az (bF d1) (aA (by omega) ?_);omega
 obtain⟨H1,lV⟩:∃H1,H1=h+1:=⟨_,rfl⟩;have HP:Hid (∀W g0 g1 g2 zs,G<=g0->G<=g1->G<=g2->cW W g0 (xs.take h)->cW W g1 (xs.drop h)->cW W g2 zs->zs.length=H1->bG zs->aB zs=aB (xs.take h)+aB (xs.drop h)->Pcs w.heap.size W (.agg #[.slice (some ⟨g0,0,none⟩) h h,.slice (some ⟨g1,0,none⟩) k k,.slice (some ⟨g2,0,none⟩) H1 H1]) xs h):=fun W g0 g1 g2 zs i0 i1 i2 k0 k1 k2 z0 z1 z2=>by subst hG lV;refine⟨⟨g0,g1,g2,zs,?_,i0,i1,i2,k0,k1,k2,z0,z1,z2⟩⟩;rw[hl,hk]
 have r0:=r0.drew;have r1:=r1.drew;have bb:=ag bb;clear hR hd hl h2 dh ks;generalize xs.take h=x0 at *;generalize xs.drop h=x1 at *;have hz:(h:Int)+1=(H1:Int):=by omega
 have gY:IntKind.i64.wrap (H1:Int)=(H1:Int):=by rw[ao];omega
 have hH2:H1<=16385:=by omega
 rw[<-lV]at aek;clear lV;go_wp2
 go_region
 clear mP;have bl:Below W1.heap.size W1 W1.drew:=(aj _ _).drew
 go_wp2_with fail
 refine(Dr _ _ _ _ _ _ _ _ vn (af _) (by omega) r0).mono ?_;rintro e w2 ⟨rfl,k2,b2⟩;have bl:=aJ bl b2;have r0:=r0.next b2;have r1:=r1.next b2
 go_wp2_with fail
 refine(Dr _ _ _ _ _ _ _ _ qk (af _) (by omega) r1).mono ?_;rintro e w3 ⟨rfl,k3,b3⟩;have bl:=aJ bl b3;have k2:cW w3 W1.drew.heap.size _:=(b3.block _ k2.lt).trans k2;have r0:=r0.next b3;have r1:=r1.next b3
 go_wp2_with fail
 refine(th _ _ _ _ _ (GZ r0 d0 vn (by omega)) (GZ r1 d1 qk (by omega))).mono ?_;rintro e w4 ⟨v4,rfl,n4,b4⟩;obtain⟨g4,q4,c4,ys,rfl,r4,hc4,Mj,_⟩:=n4.rep;have hl4:ys.length<=H1:=mT hc4 (by rw[Mj];exact ae aek);have bl:=aJ bl b4;have k2:cW w4 W1.drew.heap.size _:=(b4.block _ k2.lt).trans k2;have k3:cW w4 w2.heap.size _:=(b4.block _ k3.lt).trans k3;clear n4 r0 r1
 go_wp2_with fail
 refine(Dr _ _ _ _ _ _ _ _ rfl hl4 (by omega) r4).mono ?_;rintro e w5 ⟨rfl,k5,b5⟩;have bl:=aJ bl b5;have k2:cW w5 W1.drew.heap.size _:=(b5.block _ k2.lt).trans k2;have k3:cW w5 w2.heap.size _:=(b5.block _ k3.lt).trans k3;have kx:=ae HX _ bl;rw[hG]at kx;have s2:=b2.size;have s3:=b3.size;have s4:=b4.size;have GW:G<W1.heap.size:=by have:=(ah.1 (ae HX W1 (aj _ _))).1;rwa [hG]at this
 have GD:W1.drew.heap.size=W1.heap.size:=rfl;rw[gW,mj,dU]at k2 k3;rw[GD]at k2 s2;have l5:Hid ((ys++List.replicate (H1-ys.length) 0).length=H1):=by show _=_;simp;omega
 have v5:Hid (aB (ys++List.replicate (H1-ys.length) 0)=aB x0+aB x1):=by show _=_;rw[qU,Mj]
 have d5:=ug hc4.1 (H1-ys.length);have HB:=ag (aJ (ae bb) bl);generalize ys++List.replicate (H1-ys.length) 0=zs at *;have c0:w5.cell? ⟨G,0,none⟩=some (.slice none 0 0):=ay _ G 0 _ _ (0,0) kx;have c1:w5.cell? ⟨G,1,none⟩=some (.slice none 0 0):=ay _ G 1 _ _ (0,0) kx;have c2:w5.cell? ⟨G,2,none⟩=some (.slice none 0 0):=ay _ G 2 _ _ (0,0) kx;have f0:=bZ _ G 0 _ _ kx;have f1:=bZ _ G 1 _ _ kx;have f2:=bZ _ G 2 _ _ kx;go_wp2;have gr:=MR w5 G (.slice (some ⟨W1.heap.size,0,none⟩) h h) (.slice (some ⟨w2.heap.size,0,none⟩) k k) (.slice (some ⟨w4.heap.size,0,none⟩) H1 H1);refine dR (v:=.agg #[.slice (some ⟨W1.heap.size,0,none⟩) h h,.slice (some ⟨w2.heap.size,0,none⟩) k k,.slice (some ⟨w4.heap.size,0,none⟩) H1 H1]) (by simp[results,Tryz.results156,go_sem,c0,c1,c2]) rfl ?_;refine⟨_,rfl,ae HP _ _ _ _ zs (by omega) (by omega) (by omega) ((gr.block _ k2.lt (by simp;omega)).trans k2) ((gr.block _ k3.lt (by simp;omega)).trans k3) ((gr.block _ k5.lt (by simp;omega)).trans k5) (ae l5) d5 (ae v5),?_⟩;exact gS (ae HB) gr (by omega) (ae HB).size
theorem za(w:World)(ga:Option Addr)(n cap h:Nat)(hn:n<=1073741824)(hh:h=(n+2)/3):Calls Tryz.prog 158 #[.slice ga n cap] w fun e w'=>e=.returned (.int .i64 (h:Int))/\w'=w:=by
 obtain⟨m,hm⟩:∃m,m=n+2:=⟨_,rfl⟩;have e1:(n:Int)+2=(m:Int):=by omega
 have e2:IntKind.i64.wrap (m:Int)=(m:Int):=by rw[ao];omega
 have e3:(m:Int).tdiv 3=(h:Int):=by rw[lz (by omega)];omega
 have e4:IntKind.i64.wrap (h:Int)=(h:Int):=by rw[ao];omega
 clear hm hh hn;go_enter Tryz.func158,Tryz.ntmps158;go_wp2;go_ret;exact⟨rfl,rfl⟩
theorem mK(w:World)(u v:Value)(m n:Nat)(h:n<=m)(hu:fI w u m)(hv:fI w v n):Calls Tryz.prog 188 #[u,v] w fun e w'=>∃r,e=.returned r/\aU w.heap.size w' r (m-n)/\Below w.heap.size w w':=by
 have CS:=ag (su w u v m n hu hv);have H:=ag h;clear hu hv h;go_enter Tryz.func188,Tryz.ntmps188
 go_wp2_with fail
 refine(ae CS).mono ?_;rintro e w2 ⟨b2,⟨_,r2,rfl,h2⟩|⟨dh,_⟩⟩
 case inr=>exact absurd (ae H) (by omega)
 clear CS H;go_wp2;go_ret;exact⟨r2,rfl,h2,b2⟩
theorem Lf(w:World)(u:Value)(m q:Nat)(hm:m=3*q)(hu:fI w u m):Calls Tryz.prog 189 #[u] w fun e w'=>∃v,e=.returned (.tuple #[v,.bool true])/\aU w.heap.size w' v q/\Below w.heap.size w w':=by
 have CD:=EJ w u m 3 (by decide) (by decide) hu;rw[show m%3=0 by omega,show m/3=q by omega]at CD;replace CD:=ag CD;clear hu hm;go_enter Tryz.func189,Tryz.ntmps189
 go_wp2_with fail
 refine(ae CD).mono ?_;rintro e w2 ⟨r2,rfl,h2,b2⟩;clear CD;go_wp2
 go_ret2
 exact⟨r2,rfl,h2,b2⟩
theorem TI(w:World)(ga:Option Addr)(b o cap n N:Nat)(xs:List Nat)(hl:xs.length=n)(Ul:n<=N)(hN:N<=1099511627776)(hR:cH w ga b o cap xs):Calls Tryz.prog 186 #[.slice ga n cap,.int .i64 (N:Int)] w fun e w'=>e=.returned (.slice (some ⟨w.heap.size,0,none⟩) N N)/\cW w' w.heap.size (xs++List.replicate (N-n) 0)/\Below w.heap.size w w':=by
 have HC:=ag (fun ob=>rm hR ob);clear hR;have qG:=iV N N (N:Int) rfl rfl (by omega);go_enter Tryz.func186,Tryz.ntmps186
 go_wp2_with (refine wpList_copy_splice rfl _ _ 38 38 rfl 47 dT Tryz.pL _ _ N N n cap rfl rfl w.heap.size 0 (dS N) 47 ?h1 (iU xs) ?h2 ?h3 ?h4 (gD _) w.heap.size w ?h5 (af _) ?_)
 case h1=>exact aI w _
 case h2=>rw[dL,hl];exact(bu (by omega)).symm
 case h3=>exact ae HC _
 case h4=>rw[dL,kU,hl];omega
 case h5=>exact(aj _ _).alloc (af _) _
 intro w2 kW jA;have hB:cW w2 w.heap.size (xs++List.replicate (N-n) 0):=by have e:=nj xs n (N-n) hl;rw[show n+(N-n)=N from by omega]at e;have h:=kW.out;rw[e]at h;exact h
 clear kW HC qG;go_wp2;go_ret;exact⟨fg rfl,hB,jA⟩
theorem ui(w:World)(B:Nat)(u:Value)(m N:Nat)(hm:m<18446744073709551616^N)(hN:N<=1048576)(hu:aU B w u m):Calls Tryz.prog 186 #[u,.int .i64 (N:Int)] w fun e w'=>∃zs,e=.returned (.slice (some ⟨w.heap.size,0,none⟩) N N)/\cW w' w.heap.size zs/\zs.length=N/\bG zs/\aB zs=m/\Below w.heap.size w w':=by
 obtain⟨g4,q4,c4,ys,rfl,r4,hc4,Mj,_⟩:=hu.rep;have hl4:ys.length<=N:=mT hc4 (by rw[Mj];exact hm);refine(TI w _ _ _ _ _ N ys rfl hl4 (by omega) r4).mono ?_;rintro e w2 ⟨rfl,k,b⟩;exact⟨_,rfl,k,by simp;omega,ug hc4.1 _,by rw[qU,Mj],b⟩
theorem Mx(w:World)(o1 o2 o3:Obj):(((w.alloc o1).alloc o2).alloc o3).heap[w.heap.size]?=some o1/\(((w.alloc o1).alloc o2).alloc o3).heap[w.heap.size+1]?=some o2/\(((w.alloc o1).alloc o2).alloc o3).heap[w.heap.size+1+1]?=some o3:=by
 have s1:(w.alloc o1).heap.size=w.heap.size+1:=by simp
 have s2:((w.alloc o1).alloc o2).heap.size=w.heap.size+1+1:=by simp
 have b1:Below (w.alloc o1).heap.size (w.alloc o1) ((w.alloc o1).alloc o2):=(aj _ _).alloc (af _) _;have b2:Below ((w.alloc o1).alloc o2).heap.size ((w.alloc o1).alloc o2) (((w.alloc o1).alloc o2).alloc o3):=(aj _ _).alloc (af _) _;refine⟨?_,?_,?_⟩
 ·exact(b2.block _ (by omega)).trans ((b1.block _ (by omega)).trans (aI w o1))
 ·rw[<-s1];exact(b2.block _ (by omega)).trans (aI (w.alloc o1) o2)
 ·rw[<-s2];exact aI ((w.alloc o1).alloc o2) o3
theorem NN(w:World)(u0 u1 u2 u3 u4:Value)(n0 n1 n2 n3 n4 t:Nat)(h0:fI w u0 n0)(h1:fI w u1 n1)(h2:fI w u2 n2)(h3:fI w u3 n3)(h4:fI w u4 n4):wO (w.alloc (.cells #[u0,u1,u2,u3,u4] t)) (some ⟨w.heap.size,0,none⟩) w.heap.size 0 [u0,u1,u2,u3,u4] [n0,n1,n2,n3,n4]:=by
 have hb:Below w.heap.size w (w.alloc (.cells #[u0,u1,u2,u3,u4] t)):=(aj _ _).alloc (af _) _;refine⟨fun _=>rfl,rfl,fun j hj=>?_,fun j hj=>?_⟩
 ·have xz:j<5:=hj;rw[bh,ay _ w.heap.size j #[u0,u1,u2,u3,u4] t (0,0) (aI w _)]
  match j,xz with
  |0,_=>rfl
  |1,_=>rfl
  |2,_=>rfl
  |3,_=>rfl
  |4,_=>rfl
 ·have xz:j<5:=hj
  match j,xz with
  |0,_=>exact h0.next hb
  |1,_=>exact h1.next hb
  |2,_=>exact h2.next hb
  |3,_=>exact h3.next hb
  |4,_=>exact h4.next hb
def Ik(k n0 n1 n2 n3 n4:Nat):Nat:=n0+18446744073709551616^k*n1+18446744073709551616^(k*2)*n2+18446744073709551616^(k*3)*n3+18446744073709551616^(k*4)*n4
theorem RQ(w:World)(u0 u1 u2 u3 u4:Value)(n0 n1 n2 n3 n4 k:Nat)(z:Int)(hz:(k:Int)=min (max z 0) 16384)(h0:fI w u0 n0)(h1:fI w u1 n1)(h2:fI w u2 n2)(h3:fI w u3 n3)(h4:fI w u4 n4):Calls Tryz.prog 135 #[.int .i64 z,.slice (some ⟨w.heap.size,0,none⟩) 5 5] (w.alloc (.cells #[u0,u1,u2,u3,u4] 38)) fun e w'=>∃r,e=.returned r/\aU w.heap.size w' r (Ik k n0 n1 n2 n3 n4)/\Below w.heap.size w w':=by
 have hb:Below w.heap.size w (w.alloc (.cells #[u0,u1,u2,u3,u4] 38)):=(aj _ _).alloc (af _) _;refine(yU _ _ _ _ 5 5 k z _ _ rfl (by omega) hz (NN w u0 u1 u2 u3 u4 n0 n1 n2 n3 n4 38 h0 h1 h2 h3 h4)).mono ?_;rintro e w' ⟨r,rfl,hr,h⟩;have e2:mC k [n0,n1,n2,n3,n4] 5=Ik k n0 n1 n2 n3 n4:=by simp[mC,Ik]
 rw[e2]at hr;exact⟨r,rfl,hr.mono hb.size,aJ hb h⟩
theorem MX(w:World)(u0 u1 u2 u3 u4:Value)(bl:Bool)(c0 c1 c2 c3 c4 p1 m1 p2 L:Nat)(hL:L<=1073741824)(hF:zX bl c0 c1 c2 c3 c4 p1 m1 p2)(hp:p1+m1<18446744073709551616^L)(h0:fI w u0 c0)(h1:fI w u1 p1)(h2:fI w u2 m1)(h3:fI w u3 p2)(h4:fI w u4 c4):Calls Tryz.prog 187 #[.agg #[u0,u1,u2,u3,u4,.bool bl]] w fun e w'=>∃x y,e=.returned (.tuple #[x,y])/\aU w.heap.size w' x (c0+c2+c4)/\aU w.heap.size w' y (c1+c3)/\Below w.heap.size w w':=by
 obtain⟨f1,f2⟩:=hF.V9;have HM:=ag hF.le;have DU:Hid (p1-m1<18446744073709551616^L):=aN (by omega) hp;have HP:=ag hp;have F1:=ag f1;have F2:=ag f2;obtain⟨g0,l0,k0,rfl⟩:=h0.is;obtain⟨g1,l1,k1,rfl⟩:=h1.is;obtain⟨g2,l2,k2,rfl⟩:=h2.is;obtain⟨g3,l3,k3,rfl⟩:=h3.is;obtain⟨g4,l4,k4,rfl⟩:=h4.is;have H1:=ag h1;have H2:=ag h2;clear f1 f2 hF hp h0 h1 h2 h3 h4;go_enter Tryz.func187,Tryz.ntmps187;go_wp2
 go_region
 have b0:Below w.heap.size w (w.alloc (.cells #[.slice g0 l0 k0,.slice g1 l1 k1,.slice g2 l2 k2,.slice g3 l3 k3,.slice g4 l4 k4,.bool bl] 201)).drew:=((aj _ _).alloc (af _) _).drew;have HX:Hid (∀W,Below (w.alloc (.cells #[.slice g0 l0 k0,.slice g1 l1 k1,.slice g2 l2 k2,.slice g3 l3 k3,.slice g4 l4 k4,.bool bl] 201)).drew.heap.size (w.alloc (.cells #[.slice g0 l0 k0,.slice g1 l1 k1,.slice g2 l2 k2,.slice g3 l3 k3,.slice g4 l4 k4,.bool bl] 201)).drew W->W.cell? ⟨w.heap.size,5,none⟩=some (.bool bl)):=fun W q=>ay _ w.heap.size 5 _ _ (0,0) ((q.block w.heap.size (by simp[World.drew])).trans (aI w _));generalize (w.alloc (.cells #[.slice g0 l0 k0,.slice g1 l1 k1,.slice g2 l2 k2,.slice g3 l3 k3,.slice g4 l4 k4,.bool bl] 201)).drew=W0 at *;have s0:=ag b0.size;have i1:=(ae H1).next b0;have i2:=(ae H2).next b0;have B0:=ag b0;clear H1 H2 b0
 go_wp2_with fail
 refine(th _ _ _ _ _ i1 i2).mono ?_;rintro e w1 ⟨r1,rfl,n1,b1⟩
 go_wp2_with fail
 refine(tV _ _ 1 _ 1 (by decide) (n1.kj (ae HP) hL)).mono ?_;rintro e w2 ⟨r2,rfl,n2,b2⟩;have QR:=aJ b1 b2;clear n1
 go_wp2_with fail
 refine(mK _ _ _ _ _ (ae HM) (i1.next QR) (i2.next QR)).mono ?_;rintro e w3 ⟨r3,rfl,n3,b3⟩
 go_wp2_with fail
 refine(tV _ _ 1 _ 1 (by decide) (n3.kj (ae DU) hL)).mono ?_;rintro e w4 ⟨r4,rfl,n4,b4⟩;have b14:=aJ (aJ QR b3) b4;have c5:=ae HX _ b14;have N2:=ag (((n2.next b3).next b4).mono (ak (ae s0) b1.size));have N4:=ag (n4.mono (ak (ae s0) (aJ QR b3).size));have BB:=ag (aJ (ae B0) b14);clear n2 n3 n4 i1 i2 b1 b2 b3 b4 QR b14;cases bl with
 |true=>
  obtain⟨f1,f2⟩:=ae F1 rfl;rw[fi,f1]at N2;rw[fi,f2]at N4;clear F1 F2 f1 f2 HP DU HM;go_wp2
  go_ret2
  exact⟨_,_,rfl,ae N4,ae N2,ae BB⟩
 |false=>
  obtain⟨f1,f2⟩:=ae F2 rfl;rw[fi,f1]at N2;rw[fi,f2]at N4;clear F1 F2 f1 f2 HP DU HM;go_wp2
  go_ret2
  exact⟨_,_,rfl,ae N2,ae N4,ae BB⟩
theorem zX.adj{c0 c1:Nat}(h:zX bl c0 c1 c2 c3 c4 p1 m1 p2):p1<=p2:=by have h1:=h.one;have h2:=h.two;omega
theorem zn(w:World)(u0 u1 u2 u3 u4:Value)(bl:Bool)(c0 c1 c2 c3 c4 p1 m1 p2 h L:Nat)(hh:h<=16384)(hL:L<=1073741824)(hF:zX bl c0 c1 c2 c3 c4 p1 m1 p2)(hp:2*p2<18446744073709551616^L)(h0:fI w u0 c0)(h1:fI w u1 p1)(h2:fI w u2 m1)(h3:fI w u3 p2)(h4:fI w u4 c4):Calls Tryz.prog 160 #[.agg #[u0,u1,u2,u3,u4,.bool bl],.int .i64 (h:Int)] w fun e w'=>∃r,e=.returned r/\aU w.heap.size w' r (Ik h c0 c1 c2 c3 c4)/\Below w.heap.size w w':=by
 have q1:=hF.adj;have q2:=hF.le;have q3:=hF.two;have hz:Hid ((h:Int)=min (max (h:Int) 0) 16384):=by show _=_;omega
 have CH:=ag (fun W (b:Below w.heap.size w W)=>MX W u0 u1 u2 u3 u4 bl c0 c1 c2 c3 c4 p1 m1 p2 L hL hF (aN (by omega) hp) (h0.next b) (h1.next b) (h2.next b) (h3.next b) (h4.next b));have L1:Hid (c0+c2+c4<18446744073709551616^L):=aN (by omega) hp;have L2:Hid (c1+c3<18446744073709551616^L):=aN (by omega) hp;have L3:Hid (c0+c4<18446744073709551616^L):=aN (by omega) hp;have L4:Hid (c2<18446744073709551616^L):=aN (by omega) hp;have L5:Hid (c2*2^2<18446744073709551616^L):=aN (by omega) hp;have L6:Hid (c4*2^4<18446744073709551616^L):=aN (by omega) hp;have L7:Hid (c0+c2*2^2+c4*2^4<18446744073709551616^L):=aN (by omega) hp;have L8:Hid (p2-(c0+c2*2^2+c4*2^4)<18446744073709551616^L):=aN (by omega) hp;have L9:Hid (c1+4*c3<18446744073709551616^L):=aN (by omega) hp;have L10:Hid (3*c3<18446744073709551616^L):=aN (by omega) hp;have L11:Hid (c3<18446744073709551616^L):=aN (by omega) hp;have L12:Hid (c1<18446744073709551616^L):=aN (by omega) hp;have E1:Hid (c0+c4<=c0+c2+c4/\c0+c2+c4-(c0+c4)=c2):=⟨by omega,by omega⟩;have E2:Hid (c0+c2*2^2+c4*2^4<=p2/\(p2-(c0+c2*2^2+c4*2^4))/2^1=c1+4*c3):=⟨by omega,by omega⟩;have E3:Hid (c1+c3<=c1+4*c3/\c1+4*c3-(c1+c3)=3*c3):=⟨by omega,by omega⟩;have E4:Hid (c3<=c1+c3/\c1+c3-c3=c1):=⟨by omega,by omega⟩;obtain⟨g0,l0,k0,rfl⟩:=h0.is;obtain⟨g1,l1,k1,rfl⟩:=h1.is;obtain⟨g2,l2,k2,rfl⟩:=h2.is;obtain⟨g3,l3,k3,rfl⟩:=h3.is;obtain⟨g4,l4,k4,rfl⟩:=h4.is;have H0:=ag h0;have H3:=ag h3;have H4:=ag h4;clear hF hp h0 h1 h2 h3 h4 q1 q2 q3;go_enter Tryz.func160,Tryz.ntmps160;go_wp2
 go_region
 have b0:Below w.heap.size w (w.alloc (.cells #[.slice g0 l0 k0,.slice g1 l1 k1,.slice g2 l2 k2,.slice g3 l3 k3,.slice g4 l4 k4,.bool bl] 201)).drew:=((aj _ _).alloc (af _) _).drew;have kx:(w.alloc (.cells #[.slice g0 l0 k0,.slice g1 l1 k1,.slice g2 l2 k2,.slice g3 l3 k3,.slice g4 l4 k4,.bool bl] 201)).drew.heap[w.heap.size]?=some (.cells #[.slice g0 l0 k0,.slice g1 l1 k1,.slice g2 l2 k2,.slice g3 l3 k3,.slice g4 l4 k4,.bool bl] 201 (0,0)):=aI w _;generalize (w.alloc (.cells #[.slice g0 l0 k0,.slice g1 l1 k1,.slice g2 l2 k2,.slice g3 l3 k3,.slice g4 l4 k4,.bool bl] 201)).drew=W0 at *;have x0:=ay _ w.heap.size 0 _ _ (0,0) kx;have x1:=ay _ w.heap.size 1 _ _ (0,0) kx;have x2:=ay _ w.heap.size 2 _ _ (0,0) kx;have x3:=ay _ w.heap.size 3 _ _ (0,0) kx;have x4:=ay _ w.heap.size 4 _ _ (0,0) kx;have x5:=ay _ w.heap.size 5 _ _ (0,0) kx;simp only[List.getElem?_toArray,List.getElem?_cons_succ,List.getElem?_cons_zero]at x0 x1 x2 x3 x4 x5;clear kx;have CH:=ag (ae CH W0 b0);have B0:=ag b0;clear b0
 go_wp2_with fail
 refine(ae CH).mono ?_;rintro e w1 ⟨ev,od,rfl,ne,no,b1⟩;clear CH x0 x1 x2 x3 x4 x5;have b1:=aJ (ae B0) b1;have i0:=(ae H0).next b1;have i3:=(ae H3).next b1;have i4:=(ae H4).next b1;have ie:=ne.kj (ae L1) hL;have io:=no.kj (ae L2) hL;clear ne no H0 H3 H4 B0
 go_wp2_with fail
 refine(th _ _ _ _ _ i0 i4).mono ?_;rintro e w2 ⟨r2,rfl,n2,b2⟩
 go_wp2_with fail
 refine(mK _ _ _ _ _ (ae E1).1 (ie.next b2) (n2.kj (ae L3) hL)).mono ?_;rintro e w3 ⟨r3,rfl,n3,b3⟩;rw[(ae E1).2]at n3;have b23:=aJ b2 b3;have i0:=i0.next b23;have i3:=i3.next b23;have i4:=i4.next b23;have io:=io.next b23;have i2:=n3.kj (ae L4) hL;have b1:=aJ b1 b23;clear ie n2 n3 b2 b3 b23 E1 L1 L3 L4
 go_wp2_with fail
 refine(zS _ _ 2 _ 2 (by decide) i2).mono ?_;rintro e w4 ⟨r4,rfl,n4,b4⟩
 go_wp2_with fail
 refine(zS _ _ 4 _ 4 (by decide) (i4.next b4)).mono ?_;rintro e w5 ⟨r5,rfl,n5,b5⟩;have b45:=aJ b4 b5;have i0:=i0.next b45;have i2:=i2.next b45;have i3:=i3.next b45;have i4:=i4.next b45;have io:=io.next b45;have b1:=aJ b1 b45;have j4:=(n4.next b5).kj (ae L5) hL;have j5:=n5.kj (ae L6) hL;clear n4 n5 b4 b5 b45 L5 L6;obtain⟨g6,l6,k6,rfl⟩:=j4.is;obtain⟨g7,l7,k7,rfl⟩:=j5.is
 go_wp2_with fail
 refine(FA _ _ _ _ _ _ _ i0 j4 j5).mono ?_;rintro e w6 ⟨r6,rfl,n6,b6⟩;have j6:=n6.kj (ae L7) hL;clear n6 j4 j5
 go_wp2_with fail
 refine(mK _ _ _ _ _ (ae E2).1 (i3.next b6) j6).mono ?_;rintro e w7 ⟨r7,rfl,n7,b7⟩;have j7:=n7.kj (ae L8) hL;clear n7 j6
 go_wp2_with fail
 refine(tV _ _ 1 _ 1 (by decide) j7).mono ?_;rintro e w8 ⟨r8,rfl,n8,b8⟩;rw[(ae E2).2]at n8;have j8:=n8.kj (ae L9) hL;have b68:=aJ (aJ b6 b7) b8;have i0:=i0.next b68;have i2:=i2.next b68;have i4:=i4.next b68;have io:=io.next b68;have b1:=aJ b1 b68;clear j7 n8 b6 b7 b8 b68 i3 L7 L8 L9 E2
 go_wp2_with fail
 refine(mK _ _ _ _ _ (ae E3).1 j8 io).mono ?_;rintro e w9 ⟨r9,rfl,n9,b9⟩;rw[(ae E3).2]at n9;have j9:=n9.kj (ae L10) hL
 go_wp2_with fail
 refine(Lf _ _ _ c3 rfl j9).mono ?_;rintro e w10 ⟨r10,rfl,y8,DP⟩;have j10:=y8.kj (ae L11) hL;have b90:=aJ b9 DP;have i0:=i0.next b90;have i2:=i2.next b90;have i4:=i4.next b90;have io:=io.next b90;have b1:=aJ b1 b90;clear j8 j9 n9 y8 b9 DP b90 E3 L10 L11
 go_wp2_with fail
 refine(mK _ _ _ _ _ (ae E4).1 io j10).mono ?_;rintro e w11 ⟨r11,rfl,n11,U1⟩;rw[(ae E4).2]at n11;have j11:=n11.kj (ae L12) hL;have i0:=i0.next U1;have i2:=i2.next U1;have i4:=i4.next U1;have j10:=j10.next U1;have b1:=aJ b1 U1;clear n11 U1 E4 io L12;obtain⟨ga,la,ka,rfl⟩:=i2.is;obtain⟨gb,lb,kb,rfl⟩:=j10.is;obtain⟨gc,lc,kc,rfl⟩:=j11.is
 go_wp2_with fail
 refine(RQ _ _ _ _ _ _ _ _ _ _ _ h (h:Int) (ae hz) i0 j11 i2 j10 i4).mono ?_;rintro e w12 ⟨r12,rfl,n12,QR⟩;have s1:=b1.size;have b1:=aJ b1 QR;clear i0 i2 i4 j10 j11 QR hz;go_wp2;go_ret;exact⟨r12,rfl,n12.mono s1,b1⟩
end
end Go.Proofs.YtkdmippllpekfaaGreatDoor
