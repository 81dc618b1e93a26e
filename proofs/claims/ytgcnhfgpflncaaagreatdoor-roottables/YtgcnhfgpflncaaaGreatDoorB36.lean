/- An engine of school: New; Mul and Sqr. -/
import Derived.Test.YtgcnhfgpflncaaaGreatDoorB33
import Derived.Test.YtgcnhfgpflncaaaGreatDoorB17
import Derived.Test.YtgcnhfgpflncaaaGreatDoorB15
import Derived.Test.YtgcnhfgpflncaaaGreatDoorB11
import Derived.Test.YtgcnhfgpflncaaaGreatDoorB14
import Derived.Test.YtgcnhfgpflncaaaGreatDoorB5
import Derived.Test.YtgcnhfgpflncaaaGreatDoorB12
import Derived.Test.YtgcnhfgpflncaaaGreatDoorB3
import Derived.Test.YtgcnhfgpflncaaaGreatDoorB29
namespace Go.Proofs.YtgcnhfgpflncaaaGreatDoor
open Go.RowKit
structure qy(w:World)(ge g:Nat)(s:Int)(l:Int:=0)(m:Int:=0):Prop where
 ptr:w.cell? ⟨ge,0,none⟩=some (.pointer (some ⟨g,0,none⟩))
 met:Met w g 0 s l m
 ne:ge≠g
 ints:∀ j v,w.cell? ⟨g,j,none⟩=some v->∃ z,v=.int .i64 z
theorem qy.next{w w':World}{ge g:Nat}{s l m:Int}(h:qy w ge g s l m)(b:Below w.heap.size w w'):qy w' ge g s l m:=
 ⟨(b.cell (World.block_lt_of_cell? _ _ h.ptr)).trans h.ptr,h.met.next b,h.ne,fun j v hv=>h.ints j v ((b.cell (p:=⟨g,j,none⟩) h.met.lt).symm.trans hv)⟩
theorem qy.step{w w':World}{ge g:Nat}{s s' lv dp lv' dp':Int}(h:qy w ge g s lv dp)(m:Met w' g 0 s' lv' dp')(t:Touch g 0 3 w w'):qy w' ge g s' lv' dp':=
 ⟨t.grown.cell h.ptr (by simpa using h.ne),m,h.ne,fun j v hv=>by
  by_cases hj:3<=j
  ·exact h.ints j v ((t.cell j (by omega)).symm.trans hv)
  ·match j,hj with
   |0,_=>exact⟨_,Option.some.inj (hv.symm.trans m.c0)⟩
   |1,_=>exact⟨_,Option.some.inj (hv.symm.trans m.c1)⟩
   |2,_=>exact⟨_,Option.some.inj (hv.symm.trans m.c2)⟩
   |j+3,hj=>omega⟩
theorem qy.away{w:World}{ge g:Nat}{s l m:Int}(h:qy w ge g s l m){ga:Option Addr}{b o cap:Nat}{xs:List Nat}(r:Rep w ga b o cap xs):0<xs.length->b≠g:=fun h0 e=>by
 subst e
 obtain⟨z,hz⟩:=h.ints _ _ (r.cell 0 h0)
 injection hz with hk
 cases hk
theorem qy.rep{w w':World}{ge g:Nat}{s l m:Int}(h:qy w ge g s l m)(G:w.grownBy w' (some g)){ga:Option Addr}{b o cap:Nat}{xs:List Nat}(r:Rep w ga b o cap xs):Rep w' ga b o cap xs:=r.but G (h.away r)
theorem qy.isN{w w':World}{ge g:Nat}{s l m:Int}(h:qy w ge g s l m)(G:w.grownBy w' (some g)){v:Value}{n:Nat}(r:aY w v n):aY w' v n:=by
 obtain⟨ga,b,o,cap,xs,rfl,hr,hc,hv⟩:=r
 exact⟨ga,b,o,cap,xs,rfl,h.rep G hr,hc,hv⟩
theorem kO.ints{w:World}{g:Nat}{T:Tab}(h:kO w g T):∀ j v,w.cell? ⟨g,j,none⟩=some v->∃ z,v=.int .i64 z:=fun j v hv=>by
 rw[cell_of_row w g j _ _ (0,0) h.row]at hv
 have hm:=Array.mem_of_getElem? hv
 simp at hm
 rcases hm with h|h|h|h|h|h|h|h|h|h|h|h<;>exact⟨_,h⟩
def O6(g:Nat)(w:World)(v:Value)(n l:Nat):Prop:=
 ∃ ga b o cap xs,v=.slice ga l cap/\xs.length=l/\Rep w ga b o cap xs/\ao xs/\af xs=n/\(0<l->b≠g)
theorem nP{w w':World}{g:Nat}(h:Touch g 0 3 w w'):w.grownBy w' (some g):=h.grown
theorem Hz{la lb:Nat}(ha:la<=1048576)(hb:lb<=1048576):la*lb<=1099511627776:=Nat.mul_le_mul ha hb
set_option maxRecDepth 100000 in
set_option maxHeartbeats 6400000 in
theorem xn{w:World}{ge g:Nat}{s lv dp:Int}(E:qy w ge g s lv dp)(u v:Value)(m n la lb:Nat)(hu:O6 g w u m la)(hv:O6 g w v n lb)(ha:la<=1048576)(hb:lb<=1048576)(hs0:0<=s)(hs:s<=4611686018427387904):
  Calls Tryz.prog 145 #[.pointer (some ⟨ge,0,none⟩),u,v] w fun e w'=>∃ r,e=.returned r/\ah w.heap.size w' r (m*n)/\qy w' ge g (s+((la*lb:Nat):Int)) lv dp/\Touch g 0 3 w w':=by
 obtain⟨ga,ba,oa,ca,xs,rfl,hx,rA,dx,rfl,na⟩:=hu
 obtain⟨gb,bb,ob,cb,ys,rfl,hy,rB,dy,rfl,nb⟩:=hv
 have cE:=E.ptr
 have hpm:=Hz ha hb
 obtain⟨P,hP⟩:∃ P,P=la*lb:=⟨_,rfl⟩
 have hPi:(la:Int)*(lb:Int)=(P:Int):=by rw[hP];exact(Int.natCast_mul la lb).symm
 rw[<-hP]at hpm ⊢
 have hwP:IntKind.i64.wrap (P:Int)=(P:Int):=by rw[IntKind.wrap_i64];omega
 have CS:=hide (dn (P:Int) (s+(P:Int)) E.met (by omega) (by omega) (by omega))
 obtain⟨N,hN⟩:∃ N,N=la+lb:=⟨_,rfl⟩
 have hN':(la:Int)+(lb:Int)=(N:Int):=by omega
 have hwN:IntKind.i64.wrap (N:Int)=(N:Int):=by rw[IntKind.wrap_i64];omega
 have hmk:=bX N N (N:Int) rfl rfl (by omega)
 have HE:=hide E
 have HN:=hide hN
 have hNb:N<=2097152:=by omega
 have rA:=rA.but (w':=w) (bK _ _) (by rw[hx];exact na)
 have NA:Hid (0<xs.length->ba≠g):=by rw[hx];exact na
 have NB:Hid (0<ys.length->bb≠g):=by rw[hy];exact nb
 clear hP E hN hs na nb
 go_enter Tryz.func145,Tryz.ntmps145
 go_wp2_with fail
 refine(ae CS).mono ?_
 rintro e w1 ⟨rfl,M1,T1⟩
 have G1:=nP T1
 have rA:=rA.but G1 (ae NA)
 have rB:=rB.but G1 (ae NB)
 have E1:=hide ((ae HE).step M1 T1)
 have S1:=hide G1.size
 have G1:=hide T1
 have bA:Hid (0<xs.length->ba<w1.heap.size):=fun h=>rA.lt h
 have hk0:=hide (fi w1 N)
 have HB0:=hide ((Below.refl w1.heap.size w1).alloc (Nat.le_refl _) (.cells (aF N).toArray 41))
 clear CS M1 T1 cE
 go_wp2
 have hst:Hid (Bf xs ys (List.replicate N 0) N 0):=KY xs ys N
 go_loopw [30] (fun i wr=>∃(k:Nat) (zs:List Nat),k<=lb/\i=.int .i64 (k:Int)/\aB wr w1.heap.size zs/\Hid (Bf xs ys zs N k)/\Below w1.heap.size w1 wr)
  (fun i _=>lb-(intOf i).toNat)
 case atStart=>exact⟨0,_,Nat.zero_le _,rfl,ae hk0,hst,ae HB0⟩
 case round=>
  obtain⟨k,z0,hk,rfl,hBlk,hAt,hnx⟩:=hrel
  have hzl:z0.length=N:=hAt.out.1
  by_cases h1:k<lb
  ·obtain rfl:=rB.head (by omega)
   obtain⟨y,hyy⟩:∃ y:Nat,y=ys.getD k 0:=⟨_,rfl⟩
   have hy64:y<18446744073709551616:=by rw[hyy];exact dy k
   have cy:wr.cell? ⟨bb,ob+k,none⟩=some (.int .u64 (y:Int)):=by rw[hyy];exact(rB.next hnx).cell k (by omega)
   obtain⟨M,hM⟩:∃ M,N=k+M:=⟨N-k,by have:=ae HN;omega⟩
   obtain⟨t,ht⟩:∃ t,t=k+la:=⟨_,rfl⟩
   have CA:=hide (fun W (hB:aB W w1.heap.size z0) (hr:Rep W ga ba oa ca xs)=>lK W w1.heap.size k M M ba oa ca la y ga z0 xs (by rw[hzl,hM]) hx (by have:=ae HN;omega) (by omega) hy64 hB hAt.out.2.1 hr dx (fun h=>by have:=ae bA h;omega))
   have e4:(k:Int)+(la:Int)=(t:Int):=by omega
   have hw3:IntKind.i64.wrap (t:Int)=(t:Int):=by rw[IntKind.wrap_i64];omega
   have i9:0<=(t:Int)/\(t:Int)<(N:Int):=by have:=ae HN;omega
   have i10:t<N:=by omega
   have i1:0<=(k:Int)/\(k:Int)<=(N:Int):=by have:=ae HN;omega
   have i3:k<=N:=by omega
   have i4:N-k=M:=by omega
   have i5:¬N=k:=by have:=ae HN;omega
   have HZN:=hide hzl
   have HC:Hid (∀ c zs,JO z0 zs xs y k la c->Bf xs ys (zs.set t c) N (k+1)):=fun c zs h=>by
    subst ht hx
    exact Ox hAt.out h hyy (by have:=ae HN;omega)
   have hsz:=hnx.size
   clear hyy ht hM hzl hmk hk0 hst HB0
   go_wp2_with fail
   refine(ae CA _ hBlk (rA.next hnx)).mono ?_
   rintro e w4 ⟨c,zs,rfl,hS,k4,g4⟩
   have c4:=k4.cell t (by rw[hS.1,ae HZN];omega)
   have f4:=k4.frozen t
   have hS:=hide hS
   go_wp2
   exact⟨⟨k+1,zs.set t c,by omega,by go_num,k4.set t c,ae HC _ _ hS.out,(below_grown hnx g4 (Nat.le_refl _) hsz).setCell (Nat.le_refl _) _⟩,by simp[intOf];omega⟩
  ·obtain rfl:k=lb:=by omega
   have hin:aL wr (.slice (some ⟨w1.heap.size,0,none⟩) N N) (af z0):=by
    have hr:=hBlk.rep 0 N N (by omega) (Nat.le_refl _)
    rw[List.drop_zero,List.take_of_length_le (by omega)]at hr
    exact⟨_,_,_,_,z0,by rw[hzl],hr,hAt.out.2.1,rfl,by omega⟩
   have hval:af z0=af xs*af ys:=by rw[hAt.out.2.2.1,aK _ _ (by omega)]
   rw[hval]at hin
   have CNm:=hide (dW _ _ _ hin)
   clear hin hval
   go_wp2_with fail
   refine(ae CNm).mono ?_
   rintro e w5 ⟨r,rfl,hr,b5⟩
   have b6:=ag hnx b5
   have hsz:=Nat.le_trans (ae S1) hnx.size
   go_wp2
   go_ret
   exact⟨r,rfl,hr.mono hsz,(ae E1).next b6,(ae G1).then b6 (ae E1).met.lt⟩
end Go.Proofs.YtgcnhfgpflncaaaGreatDoor
/- Sqr of an engine of school. -/
namespace Go.Proofs.YtgcnhfgpflncaaaGreatDoor
open Go.RowKit
theorem FW{w:World}{g N m:Nat}{zs:List Nat}(h:aB w g zs)(hl:zs.length=N)(hN:N<=1073741824)(hd:ao zs)(hm:af zs=m):aL w (.slice (some ⟨g,0,none⟩) N N) m:=by
 have hr:=h.rep 0 N N (by omega) (Nat.le_refl _)
 rw[List.drop_zero,List.take_of_length_le (by omega)]at hr
 exact⟨_,_,_,_,zs,by rw[hl],hr,hd,hm,by omega⟩
set_option maxRecDepth 100000 in
set_option maxHeartbeats 6400000 in
theorem xp{w:World}{ge g:Nat}{s lv dp:Int}(E:qy w ge g s lv dp)(u:Value)(m la P:Nat)(hu:O6 g w u m la)(ha:la<=1048576)(hs0:0<=s)(hs:s<=4611686018427387904)(hP:P=la*(la+1)/2):
  Calls Tryz.prog 100 #[.pointer (some ⟨ge,0,none⟩),u] w fun e w'=>∃ r,e=.returned r/\ah w.heap.size w' r (m*m)/\qy w' ge g (s+(P:Int)) lv dp/\Touch g 0 3 w w':=by
 obtain⟨ga,ba,oa,ca,xs,rfl,hx,rA,dx,rfl,na⟩:=hu
 have cE:=E.ptr
 obtain⟨l1,hl1⟩:∃ l1,l1=la+1:=⟨_,rfl⟩
 have hpm:la*l1<=1048576*1048577:=Nat.mul_le_mul ha (by omega)
 rw[<-hl1]at hP
 obtain⟨Q,hQ⟩:∃ Q,Q=la*l1:=⟨_,rfl⟩
 rw[<-hQ]at hP hpm
 have e1:(la:Int)+1=(l1:Int):=by omega
 have hQi:(la:Int)*(l1:Int)=(Q:Int):=by rw[hQ];exact(Int.natCast_mul la l1).symm
 have hw1:IntKind.i64.wrap (l1:Int)=(l1:Int):=by rw[IntKind.wrap_i64];omega
 have hwQ:IntKind.i64.wrap (Q:Int)=(Q:Int):=by rw[IntKind.wrap_i64];omega
 have hwP:IntKind.i64.wrap (P:Int)=(P:Int):=by rw[IntKind.wrap_i64];omega
 have e2:(Q:Int).tdiv 2=(P:Int):=by rw[Int.tdiv_eq_ediv_of_nonneg (by omega)];omega
 have e3:(Q:Int)/2=(P:Int):=by omega
 have CS:=hide (dn (P:Int) (s+(P:Int)) E.met (by omega) (by omega) (by omega))
 have HE:=hide E
 have NA:Hid (0<xs.length->ba≠g):=by rw[hx];exact na
 clear hP E hs na hl1 hQ
 go_enter Tryz.func100,Tryz.ntmps100
 go_wp2_with fail
 refine(ae CS).mono ?_
 rintro e w1 ⟨rfl,M1,T1⟩
 have G1:=nP T1
 have rA:=rA.but G1 (ae NA)
 have E1:=hide ((ae HE).step M1 T1)
 have S1:=hide G1.size
 have G1:=hide T1
 clear CS M1 T1 cE
 go_wp2_with fail
 refine(Bz _ ga ba oa ca la xs hx (by omega) rA dx).mono ?_
 rintro e w2 ⟨zs,rfl,hC,k2,b2⟩
 have rA:=rA.next b2
 have i2:=FW k2 hC.1 (by omega) hC.2.1 hC.2.2.1
 have B2:=hide b2
 have HV:=hide (EK xs la (by omega))
 obtain⟨N,hN⟩:∃ N,N=2*la:=⟨_,rfl⟩
 rw[<-hN]at i2 ⊢
 have HN:=hide hN
 clear hC k2 b2 hN
 go_wp2_with fail
 refine(xH _ ga ba oa ca la xs hx (by omega) rA dx).mono ?_
 rintro e w3 ⟨qs,rfl,hQ,k3,b3⟩
 have i2:=i2.next b3
 have i3:=FW k3 hQ.1 (by omega) hQ.2.1 hQ.2.2.1
 have hNla:2*la=N:=(ae HN).symm
 rw[hNla]at i3 ⊢
 have B3:=hide (ag (ae B2) b3)
 clear hQ k3 b3 rA B2 hNla
 have CW:=hide (se w3 _ _ _ _ _ _ i2 i2 i3)
 rw[ae HV]at CW
 go_wp2_with fail
 refine(ae CW).mono ?_
 rintro e w4 ⟨r,rfl,hr,b4⟩
 have b6:=ag (ae B3) b4
 have hsz:=Nat.le_trans (ae S1) (ae B3).size
 go_wp2
 go_ret
 exact⟨r,rfl,hr.mono hsz,(ae E1).next b6,(ae G1).then b6 (ae E1).met.lt⟩
end Go.Proofs.YtgcnhfgpflncaaaGreatDoor
/- The example of the document (school);'from' of the laws. -/
namespace Go.Proofs.YtgcnhfgpflncaaaGreatDoor
open Go.RowKit
end Go.Proofs.YtgcnhfgpflncaaaGreatDoor
/- What the statements on package kara ask of its calls:as propositions,for whatever code. -/
namespace Go.Proofs.YtgcnhfgpflncaaaGreatDoor
open Go.RowKit
def Tab.row(T:Tab):List Int:=[T.b,T.t,T.n,T.d,T.r,T.l,T.x,T.p,T.k,T.s,T.e]
def lJ(w:World)(g:Nat)(T:Tab):Prop:=∀ j,j<11->w.cell? ⟨g,3+j,none⟩=some (.int .i64 (T.clamp.row.getD j 0))
theorem kO.tabC{w:World}{g:Nat}{T:Tab}(h:kO w g T):lJ w g T:=fun j hj=>by
 rw[cell_of_row w g (3+j) _ _ (0,0) h.row]
 match j,hj with
 |0,_=>rfl
 |1,_=>rfl
 |2,_=>rfl
 |3,_=>rfl
 |4,_=>rfl
 |5,_=>rfl
 |6,_=>rfl
 |7,_=>rfl
 |8,_=>rfl
 |9,_=>rfl
 |10,_=>rfl
theorem lJ.lt{w:World}{g:Nat}{T:Tab}(h:lJ w g T):g<w.heap.size:=World.block_lt_of_cell? _ _ (h 0 (by decide))
theorem lJ.next{w w':World}{g:Nat}{T:Tab}(h:lJ w g T)(b:Below w.heap.size w w'):lJ w' g T:=fun j hj=>(b.cell (p:=⟨g,3+j,none⟩) h.lt).trans (h j hj)
theorem lJ.touch{w w':World}{g:Nat}{T:Tab}(h:lJ w g T)(t:Touch g 0 3 w w'):lJ w' g T:=fun j hj=>(t.cell (3+j) (by omega)).trans (h j hj)
theorem lJ.out{D:Nat->Prop}{w w':World}{g:Nat}{T:Tab}(h:lJ w g T)(o:Out D w w')(hd:¬D g):lJ w' g T:=fun j hj=>o.cell (h j hj) hd
structure dt(w:World)(gk ge g:Nat)(s l m:Int)(T:Tab):Prop where
 ptr:w.cell? ⟨gk,0,none⟩=some (.pointer (some ⟨ge,0,none⟩))
 eng:qy w ge g s l m
 tab:lJ w g T
 nk:gk≠g
theorem dt.lt{w:World}{gk ge g:Nat}{s l m:Int}{T:Tab}(h:dt w gk ge g s l m T):gk<w.heap.size:=World.block_lt_of_cell? _ _ h.ptr
theorem dt.next{w w':World}{gk ge g:Nat}{s l m:Int}{T:Tab}(h:dt w gk ge g s l m T)(b:Below w.heap.size w w'):dt w' gk ge g s l m T:=
 ⟨(b.cell (p:=⟨gk,0,none⟩) h.lt).trans h.ptr,h.eng.next b,h.tab.next b,h.nk⟩
theorem dt.step{w w':World}{gk ge g:Nat}{s l m s' l' m':Int}{T:Tab}(h:dt w gk ge g s l m T)(M:Met w' g 0 s' l' m')(t:Touch g 0 3 w w'):dt w' gk ge g s' l' m' T:=
 ⟨t.grown.cell h.ptr (by simpa using h.nk),h.eng.step M t,h.tab.touch t,h.nk⟩
theorem qy.out{D:Nat->Prop}{w w':World}{ge g:Nat}{s l m:Int}(h:qy w ge g s l m)(o:Out D w w')(h1:¬D ge)(h2:¬D g):qy w' ge g s l m:=
 ⟨o.cell h.ptr h1,o.met h.met h2,h.ne,fun j v hv=>h.ints j v ((World.cell?_of_block (a:=⟨g,j,none⟩) (o.block g h.met.lt h2)).symm.trans hv)⟩
theorem dt.out{D:Nat->Prop}{w w':World}{gk ge g:Nat}{s l m:Int}{T:Tab}(h:dt w gk ge g s l m T)(o:Out D w w')(h0:¬D gk)(h1:¬D ge)(h2:¬D g):dt w' gk ge g s l m T:=
 ⟨o.cell h.ptr h0,h.eng.out o h1 h2,h.tab.out o h2,h.nk⟩
def Fo(D:Nat->Prop)(w:World)(v:Value)(n l:Nat):Prop:=
 ∃ ga b o cap xs,v=.slice ga l cap/\xs.length=l/\Rep w ga b o cap xs/\ao xs/\af xs=n/\(0<l->¬D b)
def aO(B:Nat)(w:World)(v:Value)(n:Nat):Prop:=∃ ga b o cap xs,v=.slice ga xs.length cap/\Rep w ga b o cap xs/\ao xs/\af xs=n/\xs.length<=1073741824/\(0<xs.length->B<=b)
theorem aO.out{D:Nat->Prop}{B:Nat}{w w':World}{v:Value}{n:Nat}(h:aO B w v n)(o:Out D w w')(hd:∀ k,D k->k<B):aO B w' v n:=by
 obtain⟨ga,b,oo,cap,xs,rfl,hr,hx,hv,hl,hn⟩:=h
 exact⟨ga,b,oo,cap,xs,rfl,o.rep hr (fun h x=>by have:=hn h;have:=hd b x;omega),hx,hv,hl,hn⟩
theorem aO.mono{B B':Nat}{w:World}{v:Value}{n:Nat}(h:aO B w v n)(hb:B'<=B):aO B' w v n:=by
 obtain⟨ga,b,oo,cap,xs,rfl,hr,hx,hv,hl,hn⟩:=h
 exact⟨ga,b,oo,cap,xs,rfl,hr,hx,hv,hl,fun h=>by have:=hn h;omega⟩
theorem aO.next{B:Nat}{w w':World}{v:Value}{n:Nat}(h:aO B w v n)(b:Below w.heap.size w w'):aO B w' v n:=by
 obtain⟨ga,k,oo,cap,xs,rfl,hr,hx,hv,hl,hn⟩:=h
 exact⟨ga,k,oo,cap,xs,rfl,hr.next b,hx,hv,hl,hn⟩
theorem aO.inW{B:Nat}{w:World}{v:Value}{n:Nat}(h:aO B w v n):aL w v n:=by
 obtain⟨ga,b,oo,cap,xs,rfl,hr,hx,hv,hl,_⟩:=h
 exact⟨ga,b,oo,cap,xs,rfl,hr,hx,hv,hl⟩
theorem ah.toI{B:Nat}{w:World}{v:Value}{n p:Nat}(h:ah B w v n)(hn:n<18446744073709551616^p)(hp:p<=1073741824):aO B w v n:=by
 obtain⟨ga,b,cap,xs,rfl,hr,hc,hv,hb⟩:=h.rep
 exact⟨ga,b,0,cap,xs,rfl,hr,hc.1,hv,by have:=dE hc (L:=p) (by rw[hv];exact hn);omega,hb⟩
def mU(n m h:Nat):Nat->Nat×Nat
 |0=>(h,h)
 |1=>(n-h,m-h)
 |_=>(h+1,h+1)
def uJ:Prop:=∀(T:Tab) (w:World),Calls Tryz.prog 149 #[T.val] w fun e w'=>∃ gk ge g,e=.returned (.pointer (some ⟨gk,0,none⟩))/\dt w' gk ge g 0 0 0 T/\w.heap.size<=gk/\w.heap.size<=ge/\w.heap.size<=g/\Below w.heap.size w w'
structure NC(gk ge g:Nat)(l:Int)(T:Tab)(n m h k:Nat)(fs cs:Array Value)(D:Nat->Prop)(St:Nat->World->Prop):Prop where
 go:∀(args:Array Value) (W:World),(callFunc k args).run Tryz.prog W=.ok (.enter k args) W
 next:∀ i W W',St i W->Below W.heap.size W W'->St i W'
 eng:∀ i W,St i W->∃ s' m',dt W gk ge g s' (l+1) m' T
 call:∀ i W u v a c,i<3->St i W->Fo (fun j=>D j\/j=g) W u a (mU n m h i).1->Fo (fun j=>D j\/j=g) W v c (mU n m h i).2->
  Calls Tryz.prog k (fs++#[u,v]++cs) W fun e W'=>∃ r,e=.returned r/\aO W.heap.size W' r (a*c)/\St (i+1) W'/\Out (fun j=>D j\/j=g) W W'
def FC:Prop:=∀(w:World) (gk ge g:Nat) (s l m:Int) (T:Tab) (ga gb:Option Addr) (b o cap la b' o' cap' lb h:Nat) (xs ys:List Nat) (k:Nat) (fs cs:Array Value) (D:Nat->Prop) (St:Nat->World->Prop),
 dt w gk ge g s l m T->0<=l->l<=1000000->xs.length=la->Rep w ga b o cap xs->ao xs->(0<la->¬D b)->ys.length=lb->Rep w gb b' o' cap' ys->ao ys->(0<lb->¬D b')->la<=16384->lb<=16384->
 h=(max la lb+1)/2->h<min la lb->¬D gk->¬D ge->¬D g->(∀ j,D j->j<w.heap.size)->NC gk ge g l T (max la lb) (min la lb) h k fs cs D St->
 (∀ W,Out (·=g) w W->dt W gk ge g s (l+1) (max m (l+1)) T->St 0 W)->
 Calls Tryz.prog 146 #[.pointer (some ⟨gk,0,none⟩),.slice ga la cap,.slice gb lb cap',.func (.func k) fs cs] w fun e w'=>∃ v W,e=.returned (.tuple #[v,.bool true])/\ah w.heap.size w' v (af xs*af ys)/\St 3 W/\Out (·=g) W w'/\(∀ s' m',dt W gk ge g s' (l+1) m' T->dt w' gk ge g s' l m' T)/\Out (fun j=>D j\/j=g) w w'
structure PZ(gk ge g:Nat)(l:Int)(T:Tab)(n h k:Nat)(fs cs:Array Value)(D:Nat->Prop)(St:Nat->World->Prop):Prop where
 go:∀(args:Array Value) (W:World),(callFunc k args).run Tryz.prog W=.ok (.enter k args) W
 next:∀ i W W',St i W->Below W.heap.size W W'->St i W'
 eng:∀ i W,St i W->∃ s' m',dt W gk ge g s' (l+1) m' T
 call:∀ i W u a,i<3->St i W->Fo (fun j=>D j\/j=g) W u a (mU n n h i).1->
  Calls Tryz.prog k (fs++#[u]++cs) W fun e W'=>∃ r,e=.returned r/\aO W.heap.size W' r (a*a)/\St (i+1) W'/\Out (fun j=>D j\/j=g) W W'
def uK:Prop:=∀(w:World) (gk ge g:Nat) (s l m:Int) (T:Tab) (ga:Option Addr) (b o cap la h:Nat) (xs:List Nat) (k:Nat) (fs cs:Array Value) (D:Nat->Prop) (St:Nat->World->Prop),
 dt w gk ge g s l m T->0<=l->l<=1000000->xs.length=la->Rep w ga b o cap xs->ao xs->(0<la->¬D b)->la<=16384->
 h=(la+1)/2->2<=la->¬D gk->¬D ge->¬D g->(∀ j,D j->j<w.heap.size)->PZ gk ge g l T la h k fs cs D St->
 (∀ W,Out (·=g) w W->dt W gk ge g s (l+1) (max m (l+1)) T->St 0 W)->
 Calls Tryz.prog 101 #[.pointer (some ⟨gk,0,none⟩),.slice ga la cap,.func (.func k) fs cs] w fun e w'=>∃ v W,e=.returned (.tuple #[v,.bool true])/\ah w.heap.size w' v (af xs*af xs)/\St 3 W/\Out (·=g) W w'/\(∀ s' m',dt W gk ge g s' (l+1) m' T->dt w' gk ge g s' l m' T)/\Out (fun j=>D j\/j=g) w w'
end Go.Proofs.YtgcnhfgpflncaaaGreatDoor
/- What the statements on package toom ask of its calls:as propositions,for whatever code. Written by gen_toom.py. -/
namespace Go.Proofs.YtgcnhfgpflncaaaGreatDoor
open Go.RowKit
structure cO(w:World)(gt gk ge g:Nat)(s l m:Int)(T:Tab):Prop where
 ptr:w.cell? ⟨gt,0,none⟩=some (.pointer (some ⟨gk,0,none⟩))
 kara:dt w gk ge g s l m T
 nt:gt≠g
theorem cO.lt{w:World}{gt gk ge g:Nat}{s l m:Int}{T:Tab}(h:cO w gt gk ge g s l m T):gt<w.heap.size:=World.block_lt_of_cell? _ _ h.ptr
theorem cO.next{w w':World}{gt gk ge g:Nat}{s l m:Int}{T:Tab}(h:cO w gt gk ge g s l m T)(b:Below w.heap.size w w'):cO w' gt gk ge g s l m T:=
 ⟨(b.cell (p:=⟨gt,0,none⟩) h.lt).trans h.ptr,h.kara.next b,h.nt⟩
theorem cO.step{w w':World}{gt gk ge g:Nat}{s l m s' l' m':Int}{T:Tab}(h:cO w gt gk ge g s l m T)(M:Met w' g 0 s' l' m')(t:Touch g 0 3 w w'):cO w' gt gk ge g s' l' m' T:=
 ⟨t.grown.cell h.ptr (by simpa using h.nt),h.kara.step M t,h.nt⟩
theorem cO.out{D:Nat->Prop}{w w':World}{gt gk ge g:Nat}{s l m:Int}{T:Tab}(h:cO w gt gk ge g s l m T)(o:Out D w w')(h3:¬D gt)(h0:¬D gk)(h1:¬D ge)(h2:¬D g):cO w' gt gk ge g s l m T:=
 ⟨o.cell h.ptr h3,h.kara.out o h0 h1 h2,h.nt⟩
theorem cO.kept{w w':World}{gt gk ge g:Nat}{s l m s' l' m':Int}{T:Tab}(h:cO w gt gk ge g s l m T)(o:Out (·=g) w w')(K:dt w' gk ge g s' l' m' T):cO w' gt gk ge g s' l' m' T:=
 ⟨o.cell h.ptr h.nt,K,h.nt⟩
def ey(n m h:Nat):Nat->Nat×Nat
 |0=>(h,h)
 |4=>(n-2*h,m-2*h)
 |_=>(h+1,h+1)
def uN:Prop:=∀(T:Tab) (w:World),Calls Tryz.prog 111 #[T.val] w fun e w'=>∃ gt gk ge g,e=.returned (.pointer (some ⟨gt,0,none⟩))/\cO w' gt gk ge g 0 0 0 T/\w.heap.size<=gt/\w.heap.size<=gk/\w.heap.size<=ge/\w.heap.size<=g/\Below w.heap.size w w'
def PY(k:Int):Nat:=(min (max k 1) 16384).toNat
def nd(a b:Nat):Nat:=(a-b)+(b-a)
end Go.Proofs.YtgcnhfgpflncaaaGreatDoor
/- An engine of mul in memory,and the rows that are handed to it;New. -/
namespace Go.Proofs.YtgcnhfgpflncaaaGreatDoor
open Go.RowKit
structure aC(w:World)(gm gt gk ge g:Nat)(s l m:Int)(T:Tab):Prop where
 ptr:w.cell? ⟨gm,0,none⟩=some (.pointer (some ⟨gt,0,none⟩))
 toom:cO w gt gk ge g s l m T
 nm:gm≠g
theorem aC.lt{w:World}{gm gt gk ge g:Nat}{s l m:Int}{T:Tab}(h:aC w gm gt gk ge g s l m T):gm<w.heap.size:=World.block_lt_of_cell? _ _ h.ptr
theorem aC.met{w:World}{gm gt gk ge g:Nat}{s l m:Int}{T:Tab}(h:aC w gm gt gk ge g s l m T):Met w g 0 s l m:=h.toom.kara.eng.met
theorem aC.eng{w:World}{gm gt gk ge g:Nat}{s l m:Int}{T:Tab}(h:aC w gm gt gk ge g s l m T):qy w ge g s l m:=h.toom.kara.eng
theorem aC.way{w:World}{gm gt gk ge g:Nat}{s l m:Int}{T:Tab}(h:aC w gm gt gk ge g s l m T):w.cell? ⟨gm,0,none⟩=some (.pointer (some ⟨gt,0,none⟩))/\w.cell? ⟨gt,0,none⟩=some (.pointer (some ⟨gk,0,none⟩))/\w.cell? ⟨gk,0,none⟩=some (.pointer (some ⟨ge,0,none⟩))/\w.cell? ⟨ge,0,none⟩=some (.pointer (some ⟨g,0,none⟩)):=
 ⟨h.ptr,h.toom.ptr,h.toom.kara.ptr,h.toom.kara.eng.ptr⟩
theorem aC.next{w w':World}{gm gt gk ge g:Nat}{s l m:Int}{T:Tab}(h:aC w gm gt gk ge g s l m T)(b:Below w.heap.size w w'):aC w' gm gt gk ge g s l m T:=
 ⟨(b.cell (p:=⟨gm,0,none⟩) h.lt).trans h.ptr,h.toom.next b,h.nm⟩
theorem aC.step{w w':World}{gm gt gk ge g:Nat}{s l m s' l' m':Int}{T:Tab}(h:aC w gm gt gk ge g s l m T)(M:Met w' g 0 s' l' m')(t:Touch g 0 3 w w'):aC w' gm gt gk ge g s' l' m' T:=
 ⟨t.grown.cell h.ptr (by simpa using h.nm),h.toom.step M t,h.nm⟩
theorem aC.kept{w w':World}{gm gt gk ge g:Nat}{s l m s' l' m':Int}{T:Tab}(h:aC w gm gt gk ge g s l m T)(o:Out (·=g) w w')(K:cO w' gt gk ge g s' l' m' T):aC w' gm gt gk ge g s' l' m' T:=
 ⟨o.cell h.ptr h.nm,K,h.nm⟩
theorem aC.out{D:Nat->Prop}{w w':World}{gm gt gk ge g:Nat}{s l m:Int}{T:Tab}(h:aC w gm gt gk ge g s l m T)(o:Out D w w')(h4:¬D gm)(h3:¬D gt)(h0:¬D gk)(h1:¬D ge)(h2:¬D g):aC w' gm gt gk ge g s l m T:=
 ⟨o.cell h.ptr h4,h.toom.out o h3 h0 h1 h2,h.nm⟩
theorem aC.rep{w w':World}{gm gt gk ge g:Nat}{s l m:Int}{T:Tab}(h:aC w gm gt gk ge g s l m T)(o:Out (·=g) w w'){ga:Option Addr}{b oo cap:Nat}{xs:List Nat}(r:Rep w ga b oo cap xs):Rep w' ga b oo cap xs:=h.eng.rep o.grown r
theorem aC.isN{w w':World}{gm gt gk ge g:Nat}{s l m:Int}{T:Tab}(h:aC w gm gt gk ge g s l m T)(o:Out (·=g) w w'){v:Value}{n:Nat}(r:aY w v n):aY w' v n:=h.eng.isN o.grown r
theorem aC.cell{w w':World}{gm gt gk ge g:Nat}{s l m:Int}{T:Tab}(h:aC w gm gt gk ge g s l m T)(o:Out (·=g) w w'){p:Addr}{v:Value}(hc:w.cell? p=some v)(hs:p.spot=none)(hv:∀ z,v≠ .int .i64 z):w'.cell? p=some v:=o.cell hc (fun e=>by
 obtain⟨b,f,sp⟩:=p
 simp only at e hs
 subst e hs
 obtain⟨z,hz⟩:=h.eng.ints _ _ hc
 exact hv z hz)
theorem aC.other{w w':World}{gm gt gk ge g:Nat}{s l m:Int}{T:Tab}{gm' gt' gk' ge' g':Nat}{s' l' m':Int}{T':Tab}(h:aC w gm gt gk ge g s l m T)(o:Out (·=g) w w')(k:aC w gm' gt' gk' ge' g' s' l' m' T')(hg:g'≠g):aC w' gm' gt' gk' ge' g' s' l' m' T':=by
 have e:∀(p:Nat) (q:Option Addr),w.cell? ⟨p,0,none⟩=some (.pointer q)->p≠g:=fun p q hc e=>by
  subst e
  obtain⟨z,hz⟩:=h.eng.ints _ _ hc
  cases hz
 exact k.out o (e _ _ k.ptr) (e _ _ k.toom.ptr) (e _ _ k.toom.kara.ptr) (e _ _ k.toom.kara.eng.ptr) hg
def bh(w:World)(v:Value)(n:Nat):Prop:=∃ ga b o cap xs,v=.slice ga xs.length cap/\Rep w ga b o cap xs/\ao xs/\af xs=n/\xs.length<=16384
theorem bh.inW{w:World}{v:Value}{n:Nat}(h:bh w v n):aL w v n:=by
 obtain⟨ga,b,o,cap,xs,rfl,hr,hd,hv,hl⟩:=h
 exact⟨ga,b,o,cap,xs,rfl,hr,hd,hv,by omega⟩
theorem bh.next{w w':World}{v:Value}{n:Nat}(h:bh w v n)(hb:Below w.heap.size w w'):bh w' v n:=by
 obtain⟨ga,b,o,cap,xs,rfl,hr,hd,hv,hl⟩:=h
 exact⟨ga,b,o,cap,xs,rfl,hr.next hb,hd,hv,hl⟩
theorem fb{w:World}{ga:Option Addr}{b o cap l:Nat}{xs:List Nat}{A:Nat}(hr:Rep w ga b o cap xs)(hd:ao xs)(hl:xs.length=l)(hA:A=af xs)(h:l<=16384):bh w (.slice ga l cap) A:=by
 subst hl hA
 exact⟨_,_,_,_,_,rfl,hr,hd,rfl,h⟩
theorem ah.toM{B:Nat}{w:World}{v:Value}{n p:Nat}(h:ah B w v n)(hn:n<18446744073709551616^p)(hp:p<=16384):bh w v n:=by
 obtain⟨ga,b,cap,xs,rfl,hr,hc,hv,_⟩:=h.rep
 exact⟨ga,b,0,cap,xs,rfl,hr,hc.1,hv,by have:=dE hc (L:=p) (by rw[hv];exact hn);omega⟩
def FG:Prop:=∀(T:Tab) (w:World),Calls Tryz.prog 86 #[T.val] w fun e w'=>∃ gm gt gk ge g,e=.returned (.pointer (some ⟨gm,0,none⟩))/\aC w' gm gt gk ge g 0 0 0 T/\(w.heap.size<=gm/\w.heap.size<=gt/\w.heap.size<=gk/\w.heap.size<=ge/\w.heap.size<=g)/\Below w.heap.size w w'
end Go.Proofs.YtgcnhfgpflncaaaGreatDoor
/- What the statements on package divs ask of its calls:as propositions,for whatever code. -/
namespace Go.Proofs.YtgcnhfgpflncaaaGreatDoor
open Go.RowKit
structure dO(w:World)(gd gm gt gk ge g:Nat)(s l m:Int)(T:Tab):Prop where
 ptr:w.cell? ⟨gd,0,none⟩=some (.pointer (some ⟨gm,0,none⟩))
 mul:aC w gm gt gk ge g s l m T
 nm:gd≠g
theorem dO.lt{w:World}{gd gm gt gk ge g:Nat}{s l m:Int}{T:Tab}(h:dO w gd gm gt gk ge g s l m T):gd<w.heap.size:=World.block_lt_of_cell? _ _ h.ptr
theorem dO.met{w:World}{gd gm gt gk ge g:Nat}{s l m:Int}{T:Tab}(h:dO w gd gm gt gk ge g s l m T):Met w g 0 s l m:=h.mul.met
theorem dO.way{w:World}{gd gm gt gk ge g:Nat}{s l m:Int}{T:Tab}(h:dO w gd gm gt gk ge g s l m T):w.cell? ⟨gd,0,none⟩=some (.pointer (some ⟨gm,0,none⟩))/\w.cell? ⟨gm,0,none⟩=some (.pointer (some ⟨gt,0,none⟩))/\w.cell? ⟨gt,0,none⟩=some (.pointer (some ⟨gk,0,none⟩))/\w.cell? ⟨gk,0,none⟩=some (.pointer (some ⟨ge,0,none⟩))/\w.cell? ⟨ge,0,none⟩=some (.pointer (some ⟨g,0,none⟩)):=
 ⟨h.ptr,h.mul.way⟩
theorem dO.next{w w':World}{gd gm gt gk ge g:Nat}{s l m:Int}{T:Tab}(h:dO w gd gm gt gk ge g s l m T)(b:Below w.heap.size w w'):dO w' gd gm gt gk ge g s l m T:=
 ⟨(b.cell (p:=⟨gd,0,none⟩) h.lt).trans h.ptr,h.mul.next b,h.nm⟩
theorem dO.step{w w':World}{gd gm gt gk ge g:Nat}{s l m s' l' m':Int}{T:Tab}(h:dO w gd gm gt gk ge g s l m T)(M:Met w' g 0 s' l' m')(t:Touch g 0 3 w w'):dO w' gd gm gt gk ge g s' l' m' T:=
 ⟨t.grown.cell h.ptr (by simpa using h.nm),h.mul.step M t,h.nm⟩
theorem dO.kept{w w':World}{gd gm gt gk ge g:Nat}{s l m s' l' m':Int}{T:Tab}(h:dO w gd gm gt gk ge g s l m T)(o:Out (·=g) w w')(K:aC w' gm gt gk ge g s' l' m' T):dO w' gd gm gt gk ge g s' l' m' T:=
 ⟨o.cell h.ptr h.nm,K,h.nm⟩
theorem dO.out{D:Nat->Prop}{w w':World}{gd gm gt gk ge g:Nat}{s l m:Int}{T:Tab}(h:dO w gd gm gt gk ge g s l m T)(o:Out D w w')(h5:¬D gd)(h4:¬D gm)(h3:¬D gt)(h0:¬D gk)(h1:¬D ge)(h2:¬D g):dO w' gd gm gt gk ge g s l m T:=
 ⟨o.cell h.ptr h5,h.mul.out o h4 h3 h0 h1 h2,h.nm⟩
theorem dO.rep{w w':World}{gd gm gt gk ge g:Nat}{s l m:Int}{T:Tab}(h:dO w gd gm gt gk ge g s l m T)(o:Out (·=g) w w'){ga:Option Addr}{b oo cap:Nat}{xs:List Nat}(r:Rep w ga b oo cap xs):Rep w' ga b oo cap xs:=h.mul.rep o r
theorem dO.isN{w w':World}{gd gm gt gk ge g:Nat}{s l m:Int}{T:Tab}(h:dO w gd gm gt gk ge g s l m T)(o:Out (·=g) w w'){v:Value}{n:Nat}(r:aY w v n):aY w' v n:=h.mul.isN o r
theorem dO.inM{w w':World}{gd gm gt gk ge g:Nat}{s l m:Int}{T:Tab}(h:dO w gd gm gt gk ge g s l m T)(o:Out (·=g) w w'){v:Value}{n:Nat}(r:bh w v n):bh w' v n:=by
 obtain⟨ga,b,oo,cap,xs,rfl,hr,hd,hv,hl⟩:=r
 exact⟨ga,b,oo,cap,xs,rfl,h.rep o hr,hd,hv,hl⟩
def nI(A C:Nat):Nat:=if wl A<wl C then 0 else (wl A-wl C+1)*(wl C+1)
def Fz:Prop:=∀(T:Tab) (w:World),Calls Tryz.prog 67 #[T.val] w fun e w'=>∃ gd gm gt gk ge g,e=.returned (.pointer (some ⟨gd,0,none⟩))/\dO w' gd gm gt gk ge g 0 0 0 T/\(w.heap.size<=gd/\w.heap.size<=gm/\w.heap.size<=gt/\w.heap.size<=gk/\w.heap.size<=ge/\w.heap.size<=g)/\Below w.heap.size w w'
def FD:Prop:=∀(w:World) (gd gm gt gk ge g:Nat) (s l m:Int) (T:Tab) (u v:Value) (A C:Nat),
 dO w gd gm gt gk ge g s l m T->0<=s->s<=1152921504606846976->0<=l->l<=1000->bh w u A->bh w v C->0<C->
 Calls Tryz.prog 71 #[.pointer (some ⟨gd,0,none⟩),u,v] w fun e w'=>∃ q r gq gr m',e=.returned (.tuple #[q,r,.int .i64 0])/\aS gq (gq+1) w' q (A/C)/\aS gr (gr+1) w' r (A%C)/\(gq≠gr/\w.heap.size<=gq/\w.heap.size<=gr)/\dO w' gd gm gt gk ge g (s+(nI A C:Int)) l m' T/\m'=m/\Out (·=g) w w'
end Go.Proofs.YtgcnhfgpflncaaaGreatDoor
/- Package mul in plain numbers:levels,costs of pieces,a row in pieces of k words. -/
namespace Go.Proofs.YtgcnhfgpflncaaaGreatDoor
def jq(n:Nat):Nat:=Lib.bitLen (n-3)
theorem dH:∀(b a:Nat),a<=b->b<18446744073709551616->Lib.bitLen a<=Lib.bitLen b:=by
 intro b
 induction b using Nat.strongRecOn with
 |_ b ih=>
  intro a h hb
  by_cases h0:a=0
  ·rw[h0,uR];exact Nat.zero_le _
  ·rw[Lib.bitLen_half a h0 (by omega),Lib.bitLen_half b (by omega) (by omega)]
   have:=ih (b/2) (by omega) (a/2) (Nat.div_le_div_right h) (by omega)
   omega
theorem vK{a b:Nat}(h:a<=b)(hb:b<=100000):jq a<=jq b:=dH _ _ (by omega) (by omega)
theorem jF{n p:Nat}(hn:4<=n)(hp:p<=(n-3)/2+3)(hb:n<=100000):jq p+1<=jq n:=by
 unfold jq
 rw[Lib.bitLen_half (n-3) (by omega) (by omega)]
 have:=dH ((n-3)/2) (p-3) (by omega) (by omega)
 omega
theorem Aq{n:Nat}(h:n<=16384):jq n<=cZ n:=by
 have:=dH n (n-3) (by omega) (by omega)
 unfold jq cZ
 omega
def du(xs:List Nat)(k j:Nat):List Nat:=(xs.drop (k*j)).take k
theorem fE(xs:List Nat)(k j:Nat):(du xs k j).length=min k (xs.length-k*j):=by simp[du]
theorem q8{xs:List Nat}(h:ao xs)(k j:Nat):ao (du xs k j):=aX (aU h _) _
theorem yv(xs:List Nat)(k j:Nat)(h:k*j<=xs.length):af (xs.take (k*(j+1)))=af (xs.take (k*j))+18446744073709551616^(k*j)*af (du xs k j):=by
 have e:xs.take (k*(j+1))=xs.take (k*j)++du xs k j:=by
  rw[Nat.mul_succ,List.take_add];rfl
 rw[e,ck,List.length_take,Nat.min_eq_left h]
theorem nH{xs:List Nat}{k q C:Nat}{ns:List Nat}(hn:∀ j,j<q->ns.getD j 0=af (du xs k j)*C)(hk:∀ j,j<q->k*j<=xs.length):∀ i,i<=q->dV k ns i=af (xs.take (k*i))*C
 |0=>fun _=>by simp[dV,af]
 |i+1=>fun hi=>by
  rw[dV,nH hn hk i (by omega),hn i (by omega),yv xs k i (hk i (by omega)),Nat.add_mul,Nat.mul_assoc]
def nU(B D N n k:Nat):Nat->Nat
 |0=>0
 |i+1=>nU B D N n k i+eu B D N k (min k (n-k*i))
theorem mK(B D N n k:Nat):∀ i,k*i<=n->nU B D N n k i=i*eu B D N k k
 |0=>fun _=>by simp[nU]
 |i+1=>fun h=>by
  rw[Nat.mul_succ]at h
  rw[nU,mK B D N n k i (by omega),Nat.min_eq_left (by omega),Nat.succ_mul]
theorem uT(B D N n k q:Nat)(hk:0<k)(h1:n<=k*q)(h2:k*q<n+k):nU B D N n k q=n/k*eu B D N k k+eu B D N k (n%k):=by
 have hd:=Nat.div_add_mod n k
 have hm:=Nat.mod_lt n hk
 by_cases h0:n%k=0
 ·have hq:q=n/k:=by
   refine Nat.eq_of_mul_eq_mul_left hk ?_
   have a1:k*(n/k)=n:=by omega
   rw[a1]
   have:n∣n:=Nat.dvd_refl n
   have c:=Nat.mul_lt_mul_left (a:=k) (b:=q) (c:=n/k+1) hk
   rw[Nat.mul_succ,a1]at c
   have:=c.1 h2
   have d:=Nat.mul_le_mul_left k (show q<=n/k by omega)
   omega
  subst hq
  rw[mK B D N n k _ (by omega),h0,yE,Nat.add_zero]
 ·obtain⟨p,hp⟩:∃ p,q=p+1:=⟨q-1,by
   have:q≠0:=by
    rintro rfl
    rw[Nat.mul_zero]at h1
    have:n=0:=by omega
    subst this
    simp at h0
   omega⟩
  subst hp
  rw[Nat.mul_succ]at h1 h2
  have hq:p=n/k:=by
   have c1:=Nat.mul_lt_mul_left (a:=k) (b:=p) (c:=n/k+1) hk
   have c2:=Nat.mul_lt_mul_left (a:=k) (b:=n/k) (c:=p+1) hk
   rw[Nat.mul_succ]at c1 c2
   have:=c1.1 (by omega)
   have:=c2.1 (by omega)
   omega
  subst hq
  rw[nU,mK B D N n k _ (by omega),show n-k*(n/k)=n%k by omega,Nat.min_eq_right (by omega)]
def fA(B D N r n m:Nat):Nat:=
 if r=1 then n*m
 else if r=2 then n/m*eu B D N m m+eu B D N m (n%m)
 else if r=3 then eu B D N ((n+1)/2) ((n+1)/2)+eu B D N (n-(n+1)/2) (m-(n+1)/2)+eu B D N ((n+1)/2+1) ((n+1)/2+1)
 else if r=4 then eu B D N ((n+2)/3) ((n+2)/3)+3*eu B D N ((n+2)/3+1) ((n+2)/3+1)+eu B D N (n-2*((n+2)/3)) (m-2*((n+2)/3))
 else if r=5 then tf n m 3 else 0
theorem FQ{B D N n m:Nat}(e:oG B D N)(hm:m<=n):fA B D N (rt B D N n m) n m=eu B D N n m:=by
 have e1:=e.b1
 unfold fA
 rcases fH n m hm e with⟨r,_⟩|⟨r,_,_⟩|⟨r,h1,h2⟩|⟨r,h1,h2⟩|⟨r,h1,_,h2⟩|⟨r,_,_,_,_⟩
 ·rw[jw r,r];simp
 ·rw[og r,r];simp
 ·rw[Aa e hm r h1 h2,r];simp
 ·rw[jZ e hm r h1 h2,r];simp
 ·rw[lS e hm r h1 h2,r];simp
 ·rw[lR r,r];simp
end Go.Proofs.YtgcnhfgpflncaaaGreatDoor
/- What the statements on package toom ask of Toom and ToomSqr,whose own variables turn between the calls of inner. -/
namespace Go.Proofs.YtgcnhfgpflncaaaGreatDoor
open Go.RowKit
structure ND(B gt gk ge g:Nat)(l:Int)(T:Tab)(n m h k:Nat)(fs cs:Array Value)(D:Nat->Prop)(St:Nat->World->Prop):Prop where
 go:∀(args:Array Value) (W:World),(callFunc k args).run Tryz.prog W=.ok (.enter k args) W
 next:∀ i W W',St i W->Out (fun j=>B<=j) W W'->St i W'
 eng:∀ i W,St i W->∃ s' m',cO W gt gk ge g s' (l+1) m' T
 call:∀ i W u v a c,i<5->St i W->Fo (fun j=>D j\/j=g) W u a (ey n m h i).1->Fo (fun j=>D j\/j=g) W v c (ey n m h i).2->
  Calls Tryz.prog k (fs++#[u,v]++cs) W fun e W'=>∃ r,e=.returned r/\aO W.heap.size W' r (a*c)/\St (i+1) W'/\Out (fun j=>D j\/j=g) W W'
def Bi:Prop:=∀(w:World) (gt gk ge g:Nat) (s l m:Int) (T:Tab) (ga gb:Option Addr) (b o cap la b' o' cap' lb h:Nat) (xs ys:List Nat) (k:Nat) (fs cs:Array Value) (D:Nat->Prop) (St:Nat->World->Prop),
 cO w gt gk ge g s l m T->0<=l->l<=1000000->xs.length=la->Rep w ga b o cap xs->ao xs->(0<la->¬D b)->ys.length=lb->Rep w gb b' o' cap' ys->ao ys->(0<lb->¬D b')->la<=16384->lb<=16384->
 h=(max la lb+2)/3->2*h<min la lb->¬D gt->¬D gk->¬D ge->¬D g->(∀ j,D j->j<w.heap.size)->ND w.heap.size gt gk ge g l T (max la lb) (min la lb) h k fs cs D St->
 (∀ W,Out (·=g) w W->cO W gt gk ge g s (l+1) (max m (l+1)) T->St 0 W)->
 Calls Tryz.prog 147 #[.pointer (some ⟨gt,0,none⟩),.slice ga la cap,.slice gb lb cap',.func (.func k) fs cs] w fun e w'=>∃ v W,e=.returned (.tuple #[v,.bool true])/\ah w.heap.size w' v (af xs*af ys)/\St 5 W/\Out (·=g) W w'/\(∀ s' m',cO W gt gk ge g s' (l+1) m' T->cO w' gt gk ge g s' l m' T)/\Out (fun j=>D j\/j=g) w w'
structure P6(B gt gk ge g:Nat)(l:Int)(T:Tab)(n h k:Nat)(fs cs:Array Value)(D:Nat->Prop)(St:Nat->World->Prop):Prop where
 go:∀(args:Array Value) (W:World),(callFunc k args).run Tryz.prog W=.ok (.enter k args) W
 next:∀ i W W',St i W->Out (fun j=>B<=j) W W'->St i W'
 eng:∀ i W,St i W->∃ s' m',cO W gt gk ge g s' (l+1) m' T
 call:∀ i W u a,i<5->St i W->Fo (fun j=>D j\/j=g) W u a (ey n n h i).1->
  Calls Tryz.prog k (fs++#[u]++cs) W fun e W'=>∃ r,e=.returned r/\aO W.heap.size W' r (a*a)/\St (i+1) W'/\Out (fun j=>D j\/j=g) W W'
def Bh:Prop:=∀(w:World) (gt gk ge g:Nat) (s l m:Int) (T:Tab) (ga:Option Addr) (b o cap la h:Nat) (xs:List Nat) (k:Nat) (fs cs:Array Value) (D:Nat->Prop) (St:Nat->World->Prop),
 cO w gt gk ge g s l m T->0<=l->l<=1000000->xs.length=la->Rep w ga b o cap xs->ao xs->(0<la->¬D b)->la<=16384->
 h=(la+2)/3->2*h<la->¬D gt->¬D gk->¬D ge->¬D g->(∀ j,D j->j<w.heap.size)->P6 w.heap.size gt gk ge g l T la h k fs cs D St->
 (∀ W,Out (·=g) w W->cO W gt gk ge g s (l+1) (max m (l+1)) T->St 0 W)->
 Calls Tryz.prog 102 #[.pointer (some ⟨gt,0,none⟩),.slice ga la cap,.func (.func k) fs cs] w fun e w'=>∃ v W,e=.returned (.tuple #[v,.bool true])/\ah w.heap.size w' v (af xs*af xs)/\St 5 W/\Out (·=g) W w'/\(∀ s' m',cO W gt gk ge g s' (l+1) m' T->cO w' gt gk ge g s' l m' T)/\Out (fun j=>D j\/j=g) w w'
end Go.Proofs.YtgcnhfgpflncaaaGreatDoor
/- Naturals in new memory;blocks of one cell. -/
namespace Go.Proofs.YtgcnhfgpflncaaaGreatDoor
open Go.RowKit
theorem yO{D:Nat->Prop}{w:World}{v:Value}{n l:Nat}(h:Fo D w v n l):n<18446744073709551616^l:=by
 obtain⟨ga,b,o,cap,xs,_,hl,_,hd,hv,_⟩:=h
 rw[<-hv, <-hl]
 exact ak hd
def NI(w:World)(g:Nat)(v:Value)(t:Nat):Prop:=w.heap[g]?=some (.cells #[v] t (0,0))
theorem NI.cell{w:World}{g t:Nat}{v:Value}(h:NI w g v t):w.cell? ⟨g,0,none⟩=some v:=cell_of_row w g 0 _ _ (0,0) h
theorem NI.set{w:World}{g t:Nat}{v:Value}(h:NI w g v t)(u:Value):NI (w.setCell ⟨g,0,none⟩ u) g u t:=by
 have:=heap_setCell_same w g 0 _ _ u h
 show _=_
 rw[this];rfl
theorem Out.set{D:Nat->Prop}{w w':World}(h:Out D w w'){g i:Nat}(hd:D g)(u:Value):Out D w (w'.setCell ⟨g,i,none⟩ u):=
 h.trans ⟨rfl,rfl,rfl,by simp[World.setCell],fun k _ hn=>heap_setCell_other w' ⟨g,i,none⟩ k u (fun e=>hn (by rw[e];exact hd))⟩
end Go.Proofs.YtgcnhfgpflncaaaGreatDoor
/- Products in three pieces:plain mathematics. Nothing of any program here. -/
namespace Go.Proofs.YtgcnhfgpflncaaaGreatDoor
structure nS(bl:Bool)(c0 c1 c2 c3 c4 p1 m1 p2:Nat):Prop where
 one:p1=c0+c1+c2+c3+c4
 neg:bl=true->m1+(c0+c2+c4)=c1+c3
 pos:bl=false->m1+(c1+c3)=c0+c2+c4
 two:p2=c0+2*c1+4*c2+8*c3+16*c4
theorem nS.le{bl:Bool}{c0 c1 c2 c3 c4 p1 m1 p2:Nat}(h:nS bl c0 c1 c2 c3 c4 p1 m1 p2):m1<=p1:=by
 obtain⟨h1,h2,h3,_⟩:=h
 cases bl
 ·have:=h3 rfl;omega
 ·have:=h2 rfl;omega
theorem nS.halves{bl:Bool}{c0 c1 c2 c3 c4 p1 m1 p2:Nat}(h:nS bl c0 c1 c2 c3 c4 p1 m1 p2):(bl=true->(p1+m1)/2=c1+c3/\(p1-m1)/2=c0+c2+c4)/\(bl=false->(p1+m1)/2=c0+c2+c4/\(p1-m1)/2=c1+c3):=by
 obtain⟨h1,h2,h3,_⟩:=h
 refine⟨fun e=>?_,fun e=>?_⟩
 ·have:=h2 e;omega
 ·have:=h3 e;omega
theorem OB(x y u v:Nat):((decide (x<y)!=decide (u<v))=true->nd x y*nd u v+(x*u+y*v)=x*v+y*u)/\((decide (x<y)!=decide (u<v))=false->nd x y*nd u v+(x*v+y*u)=x*u+y*v):=by
 by_cases h1:x<y<;>by_cases h2:u<v
 ·obtain⟨d,rfl⟩:∃ d,y=x+d:=⟨y-x,by omega⟩
  obtain⟨e,rfl⟩:∃ e,v=u+e:=⟨v-u,by omega⟩
  have a1:nd x (x+d)=d:=by unfold nd;omega
  have a2:nd u (u+e)=e:=by unfold nd;omega
  rw[a1,a2]
  simp only[h1,h2,decide_true,bne_self_eq_false]
  exact⟨fun h=>(Bool.false_ne_true h).elim,fun _=>by grind⟩
 ·obtain⟨d,rfl⟩:∃ d,y=x+d:=⟨y-x,by omega⟩
  obtain⟨e,rfl⟩:∃ e,u=v+e:=⟨u-v,by omega⟩
  have a1:nd x (x+d)=d:=by unfold nd;omega
  have a2:nd (v+e) v=e:=by unfold nd;omega
  rw[a1,a2]
  refine⟨fun _=>by grind,fun h=>?_⟩
  rw[decide_eq_true h1,decide_eq_false h2]at h
  exact absurd h (by decide)
 ·obtain⟨d,rfl⟩:∃ d,x=y+d:=⟨x-y,by omega⟩
  obtain⟨e,rfl⟩:∃ e,v=u+e:=⟨v-u,by omega⟩
  have a1:nd (y+d) y=d:=by unfold nd;omega
  have a2:nd u (u+e)=e:=by unfold nd;omega
  rw[a1,a2]
  refine⟨fun _=>by grind,fun h=>?_⟩
  rw[decide_eq_false h1,decide_eq_true h2]at h
  exact absurd h (by decide)
 ·obtain⟨d,rfl⟩:∃ d,x=y+d:=⟨x-y,by omega⟩
  obtain⟨e,rfl⟩:∃ e,u=v+e:=⟨u-v,by omega⟩
  have a1:nd (y+d) y=d:=by unfold nd;omega
  have a2:nd (v+e) v=e:=by unfold nd;omega
  rw[a1,a2]
  refine⟨fun h=>?_,fun _=>by grind⟩
  rw[decide_eq_false h1,decide_eq_false h2]at h
  exact absurd h (by decide)
theorem pf(a0 a1 a2 b0 b1 b2:Nat):nS (decide (a0+a2<a1)!=decide (b0+b2<b1)) (a0*b0) (a0*b1+a1*b0) (a0*b2+a1*b1+a2*b0) (a1*b2+a2*b1) (a2*b2)
  ((a0+a1+a2)*(b0+b1+b2)) (nd (a0+a2) a1*nd (b0+b2) b1) ((a0+2*a1+4*a2)*(b0+2*b1+4*b2)):=by
 obtain⟨h1,h2⟩:=OB (a0+a2) a1 (b0+b2) b1
 refine⟨by grind,fun h=>?_,fun h=>?_,by grind⟩
 ·have:=h1 h
  generalize nd (a0+a2) a1*nd (b0+b2) b1=D at *
  grind
 ·have:=h2 h
  generalize nd (a0+a2) a1*nd (b0+b2) b1=D at *
  grind
theorem Gz(a0 a1 a2:Nat):nS false (a0*a0) (a0*a1+a1*a0) (a0*a2+a1*a1+a2*a0) (a1*a2+a2*a1) (a2*a2)
  ((a0+a1+a2)*(a0+a1+a2)) (nd (a0+a2) a1*nd (a0+a2) a1) ((a0+2*a1+4*a2)*(a0+2*a1+4*a2)):=by
 have h:=pf a0 a1 a2 a0 a1 a2
 rwa [bne_self_eq_false]at h
theorem yH(P a0 a1 a2 b0 b1 b2:Nat):a0*b0+P*(a0*b1+a1*b0)+P*P*(a0*b2+a1*b1+a2*b0)+P*P*P*(a1*b2+a2*b1)+P*P*P*P*(a2*b2)=(a0+P*a1+P*P*a2)*(b0+P*b1+P*P*b2):=by grind
theorem xM(m P:Nat):m%P+P*(m/P%P)+P*P*(m/P/P)=m:=by
 have h1:=Nat.div_add_mod m P
 have h2:=Nat.div_add_mod (m/P) P
 rw[Nat.mul_assoc,Nat.add_assoc, <-Nat.mul_add,Nat.add_comm (m/P%P),h2]
 omega
theorem Jm{m n h:Nat}(hm:m<18446744073709551616^n)(hh:2*h<=n):m/18446744073709551616^h/18446744073709551616^h<18446744073709551616^(n-2*h):=by
 rw[Nat.div_div_eq_div_mul, <-Nat.pow_add]
 refine Nat.div_lt_of_lt_mul ?_
 rw[<-Nat.pow_add]
 rwa [show h+h+(n-2*h)=n by omega]
theorem Iw{a b:Nat}(h:a<=b):18446744073709551616^a<=18446744073709551616^b:=Nat.pow_le_pow_right (by omega) h
theorem MR{a0 a1 a2 P:Nat}(h0:a0<P)(h1:a1<P)(h2:a2<P):a0+a1+a2<P*18446744073709551616:=by omega
theorem MU{a0 a1 a2 P:Nat}(h0:a0<P)(h1:a1<P)(h2:a2<P):nd (a0+a2) a1<P*18446744073709551616:=by unfold nd;omega
theorem MS{a0 a1 a2 P:Nat}(h0:a0<P)(h1:a1<P)(h2:a2<P):a0+2*a1+4*a2<P*18446744073709551616:=by omega
end Go.Proofs.YtgcnhfgpflncaaaGreatDoor
/- Package kara's own:how many words the low piece has,rows in new memory,what a factor is cut into,and how three products are joined. -/
namespace Go.Proofs.YtgcnhfgpflncaaaGreatDoor
open Go.RowKit
set_option maxHeartbeats 1600000 in
theorem pj(w:World)(ga:Option Addr)(n cap h:Nat)(hn:n<=16384)(hh:h=(n+1)/2):
  Calls Tryz.prog 130 #[.slice ga n cap] w fun e w'=>e=.returned (.int .i64 (h:Int))/\w'=w:=by
 obtain⟨m,hm⟩:∃ m,m=n+1:=⟨_,rfl⟩
 have e1:(n:Int)+1=(m:Int):=by omega
 have e2:IntKind.i64.wrap (m:Int)=(m:Int):=by rw[IntKind.wrap_i64];omega
 have e3:(m:Int).tdiv 2=(h:Int):=by
  rw[Int.tdiv_eq_ediv_of_nonneg (by omega)];omega
 have e4:IntKind.i64.wrap (h:Int)=(h:Int):=by rw[IntKind.wrap_i64];omega
 clear hm hh hn
 go_enter Tryz.func130,Tryz.ntmps130
 go_wp2
 go_ret
 exact⟨rfl,rfl⟩
set_option maxRecDepth 100000 in
set_option maxHeartbeats 1600000 in
theorem qm(w:World)(ga:Option Addr)(b o cap n N:Nat)(xs:List Nat)(hl:xs.length=n)(hnN:n<=N)(hN:N<=1099511627776)(hR:Rep w ga b o cap xs):
  Calls Tryz.prog 160 #[.slice ga n cap,.int .i64 (N:Int)] w fun e w'=>e=.returned (.slice (some ⟨w.heap.size,0,none⟩) N N)/\aB w' w.heap.size (xs++List.replicate (N-n) 0)/\Below w.heap.size w w':=by
 have HC:=hide (fun ob=>iS hR ob)
 clear hR
 have hmk:=bX N N (N:Int) rfl rfl (by omega)
 go_enter Tryz.func160,Tryz.ntmps160
 go_wp2_with (refine wpList_copy_splice rfl _ _ 29 29 rfl 41 Tryz.underlying29 Tryz.sizeU _ _ N N n cap rfl rfl w.heap.size 0 (aF N) 41 ?h1 (df xs) ?h2 ?h3 ?h4 (cells_one _) w.heap.size w ?h5 (Nat.le_refl _) ?_)
 case h1=>exact heap_alloc_new w _
 case h2=>rw[aG,hl];exact(Nat.min_eq_left (by omega)).symm
 case h3=>exact ae HC _
 case h4=>rw[aG,dr,hl];omega
 case h5=>exact(Below.refl _ _).alloc (Nat.le_refl _) _
 intro w2 hblk hb2
 have hB:aB w2 w.heap.size (xs++List.replicate (N-n) 0):=by
  have e:=ft xs n (N-n) hl
  rw[show n+(N-n)=N from by omega]at e
  have h:=hblk.out
  rw[e]at h
  exact h
 clear hblk HC hmk
 go_wp2
 go_ret
 exact⟨aQ rfl,hB,hb2⟩
structure Qe(B:Nat)(w:World)(v:Value)(xs:List Nat)(h:Nat):Prop where
 out:∃ g0 g1 g2 zs,v=.agg #[.slice (some ⟨g0,0,none⟩) h h,.slice (some ⟨g1,0,none⟩) (xs.length-h) (xs.length-h),.slice (some ⟨g2,0,none⟩) (h+1) (h+1)]/\
  B<=g0/\B<=g1/\B<=g2/\aB w g0 (xs.take h)/\aB w g1 (xs.drop h)/\aB w g2 zs/\zs.length=h+1/\ao zs/\af zs=af (xs.take h)+af (xs.drop h)
theorem yS(w:World)(u v x:Value)(m n p k:Nat)(z:Int)(hz:(k:Int)=min (max z 0) 16384)(hu:aL w u m)(hv:aL w v n)(hx:aL w x p):
  Calls Tryz.prog 78 #[.int .i64 z,.slice (some ⟨w.heap.size,0,none⟩) 3 3] (w.alloc (.cells #[u,v,x] 29)) fun e w'=>∃ r,e=.returned r/\ah w.heap.size w' r (m+18446744073709551616^k*n+18446744073709551616^(2*k)*p)/\Below w.heap.size w w':=by
 have hb:Below w.heap.size w (w.alloc (.cells #[u,v,x] 29)):=(Below.refl _ _).alloc (Nat.le_refl _) _
 refine(mR _ _ _ _ 3 3 k z _ _ rfl (by omega) hz (nJ w u v x m n p 29 hu hv hx)).mono ?_
 rintro e w' ⟨r,rfl,hr,h⟩
 have e2:dV k [m,n,p] 3=m+18446744073709551616^k*n+18446744073709551616^(2*k)*p:=by simp[dV,Nat.mul_comm k 2]
 rw[e2]at hr
 exact⟨r,rfl,hr.mono hb.size,ag hb h⟩
theorem aL.is{w:World}{v:Value}{n:Nat}(h:aL w v n):∃ g l c,v=.slice g l c:=by
 obtain⟨ga,b,o,cap,xs,rfl,_⟩:=h
 exact⟨_,_,_,rfl⟩
set_option maxHeartbeats 1600000 in
theorem mT(w:World)(u v x:Value)(m n p h L:Nat)(hh:h<=16384)(hL:L<=1073741824)(hp:p<18446744073709551616^L)(hle:m+n<=p)(hu:aL w u m)(hv:aL w v n)(hx:aL w x p):
  Calls Tryz.prog 132 #[.int .i64 (h:Int),u,v,x] w fun e w'=>∃ r,e=.returned r/\ah w.heap.size w' r (m+18446744073709551616^h*(p-(m+n))+18446744073709551616^(2*h)*n)/\Below w.heap.size w w':=by
 obtain⟨gu,lu,cu,rfl⟩:=hu.is
 obtain⟨gv,lv,cv,rfl⟩:=hv.is
 have hp1:Hid (m+n<18446744073709551616^L):=Nat.lt_of_le_of_lt hle hp
 have hp2:Hid (p-(m+n)<18446744073709551616^L):=Nat.lt_of_le_of_lt (Nat.sub_le _ _) hp
 have CA:=hide (jo w _ _ m n hu hv)
 have HU:=hide hu
 have HV:=hide hv
 have HX:=hide hx
 have hz:Hid ((h:Int)=min (max (h:Int) 0) 16384):=by show _=_;omega
 have HL:=hide hle
 clear hu hv hx hle hp
 go_enter Tryz.func132,Tryz.ntmps132
 go_wp2_with fail
 refine(ae CA).mono ?_
 rintro e w1 ⟨r1,rfl,h1,b1⟩
 clear CA
 have CS:=hide (gA w1 x r1 p (m+n) ((ae HX).next b1) (h1.toIn (ae hp1) hL))
 go_wp2_with fail
 refine(ae CS).mono ?_
 rintro e w2 ⟨b2,⟨_,r2,rfl,h2⟩|⟨hlt,_⟩⟩
 case inr=>exact absurd (ae HL) (by omega)
 have b12:=ag b1 b2
 have i2:=h2.toIn (ae hp2) hL
 obtain⟨g2,l2,c2,rfl⟩:=i2.is
 have CJ:=hide (yS w2 _ _ _ m (p-(m+n)) n h (h:Int) (ae hz) ((ae HU).next b12) i2 ((ae HV).next b12))
 clear CS h1 h2 i2
 go_wp2_with fail
 refine(ae CJ).mono ?_
 rintro e w3 ⟨r3,rfl,h3,b3⟩
 clear CJ
 go_wp2
 go_ret
 exact⟨r3,rfl,h3.mono b12.size,ag b12 b3⟩
end Go.Proofs.YtgcnhfgpflncaaaGreatDoor
/- Package kara's cut:a factor's pieces. -/
namespace Go.Proofs.YtgcnhfgpflncaaaGreatDoor
open Go.RowKit
theorem sZ{w:World}{ga:Option Addr}{b o cap l:Nat}{xs:List Nat}(hr:Rep w ga b o cap xs)(hd:ao xs)(hl:xs.length=l)(h:l<=1073741824):aL w (.slice ga l cap) (af xs):=by
 subst hl
 exact⟨_,_,_,_,_,rfl,hr,hd,rfl,h⟩
theorem yI(w:World)(R:Nat)(x y z:Value):w.grownBy (((w.setCell ⟨R,0,none⟩ x).setCell ⟨R,1,none⟩ y).setCell ⟨R,2,none⟩ z) (some R):=
 az (az (aj w R 0 x) (aj _ R 1 y)) (aj _ R 2 z)
set_option maxRecDepth 100000 in
set_option maxHeartbeats 3200000 in
theorem jE(w:World)(ga:Option Addr)(b o cap n h:Nat)(xs:List Nat)(hl:xs.length=n)(hn:n<=16384)(h0:0<h)(hh:h<n)(h2:n<=2*h)(hR:Rep w ga b o cap xs)(hd:ao xs):
  Calls Tryz.prog 131 #[.slice ga n cap,.int .i64 (h:Int)] w fun e w'=>∃ v,e=.returned v/\Qe w.heap.size w' v xs h/\Below w.heap.size w w':=by
 have hg:=hR.head (by omega)
 subst hg
 have hcap:=hR.room
 rw[hl]at hcap
 have hlt:=hR.lt (by omega)
 obtain⟨k,hk⟩:∃ k,n-h=k:=⟨_,rfl⟩
 have r0:=hR.take h (by omega)
 have r1:=hR.drop h (by omega)
 have hl0:(xs.take h).length=h:=by simp;omega
 have hl1:(xs.drop h).length=k:=by simp;omega
 have bb:Below w.heap.size w (w.alloc (.cells #[.slice none 0 0,.slice none 0 0,.slice none 0 0] 152)):=(Below.refl _ _).alloc (Nat.le_refl _) _
 have HX:Hid (∀ W,Below (w.alloc (.cells #[.slice none 0 0,.slice none 0 0,.slice none 0 0] 152)).heap.size (w.alloc (.cells #[.slice none 0 0,.slice none 0 0,.slice none 0 0] 152)) W->W.heap[w.heap.size]?=some (.cells #[.slice none 0 0,.slice none 0 0,.slice none 0 0] 152 (0,0))):=fun W q=>(q.block w.heap.size (by simp)).trans (heap_alloc_new w _)
 obtain⟨W1,hW1⟩:∃ W1,w.alloc (.cells #[.slice none 0 0,.slice none 0 0,.slice none 0 0] 152)=W1:=⟨_,rfl⟩
 rw[hW1]at bb HX
 obtain⟨G,hG⟩:∃ G,w.heap.size=G:=⟨_,rfl⟩
 have r0:=r0.next bb
 have r1:=r1.next bb
 go_enter Tryz.func131,Tryz.ntmps131
 have hch:¬cap=h:=by omega
 have hch1:h<=cap:=by omega
 have hch2:h<=n:=by omega
 have d0:=aX hd h
 have d1:=aU hd h
 have hsum:Hid (af (xs.take h)+af (xs.drop h)<18446744073709551616^(h+1)):=by
  refine vH ?_ ?_
  ·have:=ak d0
   rwa [hl0]at this
  ·refine Nat.lt_of_lt_of_le (ak d1) (Nat.pow_le_pow_right (by omega) ?_)
   omega
 obtain⟨H1,hH1⟩:∃ H1,H1=h+1:=⟨_,rfl⟩
 have HP:Hid (∀ W g0 g1 g2 zs,G<=g0->G<=g1->G<=g2->aB W g0 (xs.take h)->aB W g1 (xs.drop h)->aB W g2 zs->zs.length=H1->ao zs->af zs=af (xs.take h)+af (xs.drop h)->Qe w.heap.size W (.agg #[.slice (some ⟨g0,0,none⟩) h h,.slice (some ⟨g1,0,none⟩) k k,.slice (some ⟨g2,0,none⟩) H1 H1]) xs h):=fun W g0 g1 g2 zs i0 i1 i2 k0 k1 k2 z0 z1 z2=>by
  subst hG hH1
  refine⟨⟨g0,g1,g2,zs,?_,i0,i1,i2,k0,k1,k2,z0,z1,z2⟩⟩
  rw[hl,hk]
 have r0:=r0.drew
 have r1:=r1.drew
 have bb:=hide bb
 clear hR hd hl h2 hlt hcap
 generalize xs.take h=x0 at *
 generalize xs.drop h=x1 at *
 have hz:(h:Int)+1=(H1:Int):=by omega
 have hz1:IntKind.i64.wrap (H1:Int)=(H1:Int):=by rw[IntKind.wrap_i64];omega
 have hH2:H1<=16385:=by omega
 rw[<-hH1]at hsum
 clear hH1
 go_wp2
 go_region
 clear hW1
 have bl:Below W1.heap.size W1 W1.drew:=(Below.refl _ _).drew
 go_wp2_with fail
 refine(qm _ _ _ _ _ _ _ _ hl0 (Nat.le_refl _) (by omega) r0).mono ?_
 rintro e w2 ⟨rfl,k2,b2⟩
 have bl:=ag bl b2
 have r0:=r0.next b2
 have r1:=r1.next b2
 go_wp2_with fail
 refine(qm _ _ _ _ _ _ _ _ hl1 (Nat.le_refl _) (by omega) r1).mono ?_
 rintro e w3 ⟨rfl,k3,b3⟩
 have bl:=ag bl b3
 have k2:aB w3 W1.drew.heap.size _:=(b3.block _ k2.lt).trans k2
 have r0:=r0.next b3
 have r1:=r1.next b3
 go_wp2_with fail
 refine(jo _ _ _ _ _ (sZ r0 d0 hl0 (by omega)) (sZ r1 d1 hl1 (by omega))).mono ?_
 rintro e w4 ⟨v4,rfl,n4,b4⟩
 obtain⟨g4,q4,c4,ys,rfl,r4,hc4,hv4,_⟩:=n4.rep
 have hl4:ys.length<=H1:=dE hc4 (by rw[hv4];exact ae hsum)
 have bl:=ag bl b4
 have k2:aB w4 W1.drew.heap.size _:=(b4.block _ k2.lt).trans k2
 have k3:aB w4 w2.heap.size _:=(b4.block _ k3.lt).trans k3
 clear n4 r0 r1
 go_wp2_with fail
 refine(qm _ _ _ _ _ _ _ _ rfl hl4 (by omega) r4).mono ?_
 rintro e w5 ⟨rfl,k5,b5⟩
 have bl:=ag bl b5
 have k2:aB w5 W1.drew.heap.size _:=(b5.block _ k2.lt).trans k2
 have k3:aB w5 w2.heap.size _:=(b5.block _ k3.lt).trans k3
 have kx:=ae HX _ bl
 rw[hG]at kx
 have s2:=b2.size
 have s3:=b3.size
 have s4:=b4.size
 have GW:G<W1.heap.size:=by
  have:=(Array.getElem?_eq_some_iff.1 (ae HX W1 (Below.refl _ _))).1
  rwa [hG]at this
 have GD:W1.drew.heap.size=W1.heap.size:=rfl
 rw[Nat.sub_self,List.replicate_zero,List.append_nil]at k2 k3
 rw[GD]at k2 s2
 have l5:Hid ((ys++List.replicate (H1-ys.length) 0).length=H1):=by show _=_;simp;omega
 have v5:Hid (af (ys++List.replicate (H1-ys.length) 0)=af x0+af x1):=by show _=_;rw[iK,hv4]
 have d5:=jR hc4.1 (H1-ys.length)
 have HB:=hide (ag (ae bb) bl)
 generalize ys++List.replicate (H1-ys.length) 0=zs at *
 have c0:w5.cell? ⟨G,0,none⟩=some (.slice none 0 0):=cell_of_row _ G 0 _ _ (0,0) kx
 have c1:w5.cell? ⟨G,1,none⟩=some (.slice none 0 0):=cell_of_row _ G 1 _ _ (0,0) kx
 have c2:w5.cell? ⟨G,2,none⟩=some (.slice none 0 0):=cell_of_row _ G 2 _ _ (0,0) kx
 have f0:=frozen_of_row _ G 0 _ _ kx
 have f1:=frozen_of_row _ G 1 _ _ kx
 have f2:=frozen_of_row _ G 2 _ _ kx
 go_wp2
 have gr:=yI w5 G (.slice (some ⟨W1.heap.size,0,none⟩) h h) (.slice (some ⟨w2.heap.size,0,none⟩) k k) (.slice (some ⟨w4.heap.size,0,none⟩) H1 H1)
 refine bodyPost_ret (v:=.agg #[.slice (some ⟨W1.heap.size,0,none⟩) h h,.slice (some ⟨w2.heap.size,0,none⟩) k k,.slice (some ⟨w4.heap.size,0,none⟩) H1 H1]) (by simp[results,Tryz.results131,go_sem,c0,c1,c2]) rfl ?_
 refine⟨_,rfl,ae HP _ _ _ _ zs (by omega) (by omega) (by omega) ((gr.block _ k2.lt (by simp;omega)).trans k2) ((gr.block _ k3.lt (by simp;omega)).trans k3) ((gr.block _ k5.lt (by simp;omega)).trans k5) (ae l5) d5 (ae v5),?_⟩
 exact below_grown (ae HB) gr (by omega) (ae HB).size
end Go.Proofs.YtgcnhfgpflncaaaGreatDoor
/- Package toom's small calls:a difference that is none below 0,one of either sign,a third,how long a piece is,rows in new memory. -/
namespace Go.Proofs.YtgcnhfgpflncaaaGreatDoor
open Go.RowKit
set_option maxHeartbeats 1600000 in
theorem mZ(w:World)(ga:Option Addr)(n cap h:Nat)(hn:n<=1073741824)(hh:h=(n+2)/3):
  Calls Tryz.prog 133 #[.slice ga n cap] w fun e w'=>e=.returned (.int .i64 (h:Int))/\w'=w:=by
 obtain⟨m,hm⟩:∃ m,m=n+2:=⟨_,rfl⟩
 have e1:(n:Int)+2=(m:Int):=by omega
 have e2:IntKind.i64.wrap (m:Int)=(m:Int):=by rw[IntKind.wrap_i64];omega
 have e3:(m:Int).tdiv 3=(h:Int):=by
  rw[Int.tdiv_eq_ediv_of_nonneg (by omega)];omega
 have e4:IntKind.i64.wrap (h:Int)=(h:Int):=by rw[IntKind.wrap_i64];omega
 clear hm hh hn
 go_enter Tryz.func133,Tryz.ntmps133
 go_wp2
 go_ret
 exact⟨rfl,rfl⟩
set_option maxHeartbeats 1600000 in
theorem eW(w:World)(u v:Value)(m n:Nat)(h:n<=m)(hu:aL w u m)(hv:aL w v n):
  Calls Tryz.prog 164 #[u,v] w fun e w'=>∃ r,e=.returned r/\ah w.heap.size w' r (m-n)/\Below w.heap.size w w':=by
 have CS:=hide (gA w u v m n hu hv)
 have H:=hide h
 clear hu hv h
 go_enter Tryz.func164,Tryz.ntmps164
 go_wp2_with fail
 refine(ae CS).mono ?_
 rintro e w2 ⟨b2,⟨_,r2,rfl,h2⟩|⟨hlt,_⟩⟩
 case inr=>exact absurd (ae H) (by omega)
 clear CS H
 go_wp2
 go_ret
 exact⟨r2,rfl,h2,b2⟩
theorem xx(w:World)(u:Value)(m q:Nat)(hm:m=3*q)(hu:aL w u m):
  Calls Tryz.prog 165 #[u] w fun e w'=>∃ v,e=.returned (.tuple #[v,.bool true])/\ah w.heap.size w' v q/\Below w.heap.size w w':=by
 have CD:=mN w u m 3 (by decide) (by decide) hu
 rw[show m%3=0 by omega,show m/3=q by omega]at CD
 replace CD:=hide CD
 clear hu hm
 go_enter Tryz.func165,Tryz.ntmps165
 go_wp2_with fail
 refine(ae CD).mono ?_
 rintro e w2 ⟨r2,rfl,h2,b2⟩
 clear CD
 go_wp2
 go_ret2
 exact⟨r2,rfl,h2,b2⟩
set_option maxRecDepth 100000 in
set_option maxHeartbeats 1600000 in
theorem E8(w:World)(ga:Option Addr)(b o cap n N:Nat)(xs:List Nat)(hl:xs.length=n)(hnN:n<=N)(hN:N<=1099511627776)(hR:Rep w ga b o cap xs):
  Calls Tryz.prog 162 #[.slice ga n cap,.int .i64 (N:Int)] w fun e w'=>e=.returned (.slice (some ⟨w.heap.size,0,none⟩) N N)/\aB w' w.heap.size (xs++List.replicate (N-n) 0)/\Below w.heap.size w w':=by
 have HC:=hide (fun ob=>iS hR ob)
 clear hR
 have hmk:=bX N N (N:Int) rfl rfl (by omega)
 go_enter Tryz.func162,Tryz.ntmps162
 go_wp2_with (refine wpList_copy_splice rfl _ _ 29 29 rfl 41 Tryz.underlying29 Tryz.sizeU _ _ N N n cap rfl rfl w.heap.size 0 (aF N) 41 ?h1 (df xs) ?h2 ?h3 ?h4 (cells_one _) w.heap.size w ?h5 (Nat.le_refl _) ?_)
 case h1=>exact heap_alloc_new w _
 case h2=>rw[aG,hl];exact(Nat.min_eq_left (by omega)).symm
 case h3=>exact ae HC _
 case h4=>rw[aG,dr,hl];omega
 case h5=>exact(Below.refl _ _).alloc (Nat.le_refl _) _
 intro w2 hblk hb2
 have hB:aB w2 w.heap.size (xs++List.replicate (N-n) 0):=by
  have e:=ft xs n (N-n) hl
  rw[show n+(N-n)=N from by omega]at e
  have h:=hblk.out
  rw[e]at h
  exact h
 clear hblk HC hmk
 go_wp2
 go_ret
 exact⟨aQ rfl,hB,hb2⟩
theorem jS(w:World)(B:Nat)(u:Value)(m N:Nat)(hm:m<18446744073709551616^N)(hN:N<=1048576)(hu:ah B w u m):
  Calls Tryz.prog 162 #[u,.int .i64 (N:Int)] w fun e w'=>∃ zs,e=.returned (.slice (some ⟨w.heap.size,0,none⟩) N N)/\aB w' w.heap.size zs/\zs.length=N/\ao zs/\af zs=m/\Below w.heap.size w w':=by
 obtain⟨g4,q4,c4,ys,rfl,r4,hc4,hv4,_⟩:=hu.rep
 have hl4:ys.length<=N:=dE hc4 (by rw[hv4];exact hm)
 refine(E8 w _ _ _ _ _ N ys rfl hl4 (by omega) r4).mono ?_
 rintro e w2 ⟨rfl,k,b⟩
 exact⟨_,rfl,k,by simp;omega,jR hc4.1 _,by rw[iK,hv4],b⟩
end Go.Proofs.YtgcnhfgpflncaaaGreatDoor
/- Whole numbers of the reference:a natural,and whether it is below 0. -/
namespace Go.Proofs.YtgcnhfgpflncaaaGreatDoor
open Go.RowKit
theorem yk(w:World)(o1 o2 o3:Obj):(((w.alloc o1).alloc o2).alloc o3).heap[w.heap.size]?=some o1/\(((w.alloc o1).alloc o2).alloc o3).heap[w.heap.size+1]?=some o2/\(((w.alloc o1).alloc o2).alloc o3).heap[w.heap.size+1+1]?=some o3:=by
 have s1:(w.alloc o1).heap.size=w.heap.size+1:=by simp
 have s2:((w.alloc o1).alloc o2).heap.size=w.heap.size+1+1:=by simp
 have b1:Below (w.alloc o1).heap.size (w.alloc o1) ((w.alloc o1).alloc o2):=(Below.refl _ _).alloc (Nat.le_refl _) _
 have b2:Below ((w.alloc o1).alloc o2).heap.size ((w.alloc o1).alloc o2) (((w.alloc o1).alloc o2).alloc o3):=(Below.refl _ _).alloc (Nat.le_refl _) _
 refine⟨?_,?_,?_⟩
 ·exact(b2.block _ (by omega)).trans ((b1.block _ (by omega)).trans (heap_alloc_new w o1))
 ·rw[<-s1]
  exact(b2.block _ (by omega)).trans (heap_alloc_new (w.alloc o1) o2)
 ·rw[<-s2]
  exact heap_alloc_new ((w.alloc o1).alloc o2) o3
end Go.Proofs.YtgcnhfgpflncaaaGreatDoor
/- Package toom:a product of its five values. -/
namespace Go.Proofs.YtgcnhfgpflncaaaGreatDoor
open Go.RowKit
theorem zb(w:World)(u0 u1 u2 u3 u4:Value)(n0 n1 n2 n3 n4 t:Nat)(h0:aL w u0 n0)(h1:aL w u1 n1)(h2:aL w u2 n2)(h3:aL w u3 n3)(h4:aL w u4 n4):
  ju (w.alloc (.cells #[u0,u1,u2,u3,u4] t)) (some ⟨w.heap.size,0,none⟩) w.heap.size 0 [u0,u1,u2,u3,u4] [n0,n1,n2,n3,n4]:=by
 have hb:Below w.heap.size w (w.alloc (.cells #[u0,u1,u2,u3,u4] t)):=(Below.refl _ _).alloc (Nat.le_refl _) _
 refine⟨fun _=>rfl,rfl,fun j hj=>?_,fun j hj=>?_⟩
 ·have hj2:j<5:=hj
  rw[Nat.zero_add,cell_of_row _ w.heap.size j #[u0,u1,u2,u3,u4] t (0,0) (heap_alloc_new w _)]
  match j,hj2 with
  |0,_=>rfl
  |1,_=>rfl
  |2,_=>rfl
  |3,_=>rfl
  |4,_=>rfl
 ·have hj2:j<5:=hj
  match j,hj2 with
  |0,_=>exact h0.next hb
  |1,_=>exact h1.next hb
  |2,_=>exact h2.next hb
  |3,_=>exact h3.next hb
  |4,_=>exact h4.next hb
def ud(k n0 n1 n2 n3 n4:Nat):Nat:=n0+18446744073709551616^k*n1+18446744073709551616^(k*2)*n2+18446744073709551616^(k*3)*n3+18446744073709551616^(k*4)*n4
theorem Cd(w:World)(u0 u1 u2 u3 u4:Value)(n0 n1 n2 n3 n4 k:Nat)(z:Int)(hz:(k:Int)=min (max z 0) 16384)(h0:aL w u0 n0)(h1:aL w u1 n1)(h2:aL w u2 n2)(h3:aL w u3 n3)(h4:aL w u4 n4):
  Calls Tryz.prog 78 #[.int .i64 z,.slice (some ⟨w.heap.size,0,none⟩) 5 5] (w.alloc (.cells #[u0,u1,u2,u3,u4] 29)) fun e w'=>∃ r,e=.returned r/\ah w.heap.size w' r (ud k n0 n1 n2 n3 n4)/\Below w.heap.size w w':=by
 have hb:Below w.heap.size w (w.alloc (.cells #[u0,u1,u2,u3,u4] 29)):=(Below.refl _ _).alloc (Nat.le_refl _) _
 refine(mR _ _ _ _ 5 5 k z _ _ rfl (by omega) hz (zb w u0 u1 u2 u3 u4 n0 n1 n2 n3 n4 29 h0 h1 h2 h3 h4)).mono ?_
 rintro e w' ⟨r,rfl,hr,h⟩
 have e2:dV k [n0,n1,n2,n3,n4] 5=ud k n0 n1 n2 n3 n4:=by simp[dV,ud]
 rw[e2]at hr
 exact⟨r,rfl,hr.mono hb.size,ag hb h⟩
set_option maxRecDepth 100000 in
set_option maxHeartbeats 3200000 in
theorem yL(w:World)(u0 u1 u2 u3 u4:Value)(bl:Bool)(c0 c1 c2 c3 c4 p1 m1 p2 L:Nat)(hL:L<=1073741824)(hF:nS bl c0 c1 c2 c3 c4 p1 m1 p2)(hp:p1+m1<18446744073709551616^L)
  (h0:aL w u0 c0) (h1:aL w u1 p1) (h2:aL w u2 m1) (h3:aL w u3 p2) (h4:aL w u4 c4):
  Calls Tryz.prog 163 #[.agg #[u0,u1,u2,u3,u4,.bool bl]] w fun e w'=>∃ x y,e=.returned (.tuple #[x,y])/\ah w.heap.size w' x (c0+c2+c4)/\ah w.heap.size w' y (c1+c3)/\Below w.heap.size w w':=by
 obtain⟨f1,f2⟩:=hF.halves
 have HM:=hide hF.le
 have hp1:Hid (p1-m1<18446744073709551616^L):=Nat.lt_of_le_of_lt (by omega) hp
 have HP:=hide hp
 have F1:=hide f1
 have F2:=hide f2
 obtain⟨g0,l0,k0,rfl⟩:=h0.is
 obtain⟨g1,l1,k1,rfl⟩:=h1.is
 obtain⟨g2,l2,k2,rfl⟩:=h2.is
 obtain⟨g3,l3,k3,rfl⟩:=h3.is
 obtain⟨g4,l4,k4,rfl⟩:=h4.is
 have H1:=hide h1
 have H2:=hide h2
 clear f1 f2 hF hp h0 h1 h2 h3 h4
 go_enter Tryz.func163,Tryz.ntmps163
 go_wp2
 go_region
 have b0:Below w.heap.size w (w.alloc (.cells #[.slice g0 l0 k0,.slice g1 l1 k1,.slice g2 l2 k2,.slice g3 l3 k3,.slice g4 l4 k4,.bool bl] 157)).drew:=((Below.refl _ _).alloc (Nat.le_refl _) _).drew
 have HX:Hid (∀ W,Below (w.alloc (.cells #[.slice g0 l0 k0,.slice g1 l1 k1,.slice g2 l2 k2,.slice g3 l3 k3,.slice g4 l4 k4,.bool bl] 157)).drew.heap.size (w.alloc (.cells #[.slice g0 l0 k0,.slice g1 l1 k1,.slice g2 l2 k2,.slice g3 l3 k3,.slice g4 l4 k4,.bool bl] 157)).drew W->W.cell? ⟨w.heap.size,5,none⟩=some (.bool bl)):=fun W q=>cell_of_row _ w.heap.size 5 _ _ (0,0) ((q.block w.heap.size (by simp[World.drew])).trans (heap_alloc_new w _))
 generalize (w.alloc (.cells #[.slice g0 l0 k0,.slice g1 l1 k1,.slice g2 l2 k2,.slice g3 l3 k3,.slice g4 l4 k4,.bool bl] 157)).drew=W0 at *
 have s0:=hide b0.size
 have i1:=(ae H1).next b0
 have i2:=(ae H2).next b0
 have B0:=hide b0
 clear H1 H2 b0
 go_wp2_with fail
 refine(jo _ _ _ _ _ i1 i2).mono ?_
 rintro e w1 ⟨r1,rfl,n1,b1⟩
 go_wp2_with fail
 refine(gi _ _ 1 _ 1 (by decide) (n1.toIn (ae HP) hL)).mono ?_
 rintro e w2 ⟨r2,rfl,n2,b2⟩
 have b12:=ag b1 b2
 clear n1
 go_wp2_with fail
 refine(eW _ _ _ _ _ (ae HM) (i1.next b12) (i2.next b12)).mono ?_
 rintro e w3 ⟨r3,rfl,n3,b3⟩
 go_wp2_with fail
 refine(gi _ _ 1 _ 1 (by decide) (n3.toIn (ae hp1) hL)).mono ?_
 rintro e w4 ⟨r4,rfl,n4,b4⟩
 have b14:=ag (ag b12 b3) b4
 have c5:=ae HX _ b14
 have N2:=hide (((n2.next b3).next b4).mono (Nat.le_trans (ae s0) b1.size))
 have N4:=hide (n4.mono (Nat.le_trans (ae s0) (ag b12 b3).size))
 have BB:=hide (ag (ae B0) b14)
 clear n2 n3 n4 i1 i2 b1 b2 b3 b4 b12 b14
 cases bl with
 |true=>
  obtain⟨f1,f2⟩:=ae F1 rfl
  rw[Nat.pow_one,f1]at N2
  rw[Nat.pow_one,f2]at N4
  clear F1 F2 f1 f2 HP hp1 HM
  go_wp2
  go_ret2
  exact⟨_,_,rfl,ae N4,ae N2,ae BB⟩
 |false=>
  obtain⟨f1,f2⟩:=ae F2 rfl
  rw[Nat.pow_one,f1]at N2
  rw[Nat.pow_one,f2]at N4
  clear F1 F2 f1 f2 HP hp1 HM
  go_wp2
  go_ret2
  exact⟨_,_,rfl,ae N2,ae N4,ae BB⟩
theorem nS.two_le{bl:Bool}{c0 c1 c2 c3 c4 p1 m1 p2:Nat}(h:nS bl c0 c1 c2 c3 c4 p1 m1 p2):p1<=p2:=by
 have h1:=h.one;have h2:=h.two;omega
set_option maxRecDepth 100000 in
set_option maxHeartbeats 3200000 in
theorem nA(w:World)(u0 u1 u2 u3 u4:Value)(bl:Bool)(c0 c1 c2 c3 c4 p1 m1 p2 h L:Nat)(hh:h<=16384)(hL:L<=1073741824)(hF:nS bl c0 c1 c2 c3 c4 p1 m1 p2)(hp:2*p2<18446744073709551616^L)
  (h0:aL w u0 c0) (h1:aL w u1 p1) (h2:aL w u2 m1) (h3:aL w u3 p2) (h4:aL w u4 c4):
  Calls Tryz.prog 135 #[.agg #[u0,u1,u2,u3,u4,.bool bl],.int .i64 (h:Int)] w fun e w'=>∃ r,e=.returned r/\ah w.heap.size w' r (ud h c0 c1 c2 c3 c4)/\Below w.heap.size w w':=by
 have q1:=hF.two_le
 have q2:=hF.le
 have q3:=hF.two
 have hz:Hid ((h:Int)=min (max (h:Int) 0) 16384):=by show _=_;omega
 have CH:=hide (fun W (b:Below w.heap.size w W)=>yL W u0 u1 u2 u3 u4 bl c0 c1 c2 c3 c4 p1 m1 p2 L hL hF (Nat.lt_of_le_of_lt (by omega) hp) (h0.next b) (h1.next b) (h2.next b) (h3.next b) (h4.next b))
 have L1:Hid (c0+c2+c4<18446744073709551616^L):=Nat.lt_of_le_of_lt (by omega) hp
 have L2:Hid (c1+c3<18446744073709551616^L):=Nat.lt_of_le_of_lt (by omega) hp
 have L3:Hid (c0+c4<18446744073709551616^L):=Nat.lt_of_le_of_lt (by omega) hp
 have L4:Hid (c2<18446744073709551616^L):=Nat.lt_of_le_of_lt (by omega) hp
 have L5:Hid (c2*2^2<18446744073709551616^L):=Nat.lt_of_le_of_lt (by omega) hp
 have L6:Hid (c4*2^4<18446744073709551616^L):=Nat.lt_of_le_of_lt (by omega) hp
 have L7:Hid (c0+c2*2^2+c4*2^4<18446744073709551616^L):=Nat.lt_of_le_of_lt (by omega) hp
 have L8:Hid (p2-(c0+c2*2^2+c4*2^4)<18446744073709551616^L):=Nat.lt_of_le_of_lt (by omega) hp
 have L9:Hid (c1+4*c3<18446744073709551616^L):=Nat.lt_of_le_of_lt (by omega) hp
 have L10:Hid (3*c3<18446744073709551616^L):=Nat.lt_of_le_of_lt (by omega) hp
 have L11:Hid (c3<18446744073709551616^L):=Nat.lt_of_le_of_lt (by omega) hp
 have L12:Hid (c1<18446744073709551616^L):=Nat.lt_of_le_of_lt (by omega) hp
 have E1:Hid (c0+c4<=c0+c2+c4/\c0+c2+c4-(c0+c4)=c2):=⟨by omega,by omega⟩
 have E2:Hid (c0+c2*2^2+c4*2^4<=p2/\(p2-(c0+c2*2^2+c4*2^4))/2^1=c1+4*c3):=⟨by omega,by omega⟩
 have E3:Hid (c1+c3<=c1+4*c3/\c1+4*c3-(c1+c3)=3*c3):=⟨by omega,by omega⟩
 have E4:Hid (c3<=c1+c3/\c1+c3-c3=c1):=⟨by omega,by omega⟩
 obtain⟨g0,l0,k0,rfl⟩:=h0.is
 obtain⟨g1,l1,k1,rfl⟩:=h1.is
 obtain⟨g2,l2,k2,rfl⟩:=h2.is
 obtain⟨g3,l3,k3,rfl⟩:=h3.is
 obtain⟨g4,l4,k4,rfl⟩:=h4.is
 have H0:=hide h0
 have H3:=hide h3
 have H4:=hide h4
 clear hF hp h0 h1 h2 h3 h4 q1 q2 q3
 go_enter Tryz.func135,Tryz.ntmps135
 go_wp2
 go_region
 have b0:Below w.heap.size w (w.alloc (.cells #[.slice g0 l0 k0,.slice g1 l1 k1,.slice g2 l2 k2,.slice g3 l3 k3,.slice g4 l4 k4,.bool bl] 157)).drew:=((Below.refl _ _).alloc (Nat.le_refl _) _).drew
 have kx:(w.alloc (.cells #[.slice g0 l0 k0,.slice g1 l1 k1,.slice g2 l2 k2,.slice g3 l3 k3,.slice g4 l4 k4,.bool bl] 157)).drew.heap[w.heap.size]?=some (.cells #[.slice g0 l0 k0,.slice g1 l1 k1,.slice g2 l2 k2,.slice g3 l3 k3,.slice g4 l4 k4,.bool bl] 157 (0,0)):=heap_alloc_new w _
 generalize (w.alloc (.cells #[.slice g0 l0 k0,.slice g1 l1 k1,.slice g2 l2 k2,.slice g3 l3 k3,.slice g4 l4 k4,.bool bl] 157)).drew=W0 at *
 have x0:=cell_of_row _ w.heap.size 0 _ _ (0,0) kx
 have x1:=cell_of_row _ w.heap.size 1 _ _ (0,0) kx
 have x2:=cell_of_row _ w.heap.size 2 _ _ (0,0) kx
 have x3:=cell_of_row _ w.heap.size 3 _ _ (0,0) kx
 have x4:=cell_of_row _ w.heap.size 4 _ _ (0,0) kx
 have x5:=cell_of_row _ w.heap.size 5 _ _ (0,0) kx
 simp only[List.getElem?_toArray,List.getElem?_cons_succ,List.getElem?_cons_zero]at x0 x1 x2 x3 x4 x5
 clear kx
 have CH:=hide (ae CH W0 b0)
 have B0:=hide b0
 clear b0
 go_wp2_with fail
 refine(ae CH).mono ?_
 rintro e w1 ⟨ev,od,rfl,ne,no,b1⟩
 clear CH x0 x1 x2 x3 x4 x5
 have b1:=ag (ae B0) b1
 have i0:=(ae H0).next b1
 have i3:=(ae H3).next b1
 have i4:=(ae H4).next b1
 have ie:=ne.toIn (ae L1) hL
 have io:=no.toIn (ae L2) hL
 clear ne no H0 H3 H4 B0
 go_wp2_with fail
 refine(jo _ _ _ _ _ i0 i4).mono ?_
 rintro e w2 ⟨r2,rfl,n2,b2⟩
 go_wp2_with fail
 refine(eW _ _ _ _ _ (ae E1).1 (ie.next b2) (n2.toIn (ae L3) hL)).mono ?_
 rintro e w3 ⟨r3,rfl,n3,b3⟩
 rw[(ae E1).2]at n3
 have b23:=ag b2 b3
 have i0:=i0.next b23
 have i3:=i3.next b23
 have i4:=i4.next b23
 have io:=io.next b23
 have i2:=n3.toIn (ae L4) hL
 have b1:=ag b1 b23
 clear ie n2 n3 b2 b3 b23 E1 L1 L3 L4
 go_wp2_with fail
 refine(ir _ _ 2 _ 2 (by decide) i2).mono ?_
 rintro e w4 ⟨r4,rfl,n4,b4⟩
 go_wp2_with fail
 refine(ir _ _ 4 _ 4 (by decide) (i4.next b4)).mono ?_
 rintro e w5 ⟨r5,rfl,n5,b5⟩
 have b45:=ag b4 b5
 have i0:=i0.next b45
 have i2:=i2.next b45
 have i3:=i3.next b45
 have i4:=i4.next b45
 have io:=io.next b45
 have b1:=ag b1 b45
 have j4:=(n4.next b5).toIn (ae L5) hL
 have j5:=n5.toIn (ae L6) hL
 clear n4 n5 b4 b5 b45 L5 L6
 obtain⟨g6,l6,k6,rfl⟩:=j4.is
 obtain⟨g7,l7,k7,rfl⟩:=j5.is
 go_wp2_with fail
 refine(se _ _ _ _ _ _ _ i0 j4 j5).mono ?_
 rintro e w6 ⟨r6,rfl,n6,b6⟩
 have j6:=n6.toIn (ae L7) hL
 clear n6 j4 j5
 go_wp2_with fail
 refine(eW _ _ _ _ _ (ae E2).1 (i3.next b6) j6).mono ?_
 rintro e w7 ⟨r7,rfl,n7,b7⟩
 have j7:=n7.toIn (ae L8) hL
 clear n7 j6
 go_wp2_with fail
 refine(gi _ _ 1 _ 1 (by decide) j7).mono ?_
 rintro e w8 ⟨r8,rfl,n8,b8⟩
 rw[(ae E2).2]at n8
 have j8:=n8.toIn (ae L9) hL
 have b68:=ag (ag b6 b7) b8
 have i0:=i0.next b68
 have i2:=i2.next b68
 have i4:=i4.next b68
 have io:=io.next b68
 have b1:=ag b1 b68
 clear j7 n8 b6 b7 b8 b68 i3 L7 L8 L9 E2
 go_wp2_with fail
 refine(eW _ _ _ _ _ (ae E3).1 j8 io).mono ?_
 rintro e w9 ⟨r9,rfl,n9,b9⟩
 rw[(ae E3).2]at n9
 have j9:=n9.toIn (ae L10) hL
 go_wp2_with fail
 refine(xx _ _ _ c3 rfl j9).mono ?_
 rintro e w10 ⟨r10,rfl,n10,b10⟩
 have j10:=n10.toIn (ae L11) hL
 have b90:=ag b9 b10
 have i0:=i0.next b90
 have i2:=i2.next b90
 have i4:=i4.next b90
 have io:=io.next b90
 have b1:=ag b1 b90
 clear j8 j9 n9 n10 b9 b10 b90 E3 L10 L11
 go_wp2_with fail
 refine(eW _ _ _ _ _ (ae E4).1 io j10).mono ?_
 rintro e w11 ⟨r11,rfl,n11,b11⟩
 rw[(ae E4).2]at n11
 have j11:=n11.toIn (ae L12) hL
 have i0:=i0.next b11
 have i2:=i2.next b11
 have i4:=i4.next b11
 have j10:=j10.next b11
 have b1:=ag b1 b11
 clear n11 b11 E4 io L12
 obtain⟨ga,la,ka,rfl⟩:=i2.is
 obtain⟨gb,lb,kb,rfl⟩:=j10.is
 obtain⟨gc,lc,kc,rfl⟩:=j11.is
 go_wp2_with fail
 refine(Cd _ _ _ _ _ _ _ _ _ _ _ h (h:Int) (ae hz) i0 j11 i2 j10 i4).mono ?_
 rintro e w12 ⟨r12,rfl,n12,b12⟩
 have s1:=b1.size
 have b1:=ag b1 b12
 clear i0 i2 i4 j10 j11 b12 hz
 go_wp2
 go_ret
 exact⟨r12,rfl,n12.mono s1,b1⟩
end Go.Proofs.YtgcnhfgpflncaaaGreatDoor
/- New of toom,over New of kara. -/
namespace Go.Proofs.YtgcnhfgpflncaaaGreatDoor
open Go.RowKit
set_option maxHeartbeats 1600000 in
theorem zp(CC0:uJ):uN:=by
 intro T w
 have CC:=hide (fun w=>CC0 T w)
 unfold Tab.val at CC ⊢
 go_enter Tryz.func111,Tryz.ntmps111
 go_wp2_with fail
 refine(ae CC _).mono ?_
 rintro e w1 ⟨gk,ge,g,rfl,E1,hgk,hge,hg,b1⟩
 have hg':w.heap.size<=g:=Nat.le_trans (by simp) hg
 have hge':w.heap.size<=ge:=Nat.le_trans (by simp) hge
 have hgk':w.heap.size<=gk:=Nat.le_trans (by simp) hgk
 have b0:=hide (ag ((Below.refl w.heap.size w).alloc (Nat.le_refl _) _) b1)
 have tl:=E1.eng.met.lt
 have HE:=hide E1
 clear CC b1 hg E1 hge hgk
 go_wp2
 go_ret
 refine⟨w1.heap.size,gk,ge,g,rfl,⟨?_,(ae HE).next ((Below.refl _ _).alloc (Nat.le_refl _) _),by omega⟩,(ae b0).size,hgk',hge',hg',(ae b0).alloc (ae b0).size _⟩
 exact cell_of_row _ w1.heap.size 0 _ _ (0,0) (heap_alloc_new w1 _)
end Go.Proofs.YtgcnhfgpflncaaaGreatDoor
/- New of kara. -/
namespace Go.Proofs.YtgcnhfgpflncaaaGreatDoor
open Go.RowKit
set_option maxHeartbeats 1600000 in
theorem xo(T:Tab)(w:World):
  Calls Tryz.prog 177 #[T.val] w fun e w'=>∃ ge g,e=.returned (.pointer (some ⟨ge,0,none⟩))/\qy w' ge g 0/\kO w' g T/\w.heap.size<=g/\w.heap.size<=ge/\Below w.heap.size w w':=by
 have CC:=hide (fun w=>new_any T w)
 unfold Tab.val at CC ⊢
 go_enter Tryz.func177,Tryz.ntmps177
 go_wp2_with fail
 refine(ae CC _).mono ?_
 rintro e w1 ⟨g,rfl,tn,hg,b1⟩
 have hg':w.heap.size<=g:=Nat.le_trans (by simp) hg
 have b0:=hide (ag ((Below.refl w.heap.size w).alloc (Nat.le_refl _) _) b1)
 have tl:=tn.lt
 have HT:=hide tn
 clear tn CC b1 hg
 go_wp2
 go_ret
 refine⟨w1.heap.size,g,rfl,⟨?_,?_,by omega,?_⟩,(ae HT).next ((Below.refl _ _).alloc (Nat.le_refl _) _),hg',(ae b0).size,(ae b0).alloc (ae b0).size _⟩
 ·exact cell_of_row _ w1.heap.size 0 _ _ (0,0) (heap_alloc_new w1 _)
 ·exact(ae HT).met.next ((Below.refl _ _).alloc (Nat.le_refl _) _)
 ·exact((ae HT).next ((Below.refl _ _).alloc (Nat.le_refl _) _)).ints
set_option maxHeartbeats 1600000 in
theorem Ew:uJ:=by
 intro T w
 have CC:=hide (fun w=>xo T w)
 unfold Tab.val at CC ⊢
 go_enter Tryz.func149,Tryz.ntmps149
 go_wp2_with fail
 refine(ae CC _).mono ?_
 rintro e w1 ⟨ge,g,rfl,E1,tn,hg,hge,b1⟩
 have hg':w.heap.size<=g:=Nat.le_trans (by simp) hg
 have hge':w.heap.size<=ge:=Nat.le_trans (by simp) hge
 have b0:=hide (ag ((Below.refl w.heap.size w).alloc (Nat.le_refl _) _) b1)
 have tl:=tn.lt
 have HT:=hide tn
 have HE:=hide E1
 clear tn CC b1 hg E1 hge
 go_wp2
 go_ret
 refine⟨w1.heap.size,ge,g,rfl,⟨?_,(ae HE).next ((Below.refl _ _).alloc (Nat.le_refl _) _),((ae HT).next ((Below.refl _ _).alloc (Nat.le_refl _) _)).tabC,by omega⟩,(ae b0).size,hge',hg',(ae b0).alloc (ae b0).size _⟩
 exact cell_of_row _ w1.heap.size 0 _ _ (0,0) (heap_alloc_new w1 _)
end Go.Proofs.YtgcnhfgpflncaaaGreatDoor
/- New of toom. -/
namespace Go.Proofs.YtgcnhfgpflncaaaGreatDoor
open Go.RowKit
theorem EE:uN:=zp Ew
end Go.Proofs.YtgcnhfgpflncaaaGreatDoor
/- New of the landed package mul. -/
namespace Go.Proofs.YtgcnhfgpflncaaaGreatDoor
open Go.RowKit
set_option maxHeartbeats 1600000 in
theorem EB:FG:=by
 intro T w
 have CC:=hide (fun w=>EE T w)
 unfold Tab.val at CC ⊢
 go_enter Tryz.func86,Tryz.ntmps86
 go_wp2_with fail
 refine(ae CC _).mono ?_
 rintro e w1 ⟨gt,gk,ge,g,rfl,E1,hgt,hgk,hge,hg,b1⟩
 have hg':w.heap.size<=g:=Nat.le_trans (by simp) hg
 have hge':w.heap.size<=ge:=Nat.le_trans (by simp) hge
 have hgk':w.heap.size<=gk:=Nat.le_trans (by simp) hgk
 have hgt':w.heap.size<=gt:=Nat.le_trans (by simp) hgt
 have b0:=hide (ag ((Below.refl w.heap.size w).alloc (Nat.le_refl _) _) b1)
 have tl:=E1.kara.eng.met.lt
 have HE:=hide E1
 clear CC b1 hg E1 hge hgk hgt
 go_wp2
 go_ret
 refine⟨w1.heap.size,gt,gk,ge,g,rfl,⟨?_,(ae HE).next ((Below.refl _ _).alloc (Nat.le_refl _) _),by omega⟩,⟨(ae b0).size,hgt',hgk',hge',hg'⟩,(ae b0).alloc (ae b0).size _⟩
 exact cell_of_row _ w1.heap.size 0 _ _ (0,0) (heap_alloc_new w1 _)
end Go.Proofs.YtgcnhfgpflncaaaGreatDoor
/- takeTimes and putBack of divs:a row times a word is taken from a piece of another;a row is added to it. -/
namespace Go.Proofs.YtgcnhfgpflncaaaGreatDoor
open Go.RowKit
set_option maxRecDepth 100000 in
set_option maxHeartbeats 3200000 in
theorem qQ(w:World)(g o n cap bb ob cb lb y:Nat)(gb:Option Addr)(z0 bs:List Nat)(hz:o+n<=z0.length)(hbl:bs.length=lb)(hlb:lb<=n)(hn:o+n<=1099511627776)(hy:y<18446744073709551616)
  (hZ:aB w g z0) (dz:ao z0) (hB:Rep w gb bb ob cb bs) (db:ao bs) (hne:0<bs.length->bb≠g):
  Calls Tryz.prog 153 #[.slice (some ⟨g,o,none⟩) n cap,.slice gb lb cb,.int .u64 (y:Int)] w fun e w'=>∃(c:Nat) (zs:List Nat),e=.returned (.int .u64 (c:Int))/\sL z0 zs bs y o lb c/\aB w' g zs/\w.grownBy w' (some g):=by
 have HNE:=hide hne
 clear hne
 go_enter Tryz.func153,Tryz.ntmps153
 go_wp2
 go_loopw [6,14] (fun c i wr=>∃(k cy:Nat) (zs:List Nat),k<=lb/\c=.int .u64 (cy:Int)/\i=.int .i64 (k:Int)/\cy<18446744073709551616/\aB wr g zs/\Hid (sL z0 zs bs y o k cy)/\Rep wr gb bb ob cb bs/\w.grownBy wr (some g))
  (fun _ i _=>lb-(intOf i).toNat)
 case atStart=>exact⟨0,0,z0,Nat.zero_le _,rfl,rfl,by omega,hZ,Jo dz bs y o,hB,bK _ _⟩
 case round=>
  obtain⟨k,cy,zs,hk,rfl,rfl,hcy,hBlk,hAt,hRb,hG⟩:=hrel
  have hzl:o+n<=zs.length:=by rw[hAt.out.1.1];exact hz
  by_cases h1:k<lb
  ·obtain rfl:=hRb.head (by omega)
   obtain⟨b,hb⟩:∃ b:Nat,b=bs.getD k 0:=⟨_,rfl⟩
   have hb64:b<18446744073709551616:=by rw[hb];exact db k
   have cb:wr.cell? ⟨bb,ob+k,none⟩=some (.int .u64 (b:Int)):=by rw[hb];exact hRb.cell k (by omega)
   obtain⟨r,hr⟩:∃ r:Nat,r=zs.getD (o+k) 0:=⟨_,rfl⟩
   have hr64:r<18446744073709551616:=by rw[hr];exact hAt.out.2.1 _
   have cr:wr.cell? ⟨g,o+k,none⟩=some (.int .u64 (r:Int)):=by rw[hr];exact hBlk.cell (o+k) (by omega)
   have fr:=hBlk.frozen (o+k)
   obtain⟨h0,e0⟩:∃ h0,h0=b*y/18446744073709551616:=⟨_,rfl⟩
   obtain⟨l0,e1⟩:∃ l0,l0=b*y%18446744073709551616:=⟨_,rfl⟩
   obtain⟨l1,e2⟩:∃ l1,l1=(l0+cy+0)%18446744073709551616:=⟨_,rfl⟩
   obtain⟨c1,e3⟩:∃ c1,c1=(l0+cy+0)/18446744073709551616:=⟨_,rfl⟩
   obtain⟨h1',e4⟩:∃ h1',h1'=h0+c1:=⟨_,rfl⟩
   obtain⟨d,e5⟩:∃ d,d=(r+18446744073709551616-l1-0)%18446744073709551616:=⟨_,rfl⟩
   obtain⟨c2,e6⟩:∃ c2,c2=(if r<l1+0 then 1 else 0):=⟨_,rfl⟩
   obtain⟨c3,e7⟩:∃ c3,c3=h1'+c2:=⟨_,rfl⟩
   obtain⟨q1,q2,q3,q4⟩:=Jn hb64 hy hcy hr64 e0 e1 e2 e3 e4 e5 e6 e7
   have H2:=hide (MI hAt.out (by omega) hr hb q3 q2 q4)
   have CM:=hide (fun w=>fw b y w hb64 hy)
   have CA:=hide (fun w=>ef l0 cy 0 0 w (Or.inl ⟨rfl,rfl⟩))
   have CB:=hide (fun w=>qp r l1 0 0 w (Or.inl ⟨rfl,rfl⟩))
   rw[<-e0, <-e1]at CM
   rw[<-e2, <-e3]at CA
   rw[<-e5, <-e6]at CB
   have E4:(h0:Int)+(c1:Int)=(h1':Int):=by omega
   have E7:(h1':Int)+(c2:Int)=(c3:Int):=by omega
   clear hr hb e0 e1 e2 e3 e4 e5 e6 e7 q4
   go_wp2_with fail
   refine(ae CM _).mono ?_
   rintro e w1 ⟨rfl,rfl⟩
   go_wp2_with fail
   refine(ae CA _).mono ?_
   rintro e w2 ⟨rfl,rfl⟩
   go_wp2_with fail
   refine(ae CB _).mono ?_
   rintro e w3 ⟨rfl,rfl⟩
   go_wp2
   exact⟨⟨k+1,c3,_,by omega,by first|rfl|exact congrArg (Value.int .u64) E7,by go_num,q2,hBlk.set (o+k) d,H2,hRb.but (aj _ _ _ _) (ae HNE),az hG (aj _ _ _ _)⟩,by simp[intOf];omega⟩
  ·obtain rfl:k=lb:=by omega
   go_wp2
   go_ret
   exact⟨cy,zs,rfl,hAt.out,hBlk,hG⟩
set_option maxRecDepth 100000 in
set_option maxHeartbeats 3200000 in
theorem wF(w:World)(g o n cap bb ob cb lb:Nat)(gb:Option Addr)(z0 bs:List Nat)(hz:o+n<=z0.length)(hbl:bs.length=lb)(hlb:lb<=n)(hn:o+n<=1099511627776)
  (hZ:aB w g z0) (dz:ao z0) (hB:Rep w gb bb ob cb bs) (db:ao bs) (hne:0<bs.length->bb≠g):
  Calls Tryz.prog 154 #[.slice (some ⟨g,o,none⟩) n cap,.slice gb lb cb] w fun e w'=>∃(c:Nat) (zs:List Nat),e=.returned (.tuple #[])/\uG z0 zs bs o lb c/\aB w' g zs/\w.grownBy w' (some g):=by
 have HNE:=hide hne
 clear hne
 go_enter Tryz.func154,Tryz.ntmps154
 go_wp2
 go_loopw [4,9] (fun c i wr=>∃(k cy:Nat) (zs:List Nat),k<=lb/\c=.int .u64 (cy:Int)/\i=.int .i64 (k:Int)/\cy<=1/\aB wr g zs/\Hid (uG z0 zs bs o k cy)/\Rep wr gb bb ob cb bs/\w.grownBy wr (some g))
  (fun _ i _=>lb-(intOf i).toNat)
 case atStart=>exact⟨0,0,z0,Nat.zero_le _,rfl,rfl,by omega,hZ,It dz bs o,hB,bK _ _⟩
 case round=>
  obtain⟨k,cy,zs,hk,rfl,rfl,hcy,hBlk,hAt,hRb,hG⟩:=hrel
  have hzl:o+n<=zs.length:=by rw[hAt.out.1.1];exact hz
  by_cases h1:k<lb
  ·obtain rfl:=hRb.head (by omega)
   obtain⟨b,hb⟩:∃ b:Nat,b=bs.getD k 0:=⟨_,rfl⟩
   have hb64:b<18446744073709551616:=by rw[hb];exact db k
   have cb:wr.cell? ⟨bb,ob+k,none⟩=some (.int .u64 (b:Int)):=by rw[hb];exact hRb.cell k (by omega)
   obtain⟨r,hr⟩:∃ r:Nat,r=zs.getD (o+k) 0:=⟨_,rfl⟩
   have hr64:r<18446744073709551616:=by rw[hr];exact hAt.out.2.1 _
   have cr:wr.cell? ⟨g,o+k,none⟩=some (.int .u64 (r:Int)):=by rw[hr];exact hBlk.cell (o+k) (by omega)
   have fr:=hBlk.frozen (o+k)
   obtain⟨d,e5⟩:∃ d,d=(r+b+cy)%18446744073709551616:=⟨_,rfl⟩
   obtain⟨c3,e6⟩:∃ c3,c3=(r+b+cy)/18446744073709551616:=⟨_,rfl⟩
   have q1:d<18446744073709551616:=by omega
   have q2:c3<=1:=by omega
   have H2:=hide (Lt hAt.out (by omega) hr hb q1 q2 (by omega))
   have CA:=hide (fun w=>ef r b cy cy w (by omega))
   rw[<-e5, <-e6]at CA
   clear hr hb e5 e6
   go_wp2_with fail
   refine(ae CA _).mono ?_
   rintro e w2 ⟨rfl,rfl⟩
   go_wp2
   exact⟨⟨k+1,c3,_,by omega,rfl,by go_num,q2,hBlk.set (o+k) d,H2,hRb.but (aj _ _ _ _) (ae HNE),az hG (aj _ _ _ _)⟩,by simp[intOf];omega⟩
  ·obtain rfl:k=lb:=by omega
   go_wp2
   go_end0
   exact⟨cy,zs,rfl,hAt.out,hBlk,hG⟩
end Go.Proofs.YtgcnhfgpflncaaaGreatDoor
/- guess,takeFrom and divisorOf of divs,and its trim. -/
namespace Go.Proofs.YtgcnhfgpflncaaaGreatDoor
open Go.RowKit
set_option maxRecDepth 100000 in
set_option maxHeartbeats 3200000 in
theorem BQ(w:World)(g o n cap bb ob cb m M v h:Nat)(gb:Option Addr)(zs ds:List Nat)(hz:o+n<=zs.length)(hdl:ds.length=M)(hM:M=m+2)(hlb:M+1<=n)(hn:o+n<=1099511627776)
  (hZ:aB w g zs) (dz:ao zs) (hB:Rep w gb bb ob cb ds) (dd:ao ds) (h63:9223372036854775808<=ds.getD (m+1) 0) (hv:v=kF (ds.getD (m+1) 0*18446744073709551616+ds.getD m 0))
  (hh:h=Fp (zs.getD (o+m+2) 0) (zs.getD (o+m+1) 0) (zs.getD (o+m) 0) (ds.getD (m+1) 0) (ds.getD m 0)):
  Calls Tryz.prog 152 #[.agg #[.slice gb M cb,.int .u64 (v:Int)],.slice (some ⟨g,o,none⟩) n cap] w fun e w'=>e=.returned (.int .u64 (h:Int))/\Below w.heap.size w w':=by
 obtain rfl:=hB.head (by omega)
 have bA:Below w.heap.size w (w.alloc (.cells #[.slice (some ⟨bb,ob,none⟩) M cb,.int .u64 (v:Int)] 139)):=(Below.refl _ w).alloc (Nat.le_refl _) _
 obtain⟨m1,hm1⟩:∃ m1,m1=m+1:=⟨_,rfl⟩
 have z2:=(hZ.next bA).cell (o+M) (by omega)
 have z1:=(hZ.next bA).cell (o+m1) (by omega)
 have z0:=(hZ.next bA).cell (o+m) (by omega)
 have b1:=(hB.next bA).cell m1 (by omega)
 have b0:=(hB.next bA).cell m (by omega)
 rw[show o+M=o+m+2 by omega]at z2
 rw[show o+m1=o+m+1 by omega]at z1
 rw[hm1]at b1
 have q2:=dz (o+m+2)
 have q1:=dz (o+m+1)
 have q0:=dz (o+m)
 have p1:=dd (m+1)
 have p0:=dd m
 generalize zs.getD (o+m+2) 0=u2 at *
 generalize zs.getD (o+m+1) 0=u1 at *
 generalize zs.getD (o+m) 0=u0 at *
 generalize ds.getD (m+1) 0=d1 at *
 generalize ds.getD m 0=d0 at *
 rw[show o+m+2=o+M by omega]at z2
 rw[show o+m+1=o+m1 by omega]at z1
 rw[<-hm1]at b1
 have i1:(M:Int)-1=(m1:Int):=by omega
 have i2:(M:Int)-2=(m:Int):=by omega
 have j1:M<n/\m1<n/\m<n/\m1<M/\m<M:=by omega
 obtain⟨j1,j2,j3,j4,j5⟩:=j1
 have jb:M<=1099511627776:=by omega
 have BA:=hide bA
 by_cases hc:u2<d1\/(u2=d1/\u1<d0)
 ·have CD:=hide (fun w=>Fe u2 u1 u0 d1 d0 v _ _ _ _ w h63 p1 p0 rfl hc q1 q0 hv rfl rfl rfl)
  have hh2:h=(u2*340282366920938463463374607431768211456+u1*18446744073709551616+u0)/(d1*18446744073709551616+d0):=by rw[hh];unfold Fp;rw[if_pos hc]
  rw[<-hh2]at CD
  generalize (u2*340282366920938463463374607431768211456+u1*18446744073709551616+u0)%(d1*18446744073709551616+d0)=R at *
  generalize R/18446744073709551616=R1 at *
  generalize R%18446744073709551616=R0 at *
  clear hh hh2 hv hM hm1 hZ dz hB dd hc hdl bA h63 q2 q1 q0 p1 p0 hz hlb hn
  go_enter Tryz.func152,Tryz.ntmps152
  go_wp2_with fail
  go_quiet ((go_at_call 181;exact Calls.quiet_of_same (ae CD _)))
  go_wp2
  go_ret
  exact⟨rfl,below_drewN (ae BA) _⟩
 ·have CD:=hide (fun w=>uy u2 u1 u0 d1 d0 v w (Or.inr ⟨h63,by omega⟩))
  have hh2:h=18446744073709551615:=by rw[hh];unfold Fp;rw[if_neg hc]
  subst hh2
  clear hh hv hM hm1 hZ dz hB dd hc hdl bA h63 q2 q1 q0 p1 p0 hz hlb hn
  go_enter Tryz.func152,Tryz.ntmps152
  go_wp2_with fail
  go_quiet ((go_at_call 181;exact Calls.quiet_of_same (ae CD _)))
  go_wp2
  go_ret
  exact⟨rfl,below_drewN (ae BA) _⟩
end Go.Proofs.YtgcnhfgpflncaaaGreatDoor
/- Power of an engine of school;Pow of the reference. -/
namespace Go.Proofs.YtgcnhfgpflncaaaGreatDoor
open Go.RowKit
set_option maxRecDepth 100000 in
set_option maxHeartbeats 3200000 in
theorem pM(w:World)(v:Value)(m k L:Nat)(hk:k<=64)(hL:L<=16384)(hm:m<4294967296^L)(hv:aY w v m):
  Calls Tryz.prog 28 #[v,.int .i64 (k:Int)] w fun e w'=>∃ r,e=.returned r/\aY w' r (m^k)/\Below w.heap.size w w':=by
 have CS:=hide (iw 1 (by omega) (by omega) w)
 have HPW:Hid (∀ i,i<=64->m^i<4294967296^(64*L+1)):=fun i hi=>by
  have h1:m^i<=(4294967296^L)^i:=Nat.pow_le_pow_left (by omega) i
  rw[<-Nat.pow_mul]at h1
  have h2:4294967296^(L*i)<4294967296^(64*L+1):=Nat.pow_lt_pow_right (by omega) (by have:L*i<=L*64:=Nat.mul_le_mul_left _ hi;omega)
  omega
 have HM:Hid (m<4294967296^(64*L+1)):=Nat.lt_of_lt_of_le hm (Nat.pow_le_pow_right (by omega) (by omega))
 have hki:(k:Int)<=64:=by omega
 have HL:Hid (64*L+1<=1073741824):=by show _<=_;omega
 generalize 64*L+1=B at *
 clear hm hL
 go_enter Tryz.func28,Tryz.ntmps28
 go_wp2_with fail
 refine(ae CS).mono ?_
 rintro e w1 ⟨r0,rfl,n0,b1⟩
 have hv:=hv.next b1
 clear CS
 go_wp2
 go_loopw [5,6] (fun r i wr=>∃(q:Nat),q<=k/\i=.int .i64 (q:Int)/\aY wr r (m^q)/\aY wr v m/\Below w.heap.size w wr)
  (fun _ i _=>k-(intOf i).toNat)
 case atStart=>exact⟨0,Nat.zero_le _,rfl,by rw[Nat.pow_zero];exact n0,hv,b1⟩
 case round=>
  obtain⟨q,hq,rfl,hN,hv,hnx⟩:=hrel
  by_cases h1:q<k
  ·go_wp2_with fail
   refine(mul_any _ _ _ _ _ B (ae HL) (ae HPW q (by omega)) (ae HM) hN hv).mono ?_
   rintro e w2 ⟨r2,rfl,n2,b2⟩
   have hb2:=ag hnx b2
   rw[<-Nat.pow_succ]at n2
   go_wp2
   exact⟨⟨q+1,by omega,by go_num,n2,hv.next b2,hb2⟩,by simp[intOf];omega⟩
  ·obtain rfl:q=k:=by omega
   go_wp2
   go_ret
   exact⟨_,rfl,hN,hnx⟩
end Go.Proofs.YtgcnhfgpflncaaaGreatDoor
