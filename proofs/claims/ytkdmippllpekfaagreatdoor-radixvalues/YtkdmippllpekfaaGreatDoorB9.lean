import Derived.Test.YtkdmippllpekfaaGreatDoorB5
import Derived.BigQuiet
import Derived.WalkSmall
import Derived.Laws.CopyOwn
import Derived.Lib.AppendZerosOnto
namespace Go.Proofs.YtkdmippllpekfaaGreatDoor
set_option maxRecDepth 100000
set_option maxHeartbeats 3200000
variable{l s:Int}{Cv ds o0 os qs rs sM xs ys z0 zs:List Nat}{A P X b base c c3 cap d g h i j k m n o p q r r0 r1 r2 t u uh ul v v2 vh y z:Nat}{f:Nat->Nat}{ga:Option Addr}{a w w':World}
section
open Go.RowKit
structure gQ(w:World)(g o:Nat)(s l m:Int):Prop where
 c0:w.cell? ⟨g,o,none⟩=some (.int .i64 s)
 c1:w.cell? ⟨g,o+1,none⟩=some (.int .i64 l)
 c2:w.cell? ⟨g,o+2,none⟩=some (.int .i64 m)
 f0:w.frozen? ⟨g,o,none⟩=false
 f1:w.frozen? ⟨g,o+1,none⟩=false
 f2:w.frozen? ⟨g,o+2,none⟩=false
structure Touch(g o n:Nat)(w w':World):Prop where
 grown:w.grownBy w' (some g)
 cell:∀j,(j<o\/o+n<=j)->w'.cell? ⟨g,j,none⟩=w.cell? ⟨g,j,none⟩
 frozen:∀j,w'.frozen? ⟨g,j,none⟩=w.frozen? ⟨g,j,none⟩
theorem Touch.trans{b c:World}(h:Touch g o n a b)(k:Touch g o n b c):Touch g o n a c:=
 ⟨cj h.grown k.grown,fun j hj=>(k.cell j hj).trans (h.cell j hj),fun j=>(k.frozen j).trans (h.frozen j)⟩
theorem Touch.drewN{b:World}(h:Touch g o n a b)(k:Nat):Touch g o n a (b.drewN k):=⟨pB h.grown k,h.cell,h.frozen⟩
theorem Touch.drew{b:World}(h:Touch g o n a b):Touch g o n a b.drew:=h.drewN 1
theorem Touch.set(g o n k:Nat)(w:World)(v:Value)(hk:k<n):Touch g o n w (w.setCell ⟨g,o+k,none⟩ v):=
 ⟨aY _ _ _ _,fun j hj=>eE _ _ _ _ (by intro e;injection e;omega),fun j=>by simp⟩
theorem gQ.XV{m:Int}(h:gQ w g o s l m)(v:Int):gQ (w.setCell ⟨g,o,none⟩ (.int .i64 v)) g o v l m:=
 ⟨yd _ _ _ h.c0,(eE _ _ _ _ (by simp)).trans h.c1,(eE _ _ _ _ (by simp)).trans h.c2,by simp[h.f0],by simp[h.f1],by simp[h.f2]⟩
theorem gQ.Oe{m:Int}(h:gQ w g o s l m)(v:Int):gQ (w.setCell ⟨g,o+1,none⟩ (.int .i64 v)) g o s v m:=
 ⟨(eE _ _ _ _ (by simp)).trans h.c0,yd _ _ _ h.c1,(eE _ _ _ _ (by simp)).trans h.c2,by simp[h.f0],by simp[h.f1],by simp[h.f2]⟩
theorem gQ.Tb{m:Int}(h:gQ w g o s l m)(v:Int):gQ (w.setCell ⟨g,o+2,none⟩ (.int .i64 v)) g o s l v:=
 ⟨(eE _ _ _ _ (by simp)).trans h.c0,(eE _ _ _ _ (by simp)).trans h.c1,yd _ _ _ h.c2,by simp[h.f0],by simp[h.f1],by simp[h.f2]⟩
theorem gQ.drewN{m:Int}(h:gQ w g o s l m)(k:Nat):gQ (w.drewN k) g o s l m:=⟨h.c0,h.c1,h.c2,h.f0,h.f1,h.f2⟩
theorem gQ.lt{m:Int}(h:gQ w g o s l m):g<w.heap.size:=aw _ _ h.c0
theorem gQ.next{m:Int}(h:gQ w g o s l m)(hb:Below w.heap.size w w'):gQ w' g o s l m:=
 ⟨(hb.cell (p:=⟨g,o,none⟩) h.lt).trans h.c0,(hb.cell (p:=⟨g,o+1,none⟩) h.lt).trans h.c1,(hb.cell (p:=⟨g,o+2,none⟩) h.lt).trans h.c2,
  (hb.frozen (p:=⟨g,o,none⟩) h.lt).trans h.f0,(hb.frozen (p:=⟨g,o+1,none⟩) h.lt).trans h.f1,(hb.frozen (p:=⟨g,o+2,none⟩) h.lt).trans h.f2⟩
theorem gQ.but{m:Int}(h:gQ w g o s l m)(hb:w.grownBy w' (some k))(hk:g≠k):gQ w' g o s l m:=
 have hne:∀p:Addr,p.block=g->w'.heap[p.block]?=w.heap[p.block]?:=fun p hp=>by rw[hp];exact hb.block g h.lt (fun e=>hk (aZ e))
 ⟨hb.cell h.c0 (by simpa using hk),hb.cell h.c1 (by simpa using hk),hb.cell h.c2 (by simpa using hk),(ky (hne _ rfl)).trans h.f0,(ky (hne _ rfl)).trans h.f1,(ky (hne _ rfl)).trans h.f2⟩
theorem Touch.after{b c:World}(h:Below a.heap.size a b)(k:Touch g o n b c)(hg:g<a.heap.size):Touch g o n a c:=
 ⟨cj (tB (iD a (some g)) h) k.grown,fun j hj=>(k.cell j hj).trans (h.cell (p:=⟨g,j,none⟩) hg),fun j=>(k.frozen j).trans (h.frozen (p:=⟨g,j,none⟩) hg)⟩
theorem Touch.then{b c:World}(h:Touch g o n a b)(k:Below b.heap.size b c)(hg:g<b.heap.size):Touch g o n a c:=
 ⟨tB h.grown k,fun j hj=>(k.cell (p:=⟨g,j,none⟩) hg).trans (h.cell j hj),fun j=>(k.frozen (p:=⟨g,j,none⟩) hg).trans (h.frozen j)⟩
theorem Touch.fresh{G:Nat}{b c:World}(h:Touch g o n a b)(k:b.grownBy c (some G))(hg:g<a.heap.size)(hG:a.heap.size<=G):Touch g o n a c:=by
 have hb:c.heap[g]?=b.heap[g]?:=k.block g (az hg h.grown.size) (by simp;omega);exact⟨⟨k.os.trans h.grown.os,k.tape.trans h.grown.tape,k.output.trans h.grown.output,ak h.grown.size k.size,fun j hj hn=>(k.block j (az hj h.grown.size) (by simp;omega)).trans (h.grown.block j hj hn)⟩,
  fun j hj=>(cZ (a:=⟨g,j,none⟩) hb).trans (h.cell j hj),fun j=>(ky (a:=⟨g,j,none⟩) hb).trans (h.frozen j)⟩
theorem Touch.keep{m:Int}(hM:gQ w g o s l m)(hT:Touch g o 3 w w'){v:Value}(h:w.cell? ⟨b,j,none⟩=some v)(hv:∀x,v≠ .int .i64 x):w'.cell? ⟨b,j,none⟩=some v:=by
 by_cases e:b=g
 ·subst e;by_cases hj:j<o\/o+3<=j
  ·exact(hT.cell j hj).trans h
  ·have:j=o\/j=o+1\/j=o+2:=(by omega);rcases this with rfl|rfl|rfl
   ·rw[hM.c0]at h;injection h with h;exact absurd h.symm (hv _)
   ·rw[hM.c1]at h;injection h with h;exact absurd h.symm (hv _)
   ·rw[hM.c2]at h;injection h with h;exact absurd h.symm (hv _)
 ·exact hT.grown.cell h (by simpa using e)
theorem jU{m:Int}(n t:Int)(h:gQ w g o s l m)(_h1: -9223372036854775808<=t)(_h2:t<=9223372036854775807)(ht:t=s+max n 0):Calls Tryz.prog 94 #[.pointer (some ⟨g,o,none⟩),.int .i64 n] w fun e w'=>e=.returned (.int .i64 t)/\gQ w' g o t l m/\Touch g o 3 w w':=by
 have H:=ag h;have HT:=ag ht;obtain⟨c0,c1,c2,f0,f1,f2⟩:=h;by_cases hn:n<0
 ·have e:t=s:=by omega
  subst e;clear ht;go_enter Tryz.func94,Tryz.ntmps94;go_wp2;go_ret;exact⟨rfl,(ae H).XV t,Touch.set g o 3 0 w _ (by omega)⟩
 ·have e:s+n=t:=by omega
  clear ht;go_enter Tryz.func94,Tryz.ntmps94;go_wp2;go_ret;exact⟨rfl,(ae H).XV _,Touch.set g o 3 0 w _ (by omega)⟩
theorem jS{m:Int}(k d:Int)(h:gQ w g o s l m)(hk:k=l+1)(hd:d=max m k)(h1: -9223372036854775808<=k)(h2:k<=9223372036854775807):Calls Tryz.prog 124 #[.pointer (some ⟨g,o,none⟩)] w fun e w'=>e=.returned (.int .i64 k)/\gQ w' g o s k d/\Touch g o 3 w w':=by
 have H:=ag h;obtain⟨c0,c1,c2,f0,f1,f2⟩:=h;have e:l+1=k:=hk.symm;have HE:Hid ((if m<k then k else m)=d):=by show _=_;rw[hd];split<;>omega
 clear hk hd;go_enter Tryz.func124,Tryz.ntmps124;go_wp2
 go_region
 rw[ae HE];go_wp2;go_ret;exact⟨rfl,(((ae H).Oe k).Tb d).drewN 1,(((Touch.set g o 3 1 w _ (by omega)).trans (Touch.set g o 3 2 _ _ (by omega))).drew)⟩
theorem oM(xs:List Nat)(k j d:Nat)(hk:k<xs.length):(xs.set k d).getD j 0=if j=k then d else xs.getD j 0:=by
 simp only[List.getD_eq_getElem?_getD,List.getElem?_set];by_cases h:k=j
 ·subst h;simp[hk]
 ·have:¬j=k:=fun e=>h e.symm;simp[h,this]
theorem Aw(h:oI xs)(hk:k<xs.length)(hd:d<4294967296):oI (xs.set k d):=by
 intro j;rw[oM xs k j d hk];split
 ·exact hd
 ·exact h j
theorem AK:∀(xs:List Nat) (k d:Nat),k<xs.length->val (xs.set k d)+4294967296^k*xs.getD k 0=val xs+4294967296^k*d
 |[],k,d,h=>absurd h (by simp)
 |x :: xs,0,d,_=>by simp[val];omega
 |x :: xs,k+1,d,h=>by have ih:=AK xs k d (by simpa using h);simp only[List.set_cons_succ,val,List.getD_cons_succ,Nat.pow_succ];rw[aC (4294967296^k) 4294967296,aF,aF];omega
def I8(ys o0 os:List Nat)(n i j x c:Nat):Prop:=
 os.length=n/\oI os/\c<4294967296/\(∀t,i+ys.length<=t->os.getD t 0=0)/\val os+4294967296^(i+j)*c=val o0+4294967296^i*(x*val (ys.take j))
def AV(xs ys os:List Nat)(n i:Nat):Prop:=
 os.length=n/\oI os/\(∀t,i+ys.length<=t->os.getD t 0=0)/\val os=val (xs.take i)*val ys
theorem y7(xs ys:List Nat)(n:Nat):AV xs ys (List.replicate n 0) n 0:=by
 have hz:∀t,(List.replicate n 0).getD t 0=0:=fun t=>by simp only[List.getD_eq_getElem?_getD,List.getElem?_replicate];split<;>rfl
 refine⟨by simp,fun j=>by rw[hz];omega,fun t _=>hz t,?_⟩;have:∀k,val (List.replicate k 0)=0:=by
  intro k;induction k with
  |zero=>rfl
  |succ k ih=>rw[ij,val,ih]
 rw[this];simp[val]
theorem aaf(h:AV xs ys os n i)(x:Nat):I8 ys os os n i 0 x 0:=
 ⟨h.1,h.2.1,by omega,h.2.2.1,by simp[val]⟩
theorem uN{x:Nat}(ho:o<4294967296)(hx:x<4294967296)(hy:y<4294967296)(hc:c<4294967296):x*y<=18446744065119617025/\(o+x*y+c)/4294967296<4294967296/\o+x*y+c<18446744073709551616:=by have:x*y<=4294967295*4294967295:=aP (by omega) (by omega);omega
theorem Xn{x:Nat}(h:I8 ys o0 os n i j x c)(hx:x<4294967296)(dy:oI ys)(hj:j<ys.length)(hn:i+j<n):I8 ys o0 (os.set (i+j) ((os.getD (i+j) 0+x*ys.getD j 0+c)%4294967296)) n i (j+1) x ((os.getD (i+j) 0+x*ys.getD j 0+c)/4294967296):=by
 obtain⟨h1,h2,h3,h4,h5⟩:=h;have hb:=uN (h2 (i+j)) hx (dy j) h3;refine⟨by simp[h1],Aw h2 (by omega) (by omega),hb.2.1,fun t ht=>?_,?_⟩
 ·rw[oM _ _ _ _ (by omega),aV (by omega)];exact h4 t ht
 ·have hs:=AK os (i+j) ((os.getD (i+j) 0+x*ys.getD j 0+c)%4294967296) (by omega);rw[cO, <-dt,aE];generalize os.getD (i+j) 0=o at *;have e1:4294967296^(i+j)*4294967296*((o+x*ys.getD j 0+c)/4294967296)+4294967296^(i+j)*((o+x*ys.getD j 0+c)%4294967296)=4294967296^(i+j)*o+4294967296^(i+j)*(x*ys.getD j 0)+4294967296^(i+j)*c:=by rw[aF, <-aH,aS,aH,aH]
  have e2:4294967296^i*(x*(val (ys.take j)+4294967296^j*ys.getD j 0))=4294967296^i*(x*val (ys.take j))+4294967296^(i+j)*(x*ys.getD j 0):=by rw[aH,aH,aQ,dW x,aF]
  omega
theorem NI(h0:AV xs ys o0 n i)(h:I8 ys o0 os n i ys.length (xs.getD i 0) c)(hn:i+ys.length<n):AV xs ys (os.set (i+ys.length) c) n (i+1):=by
 obtain⟨h1,h2,h3,h4,h5⟩:=h;refine⟨by simp[h1],Aw h2 (by omega) h3,fun t ht=>?_,?_⟩
 ·rw[oM _ _ _ _ (by omega),aV (by omega)];exact h4 t (by omega)
 ·have hs:=AK os (i+ys.length) c (by omega);rw[h4 _ (af _)]at hs;rw[cf]at h5;rw[cO,aX, <-h0.2.2.2,aF];omega
theorem qA(os:List Nat)(k d:Nat):(cellsOf os).set k (.int .u64 ((d:Nat):Int))=cellsOf (os.set k d):=by simp[cellsOf,List.map_set]
theorem oK(n:Nat):(madeCells #[Value.int .u64 0] n).toList=cellsOf (List.replicate n 0):=by rw[toList_madeCells_one];simp[cellsOf]
theorem abo{x:Nat}(hz:z<4294967296)(hx:x<4294967296)(hy:y<4294967296)(hc:c<4294967296):IntKind.u64.wrap (IntKind.u64.wrap ((z:Int)+IntKind.u64.wrap ((x:Int)*(y:Int)))+(c:Int))=((z+x*y+c:Nat):Int):=by
 obtain⟨b1,_,b3⟩:=uN hz hx hy hc;have e:(x:Int)*(y:Int)=((x*y:Nat):Int):=(aG x y).symm;rw[e];generalize x*y=p at *;rw[aK,aK,aK];omega
theorem So{ps:List Nat}{x:Nat}(HZ:z=ps.getD (k+q) 0)(HY:y=ys.getD q 0)(hz:z<4294967296)(hx:x<4294967296)(hy:y<4294967296)(hc:c<4294967296):Value.int .u64 (IntKind.u64.wrap ((IntKind.u64.wrap (IntKind.u64.wrap ((z:Int)+IntKind.u64.wrap ((x:Int)*(y:Int)))+(c:Int))).tdiv 4294967296))=.int .u64 (((ps.getD (k+q) 0+x*ys.getD q 0+c)/4294967296:Nat):Int):=by
 rw[abo hz hx hy hc, <-HZ, <-HY];have b:=(uN hz hx hy hc).2.2;generalize z+x*y+c=s at *;rw[lz (by omega),aK];congr 1;omega
theorem aad{wr:World}{B:Nat}{ps:List Nat}{x:Nat}(h:wr.ownsRow B t 1 (.slice (some ⟨g,0,none⟩) n n) n (cellsOf ps))(HZ:z=ps.getD (k+q) 0)(HY:y=ys.getD q 0)(hz:z<4294967296)(hx:x<4294967296)(hy:y<4294967296)(hc:c<4294967296)(nq:Nat):((wr.drewN nq).setCell ⟨g,k+q,none⟩ (.int .u64 ((IntKind.u64.wrap (IntKind.u64.wrap ((z:Int)+IntKind.u64.wrap ((x:Int)*(y:Int)))+(c:Int))).tmod 4294967296))).ownsRow B t 1 (.slice (some ⟨g,0,none⟩) n n) n (cellsOf (ps.set (k+q) ((ps.getD (k+q) 0+x*ys.getD q 0+c)%4294967296))):=by
 rw[abo hz hx hy hc, <-HZ, <-HY,LB, <-qA];have h':(wr.drewN nq).ownsRow B t 1 (.slice (some ⟨g,0,none⟩) n n) n (cellsOf ps):=h;exact(h'.stored _ _).1
theorem aae(w:World)(ga gb:Option Addr)(ba oa bb ob ca cb la lb:Nat)(xs ys:List Nat)(hx:xs.length=la)(hy:ys.length=lb)(ha:la<=1073741824)(hb:lb<=1073741824)(hA:cH w ga ba oa ca xs)(hB:cH w gb bb ob cb ys)(dx:oI xs)(dy:oI ys):Calls Tryz.prog 37 #[.slice ga la ca,.slice gb lb cb] w fun e w'=>∃v,e=.returned v/\jO w' v (val xs*val ys)/\Below w.heap.size w w':=by
 obtain⟨i0,hi,jx,gY,fX⟩:=fE Tryz.mf;go_enter Tryz.func37,Tryz.ntmps37
 go_wp2_with (at_make;refine zW _ rfl _ _ 34 rfl w.heap.size 47 i0 (.int .u64 0) 1 fT hi jx gY _ _ _ _ (la+lb) rfl rfl ?b0 ?b1 ?b2 ?b3 (af _) ?_)
 case b0=>omega
 case b1=>omega
 case b2=>rw[fX];omega
 case b3=>unfold maxLen;omega
 intro w0 EX BF;rw[oK]at EX;go_wp2
 go_loopw [6] (fun i wr=>∃(k:Nat) (os:List Nat),k<=la/\i=.int .i64 (k:Int)/\
   wr.ownsRow w.heap.size 47 1 (.slice (some ⟨w.heap.size,0,none⟩) (la+lb) (la+lb)) (la+lb) (cellsOf os)/\Hid (AV xs ys os (la+lb) k)/\Below w.heap.size w wr)
  (fun i _=>la-(intOf i).toNat)
 case atStart=>exact⟨0,_,aO _,rfl,EX,y7 xs ys _,(aj _ _).grown BF (af _) (fun k h=>by cases h)⟩
 case round=>
  obtain⟨k,os,hk,rfl,cV,v_,en⟩:=hrel;by_cases h1:k<la
  ·obtain rfl:=hA.head (by omega);obtain⟨x,HX⟩:∃x:Nat,Hid (x=xs.getD k 0):=⟨_,rfl⟩;have tI:x<4294967296:=by rw[HX.out];exact dx k
   go_wp2
   go_loopw [7,8] (fun c j wi=>∃(q cy:Nat) (ps:List Nat),q<=lb/\j=.int .i64 (q:Int)/\c=.int .u64 (cy:Int)/\cy<4294967296/\
     wi.ownsRow w.heap.size 47 1 (.slice (some ⟨w.heap.size,0,none⟩) (la+lb) (la+lb)) (la+lb) (cellsOf ps)/\Hid (I8 ys os ps (la+lb) k q x cy)/\Below w.heap.size w wi)
    (fun _ j _=>lb-(intOf j).toNat)
   case atStart=>exact⟨0,0,os,aO _,rfl,rfl,by omega,cV,aaf v_.out x,en⟩
   case round=>
    obtain⟨q,cy,ps,hq,rfl,rfl,zH,zJ,fN,hni⟩:=hrel;by_cases h2:q<lb
    ·obtain rfl:=hB.head (by omega);obtain⟨y,HY⟩:∃y:Nat,Hid (y=ys.getD q 0):=⟨_,rfl⟩;obtain⟨z,HZ⟩:∃z:Nat,Hid (z=ps.getD (k+q) 0):=⟨_,rfl⟩;have DY:y<4294967296:=by rw[HY.out];exact dy q
     have acF:z<4294967296:=by rw[HZ.out];exact fN.out.2.1 _
     have cx:wr.cell? ⟨ba,oa+k,none⟩=some (.int .u64 (x:Int)):=by rw[HX.out];exact(hni.cell (by exact hA.lt (by omega))).trans (hA.cell k (by omega))
     have Pc:wr.cell? ⟨bb,ob+q,none⟩=some (.int .u64 (y:Int)):=by rw[HY.out];exact(hni.cell (by exact hB.lt (by omega))).trans (hB.cell q (by omega))
     have ld:=(de zJ).2;have hl:=(de zJ).1;have cz:wr.cell? ⟨w.heap.size,k+q,none⟩=some (.int .u64 (z:Int)):=by rw[HZ.out];have:=ld.cell (k+q) (by omega);rwa [bh]at this
     have fz:=zJ.frozenAt (k+q);clear ld hl;go_wp2
     go_quiet (fail)
     go_wp2
     go_roundw
     case rel=>exact⟨q+1,_,_,by omega,by go_num,So HZ.out HY.out acF tI DY zH,(uN (by rw[<-HZ.out];exact acF) tI (dy q) zH).2.1,aad zJ HZ.out HY.out acF tI DY zH nq,Xn fN.out tI dy (by omega) (by omega),(below_drewN hni nq).setCell (af _) _⟩
     case measure=>simp[intOf];omega
    ·obtain rfl:q=lb:=(by omega);subst hy;have ld:=(de zJ).2;have hl:=(de zJ).1;have cz:wr.cell? ⟨w.heap.size,k+ys.length,none⟩=some (.int .u64 ((ps.getD (k+ys.length) 0:Nat):Int)):=by have:=ld.cell (k+ys.length) (by omega);rwa [bh]at this
     have fz:=zJ.frozenAt (k+ys.length);have HR:=ag (NI (c:=cy) v_.out (by rw[<-HX.out];exact fN.out) (by omega));have HO:=ag (zJ.stored (k+ys.length) (.int .u64 (cy:Int))).1;clear ld hl;go_wp2
     go_roundw
     case rel=>exact⟨k+1,_,by omega,by go_num,by have:=HO.out;rwa [qA]at this,HR,hni.setCell (af _) _⟩
     case measure=>simp[intOf];omega
  ·obtain rfl:k=la:=(by omega);obtain⟨hl,ld⟩:=de cV;have he:=v_.out.2.2.2;rw[bK (by omega)]at he;have hd:=v_.out.2.1;have HE:=ag he;clear he
   go_wp2_with fail
   refine(xL _ _ _ _ _ _ _ hl (by omega) ld hd).mono ?_;rintro e w' ⟨v,rfl,hN,rfl⟩;go_wp2;go_ret;exact⟨v,rfl,by rw[<-HE.out];exact hN,en⟩
theorem PE(w:World)(u v:Value)(m n L:Nat)(hL:L<=1073741824)(hm:m<4294967296^L)(hn:n<4294967296^L)(hu:jO w u m)(hv:jO w v n):Calls Tryz.prog 37 #[u,v] w fun e w'=>∃r,e=.returned r/\jO w' r (m*n)/\Below w.heap.size w w':=by
 obtain⟨ga,ba,oa,ca,xs,rfl,hA,cA,rfl⟩:=hu;obtain⟨gb,bb,ob,cb,ys,rfl,hB,cB,rfl⟩:=hv;have la:=oQ cA hm;have lb:=oQ cB hn;exact aae w ga gb ba oa bb ob ca cb _ _ xs ys rfl rfl (by omega) (by omega) hA hB cA.1 cB.1
theorem Tryz.pL:(Tryz.prog.info? 47).map (·.size)=some 1:=by kernel_rfl
theorem uy(w:World)(ga:Option Addr)(n cap m k:Nat)(hc:n<=cap)(_hm:m<=1073741824)(hk:k=min n m):Calls Tryz.prog 9 #[.slice ga n cap,.int .i64 (m:Int)] w fun e w'=>e=.returned (.slice ga k cap)/\w'=w:=by
 have pD:(m<n/\k=m)\/(¬m<n/\k=n):=by omega
 clear hk;rcases pD with⟨h,rfl⟩|⟨h,rfl⟩
 ·go_enter Tryz.func9,Tryz.ntmps9;go_wp2;go_ret;exact⟨fg rfl,rfl⟩
 ·go_enter Tryz.func9,Tryz.ntmps9;go_wp2;go_ret;exact⟨fg rfl,rfl⟩
def dS(n:Nat):List Value:=cellsOf (List.replicate n 0)
def iU(xs:List Nat):List Value:=cellsOf xs
theorem kU(n:Nat):(dS n).length=n:=by simp[dS,cellsOf]
theorem dL(xs:List Nat):(iU xs).length=xs.length:=by simp[iU,cellsOf]
theorem Lg(xs:List Nat)(n:Nat)(h:xs.length=n):splice (dS (n+4)) 0 (iU xs)=cellsOf (xs++List.replicate 4 0):=by simp[splice,dS,iU,cellsOf,h]
theorem rJ(n:Nat):madeCells (Value.int .u64 0).cells n=(dS n).toArray:=by have h:=oK n;have e:(Value.int .u64 0).cells=#[Value.int .u64 0]:=rfl;rw[e,dS, <-h]
theorem rm(hR:cH w ga b o cap xs)(ob:Obj):0<(iU xs).length->∃ad,ga=some ad/\∀j v,(iU xs)[j]?=some v->(w.alloc ob).cell? (ad.add j)=some v:=by
 intro hp;rw[dL]at hp;refine⟨⟨b,o,none⟩,hR.head hp,fun j v hj=>?_⟩;have hjn:j<xs.length:=by have:=(fq.1 hj).1;rwa [dL]at this
 have ea:(⟨b,o,none⟩:Addr).add j=⟨b,o+j,none⟩:=by
  by_cases h0:j=0
  ·subst h0;simp[Addr.add]
  ·simp[Addr.add,h0]
 rw[ea,World.cell?_alloc_past _ _ _ (hR.lt hp),hR.cell j hjn];simp[iU,cellsOf,List.getElem?_eq_getElem hjn]at hj;rw[<-hj,iK hjn]
theorem Ea(hg:w.heap[g]?=some (.cells (cellsOf xs).toArray t (0,0)))(hl:xs.length=n)(hb:base<=g)(hn:n<=maxLen):w.ownsRow base t 1 (.slice (some ⟨g,0,none⟩) n n) n (cellsOf xs):=
 ⟨by simp[hl],Or.inr ⟨g,n,(cellsOf xs).toArray,rfl,hb,hg,af _,hn,by simp[hl],by rw[bK (by simp[hl])]⟩⟩
theorem BO(w:World)(ga:Option Addr)(b o cap n:Nat)(xs:List Nat)(hl:xs.length=n)(hn:n<=1073741824)(hR:cH w ga b o cap xs)(F:Nat)(hF:F=6148914691236517205):Calls Tryz.prog 11 #[.slice ga n cap] w fun e w'=>e=.returned (.slice (some ⟨w.heap.size,0,none⟩) n (n+4))/\w'.ownsRow w.heap.size 47 1 (.slice (some ⟨w.heap.size,0,none⟩) (n+4) (n+4)) (n+4) (cellsOf (xs++List.replicate 4 F))/\Below w.heap.size w w':=by
 obtain⟨i0,hi,jx,gY,fX⟩:=fE Tryz.mf;have qG:∀w,(Instr.makeSlice 24 (.int .i64 (n:Int)) (.int .i64 ((n:Int)+4))).run Tryz.prog w=.ok (.slice (some ⟨w.heap.size,0,none⟩) n (n+4)) (w.alloc (.cells (dS (n+4)).toArray 47)):=fun w=>by
  have h:=Fv (P:=Tryz.prog) w 24 47 i0 (.int .u64 0) bm hi jx .i64 .i64 (n:Int) ((n:Int)+4) (by omega) (by omega) (by rw[fX];omega) (by omega);rw[h];have e1:((n:Int)).toNat=n:=by omega
  have e2:((n:Int)+4).toNat=n+4:=by omega
  rw[e1,e2,gY,dG,rJ]
 have HC:=ag (fun ob=>rm hR ob);go_enter Tryz.func11,Tryz.ntmps11
 go_wp2_with (refine wpList_copy_splice rfl _ _ 24 24 rfl 47 bm Tryz.pL _ _ n (n+4) n cap rfl rfl w.heap.size 0 (dS (n+4)) 47 ?h1 (iU xs) ?h2 ?h3 ?h4 (gD _) w.heap.size w ?h5 (af _) ?_)
 case h1=>exact aI w _
 case h2=>rw[dL,hl];exact(Jb n).symm
 case h3=>exact ae HC _
 case h4=>rw[dL,kU,hl];omega
 case h5=>exact(aj _ _).alloc (af _) _
 intro w2 kW jA;have qX:=Ea (base:=w.heap.size) (n:=n+4) (by rw[<-Lg xs n hl];exact kW.out) (by simp[hl]) (af _) (by unfold maxLen;omega);clear kW HC qG;go_wp2
 go_loopw [5] (fun i wr=>∃(k:Nat) (os:List Nat),n<=k/\k<=n+4/\i=.int .i64 (k:Int)/\Hid (os=xs++List.replicate (k-n) F)/\wr.ownsRow w.heap.size 47 1 (.slice (some ⟨w.heap.size,0,none⟩) (n+4) (n+4)) (n+4) (cellsOf (os++(xs++List.replicate 4 0).drop k))/\Below w.heap.size w wr) (fun i _=>n+4-(intOf i).toNat)
 case atStart=>exact⟨n,xs,af _,by omega,rfl,by show xs=_;simp,by rw[List.drop_append_of_le_length (by omega),List.drop_eq_nil_of_le (by omega)];simpa using qX,jA⟩
 case round=>
  obtain⟨k,os,DF,sK,rfl,hO,ho,en⟩:=hrel;have D_:os.length=k:=by rw[hO.out];simp;omega
  by_cases h1:k<n+4
  ·obtain⟨x,cx⟩:∃x,wr.cell? ⟨w.heap.size,k,none⟩=some x:=by
    have:=(de ho).2.cell k (by rw[(de ho).1];exact h1);rw[bh]at this;exact⟨_,this⟩
   have fx:=ho.frozenAt k;have HS:=ag (uQ (d:=F) ho D_ (by simp;omega));have HO2:Hid (os++[F]=xs++List.replicate (k+1-n) F):=by show _=_;rw[hO.out,fB,show k+1-n=k-n+1 from by omega,adA]
   rw[hF]at HS;clear D_;go_wp2;exact⟨⟨k+1,_,by omega,by omega,by go_num,HO2,by rw[hF];exact(ae HS).1,en.setCell (af _) _⟩,by simp[intOf];omega⟩
  ·obtain rfl:k=n+4:=(by omega);have Wg:os++(xs++List.replicate 4 0).drop (n+4)=xs++List.replicate 4 F:=(by rw[aT (by simp;omega),dU,hO.out,show n+4-n=4 from by omega]);rw[Wg]at ho;go_wp2;go_ret;exact⟨fg rfl,ho,en⟩
theorem VT(m j F:Nat)(h:j<m):(List.replicate m F).getD j 0=F:=by simp[List.getD_eq_getElem?_getD,h]
theorem Nr(w:World)(ga:Option Addr)(g b o cap n:Nat)(xs:List Nat)(hl:xs.length=n)(hn:n<=1073741824)(hR:cH w ga b o cap xs)(F:Nat)(hF:F=6148914691236517205)(hG:cH w (some ⟨g,0,none⟩) g 0 (n+4) (xs++List.replicate 4 F)):Calls Tryz.prog 16 #[.slice (some ⟨g,0,none⟩) n (n+4),.slice ga n cap] w fun e w'=>e=.returned (.bool true)/\Below w.heap.size w w':=by
 have q1:((n:Int)!=(n:Int))=false:=by simp
 have q3:((n:Int)+4 !=(n:Int)+4)=false:=by simp
 go_enter Tryz.func16,Tryz.ntmps16;go_wp2
 go_loopw [6] (fun i wr=>∃k:Nat,k<=n+4/\i=.int .i64 (k:Int)/\Below w.heap.size w wr) (fun i _=>n+4-(intOf i).toNat)
 case atStart=>exact⟨0,aO _,rfl,aj _ _⟩
 case round=>
  obtain⟨k,hk,rfl,en⟩:=hrel;by_cases h1:k<n+4
  ·have nV:g<w.heap.size:=hG.lt (by simp);by_cases h2:k<n
   ·obtain rfl:=hR.head (by omega);obtain⟨x,hx⟩:∃x:Nat,x=xs.getD k 0:=⟨_,rfl⟩;have cx:wr.cell? ⟨b,o+k,none⟩=some (.int .u64 (x:Int)):=by rw[hx];exact(en.cell (by exact hR.lt (by omega))).trans (hR.cell k (by omega))
    have cg:wr.cell? ⟨g,k,none⟩=some (.int .u64 (x:Int)):=by have:=(en.cell (p:=⟨g,0+k,none⟩) (by exact nV)).trans (hG.cell k (by simp;omega));rw[bh,jh,aW (by omega), <-hx]at this;exact this
    have s1:decide ((k:Int)<(n:Int))=true:=by simp;omega
    have s2:((x:Int)!=(x:Int))=false:=(by simp);have s3:decide ((n:Int)<=(k:Int))=false:=by simp;omega
    have s6:decide (n<=k)=false:=by simp;omega
    have s7:decide (k<n)=true:=by simp;omega
    have s4:(k:Int)<(n:Int):=(by omega);have s5:(k:Int)<(n:Int)+4:=(by omega);clear hx;go_wp2
    go_quiet (fail)
    go_wp2;exact⟨⟨k+1,by omega,by go_num,below_drewN en _⟩,by simp[intOf];omega⟩
   ·have cg:wr.cell? ⟨g,k,none⟩=some (.int .u64 6148914691236517205):=by
     have:=(en.cell (p:=⟨g,0+k,none⟩) (by exact nV)).trans (hG.cell k (by simp;omega));rw[bh,jh,aV (by omega),VT _ _ _ (by omega),hF]at this;exact this
    have s1:decide ((k:Int)<(n:Int))=false:=by simp;omega
    have s2:((6148914691236517205:Int)!=6148914691236517205)=false:=(by decide);have s3:decide ((n:Int)<=(k:Int))=true:=by simp;omega
    have s6:decide (n<=k)=true:=by simp;omega
    have s7:decide (k<n)=false:=by simp;omega
    have s4:¬(k:Int)<(n:Int):=(by omega);have s8:(n:Int)<=(k:Int):=(by omega);have s5:(k:Int)<(n:Int)+4:=(by omega);go_wp2
    go_quiet (fail)
    go_wp2;exact⟨⟨k+1,by omega,by go_num,below_drewN en _⟩,by simp[intOf];omega⟩
  ·go_wp2;go_ret;exact⟨rfl,en⟩
theorem uz(h:cH w ga b o cap xs)(m k:Nat)(hk:k=min xs.length m):(xs.take k).length=k/\cH w ga b o cap (xs.take k):=by
 have hl:k<=xs.length:=by omega
 exact⟨by simp;omega,h.take k hl⟩
theorem mI(h:∀j,xs.getD j 0<18446744073709551616)(k:Nat):∀j,(xs.take k).getD j 0<18446744073709551616:=by
 intro j;simp only[List.getD_eq_getElem?_getD,List.getElem?_take];split
 ·have:=h j;simpa [List.getD_eq_getElem?_getD]using this
 ·simp
theorem BQ{F:Nat}(h:w.ownsRow base t 1 (.slice (some ⟨g,0,none⟩) (n+4) (n+4)) (n+4) (cellsOf (xs++List.replicate 4 F)))(hl:xs.length=n):cH w (some ⟨g,0,none⟩) g 0 (n+4) xs/\cH w (some ⟨g,0,none⟩) g 0 (n+4) (xs++List.replicate 4 F):=by have h1:=(de h).2;refine⟨?_,h1⟩;have h2:=h1.take n (by simp;omega);rw[List.take_append_of_le_length (by omega),bK (by omega)]at h2;exact h2
theorem cH.next(h:cH w ga b o cap xs)(hb:Below w.heap.size w w'):cH w' ga b o cap xs:=h.below hb (af _)
theorem cH.drew(h:cH w ga b o cap xs):cH w.drew ga b o cap xs:=⟨h.head,h.room,h.cell⟩
end
section
def bG(xs:List Nat):Prop:=∀j,xs.getD j 0<18446744073709551616
def iS(xs:List Nat):Prop:=bG xs/\(0<xs.length->0<xs.getD (xs.length-1) 0)
theorem Dp:bG []:=fun j=>by simp
theorem ue:iS []:=⟨Dp,fun h=>absurd h (by simp)⟩
theorem TM(h:bG xs)(hd:d<18446744073709551616):bG (xs++[d]):=by
 intro j;rw[jh];split
 ·exact h j
 ·generalize j-xs.length=k
  match k with
  |0=>simpa using hd
  |k+1=>simp
theorem gH(h:bG xs)(k:Nat):bG (xs.take k):=by
 intro j;simp only[List.getD_eq_getElem?_getD,List.getElem?_take];split
 ·have:=h j;simpa [List.getD_eq_getElem?_getD]using this
 ·simp
theorem jk(xs ys:List Nat):aB (xs++ys)=aB xs+18446744073709551616^xs.length*aB ys:=by
 induction xs with
 |nil=>simp[aB]
 |cons d ds ih=>
  simp only[List.cons_append,aB,ih,List.length_cons,Nat.pow_succ,Nat.mul_add];rw[aC (18446744073709551616^ds.length) 18446744073709551616,aF];omega
theorem FQ(xs:List Nat)(d:Nat):aB (xs++[d])=aB xs+18446744073709551616^xs.length*d:=by rw[jk];simp[aB]
theorem cQ(xs:List Nat)(k:Nat):aB (xs.take (k+1))=aB (xs.take k)+18446744073709551616^k*xs.getD k 0:=by
 by_cases h:k<xs.length
 ·rw[zk xs k h,FQ,cF,bu (by omega)]
 ·rw[bK (by omega),bK (by omega),jo (by omega)];simp
theorem eZ(xs:List Nat)(k:Nat)(h:xs.length<=k):aB (xs.take k)=aB xs:=by rw[bK h]
theorem mU{xs:List Nat}(h:bG xs):∀k,aB (xs.take k)<18446744073709551616^k
 |0=>by simp[aB]
 |k+1=>by
  rw[cQ];have h1:=mU h k;have h2:=h k;have h3:18446744073709551616^k*xs.getD k 0<=18446744073709551616^k*18446744073709551615:=au _ (by omega);have h4:18446744073709551616^(k+1)=18446744073709551616^k*18446744073709551615+18446744073709551616^k:=by rw[aE, <-cJ]
  omega
theorem bF(h:bG xs):aB xs<18446744073709551616^xs.length:=by have:=mU h xs.length;rwa [cf]at this
theorem ja(xs:List Nat)(k:Nat):aB xs=aB (xs.take k)+18446744073709551616^k*aB (xs.drop k):=by
 by_cases h:k<=xs.length
 ·have:=jk (xs.take k) (xs.drop k);rw[eW,cF,bu h]at this;exact this
 ·rw[bK (by omega),aT (by omega)];simp[aB]
theorem AL(h:iS xs)(hl:0<xs.length):18446744073709551616^(xs.length-1)<=aB xs:=by have h1:=cQ xs (xs.length-1);rw[show xs.length-1+1=xs.length from by omega,cf]at h1;have h2:=h.2 hl;have h3:18446744073709551616^(xs.length-1)*1<=18446744073709551616^(xs.length-1)*xs.getD (xs.length-1) 0:=au _ (by omega);omega
theorem uX(hx:bG xs)(hy:iS ys)(h:xs.length<ys.length):aB xs<aB ys:=by have h1:=bF hx;have h2:=AL hy (by omega);have h3:18446744073709551616^xs.length<=18446744073709551616^(ys.length-1):=aA (by omega) (by omega);omega
theorem rW(hx:bG xs)(i:Nat)(hd:xs.drop (i+1)=ys.drop (i+1))(h:xs.getD i 0<ys.getD i 0):aB xs<aB ys:=by have h1:=ja xs (i+1);have h2:=ja ys (i+1);rw[cQ]at h1 h2;have h3:=mU hx i;have h4:18446744073709551616^i*(xs.getD i 0+1)<=18446744073709551616^i*ys.getD i 0:=au _ (by omega);rw[cJ]at h4;rw[hd]at h1;omega
theorem uf(hx:iS xs)(hy:iS ys)(h:aB xs=aB ys):xs=ys:=by
 have hl:xs.length=ys.length:=by
  rcases ig xs.length ys.length with l|l|l
  ·have:=uX hx.1 hy l;omega
  ·exact l
  ·have:=uX hy.1 hx l;omega
 have key:∀k,k<=xs.length->xs.drop (xs.length-k)=ys.drop (xs.length-k):=by
  intro k;induction k with
  |zero=>intro _;rw[lQ,aT (af _),aT (by omega)]
  |succ k ih=>
   intro hk;have ih:=ih (by omega);have e:xs.length-k=xs.length-(k+1)+1:=(by omega);rw[e]at ih;refine uC _ (by omega) hl ih ?_;rcases ig (xs.getD (xs.length-(k+1)) 0) (ys.getD (xs.length-(k+1)) 0)with l|l|l
   ·have:=rW hx.1 _ ih l;omega
   ·exact l
   ·have:=rW hy.1 _ ih.symm l;omega
 have:=key xs.length (af _);simpa using this
theorem uO(xs:List Nat):∀k,aB (xs.take (fV xs k))=aB (xs.take k)
 |0=>rfl
 |k+1=>by
  unfold fV;split
  ·rename_i h;rw[uO xs k,cQ,h];simp
  ·rfl
theorem jN(xs:List Nat):aB (yi xs)=aB xs:=by have:=uO xs xs.length;rw[cf]at this;exact this
theorem ku(h:bG xs):iS (yi xs):=by refine⟨gH h _,fun hl=>?_⟩;rw[ep]at hl ⊢;have h1:=tR xs xs.length hl;unfold yi;rw[aq,iO,aW (by omega)];rwa [aq]at h1
theorem mT(h:iS xs){L:Nat}(hv:aB xs<18446744073709551616^L):xs.length<=L:=by refine cG fun hl=>?_;have h1:=AL h (by omega);have h2:18446744073709551616^L<=18446744073709551616^(xs.length-1):=aA (by omega) (by omega);omega
theorem iX(h:bG xs)(hk:k<xs.length)(hd:d<18446744073709551616):bG (xs.set k d):=by
 intro j;rw[oM xs k j d hk];split
 ·exact hd
 ·exact h j
theorem ju:∀(xs:List Nat) (k d:Nat),k<xs.length->aB (xs.set k d)+18446744073709551616^k*xs.getD k 0=aB xs+18446744073709551616^k*d
 |[],k,d,h=>absurd h (by simp)
 |x :: xs,0,d,_=>by simp[aB];omega
 |x :: xs,k+1,d,h=>by have ih:=ju xs k d (by simpa using h);simp only[List.set_cons_succ,aB,List.getD_cons_succ,Nat.pow_succ];rw[aC (18446744073709551616^k) 18446744073709551616,aF,aF];omega
theorem qj(n:Nat):bG (List.replicate n 0)/\aB (List.replicate n 0)=0:=by
 constructor
 ·intro j;have:(List.replicate n 0).getD j 0=0:=by simp only[List.getD_eq_getElem?_getD,List.getElem?_replicate];split<;>rfl
  omega
 ·induction n with
  |zero=>rfl
  |succ k ih=>rw[ij,aB,ih]
theorem Dx(x:Nat):aB [x]=x:=by simp[aB]
theorem LK{x:Nat}(h:x<18446744073709551616):bG [x]:=fun j=>by
 match j with
 |0=>simpa using h
 |j+1=>simp
theorem nB(h:bG xs)(k:bG ys):bG (xs++ys):=by
 intro j;rw[jh];split
 ·exact h j
 ·exact k _
theorem fJ(h:bG xs)(k:Nat):bG (xs.drop k):=by
 intro j;have e:(xs.drop k).getD j 0=xs.getD (k+j) 0:=by simp[List.getD_eq_getElem?_getD]
 rw[e];exact h _
theorem YO(h:bG xs):∀x ∈ xs,x<18446744073709551616:=by intro x hx;obtain⟨j,hj,rfl⟩:=mh hx;have:=h j;rwa [iK hj]at this
theorem TS(p:Nat):18446744073709551616^p=4294967296^(2*p):=by rw[dH]
theorem iZ(p:Nat):0<18446744073709551616^p:=bR (by omega)
theorem aas(hm:m<18446744073709551616^p)(hn:n<18446744073709551616^p):m+n<18446744073709551616^(p+1):=by rw[aE];omega
theorem oX(hm:m<18446744073709551616^p)(h:p<=q):m<18446744073709551616^q:=az hm (aA (by omega) h)
end
section
open Go.RowKit
theorem Z7(w:World)(ga gb:Option Addr)(ca cb la lb:Nat)(_ha:la<=1099511627776)(_hb:lb<=1099511627776)(h:la<lb\/lb<la):Calls Tryz.prog 58 #[.slice ga la ca,.slice gb lb cb] w fun e w'=>e=.returned (.int .i64 (if la<lb then -1 else 1))/\w'=w:=by
 rcases h with h|h
 ·have hne:((la:Int)!=(lb:Int))=true:=by rw[kd];omega
  go_enter Tryz.func58,Tryz.ntmps58;go_wp2;go_ret;exact⟨bY rfl,rfl⟩
 ·have hne:((la:Int)!=(lb:Int))=true:=by rw[kd];omega
  have hn:¬la<lb:=by omega
  go_enter Tryz.func58,Tryz.ntmps58;go_wp2;go_ret;exact⟨bY rfl,rfl⟩
theorem Z6(w:World)(ga gb:Option Addr)(ba oa bb ob ca cb:Nat)(xs ys:List Nat)(n:Nat)(hx:xs.length=n)(hy:ys.length=n)(ha:n<=1099511627776)(hA:cH w ga ba oa ca xs)(hB:cH w gb bb ob cb ys)(dx:oI xs)(dy:oI ys):Calls Tryz.prog 58 #[.slice ga n ca,.slice gb n cb] w fun e w'=>e=.returned (.int .i64 (js (val xs) (val ys)))/\Below w.heap.size w w':=by
 have hne:((n:Int)!=(n:Int))=false:=by simp
 go_enter Tryz.func58,Tryz.ntmps58;go_wp2
 go_loopw [5] (fun i wr=>∃k:Nat,k<=n/\i=.int .i64 ((k:Int)-1)/\Hid (xs.drop k=ys.drop k)/\Below w.heap.size w wr) (fun i _=>(intOf i+1).toNat)
 case atStart=>exact⟨n,af _,rfl,by show xs.drop n=ys.drop n;rw[aT (by omega),aT (by omega)],aj _ _⟩
 case round=>
  obtain⟨k,hk,rfl,hD,en⟩:=hrel;by_cases dh:0<k
  ·obtain⟨j,rfl⟩:∃j,k=j+1:=⟨k-1,by omega⟩;have ej:((j+1:Nat):Int)-1=(j:Int):=(by omega);rw[ej];obtain rfl:=hA.head (by omega);obtain rfl:=hB.head (by omega);obtain⟨x,HX⟩:∃x:Nat,Hid (x=xs.getD j 0):=⟨_,rfl⟩;obtain⟨y,HY⟩:∃y:Nat,Hid (y=ys.getD j 0):=⟨_,rfl⟩;have cx:wr.cell? ⟨ba,oa+j,none⟩=some (.int .u64 (x:Int)):=by rw[HX.out];exact(en.cell (by exact hA.lt (by omega))).trans (hA.cell j (by omega))
   have cy:wr.cell? ⟨bb,ob+j,none⟩=some (.int .u64 (y:Int)):=by rw[HY.out];exact(en.cell (by exact hB.lt (by omega))).trans (hB.cell j (by omega))
   rcases ig x y with l|l|l
   ·have e:=jR (uB dx j hD.out (by rw[<-HX.out, <-HY.out];exact l));have E:=ag e;clear e;go_wp2
    go_quiet (fail)
    go_wp2;go_ret;exact⟨bY (ae E).symm,below_drewN en _⟩
   ·have l1:¬x<y:=(by omega);have l2:¬y<x:=(by omega);have H:=ag (uC j (by omega) (hx.trans hy.symm) hD.out (by rw[<-HX.out, <-HY.out];exact l));clear l;go_wp2
    go_quiet (fail)
    go_wp2
    go_quiet (fail)
    go_wp2
    go_roundw
    case rel=>exact⟨j,by omega,by go_num,H,below_drewN en _⟩
    case measure=>simp[intOf]
   ·have l1:¬x<y:=(by omega);have e:=lG (uB dy j hD.out.symm (by rw[<-HX.out, <-HY.out];exact l));have E:=ag e;clear e;go_wp2
    go_quiet (fail)
    go_wp2
    go_quiet (fail)
    go_wp2;go_ret;exact⟨bY (ae E).symm,below_drewN (below_drewN en _) _⟩
  ·obtain rfl:k=0:=(by omega);have e:=mO (gi val (by simpa using hD.out:xs=ys));have E:=ag e;clear e;go_wp2;go_ret;exact⟨bY (ae E).symm,en⟩
theorem Z4(w:World)(u v:Value)(m n L:Nat)(hL:L<=1073741824)(hm:m<4294967296^L)(hn:n<4294967296^L)(hu:jO w u m)(hv:jO w v n):Calls Tryz.prog 58 #[u,v] w fun e w'=>e=.returned (.int .i64 (js m n))/\Below w.heap.size w w':=by
 obtain⟨ga,ba,oa,ca,xs,rfl,hA,cA,rfl⟩:=hu;obtain⟨gb,bb,ob,cb,ys,rfl,hB,cB,rfl⟩:=hv;have la:=oQ cA hm;have lb:=oQ cB hn;by_cases h:xs.length=ys.length
 ·rw[h];exact Z6 w ga gb ba oa bb ob ca cb xs ys ys.length h rfl (by omega) hA hB cA.1 cB.1
 ·refine(Z7 w ga gb ca cb xs.length ys.length (by omega) (by omega) (by omega)).mono ?_;rintro e w' ⟨rfl,rfl⟩;refine⟨bY ?_,aj _ _⟩;by_cases hl:xs.length<ys.length
  ·rw[aW hl,jR (Hd cA.1 cB hl)]
  ·rw[aV hl,lG (Hd cB.1 cA (by omega))]
end
section
structure zq(A D k:Nat)(rs qs:List Nat):Prop where
 dr:oI rs
 dq:oI qs
 r:val rs=A/2^k%D
 q:val qs=A/2^k/D*2^k
theorem FW(n:Nat):val (List.replicate n 0)=0:=by have:=(y7 [] [] n).2.2.2;simpa [val]using this
theorem FV(n:Nat):oI (List.replicate n 0):=(y7 [] [] n).2.1
theorem Re{D:Nat}(h:A<2^k):zq A D k (List.replicate n 0) (List.replicate m 0):=
 ⟨FV _,FV _,by rw[bq h,FW];simp,by rw[Nat.div_eq_of_lt h,FW];simp⟩
theorem Pk(A i:Nat):A/2^i=2*(A/2^(i+1))+A/2^i%2:=by rw[aE, <-cI];omega
theorem J2{D:Nat}(hb:b<=1)(hD:0<D):(D<=2*(P%D)+b->(2*P+b)/D=2*(P/D)+1/\(2*P+b)%D=2*(P%D)+b-D)/\(2*(P%D)+b<D->(2*P+b)/D=2*(P/D)/\(2*P+b)%D=2*(P%D)+b):=by
 have hm:=aD P hD;have e:=aS P D;have e2:2*P+b=(2*(P%D)+b)+D*(2*(P/D)):=by have:D*(2*(P/D))=2*(D*(P/D)):=dW _ _ _;omega
 generalize P%D=R at *;generalize P/D=Q at *;constructor
 ·intro h;have e3:2*P+b=(2*R+b-D)+D*(2*Q+1):=by rw[aH];omega
  rw[e3];exact⟨by rw[g9 _ _ hD,bq (by omega)];omega,by rw[ez];exact bc (by omega)⟩
 ·intro h;rw[e2];exact⟨by rw[g9 _ _ hD,bq h];omega,by rw[ez];exact bc h⟩
theorem FH(Q i:Nat):Q*2^(i+1)=2*Q*2^i:=by rw[aE,aC (2^i) 2, <-aF,aC Q 2]
theorem ab8{D:Nat}(hD:0<D)(h:zq A D (i+1) rs qs)(dr':oI Cv)(hX:2*val rs+A/2^i%2<D)(hr:val Cv=2*val rs+A/2^i%2):zq A D i Cv qs:=by have hh:=(J2 (P:=A/2^(i+1)) (b:=A/2^i%2) (by omega) hD).2 (by rw[<-h.r];exact hX);rw[<-Pk]at hh;refine⟨dr',h.dq,by rw[hr,hh.2,h.r],?_⟩;rw[h.q,hh.1,FH]
theorem EK{D:Nat}(h:zq A D (i+1) rs qs):qs.getD (i/32) 0||| 2^(i%32)=qs.getD (i/32) 0+2^(i%32)/\qs.getD (i/32) 0+2^(i%32)<4294967296:=by
 have hz:=ML qs (i/32) h.dq;have ht:i%32<32:=aD _ (by omega);have e:2^(i+1)=2^(i%32+1)*4294967296^(i/32):=by rw[PM, <-aQ];congr 1;omega
 have e2:(4294967296:Nat)=2^(31-i%32)*2^(i%32+1):=by rw[<-aQ,show 31-i%32+(i%32+1)=32 from by omega]
 rw[h.q,e, <-aF,iR _ (bR (by omega))]at hz;generalize A/(2^(i%32+1)*4294967296^(i/32))/D=Q at hz;generalize i%32=t at *;have fX:qs.getD (i/32) 0=Q%2^(31-t)*2^(t+1):=by
  rw[hz]
  conv=>lhs;rw[e2]
  rw[je]
 have hu:Q%2^(31-t)<2^(31-t):=aD _ (bR (by omega));rw[fX];generalize Q%2^(31-t)=u at *;have hp:2^t<2^(t+1):=by rw[aE];have:0<2^t:=bR (by omega);omega
 refine⟨Hl u (2^t) (t+1) hp,?_⟩;have h1:(u+1)*2^(t+1)<=2^(31-t)*2^(t+1):=ax _ hu;rw[<-e2,aX]at h1;omega
theorem h_{D:Nat}(hD:0<D)(h:zq A D (i+1) rs qs)(dr':oI Cv)(hX:D<=2*val rs+A/2^i%2)(hr:val Cv=2*val rs+A/2^i%2-D)(hi:i/32<qs.length):zq A D i Cv (qs.set (i/32) (qs.getD (i/32) 0+2^(i%32))):=by
 have hh:=(J2 (P:=A/2^(i+1)) (b:=A/2^i%2) (by omega) hD).1 (by rw[<-h.r];exact hX);rw[<-Pk]at hh;have hz:=EK h;refine⟨dr',Aw h.dq hi hz.2,by rw[hr,hh.2,h.r],?_⟩;have hv:=AK qs (i/32) (qs.getD (i/32) 0+2^(i%32)) hi;have e:4294967296^(i/32)*2^(i%32)=2^i:=by rw[PM, <-aQ,aS]
 rw[aH,e]at hv;have hq:=h.q;rw[FH]at hq;rw[hh.1,aX,cX];omega
theorem VA{D R:Nat}(hr:R=P%D)(hD:0<D)(hm:D<4294967296^m)(hb:b<=1):2*R+b<4294967296^(m+1):=by have h:=aD P hD;rw[<-hr]at h;rw[aE];omega
theorem Vy{D:Nat}(h:zq A D 0 rs qs):val rs=A%D/\val qs=A/D:=by have h1:=h.r;have h2:=h.q;simp at h1 h2;exact⟨h1,h2⟩
end
section
open Go.RowKit
def abM(B:Nat)(v:Value):Prop:=∀a m c,v=.slice (some a) m c->0<m->B<=a.block
def Ap(w:World)(a d:Nat)(e:Ending)(w':World):Prop:=∃q r,e=.returned (.tuple #[q,r])/\jO w' q (a/d)/\jO w' r (a%d)/\Below w.heap.size w w'/\abM w.heap.size q
theorem Vz{a:Nat}(q r:Value)(h1:jO w' q (a/d))(h2:jO w' r (a%d))(h3:Below w.heap.size w w')(h4:abM w.heap.size q):Ap w a d (.returned (.tuple #[q,r])) w':=⟨q,r,rfl,h1,h2,h3,h4⟩
theorem uI(w:World):jO w (.slice none 0 0) 0:=⟨none,0,0,0,[],rfl,cH.nil _ _ _ _ _,Gh,rfl⟩
theorem LU(p:Nat)(h:p<18446744073709551616):IntKind.u64.wrap (p:Int)=(p:Int):=by rw[aK];omega
theorem acX(h1:z||| p=z+p)(h2:z+p<4294967296):bits .or .u64 (z:Int) (IntKind.u64.wrap (p:Int))=((z+p:Nat):Int):=by rw[LU p (by omega),nW z p (by omega) (by omega),h1]
theorem acW(h1:z||| 2^t=z+2^t)(h2:z+2^t<4294967296):bits .or .u64 (z:Int) (IntKind.u64.wrap (2^t))=((z+2^t:Nat):Int):=by rw[lK];exact acX h1 h2
theorem Rg{ty:Nat}(h:w.ownsRow base ty 1 (.slice (some ⟨g,0,none⟩) n cap) n (cellsOf qs))(h1:qs.getD j 0||| 2^t=qs.getD j 0+2^t)(h2:qs.getD j 0+2^t<4294967296):(w.setCell ⟨g,j,none⟩ (.int .u64 (bits .or .u64 ((qs.getD j 0:Nat):Int) (IntKind.u64.wrap (2^t))))).ownsRow base ty 1 (.slice (some ⟨g,0,none⟩) n cap) n (cellsOf (qs.set j (qs.getD j 0+2^t)))/\w.grownBy (w.setCell ⟨g,j,none⟩ (.int .u64 (bits .or .u64 ((qs.getD j 0:Nat):Int) (IntKind.u64.wrap (2^t))))) (some g):=by
 rw[acW h1 h2, <-qA];exact h.stored _ _
theorem MO(w:World)(ga gd:Option Addr)(ba oa bd od ca cd n m:Nat)(xs ds:List Nat)(hx:xs.length=n)(hd:ds.length=m)(hn:n<=1073741824)(hm:m<=1073741824)(hA:cH w ga ba oa ca xs)(hD:cH w gd bd od cd ds)(cA:Can xs)(cD:Can ds)(vo:0<val ds)(A D:Nat)(eA:A=val xs)(eD:D=val ds):Calls Tryz.prog 43 #[.slice ga n ca,.slice gd m cd] w fun e w'=>Ap w A D e w':=by
 obtain⟨i0,hi,jx,gY,fX⟩:=fE Tryz.mf;have Ac:jO w (.slice ga n ca) A:=by subst hx eA;exact⟨ga,ba,oa,ca,xs,rfl,hA,cA,rfl⟩
 have hcd:jO w (.slice gd m cd) D:=by subst hd eD;exact⟨gd,bd,od,cd,ds,rfl,hD,cD,rfl⟩
 obtain⟨L,hL,hnL,hmL⟩:∃L,L<=1073741824/\n<=L/\m<=L:=⟨max n m,by omega,by omega,by omega⟩;have ad2:=Z4 w _ _ A D L hL (by rw[eA];exact az (ph cA.1) (aA (by omega) (by omega))) (by rw[eD];exact az (ph cD.1) (aA (by omega) (by omega))) Ac hcd;have HC:=ag ad2;have EA:=ag eA;have ED:=ag eD;clear ad2 eA eD;by_cases dh:A<D
 ·go_enter Tryz.func43,Tryz.ntmps43
  go_wp2_with fail
  refine(ae HC).mono ?_;rintro e w1 ⟨rfl,b1⟩;rw[jR dh];go_wp2
  go_ret2
  exact Vz _ _ (by rw[bq dh];exact uI _) (by rw[bc dh];exact Ac.next b1) b1 (fun a m c h=>by cases h)
 ·have Nc:¬js A D<0:=by unfold js;rw[aV dh];split<;>omega
  go_enter Tryz.func43,Tryz.ntmps43
  go_wp2_with fail
  refine(ae HC).mono ?_;rintro e w1 ⟨rfl,b1⟩;generalize js A D=cv at *
  go_wp2_with (at_make;refine zW _ rfl _ _ 24 rfl w.heap.size 47 i0 (.int .u64 0) 1 bm hi jx gY _ _ _ _ (m+1) rfl rfl ?c0 ?c1 ?c2 ?c3 ?c4 ?_)
  case c0=>omega
  case c1=>omega
  case c2=>rw[fX];omega
  case c3=>unfold maxLen;omega
  case c4=>exact b1.size
  intro w2 Ps Mf;rw[oK]at Ps;obtain⟨g1,Po⟩:∃g1,g1=w1.heap.size:=⟨_,rfl⟩;rw[<-Po]at Ps ⊢;clear Po
  go_wp2_with (at_make;refine zW _ rfl _ _ 34 rfl w.heap.size 47 i0 (.int .u64 0) 1 fT hi jx gY _ _ _ _ n rfl rfl ?d0 ?d1 ?d2 ?d3 ?d4 ?_)
  case d0=>omega
  case d1=>omega
  case d2=>rw[fX];omega
  case d3=>unfold maxLen;omega
  case d4=>exact ak b1.size Mf.size
  intro w3 zK Rz;rw[oK]at zK;obtain⟨g2,ad6⟩:∃g2,g2=w2.heap.size:=⟨_,rfl⟩;rw[<-ad6]at zK ⊢;have RF:=Ps.lt g1 rfl;have aff:=zK.lt g2 rfl;have hne:g1≠g2:=by omega
  have hr1:=Ps.kept Rz (Or.inr (by simp[Value.ownBlock]));have b2:Below w.heap.size w w2:=b1.grown Mf b1.size (fun k h=>by cases h);have b3:Below w.heap.size w w3:=b2.grown Rz b2.size (fun k h=>by cases h);have HG:=ag hne;clear Ps Mf Rz b1 b2 ad6 HC hne
  go_wp2_with fail
  refine(U9 _ ga ba oa ca n xs hx hn (hA.below b3 (af _)) cA.1).mono ?_;rintro e w4 ⟨K,rfl,hK1,xt,rfl⟩;have S0:=ag (Re (A:=A) (D:=D) (k:=K) (n:=m+1) (m:=n) (by rw[ae EA];exact xt));clear xt;go_wp2
  go_loopw [8] (fun i wr=>∃(k:Nat) (rs qs:List Nat),k<=K/\i=.int .i64 ((k:Int)-1)/\rs.length=m+1/\qs.length=n/\Hid (zq A D k rs qs)/\
    wr.ownsRow w.heap.size 47 1 (.slice (some ⟨g1,0,none⟩) (m+1) (m+1)) (m+1) (cellsOf rs)/\wr.ownsRow w.heap.size 47 1 (.slice (some ⟨g2,0,none⟩) n n) n (cellsOf qs)/\Below w.heap.size w wr) (fun i _=>(intOf i+1).toNat)
  case atStart=>exact⟨K,_,_,af _,rfl,by simp,by simp,S0,hr1,zK,b3⟩
  case round=>
   obtain⟨k,rs,qs,hk,rfl,Mh,hql,fN,hor,hoq,en⟩:=hrel;clear hr1 zK b3 S0;by_cases h0:0<k
   ·obtain⟨i,rfl⟩:∃i,k=i+1:=⟨k-1,by omega⟩;have ej:((i+1:Nat):Int)-1=(i:Int):=(by omega);rw[ej];clear ej
    go_wp2_with fail
    refine(ZP _ ga ba oa ca n i xs hx hn (by omega) (hA.below en (af _)) cA.1).mono ?_;rintro e w5 ⟨rfl,rfl⟩;rw[<-ae EA];obtain⟨b,hb⟩:∃b,b=A/2^i%2:=⟨_,rfl⟩;have tE:b<=1:=(by omega);rw[<-hb];have HB:=ag hb;clear hb
    go_wp2_with fail
    have hDk:=hD.below en (af _);have hXl:2*val rs+b<4294967296^(m+1):=VA fN.out.r (by rw[ae ED];exact vo) (by rw[ae ED, <-hd];exact ph cD.1) tE;refine(TH _ w.heap.size g1 (m+1) (m+1) rs ds gd bd od cd m b hor Mh hd (by omega) (by omega) fN.out.dr cD.1 hDk (fun h=>by have:=hD.lt (by omega);omega) tE _ rfl hXl).mono ?_;rintro e w6 ⟨more,Cv,rfl,Ad,dr',aee,hg6,hm'⟩;have E_:=hoq.kept hg6 (Or.inr (by simp[Value.ownBlock];exact(ae HG).symm));have hn6:Below w.heap.size w w6:=en.grown hg6 en.size (fun k h=>by cases h;omega);have D1:=ag fN.out;clear hXl hDk hor hoq hg6 fN;rcases hm' with⟨rfl,h1,h2⟩|⟨rfl,h1,h2⟩
    ·have H1:=ag h1;have H2:=ag h2;clear h1 h2;obtain⟨j,hj⟩:∃j,j=i/32:=⟨_,rfl⟩;obtain⟨t,ht⟩:∃t,t=i%32:=⟨_,rfl⟩;have ej:(i:Int)/32=(j:Int):=(by omega);have et:(i:Int)%32=(t:Int):=(by omega);have hjn:j<n:=(by omega);have af5:t<32:=(by omega);obtain⟨z,HZ⟩:∃z:Nat,Hid (z=qs.getD j 0):=⟨_,rfl⟩;have cz:w6.cell? ⟨g2,j,none⟩=some (.int .u64 (z:Int)):=by have:=(de E_).2.cell j (by omega);rw[bh, <-HZ.out]at this;exact this
     have fz:=E_.frozenAt j;have HJ:=ag hj;have HT:=ag ht;clear hj ht;have hz:=EK (ae D1);have J':=h_ (by rw[ae ED];exact vo) (ae D1) dr' (by rw[<-ae HB,ae ED];exact ae H1) (by rw[<-ae HB,ae ED];exact ae H2) (by rw[<-ae HJ];omega);rw[<-ae HJ, <-ae HT]at hz J';have vp:=Rg E_ hz.1 hz.2;rw[<-HZ.out]at vp J';have abk:=aee.kept vp.2 (Or.inr (by simp[Value.ownBlock];exact ae HG));have hb7:Below w.heap.size w _:=hn6.grown vp.2 hn6.size (fun k h=>by cases h;omega);have R1:=ag vp.1;have R2:=ag abk;have R3:=ag hb7;have R4:=ag J';clear vp abk hb7 J' hz;go_wp2;exact⟨⟨i,Cv,_,by omega,rfl,Ad,by simpa using hql,R4,ae R2,ae R1,ae R3⟩,by simp[intOf]⟩
    ·have RJ:=ab8 (by rw[ae ED];exact vo) (ae D1) dr' (by rw[<-ae HB,ae ED];exact h1) (by rw[<-ae HB];exact h2);have R4:=ag RJ;clear h1 h2 RJ;go_wp2;exact⟨⟨i,Cv,qs,by omega,rfl,Ad,hql,R4,aee,E_,hn6⟩,by simp[intOf]⟩
   ·obtain rfl:k=0:=(by omega);obtain⟨Mi,IK⟩:=Vy fN.out;have hdr:=fN.out.dr;have hdq:=fN.out.dq;have V1:=ag Mi;have V2:=ag IK;clear Mi IK
    go_wp2_with fail
    have CN:=ag (Ky wr _ g2 0 n qs (by omega) (de hoq).2);rw[hql]at CN;have Mf:=(hoq.lt g2 rfl).1;have nq:jO wr (.slice (some ⟨g2,0,none⟩) (fV qs n) n) (val qs):=⟨_,g2,0,n,yi qs,by rw[ep,hql],(de hoq).2.take _ (fZ _ _),PH hdq,PJ qs⟩;refine(ae CN).mono ?_;rintro e w7 ⟨rfl,rfl⟩;clear CN
    go_wp2_with fail
    refine(xL _ _ g1 0 (m+1) (m+1) rs Mh (by omega) (de hor).2 hdr).mono ?_;rintro e w8 ⟨vr,rfl,nr,rfl⟩;go_wp2
    go_ret2
    exact Vz _ vr (by rw[<-ae V2];exact nq) (by rw[<-ae V1];exact nr) en (fun a m c h _=>by cases h;exact Mf)
theorem MN(w:World)(u v:Value)(a d L:Nat)(hL:L<=1073741824)(ha:a<4294967296^L)(hd:d<4294967296^L)(vo:0<d)(hu:jO w u a)(hv:jO w v d):Calls Tryz.prog 43 #[u,v] w fun e w'=>Ap w a d e w':=by
 obtain⟨ga,ba,oa,ca,xs,rfl,hA,cA,rfl⟩:=hu;obtain⟨gb,bb,ob,cb,ys,rfl,hB,cB,rfl⟩:=hv;have la:=oQ cA ha;have lb:=oQ cB hd;exact MO w ga gb ba oa bb ob ca cb _ _ xs ys rfl rfl (by omega) (by omega) hA hB cA cB vo _ _ rfl rfl
end
section
open Go.RowKit
end
section
theorem G8(a0 a1 b0 b1:Nat):a0*b0+a1*b1<=(a0+a1)*(b0+b1):=by
 have e:(a0+a1)*(b0+b1)=a0*b0+a1*b1+(a0*b1+a1*b0):=by grind
 omega
theorem RW(a0 a1 b0 b1:Nat):(a0+a1)*(b0+b1)-(a0*b0+a1*b1)=a0*b1+a1*b0:=by
 have e:(a0+a1)*(b0+b1)=a0*b0+a1*b1+(a0*b1+a1*b0):=by grind
 omega
theorem Nx(P a0 a1 b0 b1:Nat):a0*b0+P*((a0+a1)*(b0+b1)-(a0*b0+a1*b1))+P*P*(a1*b1)=(a0+P*a1)*(b0+P*b1):=by
 rw[RW]
 grind
theorem yV(xs ys:List Nat)(h:Nat):aB (xs.take h)*aB (ys.take h)+18446744073709551616^h*((aB (xs.take h)+aB (xs.drop h))*(aB (ys.take h)+aB (ys.drop h))-(aB (xs.take h)*aB (ys.take h)+aB (xs.drop h)*aB (ys.drop h)))+18446744073709551616^(2*h)*(aB (xs.drop h)*aB (ys.drop h))=aB xs*aB ys:=by rw[ja xs h,ja ys h,show 2*h=h+h by omega,aQ];exact Nx _ _ _ _ _
theorem Kh{a0 a1:Nat}(h0:a0<18446744073709551616^h)(h1:a1<18446744073709551616^h):a0+a1<18446744073709551616^(h+1):=by rw[aE];omega
end
section
open Go.RowKit
theorem hU{m:Int}(k:Int)(u:FrameMode)(h:gQ w g o s l m)(hk:k=max (l-1) 0)(h1:0<=l)(h2:l<=9223372036854775807):CallsD Tryz.prog 125 #[.pointer (some ⟨g,o,none⟩)] u w fun e u' w'=>u'=u/\(e=.returned (.int .i64 k)/\gQ w' g o s k m/\Touch g o 3 w w'):=by
 have H:=ag h;obtain⟨c0,c1,c2,f0,f1,f2⟩:=h;by_cases hn:l-1<0
 ·have e:k=0:=by omega
  subst e;clear hk
  go_enter_d Tryz.func125,Tryz.ntmps125
  go_wp2;go_ret;exact⟨rfl,(ae H).Oe 0,Touch.set g o 3 1 w _ (by omega)⟩
 ·have e:l-1=k:=by omega
  clear hk
  go_enter_d Tryz.func125,Tryz.ntmps125
  go_wp2;go_ret;exact⟨rfl,(ae H).Oe _,Touch.set g o 3 1 w _ (by omega)⟩
theorem aaW{v n:Int}(hn:0<n): -n<v.tmod n/\v.tmod n<n/\(0<=v.tmod n->v%n=v.tmod n)/\(v.tmod n<0->v%n=v.tmod n+n):=by
 have h1:=Int.tmod_lt_of_pos v hn;have h2:=Int.lt_tmod_of_pos v hn;have e:v%n=v.tmod n%n:=by
  conv=>lhs;rw[<-Int.mul_tdiv_add_tmod v n]
  rw[Int.mul_add_emod_self_left]
 refine⟨h2,h1,fun h=>?_,fun h=>?_⟩
 ·rw[e,Int.emod_eq_of_lt h h1]
 ·rw[e, <-Int.add_emod_right,Int.emod_eq_of_lt (by omega) (by omega)]
theorem Ds(v n:Int)(w:World)(_h1: -9223372036854775808<=v)(_h2:v<=9223372036854775807)(hn:1<=n)(xA:n<=4611686018427387904):Calls Tryz.prog 20 #[.int .i64 v,.int .i64 n] w fun e w'=>e=.returned (.int .i64 (v%n))/\w'=w:=by
 have qH:¬n<1:=by omega
 obtain⟨t1,t2,t3,t4⟩:=aaW (v:=v) (n:=n) (by omega);have T3:=ag t3;have T4:=ag t4;clear t3 t4;go_enter Tryz.func20,Tryz.ntmps20;go_wp2
 ·go_ret;exact⟨bY (by rw[ae T4 (by assumption)]),rfl⟩
 ·go_ret;exact⟨bY (by rw[ae T3 (by assumption)]),rfl⟩
theorem He(w:World)(t:Nat):gQ (w.alloc (.cells #[.int .i64 0,.int .i64 0,.int .i64 0] t)) w.heap.size 0 0 0 0:=by have hk:(w.alloc (.cells #[.int .i64 0,.int .i64 0,.int .i64 0] t)).heap[w.heap.size]?=some (.cells #[.int .i64 0,.int .i64 0,.int .i64 0] t (0,0)):=aI w _;exact⟨ay _ w.heap.size 0 _ t (0,0) hk,ay _ w.heap.size 1 _ t (0,0) hk,ay _ w.heap.size 2 _ t (0,0) hk,bZ _ w.heap.size 0 _ _ hk,bZ _ w.heap.size 1 _ _ hk,bZ _ w.heap.size 2 _ _ hk⟩
end
section
def lk:Nat:=180143985094819841
def kA:Nat:=1945555039024054273
def iI:Nat:=4179340454199820289
theorem Bq{x:Nat}(h:x%p=y%p):p∣x-y:=by have:=Nat.sub_mod_eq_zero_of_mod_eq h;exact Nat.dvd_of_mod_eq_zero this
theorem Lx{x:Nat}(h0:x%lk=y%lk)(h1:x%kA=y%kA)(h2:x%iI=y%iI)(hx:x<lk*kA*iI)(hle:y<=x):x=y:=by
 have d0:=Bq h0;have d1:=Bq h1;have d2:=Bq h2;have c01:Nat.Coprime lk kA:=by unfold Nat.Coprime;decide+kernel
 have c2:Nat.Coprime (lk*kA) iI:=by unfold Nat.Coprime;decide+kernel
 have d:=c2.mul_dvd_of_dvd_of_dvd (c01.mul_dvd_of_dvd_of_dvd d0 d1) d2;have:=Nat.eq_zero_of_dvd_of_lt d (by omega);omega
theorem TA{x:Nat}(h0:x%lk=y%lk)(h1:x%kA=y%kA)(h2:x%iI=y%iI)(hx:x<lk*kA*iI)(hy:y<lk*kA*iI):x=y:=by
 rcases abJ y x with h|h
 ·exact Lx h0 h1 h2 hx h
 ·exact(Lx h0.symm h1.symm h2.symm hy h).symm
def sN:Nat->(Nat->Nat)->Nat
 |0,_=>0
 |n+1,f=>sN n f+f n
theorem aev(h:∀j,j<n->f j<=c):sN n f<=n*c:=by
 induction n with
 |zero=>exact aO _
 |succ n ih=>
  have h1:=ih fun j hj=>h j (by omega);have h2:=h n (by omega);show sN n f+f n<=(n+1)*c;rw[aX,cX];omega
theorem aaE(h:∀j,j<n->f j=0):sN n f=0:=by
 induction n with
 |zero=>rfl
 |succ n ih=>show sN n f+f n=0;rw[ih fun j hj=>h j (by omega),h n (by omega)]
theorem aaD(hz:∀j,j<n->j≠i->f j=0)(hc:i<n->f i<=c):sN n f<=c:=by
 induction n with
 |zero=>exact aO _
 |succ n ih=>
  show sN n f+f n<=c;by_cases hi:n=i
  ·subst hi;rw[aaE fun j hj=>hz j (by omega) (by omega),bh];exact hc (by omega)
  ·rw[hz n (by omega) hi,dB];exact ih (fun j hj=>hz j (by omega)) fun h=>hc (by omega)
theorem Hf(p a b:Nat):Cg p (ml p a b:Int) ((a:Int)*(b:Int)):=by have:=Cg.mod p (a*b);rwa [aG]at this
theorem Xf(x c:Nat)(h:p%2=1)(hp:p<18446744073709551616):mm p x (ml p c 18446744073709551616)=ml p x c:=by
 have h0:0<p:=by omega
 refine Cg.eq (p:=p) ?_ (aD _ h0) (aD _ h0);refine(Cg.mod p _).trans (Cg.trans ?_ (Hf p x c).symm);rw[aG,aG];have h1:=((Cg.refl p (x:Int)).mul (Hf p c 18446744073709551616)).mul (Cg.refl p (ib p:Int));refine h1.trans ?_;have h2:=(Cg.refl p ((x:Int)*(c:Int))).mul (yT h hp);rw[gZ]at h2;refine Cg.trans (Cg.of_eq ?_) h2;show(x:Int)*((c:Int)*(18446744073709551616:Int))*(ib p:Int)=(x:Int)*(c:Int)*((ib p:Int)*18446744073709551616);generalize (18446744073709551616:Int)=B
 grind
def gx(r0:Nat):Nat:=rd lk r0
def gy(r0 r1 v:Nat):Nat:=ml kA (sb kA r1 (gx r0)) v
def gz(r0 r1 r2 v v2 v3:Nat):Nat:=ml iI (sb iI (ml iI (sb iI r2 (gx r0)) v2) (gy r0 r1 v)) v3
def gn(r0 r1 r2 v v2 v3:Nat):Nat:=gx r0+lk*(gy r0 r1 v+kA*gz r0 r1 r2 v v2 v3)
theorem aa0:0<lk:=by decide
theorem Qe:0<kA:=by decide
theorem Iu:0<iI:=by decide
theorem abg(r0:Nat):gx r0<lk:=aD _ aa0
theorem abh(r0 r1 v:Nat):gy r0 r1 v<kA:=aD _ Qe
theorem abi(r0 r1 r2 v v2 v3:Nat):gz r0 r1 r2 v v2 v3<iI:=aD _ Iu
theorem Ho{a:Nat}(h:ml p d v=1):Cg p ((d:Int)*(ml p a v:Int)) (a:Int):=by have h1:=(Cg.refl p (d:Int)).mul (Hf p a v);have h2:=Hf p d v;rw[h]at h2;have h3:=(Cg.refl p (a:Int)).mul h2.symm;rw[show((1:Nat):Int)=1 from rfl,gZ]at h3;exact h1.trans ((Cg.of_eq (by grind)).trans h3)
theorem aeW(r0 r1 r2 v v2 v3:Nat):gn r0 r1 r2 v v2 v3%lk=r0%lk:=by unfold gn;rw[ez];exact vC _ _
theorem aeX{v3:Nat}(h:ml kA lk v=1):gn r0 r1 r2 v v2 v3%kA=r1%kA:=by refine Cg.same ?_;unfold gn;have h1:=Ho (a:=sb kA r1 (gx r0)) h;have h2:=Cw Qe r1 (gx r0);have h3:=(Cg.refl kA (gx r0:Int)).add (h1.trans h2);rw[fL,aG,fL,aG];have h4:Cg kA ((gx r0:Int)+(lk:Int)*((gy r0 r1 v:Int)+(kA:Int)*(gz r0 r1 r2 v v2 v3:Int))) ((gx r0:Int)+(lk:Int)*(gy r0 r1 v:Int)):=⟨(lk:Int)*(gz r0 r1 r2 v v2 v3:Int),by grind⟩;exact h4.trans (h3.trans (Cg.of_eq (by omega)))
theorem aeY{v3:Nat}(h:ml iI lk v2=1)(h':ml iI kA v3=1):gn r0 r1 r2 v v2 v3%iI=r2%iI:=by refine Cg.same ?_;unfold gn;rw[fL,aG,fL,aG];have h1:=Ho (a:=sb iI (ml iI (sb iI r2 (gx r0)) v2) (gy r0 r1 v)) h';have h2:=Cw Iu (ml iI (sb iI r2 (gx r0)) v2) (gy r0 r1 v);have h3:=(Cg.refl iI (gy r0 r1 v:Int)).add (h1.trans h2);have h4:Cg iI ((gy r0 r1 v:Int)+(kA:Int)*(gz r0 r1 r2 v v2 v3:Int)) (ml iI (sb iI r2 (gx r0)) v2:Int):=h3.trans (Cg.of_eq (by omega));have h5:=Ho (a:=sb iI r2 (gx r0)) h;have h6:=Cw Iu r2 (gx r0);have h7:=(Cg.refl iI (lk:Int)).mul h4;have h8:=(Cg.refl iI (gx r0:Int)).add (h7.trans (h5.trans h6));exact h8.trans (Cg.of_eq (by omega))
theorem Vx{x:Nat}(hx:x<p)(hy:y<q):x+p*y<p*q:=by have:p*(y+1)<=p*q:=au _ hy;rw[aH,dG]at this;omega
theorem adQ(r0 r1 r2 v v2 v3:Nat):gn r0 r1 r2 v v2 v3<lk*kA*iI:=by rw[aF];exact Vx (abg r0) (Vx (abh r0 r1 v) (abi r0 r1 r2 v v2 v3))
theorem YS{x hi lo mid w0 w1 w2:Nat}(h1:hi*18446744073709551616+lo=z*q+y)(h2:mid*18446744073709551616+w0=lo*p+x)(h3:w2*18446744073709551616+w1=hi*p+mid):w0+18446744073709551616*(w1+18446744073709551616*w2)=x+p*(y+q*z):=by
 generalize 18446744073709551616=B at *;have e1:p*(y+q*z)=p*(hi*B)+p*lo:=by rw[<-aH,h1,aC z q,fj]
 have e2:B*(w1+B*w2)=B*(hi*p+mid):=by rw[<-h3];grind
 rw[e1,e2,aH]
 grind
theorem xU{a:Nat}(ha:a<18446744073709551616)(hb:b<18446744073709551616)(hc:c<18446744073709551616):a*b+c<18446744073709551616*18446744073709551616:=by have:=aP (show a<=18446744073709551615 by omega) (show b<=18446744073709551615 by omega);omega
theorem adI{vl:Nat}(hu:u=uh*X+ul)(hl:ul<X)(hv:v=vh*X+vl)(h0:0<vh):u/v<=uh/vh:=by
 rw[dE h0];have h1:u/v*v<=u:=cR u v;generalize u/v=q at *;have h2:q*(vh*X)<=u:=ak (au q (by omega)) h1;have h3:q*vh*X<(uh+1)*X:=by rw[aF,aX,cX];omega
 have:=iQ h3;omega
theorem adJ{vl e:Nat}(hu:u=uh*X+ul)(hv:v=vh*X+vl)(Mk:vl<X)(hh:h*vh<=uh)(he:h<=e*vh):h<=u/v+e:=by
 have hX:0<X:=by omega
 rcases fh h with h0|h0
 ·rw[h0];exact aO _
 have hvh:0<vh:=by
  rcases fh vh with z|z
  ·subst z;simp at he;omega
  ·exact z
 have v0:0<v:=by have:=qq hvh hX;omega
 have h1:h*v<u+e*v:=by
  have a1:h*vh*X<=uh*X:=ax X hh;have a2:h*vl<h*X:=sY Mk h0;have a3:h*X<=e*vh*X:=ax X he;have a4:e*vh*X<=e*v:=by rw[aF];exact au e (by omega)
  have a5:h*v=h*vh*X+h*vl:=by rw[hv,aH,aF]
  omega
 have h2:u+e*v<(u/v+e+1)*v:=by
  have:=gR v0 (a:=u);have e1:(u/v+e+1)*v=u/v*v+e*v+v:=by rw[aX,aX,cX]
  omega
 have:=iQ (jY h1 h2);omega
theorem Vv{vl:Nat}(hu:u=uh*X+ul)(hv:v=vh*X+vl)(Mk:vl<X)(hh:h*vh<=uh)(hb:h<18446744073709551616)(ht:18446744073709551616<=vh):h<=u/v+1:=
 adJ hu hv Mk hh (by omega)
theorem g_(h:u<v*18446744073709551616):u/v<18446744073709551616:=qp h
theorem JN(a b s:Nat):(a*2^s)/(b*2^s)=a/b/\(a*2^s)%(b*2^s)=a%b*2^s:=
 ⟨pr a b (bC s),je (2^s) a b⟩
def lj(zs:List Nat)(o m:Nat):Nat:=aB ((zs.drop o).take m)
theorem AJ(zs:List Nat)(o m:Nat):aB zs=aB (zs.take o)+18446744073709551616^o*(lj zs o m+18446744073709551616^m*aB (zs.drop (o+m))):=by have h1:=ja zs o;have h2:=ja (zs.drop o) m;rw[UF]at h2;rw[h2]at h1;exact h1
theorem Cx(h:bG zs)(o m:Nat):lj zs o m<18446744073709551616^m:=mU (fJ h o) m
theorem tT(zs:List Nat)(o m:Nat):lj zs o (m+1)=lj zs o m+18446744073709551616^m*zs.getD (o+m) 0:=by unfold lj;rw[cQ];congr 2;simp[List.getD_eq_getElem?_getD]
theorem Lb(zs:List Nat)(o m:Nat)(h:o<zs.length):lj zs o (m+1)=zs.getD o 0+18446744073709551616*lj zs (o+1) m:=by unfold lj;rw[cK h,List.take_succ_cons,aB];congr 1;rw[aq,bj h];rfl
theorem Ic(zs:List Nat)(o m:Nat):lj zs o (m+2)=(zs.getD (o+m+1) 0*18446744073709551616+zs.getD (o+m) 0)*18446744073709551616^m+lj zs o m:=by
 rw[tT,tT,aE,aX,dt o m 1];have e1:18446744073709551616^m*18446744073709551616*zs.getD (o+(m+1)) 0=zs.getD (o+(m+1)) 0*18446744073709551616*18446744073709551616^m:=by rw[aC (18446744073709551616^m*18446744073709551616),aF,aC (18446744073709551616^m) 18446744073709551616]
 have e2:18446744073709551616^m*zs.getD (o+m) 0=zs.getD (o+m) 0*18446744073709551616^m:=aC _ _;omega
theorem Ta(zs:List Nat)(o m:Nat):lj zs o (m+3)=(zs.getD (o+m+2) 0*340282366920938463463374607431768211456+zs.getD (o+m+1) 0*18446744073709551616+zs.getD (o+m) 0)*18446744073709551616^m+lj zs o m:=by
 rw[tT zs o (m+2),Ic,dt o m 2];have e1:18446744073709551616^(m+2)*zs.getD (o+(m+2)) 0=zs.getD (o+(m+2)) 0*340282366920938463463374607431768211456*18446744073709551616^m:=by rw[aQ,aC (18446744073709551616^m),aC (18446744073709551616^2*18446744073709551616^m), <-aF]
 rw[e1,dt (zs.getD (o+(m+2)) 0*340282366920938463463374607431768211456),aX (zs.getD (o+(m+2)) 0*340282366920938463463374607431768211456)];omega
theorem Lc(zs:List Nat)(m:Nat)(h:zs.length<=m):lj zs 0 m=aB zs:=by unfold lj;rw[dN,eZ _ _ h]
theorem FE(hl:xs.length=ys.length)(h:∀j,j<o->xs.getD j 0=ys.getD j 0):xs.take o=ys.take o:=by refine lO (by simp[hl]) (fun j h1 h2=>?_);simp at h1 h2;have:=h j (by omega);rw[iK (by omega),iK (by omega)]at this;simpa using this
theorem EL(hl:xs.length=ys.length)(h:∀j,o<=j->xs.getD j 0=ys.getD j 0):xs.drop o=ys.drop o:=by refine lO (by simp[hl]) (fun j h1 h2=>?_);simp at h1 h2;have:=h (o+j) (by omega);rw[iK (by omega),iK (by omega)]at this;simpa using this
def si(z0 zs:List Nat)(o m:Nat):Prop:=zs.length=z0.length/\∀j,j<o\/o+m<=j->zs.getD j 0=z0.getD j 0
theorem si.lj(h:si z0 zs o m)(e:aB zs+18446744073709551616^o*X=aB z0+18446744073709551616^(o+m)*c):lj zs o m+X=lj z0 o m+18446744073709551616^m*c:=by
 have h1:=AJ zs o m;have h2:=AJ z0 o m;rw[FE h.1 (fun j hj=>h.2 j (Or.inl hj)),EL h.1 (fun j hj=>h.2 j (Or.inr hj))]at h1;rw[h1,h2,aQ]at e;have e2:18446744073709551616^o*(Go.Proofs.YtkdmippllpekfaaGreatDoor.lj zs o m+18446744073709551616^m*aB (z0.drop (o+m))+X)=18446744073709551616^o*(Go.Proofs.YtkdmippllpekfaaGreatDoor.lj z0 o m+18446744073709551616^m*aB (z0.drop (o+m))+18446744073709551616^m*c):=by rw[aH _ _ X,aH _ _ (18446744073709551616^m*c), <-aF (18446744073709551616^o) _ c];omega
 have:=vf (iZ o) e2;omega
def Gc(z0 zs ds:List Nat)(y o k c:Nat):Prop:=
 si z0 zs o k/\bG zs/\c<18446744073709551616/\aB zs+18446744073709551616^o*(y*aB (ds.take k))=aB z0+18446744073709551616^(o+k)*c
theorem Yv(h:bG z0)(ds:List Nat)(y o:Nat):Gc z0 z0 ds y o 0 0:=⟨⟨rfl,fun _ _=>rfl⟩,h,by omega,by simp[aB]⟩
theorem Yu{h0 l0 l1 c1 h1 c2:Nat}(hb:b<18446744073709551616)(hy:y<18446744073709551616)(hc:c<18446744073709551616)(hr:r<18446744073709551616)(e0:h0=b*y/18446744073709551616)(e1:l0=b*y%18446744073709551616)(e2:l1=(l0+c+0)%18446744073709551616)(e3:c1=(l0+c+0)/18446744073709551616)(e4:h1=h0+c1)(e5:d=(r+18446744073709551616-l1-0)%18446744073709551616)(e6:c2=if r<l1+0 then 1 else 0)(e7:c3=h1+c2):h1<18446744073709551616/\c3<18446744073709551616/\d<18446744073709551616/\d+b*y+c=r+18446744073709551616*c3:=by
 have hp:b*y<=18446744073709551615*18446744073709551615:=aP (by omega) (by omega);generalize b*y=p at *;split at e6<;>omega
theorem si.set(h:si z0 zs o k)(d:Nat):si z0 (zs.set (o+k) d) o (k+1):=
 ⟨by simpa using h.1,fun j hj=>by rw[<-h.2 j (by omega)];simp[List.getD_eq_getElem?_getD,show ¬o+k=j by omega]⟩
theorem aaV(h:Gc z0 zs ds y o k c)(hk:o+k<zs.length)(hr:r=zs.getD (o+k) 0)(hb:b=ds.getD k 0)(hd:d<18446744073709551616)(hc3:c3<18446744073709551616)(he:d+b*y+c=r+18446744073709551616*c3):Gc z0 (zs.set (o+k) d) ds y o (k+1) c3:=by
 obtain⟨h1,h2,h3,h4⟩:=h;refine⟨h1.set d,iX h2 hk hd,hc3,?_⟩;have hs:=ju zs (o+k) d hk;rw[<-hr]at hs;rw[cQ, <-hb,aH y,dW y,aH, <-aF (18446744073709551616^o) (18446744073709551616^k), <-aQ, <-dt o k 1,aE,aF (18446744073709551616^(o+k))];have e:18446744073709551616^(o+k)*d+18446744073709551616^(o+k)*(y*b)+18446744073709551616^(o+k)*c=18446744073709551616^(o+k)*r+18446744073709551616^(o+k)*(18446744073709551616*c3):=by rw[<-aH, <-aH, <-aH, <-he,aC b y]
 omega
def Jc(z0 zs ds:List Nat)(o k c:Nat):Prop:=
 si z0 zs o k/\bG zs/\c<=1/\aB zs+18446744073709551616^(o+k)*c=aB z0+18446744073709551616^o*aB (ds.take k)
theorem XA(h:bG z0)(ds:List Nat)(o:Nat):Jc z0 z0 ds o 0 0:=⟨⟨rfl,fun _ _=>rfl⟩,h,by omega,by simp[aB]⟩
theorem aao(h:Jc z0 zs ds o k c)(hk:o+k<zs.length)(hr:r=zs.getD (o+k) 0)(hb:b=ds.getD k 0)(hd:d<18446744073709551616)(hc3:c3<=1)(he:d+18446744073709551616*c3=r+b+c):Jc z0 (zs.set (o+k) d) ds o (k+1) c3:=by
 obtain⟨h1,h2,h3,h4⟩:=h;refine⟨h1.set d,iX h2 hk hd,hc3,?_⟩;have hs:=ju zs (o+k) d hk;rw[<-hr]at hs;rw[cQ, <-hb,aH, <-aF (18446744073709551616^o) (18446744073709551616^k), <-aQ, <-dt o k 1,aE,aF (18446744073709551616^(o+k))];have e:18446744073709551616^(o+k)*d+18446744073709551616^(o+k)*(18446744073709551616*c3)=18446744073709551616^(o+k)*r+18446744073709551616^(o+k)*b+18446744073709551616^(o+k)*c:=by rw[<-aH,he,aH,aH]
 omega
theorem On{D:Nat}(h:Gc z0 zs ds y o m c)(hm:ds.length<=m)(hD:D=aB ds)(hDm:D<=18446744073709551616^m)(h0:0<D)(hu:u=lj z0 o (m+1))(h1:u/D<=y)(hc:c<=z0.getD (o+m) 0):y=u/D/\lj zs o m=u%D:=by
 obtain⟨hs,hd,A',he⟩:=h;rw[eZ _ _ hm, <-hD]at he;have e:=hs.lj he;rw[tT]at hu;have dh:=Cx hd o m;have RI:=aS u D;have hml:=aD u h0;have hy:y*D<=u:=by have:18446744073709551616^m*c<=18446744073709551616^m*z0.getD (o+m) 0:=au _ hc;omega
 have hq:y<=u/D:=(dE h0).2 hy;have hyq:y=u/D:=by omega
 refine⟨hyq,?_⟩;rw[<-hyq,aC D y]at RI;have hct:c=z0.getD (o+m) 0:=by
  rcases fl c (z0.getD (o+m) 0)with l|l
  ·have:18446744073709551616^m*(c+1)<=18446744073709551616^m*z0.getD (o+m) 0:=au _ l;rw[cJ]at this;omega
  ·omega
 rw[<-hct]at hu;omega
theorem Ty{c' D:Nat}(h:Gc z0 zs ds y o m c)(hb:Jc zs sM ds o m c')(hm:ds.length<=m)(hD:D=aB ds)(hDm:D<=18446744073709551616^m)(h0:0<D)(hu:u=lj z0 o (m+1))(h1:y<=u/D+1)(hc:z0.getD (o+m) 0<c):0<y/\y-1=u/D/\lj sM o m=u%D:=by
 obtain⟨hs,hd,A',he⟩:=h;obtain⟨GO,II,afN,he'⟩:=hb;rw[eZ _ _ hm, <-hD]at he he';have e:=hs.lj he;have e':=GO.lj (X:=0) (z0:=zs) (zs:=sM) (c:=0);have dh:=Cx hd o m;have afe:=Cx II o m;rw[tT]at hu;have RI:=aS u D;have hml:=aD u h0
 -- the row given back
 have g:lj sM o m+18446744073709551616^m*c'=lj zs o m+D:=by
  have h1:=AJ sM o m;have h2:=AJ zs o m;rw[FE GO.1 (fun j hj=>GO.2 j (Or.inl hj)),EL GO.1 (fun j hj=>GO.2 j (Or.inr hj))]at h1;rw[h1,h2,aQ]at he';have e2:18446744073709551616^o*(lj sM o m+18446744073709551616^m*aB (zs.drop (o+m))+18446744073709551616^m*c')=18446744073709551616^o*(lj zs o m+18446744073709551616^m*aB (zs.drop (o+m))+D):=by rw[aH _ _ (18446744073709551616^m*c'),aH _ _ D, <-aF (18446744073709551616^o) _ c'];omega
  have:=vf (iZ o) e2;omega
 clear e';have GI:u<y*D:=by have:18446744073709551616^m*(z0.getD (o+m) 0+1)<=18446744073709551616^m*c:=au _ hc;rw[cJ]at this;omega
 have hq:u/D<y:=(aR h0).2 GI;have hy:y=u/D+1:=by omega
 refine⟨aN (aO _) hq,by rw[hy];rfl,?_⟩;rw[hy,aX,cX,aC (u/D) D]at e
 -- lj zs + D q + D = lj z0 + B^m c ; u = D q + r
 obtain⟨t,ht⟩:∃t,c=z0.getD (o+m) 0+t:=⟨c-z0.getD (o+m) 0,by omega⟩;rw[ht,aH]at e;have e3:lj zs o m+D=u%D+18446744073709551616^m*t:=by omega
 have e4:lj sM o m+18446744073709551616^m*c'=u%D+18446744073709551616^m*t:=by omega
 have hr:u%D<18446744073709551616^m:=by omega
 have f1:=gi (·%18446744073709551616^m) e4;simp only[Nat.add_mul_mod_self_left]at f1;rwa [bc afe,bc hr]at f1
def Ud(u2 u1 u0 d1 d0:Nat):Nat:=if u2<d1\/(u2=d1/\u1<d0) then (u2*340282366920938463463374607431768211456+u1*18446744073709551616+u0)/(d1*18446744073709551616+d0) else 18446744073709551615
theorem VV{u2 u1 u0 d1 d0:Nat}(h1:u1<18446744073709551616)(h0:u0<18446744073709551616)(hd:d0<18446744073709551616):Ud u2 u1 u0 d1 d0<18446744073709551616:=by
 unfold Ud;split
 ·rename_i h;refine(aR (by omega)).2 ?_;omega
 ·omega
theorem acg{D:Nat}(dz:bG zs)(dd:bG ds)(hm:ds.length=m+2)(hD:D=aB ds)(ht:9223372036854775808<=ds.getD (m+1) 0)(hu:u=lj zs o (m+2+1))(dh:u<D*18446744073709551616):u/D<=Ud (zs.getD (o+m+2) 0) (zs.getD (o+m+1) 0) (zs.getD (o+m) 0) (ds.getD (m+1) 0) (ds.getD m 0)/\Ud (zs.getD (o+m+2) 0) (zs.getD (o+m+1) 0) (zs.getD (o+m) 0) (ds.getD (m+1) 0) (ds.getD m 0)<=u/D+1:=by
 have e1:=Ta zs o m;have e2:=Ic ds 0 m;rw[Lc ds (m+2) (by omega), <-hD]at e2;rw[show m+3=m+2+1 from rfl, <-hu]at e1;simp only[Nat.zero_add]at e2;have l1:=Cx dz o m;have l2:=Cx dd 0 m;have d0l:=dd m;have d1l:=dd (m+1);have z0l:=dz (o+m);have z1l:=dz (o+m+1);have z2l:=dz (o+m+2);generalize zs.getD (o+m+2) 0=u2 at *;generalize zs.getD (o+m+1) 0=u1 at *;generalize zs.getD (o+m) 0=u0 at *;generalize ds.getD (m+1) 0=d1 at *;generalize ds.getD m 0=d0 at *;generalize lj zs o m=ul at *;generalize lj ds 0 m=dl at *;have hX:=iZ m;generalize 18446744073709551616^m=X at *;have hg:=VV (u2:=u2) (d1:=d1) z1l z0l d0l;obtain⟨vh,hvh⟩:∃vh,vh=d1*18446744073709551616+d0:=⟨_,rfl⟩;obtain⟨uh,huh⟩:∃uh,uh=u2*340282366920938463463374607431768211456+u1*18446744073709551616+u0:=⟨_,rfl⟩;rw[<-hvh]at e2;rw[<-huh]at e1;have v0:18446744073709551616<=vh:=by omega
 -- the leading words of u are at most those of B D
 have hle:uh<(vh+1)*18446744073709551616:=by
  have a1:uh*X<(vh+1)*X*18446744073709551616:=by
   have:D<(vh+1)*X:=by rw[aX,cX];omega
   have:D*18446744073709551616<=(vh+1)*X*18446744073709551616:=ax _ (by omega);omega
  rw[aF,aC X, <-aF]at a1;exact iQ a1
 by_cases hc:u2<d1\/(u2=d1/\u1<d0)
 ·have pE:Ud u2 u1 u0 d1 d0=uh/vh:=by unfold Ud;rw[aW hc, <-huh, <-hvh]
  rw[pE]at hg ⊢;exact⟨adI e1 l1 e2 (by omega),Vv e1 e2 l2 (cR uh vh) hg v0⟩
 ·have pE:Ud u2 u1 u0 d1 d0=18446744073709551615:=by unfold Ud;rw[aV hc]
  rw[pE];have a2:=g_ dh;exact⟨by omega,Vv e1 e2 l2 (by omega) (by omega) v0⟩
def Mq(z0 zs qs:List Nat)(m k D:Nat):Prop:=
 (∀j,j<k->zs.getD j 0=z0.getD j 0)/\lj zs k m<D/\aB (z0.drop k)=aB (qs.drop k)*D+lj zs k m
theorem XK{D:Nat}(hz:z0.length=k+m)(hq:qs.length=k)(h:aB (z0.drop k)<D):Mq z0 z0 qs m k D:=by
 have e:lj z0 k m=aB (z0.drop k):=by unfold lj;rw[eZ _ _ (by simp;omega)]
 refine⟨fun _ _=>rfl,by rw[e];exact h,?_⟩;have e2:qs.drop k=[]:=aT (by omega);rw[e2,e];simp[aB]
theorem XI{D:Nat}(h:Mq z0 zs qs m (k+1) D)(hk:k<zs.length)(dz:bG zs):lj zs k (m+1)<D*18446744073709551616:=by rw[Lb zs k m hk];have:=dz k;have h2:=h.2.1;have:18446744073709551616*(lj zs (k+1) m+1)<=18446744073709551616*D:=au _ h2;omega
theorem DR(h:k<qs.length):(qs.set k q).drop k=q :: qs.drop (k+1):=by
 rw[cK (by simpa using h)];congr 1
 ·simp
 ·rw[List.drop_set];simp
theorem aau{D:Nat}(h:Mq z0 zs qs m (k+1) D)(hl:zs.length=z0.length)(hk:k<zs.length)(hkq:k<qs.length)(h0:0<D)(hs:∀j,j<k->sM.getD j 0=zs.getD j 0)(hq:q=lj zs k (m+1)/D)(hr:lj sM k m=lj zs k (m+1)%D):Mq z0 sM (qs.set k q) m k D:=by
 obtain⟨h1,h2,h3⟩:=h;refine⟨fun j hj=>(hs j hj).trans (h1 j (by omega)),by rw[hr];exact aD _ h0,?_⟩;rw[DR hkq,aB,cK (by omega),aB,h3];have e:=h1 k (by omega);rw[iK hk,iK (by omega)]at e;have RI:=aS (lj zs k (m+1)) D;rw[<-hq, <-hr,Lb zs k m hk,iK hk,e]at RI;generalize lj zs (k+1) m=s at *;generalize aB (qs.drop (k+1))=Q at *;rw[aX,aH,aC q D,aF];omega
theorem ac4{D:Nat}(h:Mq z0 zs qs m 0 D):aB qs=aB z0/D/\aB (zs.take m)=aB z0%D:=by
 obtain⟨_,h2,h3⟩:=h;unfold lj at h2 h3;simp only[List.drop_zero]at h2 h3;rw[h3];constructor
 ·rw[aC,gC (by omega),bq h2];rfl
 ·rw[aC,kq,bc h2]
theorem XJ{bs:List Nat}{s:Nat}(cb:iS bs)(hm:bs.length=m+1)(hA:A<18446744073709551616^n)(hz:aB z0=A*2^s)(hmn:m+1<=n):aB (z0.drop (n-m))<aB bs*2^s:=by
 have e1:=cQ bs m;rw[show m+1=bs.length from hm.symm,cf]at e1;have h1:=ja z0 (n-m);have hp:=iZ (n-m);have hX:=iZ m;have e3:18446744073709551616^n=18446744073709551616^(n-m)*18446744073709551616^m:=by rw[<-aQ];congr 1;omega
 rw[hz]at h1;have h2:A*2^s<18446744073709551616^(n-m)*(18446744073709551616^m*2^s):=by rw[<-aF, <-e3];exact fb hA (bC s)
 have h3:18446744073709551616^(n-m)*aB (z0.drop (n-m))<18446744073709551616^(n-m)*(18446744073709551616^m*2^s):=by omega
 have h4:=gL h3;have jL:=cb.2 (by omega);rw[show bs.length-1=m by omega]at jL;have h5:18446744073709551616^m*2^s<=aB bs*2^s:=by refine ax _ ?_;have:18446744073709551616^m*1<=18446744073709551616^m*bs.getD m 0:=au _ jL;omega
 omega
end
section
open Go.RowKit
set_option linter.unusedSimpArgs false
end
end Go.Proofs.YtkdmippllpekfaaGreatDoor
