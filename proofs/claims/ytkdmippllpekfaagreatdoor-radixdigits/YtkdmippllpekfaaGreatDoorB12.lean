import Derived.Test.YtkdmippllpekfaaGreatDoorB9
import Derived.OpenShut
namespace Go.Proofs.YtkdmippllpekfaaGreatDoor
set_option maxRecDepth 100000
set_option maxHeartbeats 3200000
variable{l m s:Int}{xs z0 zs:List Nat}{cap g i k n o p t:Nat}{f:Nat->Nat}{E:Nat->Prop}{ga:Option Addr}{v:Value}{a b c w w':World}
section
open Go.RowKit
theorem mS{a:Option Addr}{len:Nat}{zs:List Int}(h:(a=none/\len=0/\cap=0/\zs=[])\/∃x,a=some x/\len<=cap/\cap<=maxLen/\zs.length=cap/\(∀i,i<zs.length->w.cell? (x.add i)=some (.int .u64 (zs.getD i 0)))/\∀n ∈ zs,(Lit.int .u64 n).wf=true):∃b o xs,xs.length=len/\cH w a b o cap xs/\∀j,xs.getD j 0<18446744073709551616:=by
 rcases h with⟨rfl,rfl,rfl,rfl⟩|⟨x,rfl,h1,h2,h3,h4,h5⟩
 ·exact⟨0,0,[],rfl,cH.nil _ _ _ _ _,fun j=>by simp⟩
 ·by_cases h0:len=0
  ·exact⟨0,0,[],by simp[h0],cH.nil _ _ _ _ _,fun j=>by simp⟩
  ·obtain⟨b,off,rfl,hc⟩:=ints_at h4 (by omega);have hl:((zs.take len).map Int.toNat).length=len:=by simp;omega
   have hg:∀j,j<len->((zs.take len).map Int.toNat).getD j 0=(zs.getD j 0).toNat:=fun j hj=>by have xz:j<zs.length:=(by omega);simp[List.getD_eq_getElem?_getD,hj,xz]
   have hw:∀j,j<len->0<=zs.getD j 0/\zs.getD j 0<=18446744073709551615:=fun j hj=>by have xz:j<zs.length:=(by omega);have e:zs.getD j 0=zs[j]:=(by simp[List.getD_eq_getElem?_getD,xz]);rw[e];exact bounds_u64 (h5 _ (gO xz))
   refine⟨b,off,(zs.take len).map Int.toNat,hl,⟨fun _=>rfl,by omega,fun j hj=>?_⟩,fun j=>?_⟩
   ·rw[hl]at hj;rw[hc j (by omega),hg j hj,Int.toNat_of_nonneg (hw j hj).1]
   ·by_cases hj:j<len
    ·rw[hg j hj];have:=hw j hj;omega
    ·rw[jo (by omega)];omega
def cW(w:World)(g:Nat)(zs:List Nat):Prop:=w.heap[g]?=some (.cells (cellsOf zs).toArray 47 (0,0))
theorem cW.lt(h:cW w g zs):g<w.heap.size:=(ah.1 h).1
theorem cW.cell(h:cW w g zs)(j:Nat)(hj:j<zs.length):w.cell? ⟨g,j,none⟩=some (.int .u64 ((zs.getD j 0:Nat):Int)):=by rw[ay w g j _ _ (0,0) h];simp[cellsOf,hj]
theorem cW.frozen(h:cW w g zs)(j:Nat):w.frozen? ⟨g,j,none⟩=false:=bZ w g j _ _ h
theorem cW.set(h:cW w g zs)(k d:Nat):cW (w.setCell ⟨g,k,none⟩ (.int .u64 ((d:Nat):Int))) g (zs.set k d):=by have:=jC w g k _ _ (.int .u64 ((d:Nat):Int)) h;show _=_;rw[this];simp[cellsOf,List.map_set]
theorem cW.below{B:Nat}(h:cW w g zs)(hb:Below B w w')(hg:g<B):cW w' g zs:=(hb.block g hg).trans h
theorem cW.next(h:cW w g zs)(hb:Below w.heap.size w w'):cW w' g zs:=h.below hb h.lt
theorem cW.but(h:cW w g zs)(hb:w.grownBy w' (some k))(hk:g≠k):cW w' g zs:=(hb.block g h.lt (fun e=>hk (aZ e))).trans h
theorem cW.drewN(h:cW w g zs)(n:Nat):cW (w.drewN n) g zs:=h
theorem cW.rep(h:cW w g zs)(o n cap:Nat)(hn:o+n<=zs.length)(hc:n<=cap):cH w (some ⟨g,o,none⟩) g o cap ((zs.drop o).take n):=by
 have hl:((zs.drop o).take n).length=n:=by simp;omega
 refine⟨fun _=>rfl,by omega,fun j hj=>?_⟩;rw[hl]at hj;rw[h.cell (o+j) (by omega)];have e:((zs.drop o).take n).getD j 0=zs.getD (o+j) 0:=by simp[List.getD_eq_getElem?_getD,hj]
 rw[e]
theorem cH.but{b:Nat}(h:cH w ga b o cap xs)(hb:w.grownBy w' (some k))(hk:0<xs.length->b≠k):cH w' ga b o cap xs:=
 ⟨h.head,h.room,fun j hj=>hb.cell (h.cell j hj) (fun e=>hk (by omega) (aZ e))⟩
def fI(w:World)(v:Value)(n:Nat):Prop:=∃ga b o cap xs,v=.slice ga xs.length cap/\cH w ga b o cap xs/\bG xs/\aB xs=n/\xs.length<=1073741824
def aU(B:Nat)(w:World)(v:Value)(n:Nat):Prop:=
 ∃xs,iS xs/\aB xs=n/\((v=.slice none 0 0/\xs=[])\/∃g ys,B<=g/\v=.slice (some ⟨g,0,none⟩) xs.length (xs++ys).length/\cW w g (xs++ys)/\xs.length+ys.length<=1099511627776)
theorem fI.next(h:fI w v n)(hb:Below w.heap.size w w'):fI w' v n:=by obtain⟨ga,b,o,cap,xs,rfl,hr,hd,hv,hl⟩:=h;exact⟨ga,b,o,cap,xs,rfl,hr.next hb,hd,hv,hl⟩
theorem aU.next{B:Nat}(h:aU B w v n)(hb:Below w.heap.size w w'):aU B w' v n:=by
 obtain⟨xs,hc,hv,h|⟨g,ys,hg,rfl,hk,hl⟩⟩:=h
 ·exact⟨xs,hc,hv,Or.inl h⟩
 ·exact⟨xs,hc,hv,Or.inr ⟨g,ys,hg,rfl,hk.next hb,hl⟩⟩
theorem aU.mono{B B':Nat}(h:aU B w v n)(hb:B'<=B):aU B' w v n:=by
 obtain⟨xs,hc,hv,h|⟨g,ys,hg,rfl,hk,hl⟩⟩:=h
 ·exact⟨xs,hc,hv,Or.inl h⟩
 ·exact⟨xs,hc,hv,Or.inr ⟨g,ys,ak hb hg,rfl,hk,hl⟩⟩
theorem aU.rep{B:Nat}(h:aU B w v n):∃ga b cap xs,v=.slice ga xs.length cap/\cH w ga b 0 cap xs/\iS xs/\aB xs=n/\(0<xs.length->B<=b):=by
 obtain⟨xs,hc,hv,⟨rfl,rfl⟩|⟨g,ys,hg,rfl,hk,hl⟩⟩:=h
 ·exact⟨none,0,0,[],rfl,cH.nil _ _ _ _ _,hc,hv,fun h=>absurd h (by simp)⟩
 ·have:=hk.rep 0 xs.length (xs++ys).length (by simp) (by simp);rw[dN,AR]at this;exact⟨_,g,_,xs,rfl,this,hc,hv,fun _=>hg⟩
theorem aU.kj{B:Nat}(h:aU B w v n)(hn:n<18446744073709551616^p)(hp:p<=1073741824):fI w v n:=by obtain⟨ga,b,cap,xs,rfl,hr,hc,hv,_⟩:=h.rep;exact⟨ga,b,0,cap,xs,rfl,hr,hc.1,hv,by have:=mT hc (L:=p) (by rw[hv];exact hn);omega⟩
theorem tQ(B:Nat)(w:World):aU B w (.slice none 0 0) 0:=⟨[],ue,rfl,Or.inl ⟨rfl,rfl⟩⟩
theorem Xw{B:Nat}(hg:B<=g)(h:cW w g zs)(hd:bG zs)(hl:zs.length<=1099511627776):aU B w (.slice (some ⟨g,0,none⟩) (fV zs zs.length) zs.length) (aB zs):=by
 refine⟨yi zs,ku hd,jN zs,Or.inr ⟨g,zs.drop (fV zs zs.length),hg,?_,?_,?_⟩⟩
 ·rw[ep];congr 1;unfold yi;rw[eW]
 ·unfold yi;rw[eW];exact h
 ·rw[ep];have:=fZ zs zs.length;simp;omega
theorem cH.iy{oo:Nat}{b:Nat}(h:cH w ga b o cap xs)(hM:gQ w g oo s l m)(hT:Touch g oo 3 w w'):cH w' ga b o cap xs:=
 ⟨h.head,h.room,fun j hj=>Touch.keep hM hT (h.cell j hj) (fun x e=>by cases e)⟩
structure Out(D:Nat->Prop)(w w':World):Prop where
 os:w'.os=w.os
 tape:w'.tape=w.tape
 output:w'.output=w.output
 size:w.heap.size<=w'.heap.size
 block:∀k,k<w.heap.size->¬D k->w'.heap[k]?=w.heap[k]?
theorem Out.refl(D:Nat->Prop)(w:World):Out D w w:=⟨rfl,rfl,rfl,af _,fun _ _ _=>rfl⟩
theorem Out.trans{D:Nat->Prop}(h:Out D a b)(k:Out D b c):Out D a c:=
 ⟨k.os.trans h.os,k.tape.trans h.tape,k.output.trans h.output,ak h.size k.size,fun i hi hn=>(k.block i (az hi h.size) hn).trans (h.block i hi hn)⟩
theorem Out.mono{D:Nat->Prop}(h:Out D a b)(hd:∀k,D k->E k):Out E a b:=
 ⟨h.os,h.tape,h.output,h.size,fun i hi hn=>h.block i hi (fun x=>hn (hd i x))⟩
theorem Out.fresh{D:Nat->Prop}(h:Out D a b)(k:Out E b c)(hd:∀i,E i->D i\/a.heap.size<=i):Out D a c:=
 ⟨k.os.trans h.os,k.tape.trans h.tape,k.output.trans h.output,ak h.size k.size,fun i hi hn=>(k.block i (az hi h.size) (fun x=>by rcases hd i x with y|y;exact hn y;omega)).trans (h.block i hi hn)⟩
theorem Out.bQ{D:Nat->Prop}(h:Below a.heap.size a b):Out D a b:=⟨h.os,h.tape,h.output,h.size,fun i hi _=>h.block i hi⟩
theorem Out.bX(h:a.grownBy b (some g)):Out (·=g) a b:=⟨h.os,h.tape,h.output,h.size,fun i hi hn=>h.block i hi (fun e=>hn (aZ e))⟩
theorem Out.grown(h:Out (·=g) a b):a.grownBy b (some g):=⟨h.os,h.tape,h.output,h.size,fun i hi hn=>h.block i hi (fun e=>hn (by rw[e]))⟩
theorem Out.next{D:Nat->Prop}(h:Out D a b)(k:Below b.heap.size b c):Out D a c:=h.trans (Out.bQ k)
theorem Out.cell{D:Nat->Prop}(h:Out D a b){p:Addr}(hc:a.cell? p=some v)(hd:¬D p.block):b.cell? p=some v:=
 (cZ (h.block p.block (aw _ _ hc) hd)).trans hc
theorem Out.frozen{D:Nat->Prop}(h:Out D a b){p:Addr}{f:Bool}(hl:p.block<a.heap.size)(hc:a.frozen? p=f)(hd:¬D p.block):b.frozen? p=f:=
 (ky (h.block p.block hl hd)).trans hc
theorem Out.rep{D:Nat->Prop}(h:Out D a b)(r:cH a ga k o cap xs)(hd:0<xs.length->¬D k):cH b ga k o cap xs:=
 ⟨r.head,r.room,fun j hj=>h.cell (r.cell j hj) (hd (by omega))⟩
theorem Out.kM{D:Nat->Prop}(h:Out D a b)(r:cW a g zs)(hd:¬D g):cW b g zs:=(h.block g r.lt hd).trans r
theorem Out.met{D:Nat->Prop}(h:Out D a b)(r:gQ a g o s l m)(hd:¬D g):gQ b g o s l m:=
 ⟨h.cell r.c0 hd,h.cell r.c1 hd,h.cell r.c2 hd,h.frozen r.lt r.f0 hd,h.frozen r.lt r.f1 hd,h.frozen r.lt r.f2 hd⟩
theorem Out.mb{D:Nat->Prop}(h:Out D a b){B:Nat}(r:aU B a v n)(hd:∀k,D k->k<B):aU B b v n:=by
 obtain⟨xs,hc,hv,r|⟨g,ys,hg,rfl,hk,hl⟩⟩:=r
 ·exact⟨xs,hc,hv,Or.inl r⟩
 ·exact⟨xs,hc,hv,Or.inr ⟨g,ys,hg,rfl,h.kM hk (fun x=>by have:=hd g x;omega),hl⟩⟩
theorem Out.below{D:Nat->Prop}{B:Nat}(h:Out D a b)(hB:B<=a.heap.size)(hd:∀k,D k->B<=k):Below B a b:=
 ⟨h.os,h.tape,h.output,h.size,fun i hi=>h.block i (by omega) (fun x=>by have:=hd i x;omega)⟩
theorem pG(w:World)(ga:Option Addr)(b o cap n:Nat)(xs:List Nat)(hl:xs.length=n)(hn:n<=1099511627776)(hR:cH w ga b o cap xs):Calls Tryz.prog 57 #[.slice ga n cap] w fun e w'=>e=.returned (.int .i64 (fV xs n:Int))/\w'=w:=by
 obtain⟨hh,hr,hc⟩:=hR;go_enter Tryz.func57,Tryz.ntmps57;go_wp2
 go_loop [3] (fun k=>∃q:Nat,q<=n/\k=.int .i64 q/\Hid (fV xs n=fV xs q)) (fun k=>(intOf k).toNat)
 case atStart=>exact⟨n,af _,rfl,rfl⟩
 case round=>
  obtain⟨q,hq,rfl,hN⟩:=hrel;by_cases dh:0<q
  ·obtain⟨k,rfl⟩:∃k,q=k+1:=⟨q-1,by omega⟩;obtain rfl:=hh (by omega);have hk:=hc k (by omega);go_wp2
   ·have hz:xs.getD k 0=0:=by
     have h:(((xs[k]?.getD 0:Nat):Int)==0)=true:=(by assumption);rw[aq];have:=eq_of_beq h;omega
    exact⟨⟨k,by omega,rfl,hN.out.trans (PG xs k hz)⟩,by simp[intOf]⟩
   ·have hz:0<xs.getD k 0:=by
     have h:(((xs[k]?.getD 0:Nat):Int)==0)=false:=(by assumption);rw[aq];have:=ne_of_beq_false h;omega
    have e:=hN.out.trans (Fl xs k hz);go_ret;exact⟨bY (by rw[e];rfl),rfl⟩
  ·obtain rfl:q=0:=(by omega);go_wp2;go_ret;exact⟨bY (by rw[hN.out];rfl),rfl⟩
theorem Dl(w:World)(ga:Option Addr)(b o cap n m:Nat)(xs:List Nat)(hl:xs.length=n)(hn:n<=1099511627776)(hR:cH w ga b o cap xs)(hm:m=fV xs n):Calls Tryz.prog 76 #[.slice ga n cap] w fun e w'=>e=.returned (.slice ga m cap)/\w'=w:=by
 have hmn:m<=n:=by rw[hm];exact fZ xs n
 have ks:n<=cap:=by have:=hR.room;omega
 have CL:=ag (fun w' (h:w'=w)=>h▸pG w ga b o cap n xs hl hn hR);rw[<-hm]at CL;clear hm hR;go_enter Tryz.func76,Tryz.ntmps76
 go_wp2_with fail
 refine(ae CL _ rfl).mono ?_;rintro e w' ⟨rfl,rfl⟩;go_wp2;go_ret;exact⟨fg rfl,rfl⟩
theorem nj(xs:List Nat)(n m:Nat)(h:xs.length=n):splice (dS (n+m)) 0 (iU xs)=cellsOf (xs++List.replicate m 0):=by simp[splice,dS,iU,cellsOf,h]
theorem iV(n cp:Nat)(z:Int)(hz:z=(cp:Int))(h:cp=n)(hb:cp<=2199023255552):∀w,(Instr.makeSlice 38 (.int .i64 z) (.int .i64 z)).run Tryz.prog w=.ok (.slice (some ⟨w.heap.size,0,none⟩) n n) (w.alloc (.cells (dS n).toArray 47)):=fun w=>by
 obtain⟨i0,hi,jx,gY,fX⟩:=fE Tryz.mf;subst hz h;have h:=Fv (P:=Tryz.prog) w 38 47 i0 (.int .u64 0) dT hi jx .i64 .i64 (cp:Int) (cp:Int) (by omega) (by omega) (by rw[fX];omega) (by omega);rw[h];have e1:((cp:Int)).toNat=cp:=by omega
 rw[e1,gY,dG,rJ]
theorem rk(w:World)(ga:Option Addr)(b o cap n:Nat)(xs:List Nat)(hl:xs.length=n)(hn:n<=1099511627776)(hR:cH w ga b o cap xs):Calls Tryz.prog 113 #[.slice ga n cap] w fun e w'=>e=.returned (.slice (some ⟨w.heap.size,0,none⟩) n n)/\cW w' w.heap.size xs/\Below w.heap.size w w':=by
 have qG:=iV n n (n:Int) rfl rfl (by omega);have HC:=ag (fun ob=>rm hR ob);go_enter Tryz.func113,Tryz.ntmps113
 go_wp2_with (refine wpList_copy_splice rfl _ _ 38 38 rfl 47 dT Tryz.pL _ _ n n n cap rfl rfl w.heap.size 0 (dS n) 47 ?h1 (iU xs) ?h2 ?h3 ?h4 (gD _) w.heap.size w ?h5 (af _) ?_)
 case h1=>exact aI w _
 case h2=>rw[dL,hl];exact(Jb n).symm
 case h3=>exact ae HC _
 case h4=>rw[dL,kU,hl];omega
 case h5=>exact(aj _ _).alloc (af _) _
 intro w2 kW jA;have hB:cW w2 w.heap.size xs:=by have e:=nj xs n 0 hl;rw[dB]at e;have h:=kW.out;rw[e,mj,dU]at h;exact h
 clear kW HC qG;go_wp2;go_ret;exact⟨fg rfl,hB,jA⟩
theorem FN(w:World)(ga gb:Option Addr)(b o ca cb n m N:Nat)(xs:List Nat)(hl:xs.length=n)(hn:n<=1099511627776)(hm:m<=1099511627776)(hR:cH w ga b o ca xs)(hN:N=max n m+1):Calls Tryz.prog 85 #[.slice ga n ca,.slice gb m cb] w fun e w'=>e=.returned (.slice (some ⟨w.heap.size,0,none⟩) N N)/\cW w' w.heap.size (xs++List.replicate (N-n) 0)/\Below w.heap.size w w':=by
 have HC:=ag (fun ob=>rm hR ob);have pD:(¬n<m/\N=n+1/\((n:Int)+1=(N:Int)))\/(n<m/\N=m+1/\((m:Int)+1=(N:Int))):=by omega
 have hNn:n+1<=N:=by omega
 clear hN hR;rcases pD with⟨dh,hN,hZ⟩|⟨dh,hN,hZ⟩
 ·have qG:=iV N N ((n:Int)+1) hZ rfl (by omega);have zE:N<=1099511627777:=by omega
  clear hN hZ;go_enter Tryz.func85,Tryz.ntmps85
  go_wp2_with (refine wpList_copy_splice rfl _ _ 38 38 rfl 47 dT Tryz.pL _ _ N N n ca rfl rfl w.heap.size 0 (dS N) 47 ?h1 (iU xs) ?h2 ?h3 ?h4 (gD _) w.heap.size w ?h5 (af _) ?_)
  case h1=>exact aI w _
  case h2=>rw[dL,hl];exact(bu (by omega)).symm
  case h3=>exact ae HC _
  case h4=>rw[dL,kU,hl];omega
  case h5=>exact(aj _ _).alloc (af _) _
  intro w2 kW jA;have hB:cW w2 w.heap.size (xs++List.replicate (N-n) 0):=by have e:=nj xs n (N-n) hl;rw[show n+(N-n)=N from by omega]at e;have h:=kW.out;rw[e]at h;exact h
  clear kW HC qG;go_wp2;go_ret;exact⟨fg rfl,hB,jA⟩
 ·have qG:=iV N N ((m:Int)+1) hZ rfl (by omega);have zE:N<=1099511627777:=by omega
  clear hN hZ;go_enter Tryz.func85,Tryz.ntmps85
  go_wp2_with (refine wpList_copy_splice rfl _ _ 38 38 rfl 47 dT Tryz.pL _ _ N N n ca rfl rfl w.heap.size 0 (dS N) 47 ?h1 (iU xs) ?h2 ?h3 ?h4 (gD _) w.heap.size w ?h5 (af _) ?_)
  case h1=>exact aI w _
  case h2=>rw[dL,hl];exact(bu (by omega)).symm
  case h3=>exact ae HC _
  case h4=>rw[dL,kU,hl];omega
  case h5=>exact(aj _ _).alloc (af _) _
  intro w2 kW jA;have hB:cW w2 w.heap.size (xs++List.replicate (N-n) 0):=by have e:=nj xs n (N-n) hl;rw[show n+(N-n)=N from by omega]at e;have h:=kW.out;rw[e]at h;exact h
  clear kW HC qG;go_wp2;go_ret;exact⟨fg rfl,hB,jA⟩
theorem cW.whole(h:cW w g zs)(hn:zs.length=n):cH w (some ⟨g,0,none⟩) g 0 n zs:=by have:=h.rep 0 n n (by omega) (af _);rw[dN,bK (by omega)]at this;exact this
theorem xD(w:World)(ga gb:Option Addr)(ba oa ca bb ob cb n:Nat)(xs:List Nat)(hx:xs.length=n)(hn:n<=1073741824)(hA:cH w ga ba oa ca xs)(hB:cH w gb bb ob cb xs):Calls Tryz.prog 22 #[.slice ga n ca,.slice gb n cb] w fun e w'=>e=.returned (.bool true)/\Below w.heap.size w w':=by
 have q1:((n:Int)!=(n:Int))=false:=by simp
 go_enter Tryz.func22,Tryz.ntmps22;go_wp2
 go_loopw [5] (fun i wr=>∃k:Nat,k<=n/\i=.int .i64 (k:Int)/\Below w.heap.size w wr) (fun i _=>n-(intOf i).toNat)
 case atStart=>exact⟨0,aO _,rfl,aj _ _⟩
 case round=>
  obtain⟨k,hk,rfl,en⟩:=hrel;by_cases h1:k<n
  ·obtain rfl:=hA.head (by omega);obtain rfl:=hB.head (by omega);obtain⟨x,I'⟩:∃x:Nat,x=xs.getD k 0:=⟨_,rfl⟩;have c1:wr.cell? ⟨ba,oa+k,none⟩=some (.int .u64 (x:Int)):=by rw[I'];exact(en.cell (by exact hA.lt (by omega))).trans (hA.cell k (by omega))
   have c2:wr.cell? ⟨bb,ob+k,none⟩=some (.int .u64 (x:Int)):=by rw[I'];exact(en.cell (by exact hB.lt (by omega))).trans (hB.cell k (by omega))
   have s2:((x:Int)!=(x:Int))=false:=(by simp);clear I';go_wp2
   go_quiet (fail)
   go_wp2;exact⟨⟨k+1,by omega,by go_num,below_drewN en _⟩,by simp[intOf];omega⟩
  ·go_wp2;go_ret;exact⟨rfl,en⟩
theorem fS{base:Nat}(h:w.ownsRow base t 1 v n (cellsOf xs)):∃ga b cap,v=.slice ga n cap/\xs.length=n/\cH w ga b 0 cap xs/\(0<n->base<=b):=by
 have hl:xs.length=n:=by simpa using h.1
 rcases h.2 with⟨rfl,rfl⟩|⟨g,cap,cur,rfl,hb,hg,hc,hm,hs,ht⟩
 ·obtain rfl:xs=[]:=dQ.1 hl;exact⟨none,0,0,rfl,rfl,cH.nil _ _ _ _ _,fun h=>absurd h (by omega)⟩
 ·exact⟨_,g,cap,rfl,hl,(de ⟨h.1,Or.inr ⟨g,cap,cur,rfl,hb,hg,hc,hm,hs,ht⟩⟩).2,fun _=>hb⟩
theorem im{B:Nat}{xs:List Value}(h:Below B a w)(ho:w.ownsRow B t 1 v n xs)(hg:w.grownBy w' v.ownBlock)(hB:B<=w.heap.size):Below B a w':=
 h.grown hg hB (fun k hk=>(ho.lt k hk).1)
theorem uR{w1:World}{B d:Nat}{os:List Nat}(h:w1.ownsRow B t 1 v (k+1) (cellsOf os++[.int .u64 ((d:Nat):Int)])):w1.ownsRow B t 1 v (k+1) (cellsOf (os++[d])):=by simpa using h
def Zl(xs:List Nat)(k:Nat):Nat:=xs.getD (2*k) 0+4294967296*xs.getD (2*k+1) 0
def LC(xs:List Nat):Nat->List Nat
 |0=>[]
 |k+1=>LC xs k++[Zl xs k]
theorem mL(xs:List Nat):∀k,(LC xs k).length=k
 |0=>rfl
 |k+1=>by simp[LC,mL xs k]
theorem ac0(h:oI xs)(k:Nat):Zl xs k<18446744073709551616:=by have h1:=h (2*k);have h2:=h (2*k+1);unfold Zl;omega
theorem Qk(xs:List Nat):∀k,aB (LC xs k)=val (xs.take (2*k))
 |0=>rfl
 |k+1=>by rw[LC,FQ,mL,Qk xs k,show 2*(k+1)=2*k+1+1 from by omega,cO,cO,TS,aE];unfold Zl;rw[aH,aF];omega
theorem Qj{xs:List Nat}(h:oI xs):∀k,bG (LC xs k)
 |0=>Dp
 |k+1=>TM (Qj h k) (ac0 h k)
theorem aa1(h:Can xs)(hk:k<xs.length-k)(h2:xs.length<=2*k+2):0<Zl xs k:=by
 have:=h.2 (by omega);unfold Zl;rcases(show xs.length-1=2*k\/xs.length-1=2*k+1 from by omega)with e|e
 ·rw[e]at this;omega
 ·rw[e]at this;omega
theorem LF(xs:List Nat)(k:Nat):(LC xs (k+1)).getD k 0=Zl xs k:=by rw[LC,jh,aV (by rw[mL];omega),mL];simp
def abO(w:World)(n:Nat)(e:Ending)(w':World):Prop:=∃ga b cap ws,e=.returned (.slice ga ws.length cap)/\cH w' ga b 0 cap ws/\iS ws/\aB ws=n/\Below w.heap.size w w'/\(0<ws.length->w.heap.size<=b)
theorem Yw(w:World)(ga:Option Addr)(ba oa ca la:Nat)(xs:List Nat)(hx:xs.length=la)(ha:la<=1073741824)(hA:cH w ga ba oa ca xs)(cx:Can xs):Calls Tryz.prog 39 #[.slice ga la ca] w (abO w (val xs)):=by
 obtain⟨i0,hi,jx,gY,fX⟩:=fE Tryz.mf;go_enter Tryz.func39,Tryz.ntmps39;go_wp2
 go_loopw [3,4] (fun out i wr=>∃(k:Nat) (gw:Option Addr) (cw:Nat),2*k<=la+1/\i=.int .i64 (2*(k:Int))/\out=.slice gw k cw/\
   wr.ownsRow w.heap.size 47 1 (.slice gw k cw) k (cellsOf (LC xs k))/\Below w.heap.size w wr)
  (fun _ i _=>la+1-(intOf i).toNat)
 case atStart=>exact⟨0,none,0,by omega,rfl,rfl,il _ _ _ _,aj _ _⟩
 case round=>
  obtain⟨k,gw,cw,hk,rfl,rfl,cV,en⟩:=hrel;have kF:=en.size;by_cases h1:2*k<la
  ·obtain rfl:=hA.head (by omega);obtain⟨x,I'⟩:∃x:Nat,x=xs.getD (2*k) 0:=⟨_,rfl⟩;obtain⟨y,hye⟩:∃y:Nat,y=xs.getD (2*k+1) 0:=⟨_,rfl⟩;have tI:x<4294967296:=by rw[I'];exact cx.1 _
   have DY:y<4294967296:=by rw[hye];exact cx.1 _
   have cx0:wr.cell? ⟨ba,oa+2*k,none⟩=some (.int .u64 (x:Int)):=by rw[I'];exact(en.cell (by exact hA.lt (by omega))).trans (hA.cell (2*k) (by omega))
   have hd:Zl xs k=x+4294967296*y:=by rw[I',hye];rfl
   obtain⟨d,hde⟩:∃d,d=Zl xs k:=⟨_,rfl⟩;have h1i:2*(k:Int)<(la:Int):=(by omega);by_cases h2:2*k+1<la
   ·have cy0:wr.cell? ⟨ba,oa+(2*k+1),none⟩=some (.int .u64 (y:Int)):=by rw[hye];exact(en.cell (by exact hA.lt (by omega))).trans (hA.cell (2*k+1) (by omega))
    have h2i:2*(k:Int)+1<(la:Int):=(by omega);have ed:(x:Int)+(y:Int)*4294967296=(d:Int):=by rw[hde,hd];omega
    have HD:=ag hde;clear I' hye hd hde
    go_wp2_with (at_builtin;refine jE _ rfl (.tmp 29) (.tmp 31) 38 rfl w.heap.size 47 i0 (.int .u64 0) 1 8 dT hi jx gY fX rfl (by omega) (.slice gw k cw) k _ rfl (cV.alloc _) ⟨wr.heap.size,0,none⟩ 1 1 [.int .u64 (d:Int)] rfl rfl (by exact fU wr [.int .u64 (d:Int)] 47) (by intro u hu;simp at hu;subst hu;rfl) (by unfold maxLen;omega) (by omega) (by simp;omega) ?_;intro v1 w1 iq fe sk)
    have qX:=uR iq;have jA:=im (en.alloc kF _) (cV.alloc _) fe (by simp;omega);obtain⟨g1,b1,c1,rfl,_,_,_⟩:=fS qX;clear iq fe sk;go_wp2
    go_roundw
    case rel=>exact⟨k+1,g1,c1,by omega,by first|rfl|exact gi (Value.int .i64) (by omega)|go_num,rfl,by rw[LC, <-ae HD];exact qX,jA⟩
    case measure=>simp[intOf];omega
   ·have Ag:y=0:=by rw[hye];exact jo (by omega)
    have h2i:¬2*(k:Int)+1<(la:Int):=(by omega);obtain rfl:d=x:=by rw[hde,hd,Ag];omega
    have HD:=ag hde;clear I' hye hd hde Ag
    go_wp2_with (at_builtin;refine jE _ rfl (.tmp 29) (.tmp 31) 38 rfl w.heap.size 47 i0 (.int .u64 0) 1 8 dT hi jx gY fX rfl (by omega) (.slice gw k cw) k _ rfl (cV.alloc _) ⟨wr.heap.size,0,none⟩ 1 1 [.int .u64 (d:Int)] rfl rfl (by exact fU wr [.int .u64 (d:Int)] 47) (by intro u hu;simp at hu;subst hu;rfl) (by unfold maxLen;omega) (by omega) (by simp;omega) ?_;intro v1 w1 iq fe sk)
    have qX:=uR iq;have jA:=im (en.alloc kF _) (cV.alloc _) fe (by simp;omega);obtain⟨g1,b1,c1,rfl,_,_,_⟩:=fS qX;clear iq fe sk;go_wp2
    go_roundw
    case rel=>exact⟨k+1,g1,c1,by omega,by first|rfl|exact gi (Value.int .i64) (by omega)|go_num,rfl,by rw[LC, <-ae HD];exact qX,jA⟩
    case measure=>simp[intOf];omega
  ·have h1i:¬2*(k:Int)<(la:Int):=(by omega);obtain⟨g1,b1,c1,he,qk,ld,tE⟩:=fS cV;cases he;have hv:aB (LC xs k)=val xs:=(by rw[Qk,jj _ _ (by omega)]);have hd:=Qj cx.1 k;by_cases h0:k=0
   ·subst h0;have hc:iS (LC xs 0):=ue;go_wp2;refine wp_loop_rounds 1 ?_;rw[rounds_succ];go_wp2;go_ret;exact⟨gw,b1,cw,LC xs 0,by first|rfl|exact fg rfl,ld,hc,hv,en,fun h=>absurd h (by simp[LC])⟩
   ·obtain⟨j,rfl⟩:∃j,k=j+1:=⟨k-1,by omega⟩;have jL:=aa1 (k:=j) cx (by omega) (by omega);have hc:iS (LC xs (j+1)):=⟨hd,fun _=>by rw[mL,dF,LF];exact jL⟩;obtain rfl:=ld.head (by omega);obtain⟨t,hte⟩:∃t,t=Zl xs j:=⟨_,rfl⟩;have ct:wr.cell? ⟨b1,j,none⟩=some (.int .u64 (t:Int)):=by have:=ld.cell j (by omega);rw[bh,LF, <-hte]at this;exact this
    have htz:((t:Int)==0)=false:=by rw[dn];omega
    have HC:=ag hc;have HV:=ag hv;clear hte jL hc hv hd cV;go_wp2;refine wp_loop_rounds 1 ?_;rw[rounds_succ];go_wp2;go_ret;exact⟨_,b1,cw,LC xs (j+1),by rw[mL];exact fg rfl,ld,ae HC,ae HV,en,fun _=>tE (by omega)⟩
theorem K6(w:World)(u:Value)(gb:Option Addr)(bb ob cb lb m L:Nat)(ys:List Nat)(hy:ys.length=lb)(hL:L<=1073741824)(hm:m<4294967296^L)(hu:jO w u m)(hB:cH w gb bb ob cb ys)(cY:iS ys)(hv:aB ys=m):Calls Tryz.prog 19 #[u,.slice gb lb cb] w fun e w'=>e=.returned (.bool true)/\Below w.heap.size w w':=by
 obtain⟨ga,ba,oa,ca,xs,rfl,hA,cA,yS⟩:=hu;have la:=oQ cA (L:=L) (by rw[yS];exact hm);have kl:lb<=1073741824:=by have h1:=mT cY (L:=L) (by rw[hv];exact az hm (di (by omega) L));omega
 have CT:=ag (Yw w ga ba oa ca _ xs rfl (by omega) hA cA);rw[yS]at CT;clear yS cA hA hm;go_enter Tryz.func19,Tryz.ntmps19
 go_wp2_with fail
 refine(ae CT).mono ?_;rintro e w1 ⟨g1,b1,c1,ws,rfl,r1,k1,v1,tE,_⟩;obtain rfl:ws=ys:=uf k1 cY (by rw[v1,hv]);have rB:=hB.next tE;rw[hy];have q1:((lb:Int)!=(lb:Int))=false:=by simp
 clear CT k1 v1 cY hv;go_wp2
 go_loopw [6] (fun i wr=>∃k:Nat,k<=lb/\i=.int .i64 (k:Int)/\Below w1.heap.size w1 wr) (fun i _=>lb-(intOf i).toNat)
 case atStart=>exact⟨0,aO _,rfl,aj _ _⟩
 case round=>
  obtain⟨k,hk,rfl,en⟩:=hrel;by_cases h1:k<lb
  ·obtain rfl:=r1.head (by omega);obtain rfl:=rB.head (by omega);obtain⟨x,hx⟩:∃x:Nat,x=ws.getD k 0:=⟨_,rfl⟩;have c1:wr.cell? ⟨b1,k,none⟩=some (.int .u64 (x:Int)):=by have:=(en.cell (by exact r1.lt (by omega))).trans (r1.cell k (by omega));rw[bh, <-hx]at this;exact this
   have c2:wr.cell? ⟨bb,ob+k,none⟩=some (.int .u64 (x:Int)):=by rw[hx];exact(en.cell (by exact rB.lt (by omega))).trans (rB.cell k (by omega))
   have s2:((x:Int)!=(x:Int))=false:=(by simp);clear hx;go_wp2
   go_quiet (fail)
   go_wp2;exact⟨⟨k+1,by omega,by go_num,below_drewN en _⟩,by simp[intOf];omega⟩
  ·go_wp2;go_ret;exact⟨rfl,aJ tE en⟩
theorem pe(w:World)(u v:Value)(B m p:Nat)(hp:p<=268435456)(hm:m<18446744073709551616^p)(hu:jO w u m)(hv:aU B w v m):Calls Tryz.prog 19 #[u,v] w fun e w'=>e=.returned (.bool true)/\Below w.heap.size w w':=by
 obtain⟨ga,b,cap,xs,rfl,hr,hc,hw,_⟩:=hv.rep;exact K6 w u ga b 0 cap _ m (2*p) xs rfl (by omega) (by rw[<-TS];exact hm) hu hr hc hw
theorem oC(w:World)(v:Value)(n:Nat)(b:Bool)(hb:b=decide (n=0))(h:jO w v n):Calls Tryz.prog 30 #[v] w fun e w'=>e=.returned (.bool b)/\w'=w:=by
 obtain⟨ga,k,o,cap,xs,rfl,hr,hc,hv⟩:=h;have hx:(xs.length=0)=(n=0):=by
  rw[<-hv];apply propext;constructor
  ·intro h;obtain rfl:xs=[]:=dQ.1 h;rfl
  ·intro h;obtain rfl:xs=[]:=MA hc Gh h;rfl
 have e:((xs.length:Int)==0)=b:=by
  rw[hb];by_cases h0:n=0
  ·have:xs.length=0:=by rw[hx];exact h0
   simp[h0,this]
  ·have:¬xs.length=0:=by rw[hx];exact h0
   simp[h0];intro h1;exact this (by rw[h1];rfl)
 generalize xs.length=l at *;clear hx hr hc hv hb;go_enter Tryz.func30,Tryz.ntmps30;go_wp2;go_ret;exact⟨rfl,rfl⟩
theorem vJ(xs:List Nat)(i:Nat):val (xs.drop i)=xs.getD i 0+4294967296*val (xs.drop (i+1)):=by
 by_cases h:i<xs.length
 ·rw[cK h,iK h];rfl
 ·rw[aT (by omega),aT (by omega),jo (by omega)];rfl
theorem tU(zs:List Nat)(k v i:Nat)(hk:k<zs.length):(zs.set k v).getD i 0=if i=k then v else zs.getD i 0:=by
 by_cases e:i=k
 ·subst e;simp[hk]
 ·rw[aV e];simp[List.getElem?_set_ne (Ne.symm e)]
theorem xG{ys:List Nat}(hl:xs.length=ys.length)(h:∀k,k<ys.length->xs.getD k 0=ys.getD k 0):xs=ys:=by apply lO hl;intro k h1 h2;have:=h k h2;simpa [h1,h2]using this
theorem xN(f:Nat->Nat)(h:i<n):((List.range n).map f).getD i 0=f i:=by simp[h]
theorem qx(w:World)(n:Nat):cW (w.alloc (.cells (dS n).toArray 47)) w.heap.size (List.replicate n 0):=aI w _
theorem uK(n cp:Nat)(z:Int)(hz:z=(cp:Int))(h:cp=n)(hb:cp<=2199023255552):∀w,(Instr.makeSlice 24 (.int .i64 z) (.int .i64 z)).run Tryz.prog w=.ok (.slice (some ⟨w.heap.size,0,none⟩) n n) (w.alloc (.cells (dS n).toArray 47)):=fun w=>by
 obtain⟨i0,hi,jx,gY,fX⟩:=fE Tryz.mf;subst hz h;have h:=Fv (P:=Tryz.prog) w 24 47 i0 (.int .u64 0) bm hi jx .i64 .i64 (cp:Int) (cp:Int) (by omega) (by omega) (by rw[fX];omega) (by omega);rw[h];have e1:((cp:Int)).toNat=cp:=by omega
 rw[e1,gY,dG,rJ]
def mn(f:Nat->Nat)(z0 zs:List Nat)(k:Nat):Prop:=zs.length=z0.length/\∀i,i<z0.length->zs.getD i 0=if i<k then f i else z0.getD i 0
theorem nY(f:Nat->Nat)(z0:List Nat):mn f z0 z0 0:=⟨rfl,fun i _=>by rw[aV (by omega)]⟩
theorem uL(h:mn f z0 zs k)(hk:k<z0.length):zs.getD k 0=z0.getD k 0:=by rw[h.2 k hk,aV (by omega)]
theorem pI(h:mn f z0 zs k)(hk:k<z0.length):mn f z0 (zs.set k (f k)) (k+1):=by
 refine⟨by simpa using h.1,fun i hi=>?_⟩;rw[tU _ _ _ _ (by rw[h.1];exact hk)];by_cases e:i=k
 ·rw[aW e,aW (by omega),e]
 ·rw[aV e,h.2 i hi];by_cases c:i<k
  ·rw[aW c,aW (by omega)]
  ·rw[aV c,aV (by omega)]
theorem rK(h:mn f z0 zs z0.length):zs=(List.range z0.length).map f:=by
 refine xG (by rw[h.1];simp) fun k hk=>?_;have sK:k<z0.length:=by simpa using hk
 rw[xN f sK,h.2 k sK,aW sK]
end
section
def nM(z0 zs:List Nat)(o n i:Nat):Prop:=
 zs.length=z0.length/\∀k,k<z0.length->zs.getD k 0=if (o<=k/\k<o+i)\/(o+n-i<=k/\k<o+n) then z0.getD (2*o+n-1-k) 0 else z0.getD k 0
theorem xP(z0:List Nat)(o n:Nat):nM z0 z0 o n 0:=⟨rfl,fun k _=>by rw[aV (by omega)]⟩
theorem Cr(h:nM z0 zs o n i)(hi:2*i+1<n)(hl:o+n<=z0.length):zs.getD (o+i) 0=z0.getD (o+i) 0:=by rw[h.2 _ (by omega),aV (by omega)]
theorem zP(h:nM z0 zs o n i)(hi:2*i+1<n)(hl:o+n<=z0.length):zs.getD (o+(n-1-i)) 0=z0.getD (o+(n-1-i)) 0:=by rw[h.2 _ (by omega),aV (by omega)]
theorem zQ(h:nM z0 zs o n i)(hi:2*i+1<n)(hl:o+n<=z0.length):nM z0 ((zs.set (o+i) (z0.getD (o+(n-1-i)) 0)).set (o+(n-1-i)) (z0.getD (o+i) 0)) o n (i+1):=by
 refine⟨by simpa using h.1,fun k hk=>?_⟩;have h0:=h.2 k hk;have hz:=h.1;rw[tU _ _ _ _ (by simp;omega),tU _ _ _ _ (by omega)];by_cases e1:k=o+(n-1-i)
 ·rw[aW e1,aW (by omega)];congr 1;omega
 ·rw[aV e1];by_cases e2:k=o+i
  ·rw[aW e2,aW (by omega)];congr 1;omega
  ·rw[aV e2,h0];by_cases c:(o<=k/\k<o+i)\/(o+n-i<=k/\k<o+n)
   ·rw[aW c,aW (by omega)]
   ·rw[aV c,aV (by omega)]
theorem Cq(h:nM z0 zs o n i)(hi:n<=2*i+1)(zI:i<=n):nM z0 zs o n n:=by
 refine⟨h.1,fun k hk=>?_⟩;rw[h.2 k hk];by_cases c:(o<=k/\k<o+i)\/(o+n-i<=k/\k<o+n)
 ·rw[aW c,aW (by omega)]
 ·rw[aV c];by_cases c2:(o<=k/\k<o+n)\/(o+n-n<=k/\k<o+n)
  ·rw[aW c2];congr 1;omega
  ·rw[aV c2]
end
section
open Go.RowKit
theorem UZ(p a b:Nat):Cg p (ad p a b:Int) ((a:Int)+(b:Int)):=by unfold ad;exact(Cg.mod p _).trans (Cg.of_eq (fL a b))
theorem Kq(p a b:Nat):Cg p (ml p a b:Int) ((a:Int)*(b:Int)):=by unfold ml;exact(Cg.mod p _).trans (Cg.of_eq (aG a b))
theorem ac1(p a n:Nat):Cg p (pw p a n:Int) ((a:Int)^n):=by unfold pw;exact(Cg.mod p _).trans (Cg.of_eq (km a n))
def part(p w:Nat)(xs:List Nat)(k:Nat):Nat->Nat
 |0=>0
 |m+1=>ad p (part p w xs k m) (ml p (xs.getD m 0) (pw p w (m*k)))
def fG(xs:List Nat)(j:Nat):Int:=((xs.getD j 0:Nat):Int)
theorem aal(p w:Nat)(xs:List Nat)(k m:Nat):Cg p (part p w xs k m:Int) (px (w:Int) m (fG xs) k):=by
 induction m with
 |zero=>exact Cg.refl _ _
 |succ m ih=>exact(UZ p _ _).trans (ih.add ((Kq p _ _).trans ((Cg.refl p _).mul (ac1 p w _))))
theorem aam(hp:0<p)(w:Nat)(xs:List Nat)(k m:Nat):part p w xs k m<p:=by
 cases m with
 |zero=>exact hp
 |succ m=>exact aD _ hp
def fwd(p w:Nat)(xs:List Nat):List Nat:=(List.range xs.length).map fun k=>part p w xs k xs.length
theorem iB(p w:Nat)(xs:List Nat):(fwd p w xs).length=xs.length:=by simp[fwd]
theorem VS(p w:Nat)(xs:List Nat)(h:k<xs.length):(fwd p w xs).getD k 0=part p w xs k xs.length:=by simp[fwd,h]
def v3(a b c:Nat):Nat:=a+18446744073709551616*(b+18446744073709551616*c)
def qt(w:World)(g q:Nat)(T:Nat->Nat):Prop:=
 ∀k,k<q->∃t0 t1 t2:Nat,t0<18446744073709551616/\t1<18446744073709551616/\t2<18446744073709551616/\v3 t0 t1 t2=T k/\w.cell? ⟨g,k*3,none⟩=some (.int .u64 (t0:Int))/\w.cell? ⟨g,k*3+1,none⟩=some (.int .u64 (t1:Int))/\w.cell? ⟨g,k*3+2,none⟩=some (.int .u64 (t2:Int))
theorem qt.next{q:Nat}{T:Nat->Nat}(h:qt w g q T)(b:Below w.heap.size w w'):qt w' g q T:=fun k hk=>by obtain⟨t0,t1,t2,a,a1,a2,e,c0,c1,c2⟩:=h k hk;have hg:=aw _ _ c0;exact⟨t0,t1,t2,a,a1,a2,e,(b.cell (p:=⟨g,k*3,none⟩) hg).trans c0,(b.cell (p:=⟨g,k*3+1,none⟩) hg).trans c1,(b.cell (p:=⟨g,k*3+2,none⟩) hg).trans c2⟩
theorem adm(a b c:Nat):aB [a,b,c]=v3 a b c:=by simp[aB,v3]
def hv(T:Nat->Nat)(n:Nat):Nat->Nat
 |0=>0
 |c+1=>hv T n c*2^64+T (n-1-c)
theorem Jr(w:World)(ga:Option Addr)(c:Nat):(Builtin.append_ #[24,24] 24 #[.slice none 0 0,.slice ga 0 c]).run Tryz.prog w=.ok (.slice none 0 0) w:=by
 obtain⟨i,hi,hz,kF,hby⟩:=fE Tryz.mf;have ht:=bm;cases ga with
 |none=>simp[Builtin.append_,run_underlying ht,sizeOf,typeInfo,hi,Builtin.lenOf,Builtin.firstCells,go_sem]
 |some a=>simp[Builtin.append_,run_underlying ht,sizeOf,typeInfo,hi,Builtin.lenOf,Builtin.firstCells,loadCells,loadCellsFrom,go_sem]
theorem Hb(w:World)(ga:Option Addr)(b o cap n:Nat)(xs:List Nat)(hl:xs.length=n)(hn:n<=1000)(hR:cH w ga b o cap xs):Calls Tryz.prog 24 #[.slice ga n cap] w fun e w'=>∃v,e=.returned v/\w'.ownsRow w.heap.size 47 1 v n (cellsOf xs)/\Below w.heap.size w w':=by
 obtain⟨i0,hi,jx,gY,fX⟩:=fE Tryz.mf;by_cases h0:n=0
 ·subst h0;have hx:xs=[]:=dQ.1 hl;subst hx;have hr:=Jr w ga cap;go_enter Tryz.func24,Tryz.ntmps24
  go_wp2_with (at_builtin;refine Lib.wpList_append_run _ rfl _ _ _ _ rfl _ _ rfl rfl _ _ hr ?_)
  go_ret;exact⟨_,rfl,il _ _ _ _,aj _ _⟩
 ·obtain rfl:=hR.head (by omega);have jK:∀j u,(cellsOf xs)[j]?=some u->w.cell? ((⟨b,o,none⟩:Addr).add j)=some u:=fun j u hu=>by
   have hj:j<xs.length:=by have:=(fq.1 hu).1;simpa [cellsOf]using this
   have hc:=hR.cell j hj;rw[Ao];rw[hc];simp[cellsOf,List.getElem?_eq_getElem hj]at hu;rw[<-hu];simp[List.getD_eq_getElem?_getD,List.getElem?_eq_getElem hj]
  go_enter Tryz.func24,Tryz.ntmps24
  go_wp2_with (at_builtin;refine jE _ rfl _ _ 24 rfl w.heap.size 47 i0 (.int .u64 0) 1 8 bm hi jx gY fX rfl (by omega) (.slice none 0 0) 0 [] rfl (il _ _ _ _) ⟨b,o,none⟩ n cap (cellsOf xs) rfl (by simp[cellsOf,hl]) jK (gD xs) (by unfold maxLen;omega) (by omega) (af _) ?_;intro v1 w1 iq fe sk)
  go_ret;exact⟨v1,rfl,by simpa using iq,(aj w.heap.size w).grown fe (af _) (fun k e=>by simp[Value.ownBlock]at e)⟩
theorem WM(w:World)(bb b d:Nat)(hc:w.cell? ⟨bb,0,none⟩=some (.int .u64 (b:Int))):Calls Tryz.prog 45 #[.int .u64 (d:Int),.pointer (some ⟨bb,0,none⟩)] w fun e w'=>e=.returned (.bool (decide (b<=d)))/\w'=w:=by have e:decide (b<=d)=decide ((b:Int)<=(d:Int)):=lT.2 (by omega);rw[e];go_enter Tryz.func45,Tryz.ntmps45;go_wp2;go_ret;exact⟨rfl,rfl⟩
theorem J_(w:World)(bb b:Nat)(ga:Option Addr)(ba oa ca n:Nat)(xs:List Nat)(hc:w.cell? ⟨bb,0,none⟩=some (.int .u64 (b:Int)))(hl:xs.length=n)(hn:n<=1073741824)(hR:cH w ga ba oa ca xs):Calls Tryz.prog 62 #[.slice ga n ca,.func (.func 45) #[] #[.pointer (some ⟨bb,0,none⟩)]] w fun e w'=>∃z:Int,e=.returned (.int .i64 z)/\(0<=z↔∃j,j<n/\b<=xs.getD j 0)/\w'=w:=by
 have CV:=ag (fun d=>WM w bb b d hc);have HC:Hid (∀j,j<n->ga=some ⟨ba,oa,none⟩/\w.cell? ⟨ba,oa+j,none⟩=some (.int .u64 ((xs.getD j 0:Nat):Int))):=fun j hj=>⟨hR.head (by omega),hR.cell j (by omega)⟩;clear hR hc;go_enter Tryz.func62,Tryz.ntmps62;go_wp2
 go_loopw [5,8] (fun xv iv wr=>∃q:Nat,q<=n/\iv=.int .i64 (q:Int)/\Hid (∀j,j<q->¬b<=xs.getD j 0)/\wr=w) (fun _ iv _=>n-(intOf iv).toNat)
 case atStart=>exact⟨0,aO _,rfl,fun j hj=>absurd hj (by omega),rfl⟩
 case round=>
  obtain⟨q,hq,rfl,hA,rfl⟩:=hrel;by_cases h1:q<n
  ·obtain⟨rfl,c1⟩:=ae HC q h1;obtain⟨d,hd⟩:∃d,d=xs.getD q 0:=⟨_,rfl⟩;rw[<-hd]at c1;have CV:=ag (ae CV d);have hqi:(q:Int)<(n:Int):=(by omega);by_cases h2:b<=d
   ·rw[bg h2]at CV;have HX:Hid (∃j,j<n/\b<=xs.getD j 0):=⟨q,h1,by rw[<-hd];exact h2⟩;clear hd h2
    go_wp2_with fail
    refine(ae CV).mono ?_;rintro e w2 ⟨rfl,hw⟩;obtain rfl:=hw.symm;clear hw CV;go_wp2;go_ret;exact⟨_,rfl,⟨fun _=>ae HX,fun _=>by omega⟩,rfl⟩
   ·rw[aM h2]at CV;have HN:Hid (∀j,j<q+1->¬b<=xs.getD j 0):=fun j hj=>by
     rcases fl j q with h|h
     ·exact ae hA j h
     ·obtain rfl:j=q:=(by omega);rw[<-hd];exact h2
    clear hd h2 hA
    go_wp2_with fail
    refine(ae CV).mono ?_;rintro e w2 ⟨rfl,hw⟩;obtain rfl:=hw.symm;clear hw CV;go_wp2
    go_roundw
    case rel=>exact⟨q+1,by omega,by go_num,HN,by trivial⟩
    case measure=>simp[intOf];omega
  ·obtain rfl:q=n:=(by omega);have HX:Hid (¬∃j,j<q/\b<=xs.getD j 0):=fun⟨j,h1,h2⟩=>ae hA j h1 h2;clear hA;go_wp2;go_ret;exact⟨_,rfl,⟨fun h=>absurd h (by omega),fun h=>absurd h (ae HX)⟩,rfl⟩
theorem ER(w:World)(bb b:Nat)(ga:Option Addr)(ba oa ca n:Nat)(xs:List Nat)(q:Bool)(hc:w.cell? ⟨bb,0,none⟩=some (.int .u64 (b:Int)))(hl:xs.length=n)(hn:n<=1073741824)(hR:cH w ga ba oa ca xs)(hq:q=true↔∃j,j<n/\b<=xs.getD j 0):Calls Tryz.prog 44 #[.slice ga n ca,.func (.func 45) #[] #[.pointer (some ⟨bb,0,none⟩)]] w fun e w'=>e=.returned (.bool q)/\w'=w:=by
 have CI:=ag (J_ w bb b ga ba oa ca n xs hc hl hn hR);clear hR hc;go_enter Tryz.func44,Tryz.ntmps44
 go_wp2_with fail
 refine(ae CI).mono ?_;rintro e w2 ⟨z,rfl,hz,hw⟩;obtain rfl:=hw.symm;clear hw CI;have e:decide ((0:Int)<=z)=q:=by
  cases q with
  |true=>exact bg (hz.2 (hq.1 rfl))
  |false=>exact aM (fun h=>by have:=hq.2 (hz.1 h);cases this)
 clear hz hq;go_wp2;go_ret;exact⟨rfl,rfl⟩
end
end Go.Proofs.YtkdmippllpekfaaGreatDoor
