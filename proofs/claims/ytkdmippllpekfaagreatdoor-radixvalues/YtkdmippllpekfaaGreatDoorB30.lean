import Derived.Test.YtkdmippllpekfaaGreatDoorB29
namespace Go.Proofs.YtkdmippllpekfaaGreatDoor
open Go.RowKit
variable{n s:Nat}
theorem Xh{t:Nat}(hs:s<=63)(h:t*2^s<18446744073709551616):(t+1)*2^s<=18446744073709551616:=by
 have e:(18446744073709551616:Nat)=2^(64-s)*2^s:=by rw[<-aQ,show 64-s+s=64 by omega]
 rw[e]at h ⊢;exact ax _ (iQ h)
theorem Fh{vs ds:List Nat}{m:Nat}(cB:iS vs)(hl:vs.length=m+1)(cD:iS ds)(hs:s<=63)(h1:9223372036854775808<=vs.getD m 0*2^s)(h2:vs.getD m 0*2^s<18446744073709551616)(hd:aB ds=aB vs*2^s):ds.length=m+1/\9223372036854775808<=ds.getD m 0:=by
 have e1:=cQ vs m;rw[show m+1=vs.length from hl.symm,cf]at e1;have l1:=mU cB.1 m;have l2:=Xh hs h2;have hX:=iZ m;generalize vs.getD m 0=t at *;generalize aB (vs.take m)=lo at *;have hup:aB ds<18446744073709551616^(m+1):=by
  rw[hd,aE];have a1:aB vs<18446744073709551616^m*(t+1):=by rw[e1,cJ];omega
  have a2:aB vs*2^s<18446744073709551616^m*(t+1)*2^s:=fb a1 (bC s);rw[aF]at a2;exact az a2 (au _ l2)
 have GK:18446744073709551616^m*9223372036854775808<=aB ds:=by rw[hd,e1,aX,aF];have:=au (18446744073709551616^m) h1;omega
 have xF:=mT cD hup;have qg:m<ds.length:=by refine eI fun h=>?_;have:=bF cD.1;have h3:18446744073709551616^ds.length<=18446744073709551616^m:=aA (by omega) h;have h4:18446744073709551616^m*1<=18446744073709551616^m*9223372036854775808:=au _ (by omega);omega
 have hlen:ds.length=m+1:=by omega
 refine⟨hlen,?_⟩;have e2:=cQ ds m;rw[show m+1=ds.length from hlen.symm,cf]at e2;have l3:=mU cD.1 m;refine cG fun h=>?_;have h5:18446744073709551616^m*(ds.getD m 0+1)<=18446744073709551616^m*9223372036854775808:=au _ h;rw[cJ]at h5;omega
theorem Ks{us:List Nat}(dA:bG us)(hl:us.length=n)(hs:s<=63):aB us*2^s<18446744073709551616^(n+1):=by
 have h1:=bF dA;rw[hl]at h1;rw[aE];have h2:(2:Nat)^s<=2^63:=aA (by omega) hs;have h3:(2:Nat)^s<=18446744073709551616:=by omega
 exact UL h1 h3 (by omega)
theorem Vn(W:World)(gr N:Nat)(ga:Option Addr)(ba oa cap l:Nat)(xs:List Nat)(hZ:cW W gr (List.replicate N 0))(hR:cH W ga ba oa cap xs)(hl:xs.length=l)(hlN:l<=N):∃W',(∀ty,(Builtin.copy_ #[38,38] ty #[.slice (some ⟨gr,0,none⟩) N N,.slice ga l cap]).run Tryz.prog W=.ok (.int .i64 (l:Int)) W')/\cW W' gr (xs++List.replicate (N-l) 0)/\Out (·=gr) W W':=by
 subst hl;by_cases h0:xs.length=0
 ·obtain rfl:xs=[]:=eu h0;refine⟨W,fun ty=>adt W 38 38 ty 47 _ _ _ _ _ _ dT Tryz.pL (by simp),by simpa using hZ,Out.refl _ _⟩
 ·obtain rfl:=hR.head (by omega);have hZ':W.heap[gr]?=some (.cells (cellsOf (List.replicate N 0)).toArray 47 (0,0)):=hZ;have ecl:goInt ((iU xs).length:Int)=.int .i64 (xs.length:Int):=by rw[dL];rfl
  have hc:=run_copy_row (P:=Tryz.prog) W 38 38 (cs:=iU xs) (elem:=47) (g:=gr) (o:=0) (dLen:=N) (dCap:=N) (a:=⟨ba,oa,none⟩) (sLen:=xs.length) (sCap:=cap) (cur:=(cellsOf (List.replicate N 0)).toArray) (t:=47);have hsr:∀j v,(iU xs)[j]?=some v->W.cell? ((⟨ba,oa,none⟩:Addr).add j)=some v:=by
   intro j v hj;have Uj:j<xs.length:=by have:=(fq.1 hj).1;rwa [dL]at this
   have:=hR.cell j Uj;have e:(⟨ba,oa,none⟩:Addr).add j=⟨ba,oa+j,none⟩:=by unfold Addr.add;split<;>simp_all
   rw[e,this, <-hj];simp[iU,cellsOf,Uj]
  refine⟨_,fun ty=>by rw[<-ecl];exact hc ty dT Tryz.pL hZ' (by rw[dL];exact(bu hlN).symm) hsr (by rw[dL];simp[cellsOf];omega) (gD _),?_,?_⟩
  ·have h:=XW W gr _ ((cellsOf (List.replicate N 0)).toArray.toList.take 0++iU xs++(cellsOf (List.replicate N 0)).toArray.toList.drop (0+(iU xs).length)).toArray _ _ hZ';show _=_;rw[h];simp[iU,cellsOf]
  ·exact Out.bX ⟨rfl,rfl,rfl,by simp[World.setRow],fun k hk hne=>setRow_other W gr k _ (fun e=>hne (by rw[e]))⟩
theorem ade(T:bJ)(n:Nat)(hn:n<=16384):0<=sqT T (n:Int)/\sqT T (n:Int)<=8*((n*n:Nat):Int):=by rw[P8 T hn];have:=Fx T.MP n;generalize qZ T.B T.D T.N n=c at *;generalize n*n=q at *;omega
theorem jg.Dt{w:World}{v:Value}(h:jg w v n):wl n<=16384:=by obtain⟨ga,b,o,cap,xs,rfl,hr,hd,hv,hl⟩:=h;rw[<-hv];exact ak (mN hd) hl
theorem VG(SM:Jg)(w:World)(gm gt gk ge g:Nat)(s l m:Int)(T:bJ)(u v:Value)(A C:Nat)(hE:dI w gm gt gk ge g s l m T)(hT:TB w)(h0:0<=s)(h1:s<=576460752303423488)(h2:0<=l)(h3:l<=1000)(hu:jg w u A)(hv:jg w v C):Calls Tryz.prog 74 #[.pointer (some ⟨gm,0,none⟩),u,v] w fun e w'=>∃r s' m',e=.returned r/\aU w.heap.size w' r (A*C)/\dI w' gm gt gk ge g s' l m' T/\0<=s'/\s'<=s+4294967296/\Out (·=g) w w':=by
 refine(SM w gm gt gk ge g s l m T u v A C hE hT h0 (by omega) h2 h3 hu hv).mono ?_;rintro e w' ⟨r,m',rfl,nr,E,_,_,o⟩;have c:=JH T (wl A) (wl C) hu.Dt hv.Dt;have q:wl A*wl C<=16384*16384:=aP hu.Dt hv.Dt;refine⟨r,_,m',rfl,nr,E,?_,?_,o⟩
 ·omega
 ·omega
theorem VH(SQ:Jh)(w:World)(gm gt gk ge g:Nat)(s l m:Int)(T:bJ)(u:Value)(A:Nat)(hE:dI w gm gt gk ge g s l m T)(hT:TB w)(h0:0<=s)(h1:s<=576460752303423488)(h2:0<=l)(h3:l<=1000)(hu:jg w u A):Calls Tryz.prog 84 #[.pointer (some ⟨gm,0,none⟩),u] w fun e w'=>∃r s' m',e=.returned r/\aU w.heap.size w' r (A*A)/\dI w' gm gt gk ge g s' l m' T/\0<=s'/\s'<=s+4294967296/\Out (·=g) w w':=by
 refine(SQ w gm gt gk ge g s l m T u A hE hT h0 (by omega) h2 h3 hu).mono ?_;rintro e w' ⟨r,m',rfl,nr,E,_,_,o⟩;have c:=ade T (wl A) hu.Dt;have q:wl A*wl A<=16384*16384:=aP hu.Dt hu.Dt;refine⟨r,_,m',rfl,nr,E,?_,?_,o⟩
 ·omega
 ·omega
end Go.Proofs.YtkdmippllpekfaaGreatDoor
