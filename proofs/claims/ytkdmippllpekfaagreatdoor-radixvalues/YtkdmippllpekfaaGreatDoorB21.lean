import Derived.Test.YtkdmippllpekfaaGreatDoorB20
namespace Go.Proofs.YtkdmippllpekfaaGreatDoor
set_option maxRecDepth 100000
set_option maxHeartbeats 6400000
variable{c l m s:Int}{xs ys z0 zs:List Nat}{H L M TL g gm go gp gq gr gt i j k n oo p q r t t0 t1 t2 v v2:Nat}{F T:Nat->Nat}{w w':World}
section
open Go.RowKit
end
section
open Go.RowKit
def tr(p m x:Nat)(ys:List Nat)(i:Nat)(zs:List Nat):Nat->List Nat
 |0=>zs
 |j+1=>(tr p m x ys i zs j).set ((i+j)%m) (ad p ((tr p m x ys i zs j).getD ((i+j)%m) 0) (ml p x (ys.getD j 0)))
def Bk(p m:Nat)(xs ys:List Nat):Nat->List Nat
 |0=>List.replicate m 0
 |i+1=>tr p m (xs.getD i 0) ys i (Bk p m xs ys i) ys.length
def JE(p m:Nat)(xs ys:List Nat):List Nat:=Bk p m xs ys xs.length
theorem tu(p m x:Nat)(ys:List Nat)(i:Nat)(zs:List Nat):∀j,(tr p m x ys i zs j).length=zs.length
 |0=>rfl
 |j+1=>by unfold tr;rw[Qy,tu p m x ys i zs j]
theorem rq(p m:Nat)(xs ys:List Nat):∀i,(Bk p m xs ys i).length=m
 |0=>by simp[Bk]
 |i+1=>by unfold Bk;rw[tu,rq p m xs ys i]
theorem Pa{p m x:Nat}{ys zs:List Nat}{i:Nat}(hm:0<m)(hl:zs.length=m)(k:Nat)(hk:k<m):∀j,Cg p ((tr p m x ys i zs j).getD k 0:Int) ((zs.getD k 0:Int)+sI j fun t=>if (i+t)%m=k then (x:Int)*fG ys t else 0)
 |0=>Cg.of_eq (by show _=(zs.getD k 0:Int)+0;rw[fK];rfl)
 |j+1=>by
  have ih:=Pa (p:=p) (x:=x) (ys:=ys) (i:=i) hm hl k hk j;have hlen:(tr p m x ys i zs j).length=m:=by rw[tu,hl]
  have hq:(i+j)%m<m:=aD _ hm;show Cg p (((tr p m x ys i zs j).set ((i+j)%m) (ad p ((tr p m x ys i zs j).getD ((i+j)%m) 0) (ml p x (ys.getD j 0)))).getD k 0:Int) ((zs.getD k 0:Int)+((sI j fun t=>if (i+t)%m=k then (x:Int)*fG ys t else 0)+if (i+j)%m=k then (x:Int)*fG ys j else 0));by_cases e:(i+j)%m=k
  ·rw[aW e,e];have:((tr p m x ys i zs j).set k (ad p ((tr p m x ys i zs j).getD k 0) (ml p x (ys.getD j 0)))).getD k 0=ad p ((tr p m x ys i zs j).getD k 0) (ml p x (ys.getD j 0)):=(by simp[hlen,hk]);rw[this];refine(UZ p _ _).trans (((ih.add (Kq p _ _))).trans (Cg.of_eq ?_));show _+_+(x:Int)*((ys.getD j 0:Nat):Int)=_;unfold fG;omega
  ·rw[aV e];have:((tr p m x ys i zs j).set ((i+j)%m) (ad p ((tr p m x ys i zs j).getD ((i+j)%m) 0) (ml p x (ys.getD j 0)))).getD k 0=(tr p m x ys i zs j).getD k 0:=(by simp[List.getElem?_set_ne e]);rw[this,fK];exact ih
theorem Bl{p m:Nat}{xs ys:List Nat}(hm:0<m)(k:Nat)(hk:k<m):∀i,Cg p ((Bk p m xs ys i).getD k 0:Int) (sI i fun s=>sI ys.length fun t=>if (s+t)%m=k then fG xs s*fG ys t else 0)
 |0=>Cg.of_eq (by show(((List.replicate m 0).getD k 0:Nat):Int)=0;simp[hk])
 |i+1=>by refine(Pa hm (rq p m xs ys i) k hk ys.length).trans ?_;exact(Bl hm k hk i).add (Cg.refl _ _)
theorem Pb{p m x:Nat}{ys zs:List Nat}{i:Nat}(hp:0<p)(hz:∀k,zs.getD k 0<p):∀j k,(tr p m x ys i zs j).getD k 0<p
 |0,k=>hz k
 |j+1,k=>by
  unfold tr;have ih:=Pb (m:=m) (x:=x) (ys:=ys) (i:=i) hp hz j;generalize (i+j)%m=q;rw[aq,vz];split
  ·split
   ·exact aD _ hp
   ·exact hp
  ·have:=ih k;rwa [aq]at this
theorem JK{p m:Nat}{xs ys:List Nat}(hp:0<p):∀i k,(Bk p m xs ys i).getD k 0<p
 |0,k=>by show(List.replicate m 0).getD k 0<p;rw[aq,nS];split<;>exact hp
 |i+1,k=>Pb hp (JK hp i) ys.length k
def fu(n:Nat)(xs:List Nat):List Nat:=xs.take (min n xs.length)++List.replicate (n-min n xs.length) 0
theorem lL(n:Nat)(xs:List Nat):(fu n xs).length=n:=by simp[fu];omega
theorem Db(ys:List Nat)(n k:Nat)(h:ys.length=k)(_hk:k<=n):splice (dS n) 0 (iU ys)=cellsOf (ys++List.replicate (n-k) 0):=by simp[splice,dS,iU,cellsOf,h]
end
section
theorem XS{m:Nat}{f:Nat->Int}(h:m<=n)(hz:∀j,m<=j->j<n->f j=0):sI n f=sI m f:=by obtain⟨d,rfl⟩:∃d,n=m+d:=⟨n-m,by omega⟩;rw[Hy,dM (n:=d) (g:=fun _=>0) fun j hj=>hz (m+j) (by omega) (by omega),xR,fK]
theorem KZ(h:xs.length<=j):fG xs j=0:=by unfold fG;rw[aq,jc h];rfl
theorem Cu(hj:j<n):fG (fu n xs) j=fG xs j:=by
 unfold fG fu;congr 1;rw[aq,aq];by_cases h:j<xs.length
 ·rw[gK (by simp;omega),iO,aW (by omega)]
 ·rw[lC (by simp;omega),nS,jc (l:=xs) (by omega)];split<;>rfl
theorem Vm{m:Nat}(hx:1<=xs.length)(hy:1<=ys.length)(hm:m+1=xs.length+ys.length)(hn:m<=n)(k:Nat)(hk:k<m):Cg p ((JE p m xs ys).getD k 0:Int) (cyc n (fG (fu n xs)) (fG (fu n ys)) k):=by
 refine(Bl (p:=p) (xs:=xs) (ys:=ys) (by omega) k hk xs.length).trans (Cg.of_eq ?_);unfold cyc;have e1:(sI n fun i=>sI n fun j=>if (i+j)%n=k then fG (fu n xs) i*fG (fu n ys) j else 0)=sI n fun i=>sI n fun j=>if (i+j)%n=k then fG xs i*fG ys j else 0:=
  dM fun i hi=>dM fun j hj=>by rw[Cu hi,Cu hj]
 rw[e1];symm;rw[XS (m:=xs.length) (by omega) fun i h1 h2=>by rw[dM (g:=fun _=>0) fun j _=>by rw[KZ h1,Int.zero_mul];split<;>rfl];exact xR n];refine dM fun i hi=>?_;rw[XS (m:=ys.length) (by omega) fun j h1 h2=>by rw[KZ h1,yB];split<;>rfl];refine dM fun j hj=>?_;rw[bc (show i+j<n by omega),bc (show i+j<m by omega)]
theorem PY(hx:xs.length=n)(hy:ys.length=n)(lx:∀k,k<n->xs.getD k 0<p)(ly:∀k,k<n->ys.getD k 0<p)(h:∀k,k<n->Cg p (fG xs k) (fG ys k)):xs=ys:=
 xG (hx.trans hy.symm) fun k hk=>Cg.eq (h k (by omega)) (lx k (by omega)) (ly k (by omega))
theorem JF{m:Nat}(hp:0<p)(k:Nat):(JE p m xs ys).getD k 0<p:=JK hp xs.length k
theorem Gi(p m:Nat)(xs ys:List Nat):(JE p m xs ys).length=m:=rq p m xs ys xs.length
theorem Gp{w:Nat}(xs:List Nat)(h:k<xs.length):Cg p (fG (fwd p w xs) k) (px (w:Int) xs.length (fG xs) k):=by unfold fG;rw[VS p w xs h];exact aal p w xs k xs.length
theorem acf(hp:0<p)(w:Nat)(xs:List Nat)(k:Nat):(fwd p w xs).getD k 0<p:=by
 by_cases h:k<xs.length
 ·rw[VS p w xs h];exact aam hp w xs k _
 ·rw[aq,jc (by rw[iB];omega)];exact hp
theorem ZN{l:Nat}{w v:Int}(h:Rt p w l)(hv:Cg p (w*v) 1)(hc:Cg p (c*((2^l:Nat):Int)) 1){a b:Nat->Int}(hb:∀k,k<2^l->Cg p (b k) (px w (2^l) a k))(i:Nat)(hi:i<2^l):Cg p (c*px v (2^l) b i) (a i):=by
 have h1:Cg p (px v (2^l) b i) (px v (2^l) (px w (2^l) a) i):=ab6 (Cg.refl p v) hb;have h2:=(Cg.refl p c).mul (h1.trans (Vt h hv a i hi));refine h2.trans ?_;rw[<-Ep];have:=hc.mul (Cg.refl p (a i));rwa [g8]at this
theorem Vr{l:Nat}{w v:Int}(h:Rt p w l)(hv:Cg p (w*v) 1)(hc:Cg p (c*((2^l:Nat):Int)) 1){a b d:Nat->Int}(hd:∀k,k<2^l->Cg p (d k) (px w (2^l) a k*px w (2^l) b k))(i:Nat)(hi:i<2^l):Cg p (c*px v (2^l) d i) (cyc (2^l) a b i):=
 ZN h hv hc (fun k hk=>(hd k hk).trans (d' h.one (bR (by omega)) a b k)) i hi
def mp(p r i:Nat):Nat:=r^i*18446744073709551616%p
theorem aaa(r i:Nat)(h:p%2=1)(hp:p<18446744073709551616):mm p (mp p r i) (ml p r 18446744073709551616)=mp p r (i+1):=by have:=AE (r^i) r h hp;rw[<-aE]at this;exact this
theorem aab(p r:Nat):ml p 1 18446744073709551616=mp p r 0:=by unfold mp ml;rw[cL]
theorem abn(a r t:Nat)(h:p%2=1)(hp:p<18446744073709551616):Cg p (mm p a (mp p r t):Int) ((a:Int)*(r:Int)^t):=by
 unfold mm;have h1:=yT h hp;have h2:Cg p (mp p r t:Int) ((r:Int)^t*18446744073709551616):=by unfold mp;refine(Cg.mod p _).trans (Cg.of_eq ?_);rw[aG,km];rfl
 refine(Cg.mod p _).trans ?_;rw[aG,aG];have h3:=((Cg.refl p (a:Int)).mul h2).mul (Cg.refl p (ib p:Int));refine h3.trans ?_;have h4:=(Cg.refl p ((a:Int)*(r:Int)^t)).mul h1;rw[gZ]at h4;refine Cg.trans (Cg.of_eq ?_) h4
 grind
def bf(p:Nat)(W:Nat->Nat)(n M:Nat)(z:List Nat)(i:Nat):Nat:=
 if i/n%2=0 then ad p (z.getD i 0) (mm p (z.getD (i+n) 0) (W (i%n*M))) else sb p (z.getD (i-n) 0) (mm p (z.getD i 0) (W (i%n*M)))
def jn(p:Nat)(W:Nat->Nat)(n M:Nat)(z:List Nat):List Nat:=(List.range z.length).map (bf p W n M z)
theorem uJ(p:Nat)(W:Nat->Nat)(n M:Nat)(z:List Nat):(jn p W n M z).length=z.length:=by simp[jn]
theorem Pw(p:Nat)(W:Nat->Nat)(n M:Nat)(z:List Nat)(h:i<z.length):(jn p W n M z).getD i 0=bf p W n M z i:=by simp[jn,h]
theorem U8(p:Nat)(W:Nat->Nat)(z:List Nat)(q:Nat)(hk:k<n):bf p W n M z (2*n*q+k)=ad p (z.getD (2*n*q+k) 0) (mm p (z.getD (2*n*q+n+k) 0) (W (k*M))):=by
 have e:2*n*q+k=k+n*(2*q):=by rw[aC 2 n,aF];omega
 have h1:(2*n*q+k)/n=2*q:=by rw[e,g9 _ _ (by omega),bq hk];omega
 have h2:(2*n*q+k)%n=k:=by rw[e,ez,bc hk]
 unfold bf;rw[h1,h2,aW (by omega),show 2*n*q+k+n=2*n*q+n+k by omega]
theorem OU(p:Nat)(W:Nat->Nat)(z:List Nat)(q:Nat)(hk:k<n):bf p W n M z (2*n*q+n+k)=sb p (z.getD (2*n*q+k) 0) (mm p (z.getD (2*n*q+n+k) 0) (W (k*M))):=by
 have e:2*n*q+n+k=k+n*(2*q+1):=by rw[aC 2 n,aF,aH,dG];omega
 have h1:(2*n*q+n+k)/n=2*q+1:=by rw[e,g9 _ _ (by omega),bq hk];omega
 have h2:(2*n*q+n+k)%n=k:=by rw[e,ez,bc hk]
 unfold bf;rw[h1,h2,aV (by omega),show 2*n*q+n+k-n=2*n*q+k by omega]
def zY(F:Nat->Nat)(z0 zs:List Nat)(n st j:Nat):Prop:=
 zs.length=z0.length/\∀i,i<z0.length->zs.getD i 0=if i<st+j\/(st+n<=i/\i<st+n+j) then F i else z0.getD i 0
theorem Nv(F:Nat->Nat)(z0:List Nat)(n:Nat):zY F z0 z0 n 0 0:=⟨rfl,fun i _=>by rw[aV (by omega)]⟩
theorem WT{st:Nat}(h:zY F z0 zs n st j)(hj:j<n)(hl:st+2*n<=z0.length):zs.getD (st+j) 0=z0.getD (st+j) 0:=by rw[h.2 _ (by omega),aV (by omega)]
theorem RR{st:Nat}(h:zY F z0 zs n st j)(hj:j<n)(hl:st+2*n<=z0.length):zs.getD (st+n+j) 0=z0.getD (st+n+j) 0:=by rw[h.2 _ (by omega),aV (by omega)]
theorem RU{st:Nat}(h:zY F z0 zs n st j)(hj:j<n)(hl:st+2*n<=z0.length):zY F z0 ((zs.set (st+j) (F (st+j))).set (st+n+j) (F (st+n+j))) n st (j+1):=by
 refine⟨by simpa using h.1,fun i hi=>?_⟩;have h0:=h.2 i hi;have hz:=h.1;rw[tU _ _ _ _ (by simp;omega),tU _ _ _ _ (by omega)];by_cases e1:i=st+n+j
 ·rw[aW e1,aW (by omega),e1]
 ·rw[aV e1];by_cases e2:i=st+j
  ·rw[aW e2,aW (by omega),e2]
  ·rw[aV e2,h0];by_cases c:i<st+j\/(st+n<=i/\i<st+n+j)
   ·rw[aW c,aW (by omega)]
   ·rw[aV c,aV (by omega)]
theorem RT{st:Nat}(h:zY F z0 zs n st n):zY F z0 zs n (st+2*n) 0:=by
 refine⟨h.1,fun i hi=>?_⟩;rw[h.2 i hi];by_cases c:i<st+2*n
 ·rw[aW (by omega),aW (by omega)]
 ·rw[aV (by omega),aV (by omega)]
theorem WS{W:Nat->Nat}{st:Nat}(h:zY (bf p W n M z0) z0 zs n st 0)(hs:z0.length<=st):zs=jn p W n M z0:=by refine xG (by rw[h.1,uJ]) fun k hk=>?_;rw[uJ]at hk;rw[Pw _ _ _ _ _ hk,h.2 k hk,aW (by omega)]
def Zy(p r t s:Nat)(xs zs:List Nat):Prop:=
 zs.length=2^(s+t)/\(∀i,zs.getD i 0<p)/\∀q k,q<2^t->k<2^s->Cg p (fG zs (2^s*q+k)) (px ((r:Int)^2^t) (2^s) (fun j=>fG xs (rev t q+2^t*j)) k)
def Jd(p L:Nat)(xs zs:List Nat)(k:Nat):Prop:=zs.length=2^L/\(∀i,zs.getD i 0<p)/\∀i,i<k->zs.getD (rev L i) 0=xs.getD i 0%p
theorem Od(hp:0<p)(L:Nat)(xs:List Nat):Jd p L xs (List.replicate (2^L) 0) 0:=by refine⟨by simp,fun i=>?_,fun i hi=>absurd hi (by omega)⟩;rw[aq,nS];split<;>exact hp
theorem S8(hp:0<p)(h:Jd p L xs zs k)(hk:k<2^L):Jd p L xs (zs.set (rev L k) (xs.getD k 0%p)) (k+1):=by
 obtain⟨h1,h2,h3⟩:=h;have hr:rev L k<zs.length:=by rw[h1];exact Cs L k
 refine⟨by simpa using h1,fun i=>?_,fun i hi=>?_⟩
 ·rw[tU _ _ _ _ hr];split
  ·exact aD _ hp
  ·exact h2 i
 ·rw[tU _ _ _ _ hr];by_cases e:i=k
  ·subst e;rw[aW rfl]
  ·rw[aV,h3 i (by omega)];intro e2;apply e;rw[<-rev_rev (L:=L) (x:=i) (by omega),e2,rev_rev hk]
theorem RZ(h:Jd p L xs zs (2^L)):Zy p r L 0 xs zs:=by
 obtain⟨h1,h2,h3⟩:=h;refine⟨by rw[h1,bh],h2,fun q k hq hk=>?_⟩;obtain rfl:k=0:=by simpa using hk
 have e:fG zs (2^0*q+0)=((xs.getD (rev L q) 0%p:Nat):Int):=by unfold fG;rw[cL,cX,dB, <-h3 (rev L q) (Cs L q),rev_rev hq]
 rw[e];refine(Cg.mod p _).trans (Cg.of_eq ?_);show _=sI 1 _;show _=0+fG xs (rev L q+2^L*0)*_^(0*0);rw[dO,dO,dB,iz,gZ,Int.zero_add];rfl
theorem WY{s:Nat}(hr:Rt p (r:Int) (s+t+1))(h:p%2=1)(hp:p<18446744073709551616)(H:Zy p r (t+1) s xs z0):Zy p r t (s+1) xs (jn p (mp p r) (2^s) (2^t) z0):=by
 obtain⟨h1,h2,h3⟩:=H;have DT:0<p:=by omega
 have hlen:z0.length=2^(s+1+t):=by rw[h1];congr 1;omega
 refine⟨by rw[uJ,hlen],fun i=>?_,fun q k hq hk=>?_⟩
 ·by_cases hi:i<z0.length
  ·rw[Pw _ _ _ _ _ hi];unfold bf;split
   ·exact aD _ DT
   ·exact aD _ DT
  ·rw[aq,jc (by rw[uJ];omega)];exact DT
 ·obtain⟨n,hn⟩:∃n,n=2^s:=⟨_,rfl⟩;have qH:0<n:=by rw[hn];exact bR (by decide)
  have e2:2^(s+1)=2*n:=by rw[hn,aE,aC]
  have hNn:z0.length=2*n*2^t:=by rw[hlen,aQ,e2]
  have sL:2*n*q+2*n<=z0.length:=by rw[hNn];have:=au (2*n) (show q+1<=2^t from hq);rwa [aH,dG]at this
  obtain⟨v,hv⟩:∃v:Int,v=(r:Int)^2^t:=⟨_,rfl⟩;have hvv:(r:Int)^2^(t+1)=v*v:=by rw[hv,aE,jW,gU,gU,iz,g8]
  have ox:Cg p (v^n) (-1):=by have:Cg p ((r:Int)^2^(s+t)) (-1):=hr;rw[hv,hn, <-jW, <-aQ,fj t s];exact this
  obtain⟨b,hb⟩:∃b:Nat->Int,b=fun j=>fG xs (rev t q+2^t*j):=⟨_,rfl⟩;have q1:2*q<2^(t+1):=by rw[aE];omega
  have q2:2*q+1<2^(t+1):=by rw[aE];omega
  have hE:∀c,c<n->Cg p (fG z0 (2*n*q+c)) (px (v*v) n (fun j=>b (2*j)) c):=fun c hc=>by have:=h3 (2*q) c q1 (by rw[<-hn];exact hc);rw[hvv, <-hn,XN,show n*(2*q)+c=2*n*q+c by rw[aC 2 n,aF]]at this;refine this.trans (Cg.of_eq ?_);congr 1;funext j;rw[hb];show _=fG xs (rev t q+2^t*(2*j));rw[aE,aF]
  have hO:∀c,c<n->Cg p (fG z0 (2*n*q+n+c)) (px (v*v) n (fun j=>b (2*j+1)) c):=fun c hc=>by have:=h3 (2*q+1) c q2 (by rw[<-hn];exact hc);rw[hvv, <-hn,aaA,show n*(2*q+1)+c=2*n*q+n+c by rw[aH,dG,aC 2 n,aF]]at this;refine this.trans (Cg.of_eq ?_);congr 1;funext j;rw[hb];show _=fG xs (rev t q+2^t*(2*j+1));rw[aE,aH,dG,aF];congr 1;omega
  have hmul:∀c,c<n->Cg p (mm p (z0.getD (2*n*q+n+c) 0) (mp p r (c*2^t)):Int) (v^c*px (v*v) n (fun j=>b (2*j+1)) c):=fun c hc=>by refine(abn _ r _ h hp).trans ?_;have e:(r:Int)^(c*2^t)=v^c:=(by rw[hv, <-jW,aC]);rw[e,fa];exact(Cg.refl p _).mul (hO c hc)
  rw[e2]at hk ⊢;by_cases hc:k<n
  ·have e3:fG (jn p (mp p r) (2^s) (2^t) z0) (2*n*q+k)=(ad p (z0.getD (2*n*q+k) 0) (mm p (z0.getD (2*n*q+n+k) 0) (mp p r (k*2^t))):Int):=by
    unfold fG;rw[<-hn,Pw _ _ _ _ _ (by omega),U8 _ _ _ _ hc]
   rw[e3, <-hb, <-hv];refine(UZ p _ _).trans ?_;refine((hE k hc).add (hmul k hc)).trans ?_;exact(d_ n b k).symm
  ·obtain⟨c,rfl⟩:∃c,k=c+n:=⟨k-n,by omega⟩;have hc:c<n:=(by omega);have e3:fG (jn p (mp p r) (2^s) (2^t) z0) (2*n*q+(c+n))=(sb p (z0.getD (2*n*q+c) 0) (mm p (z0.getD (2*n*q+n+c) 0) (mp p r (c*2^t))):Int):=by unfold fG;rw[<-hn,show 2*n*q+(c+n)=2*n*q+n+c by omega,Pw _ _ _ _ _ (by omega),OU _ _ _ _ hc]
   rw[e3, <-hb, <-hv];refine(Cw DT _ _).trans ?_;refine((hE c hc).sub (hmul c hc)).trans ?_;exact(Vu ox b c).symm
theorem V'(hp:0<p)(hl:xs.length=2^L)(H:Zy p r 0 L xs zs):zs=fwd p r xs:=by obtain⟨h1,h2,h3⟩:=H;refine PY (p:=p) (n:=2^L) (by rw[h1,dB]) (by rw[iB,hl]) (fun k _=>h2 k) (fun k _=>acf hp r xs k) fun k hk=>?_;have:=h3 0 k (by decide) hk;rw[dO,bh]at this;refine this.trans (Cg.trans (Cg.of_eq ?_) (Gp (p:=p) (w:=r) xs (by omega)).symm);rw[hl,cL,gU,iz,g8];congr 1;funext j;rw[cX];show fG xs (0+j)=_;rw[bh]
end
section
open Go.RowKit
def IM(p r n:Nat):List Nat:=(List.range n).map (mp p r)
theorem mG(p r n:Nat):(IM p r n).length=n:=by simp[IM]
theorem XH(p r n:Nat)(h:i<n):(IM p r n).getD i 0=mp p r i:=xN (mp p r) h
structure PS(w:World)(gt gm go oo gp p r L H:Nat):Prop where
 c0:w.cell? ⟨gt,0,none⟩=some (.pointer (some ⟨gm,0,none⟩))
 c1:w.cell? ⟨gt,1,none⟩=some (.pointer (some ⟨go,oo,none⟩))
 c2:w.cell? ⟨gt,2,none⟩=some (.int .i64 (L:Int))
 c3:w.cell? ⟨gt,3,none⟩=some (.slice (some ⟨gp,0,none⟩) H H)
 mw:MW w gm p
 pw:cW w gp (IM p r H)
 nt:gt≠go
 nm:gm≠go
 np:gp≠go
 half:H=2^L/2
 low:L<=20
 rt:Rt p (r:Int) L
theorem PS.lt(h:PS w gt gm go oo gp p r L H):gt<w.heap.size:=aw _ _ h.c0
theorem PS.next(h:PS w gt gm go oo gp p r L H)(b:Below w.heap.size w w'):PS w' gt gm go oo gp p r L H:=
 ⟨(b.cell (p:=⟨gt,0,none⟩) h.lt).trans h.c0,(b.cell (p:=⟨gt,1,none⟩) h.lt).trans h.c1,(b.cell (p:=⟨gt,2,none⟩) h.lt).trans h.c2,(b.cell (p:=⟨gt,3,none⟩) h.lt).trans h.c3,h.mw.next b,h.pw.next b,h.nt,h.nm,h.np,h.half,h.low,h.rt⟩
theorem MW.but(h:MW w g p)(b:w.grownBy w' (some k))(hk:g≠k):MW w' g p:=
 ⟨b.cell h.c0 (by simpa using hk),b.cell h.c1 (by simpa using hk),b.cell h.c2 (by simpa using hk),h.KA,h.low,h.high⟩
theorem PS.off(h:PS w gt gm go oo gp p r L H)(b:w.grownBy w' (some k))(h1:gt≠k)(h2:gm≠k)(h3:gp≠k):PS w' gt gm go oo gp p r L H:=
 ⟨b.cell h.c0 (by simpa using h1),b.cell h.c1 (by simpa using h1),b.cell h.c2 (by simpa using h1),b.cell h.c3 (by simpa using h1),h.mw.but b h2,h.pw.but b h3,h.nt,h.nm,h.np,h.half,h.low,h.rt⟩
theorem PS.but(h:PS w gt gm go oo gp p r L H)(b:w.grownBy w' (some go)):PS w' gt gm go oo gp p r L H:=h.off b h.nt h.nm h.np
theorem fW(h:L<=20):2^L<=1048576:=aA (by decide) h
theorem one_le_two_pow(L:Nat):1<=2^L:=bR (by decide)
theorem abz{N:Nat}(h:N=2^L):(2:Int)^L=(N:Int):=by rw[h];exact(km 2 L).symm
theorem tW{N:Nat}(h:PS w gt gm go oo gp p r L H)(hN:N=2^L):Calls Tryz.prog 192 #[.pointer (some ⟨gt,0,none⟩)] w fun e w'=>e=.returned (.int .i64 (N:Int))/\w'=w:=by
 have c2:=h.c2;have hL:=h.low;have hb:=fW hL;have e1:=abz hN;rw[<-hN]at hb;have e2:IntKind.i64.wrap (N:Int)=(N:Int):=by rw[ao];omega
 have h0:¬(L:Int)<0:=by omega
 clear h hN;go_enter Tryz.func192,Tryz.ntmps192;go_wp2;go_ret;exact⟨bY rfl,rfl⟩
theorem Hr(r H:Nat)(h:MW w g p)(hH:H<=1048576):Calls Tryz.prog 212 #[.pointer (some ⟨g,0,none⟩),.int .u64 (r:Int),.int .i64 (H:Int)] w fun e w'=>e=.returned (.slice (some ⟨w.heap.size,0,none⟩) H H)/\cW w' w.heap.size (IM p r H)/\Below w.heap.size w w':=by
 have qG:=uK H H (H:Int) rfl rfl (by omega);have sj:=ag (qx w H);have yA:=ag ((aj w.heap.size w).alloc (af _) (.cells (dS H).toArray 47));have C1:Hid (∀w',Below w.heap.size w w'->Calls Tryz.prog 217 #[.pointer (some ⟨g,0,none⟩),.int .u64 1] w' fun e sP=>e=.returned (.int .u64 (mp p r 0:Int))/\sP=w'):=fun w' b=>by rw[<-aab p r];exact oT (h.next b) 1
 have C2:=ag (fun w' (b:Below w.heap.size w w')=>oT (h.next b) r);have C3:=ag (fun x y w' (b:Below w.heap.size w w')=>gT (h.next b) x y);have H1:=ag (fun i=>aaa (p:=p) r i h.KA (by have:=h.high;omega));have H2:Hid (∀k (zs:List Nat),zs.length=H->(∀i,i<k->zs.getD i 0=mp p r i)->H<=k->zs=IM p r H):=fun k zs h1 h2 h3=>by refine xG (by rw[h1,mG]) fun i hi=>?_;rw[mG]at hi;rw[XH p r H hi,h2 i (by omega)]
 clear h;generalize IM p r H=Z at *;generalize mp p r=Q at *;generalize ml p r 18446744073709551616=f at *;generalize mm p=M at *;obtain⟨G,hG⟩:∃G,w.heap.size=G:=⟨_,rfl⟩;rw[hG]at sj yA C1 C2 C3 ⊢;go_enter Tryz.func212,Tryz.ntmps212
 go_wp2_with fail
 refine(ae C1 _ (ae yA)).mono ?_;rintro e w1 ⟨rfl,rfl⟩
 go_wp2_with fail
 refine(ae C2 _ (ae yA)).mono ?_;rintro e w1 ⟨rfl,rfl⟩;clear qG hG C1 C2;go_wp2
 go_loopw [8,20] (fun pv iv wr=>∃(k x:Nat) (zs:List Nat),k<=H/\pv=.int .u64 (x:Int)/\iv=.int .i64 (k:Int)/\Hid (x=Q k)/\zs.length=H/\Hid (∀i,i<k->zs.getD i 0=Q i)/\cW wr G zs/\Below G w wr) (fun _ iv _=>H-(intOf iv).toNat)
 case atStart=>exact⟨0,_,_,aO _,rfl,rfl,rfl,by simp,fun i hi=>absurd hi (by omega),ae sj,ae yA⟩
 case round=>
  clear sj yA;obtain⟨k,x,zs,hk,rfl,rfl,hx,hl,hz,hB,hb⟩:=hrel;by_cases h1:k<H
  ·have cz:=hB.cell k (by omega);have fz:=hB.frozen k;have HB:=ag (hB.set k x);have hb7:Hid (Below G w (wr.setCell ⟨G,k,none⟩ (.int .u64 (x:Int)))):=hb.setCell (af _) _;have C:=ag (ae C3 x f _ (ae hb7));have Fb:Hid (M x f=Q (k+1)):=by show _=_;rw[hx.out];exact ae H1 k
   have fX:Hid (∀i,i<k+1->(zs.set k x).getD i 0=Q i):=fun i hi=>by
    rw[tU _ _ _ _ (by omega)];by_cases e:i=k
    ·rw[aW e,e];exact hx.out
    ·rw[aV e];exact hz.out i (by omega)
   have vH:Hid (H-(k+1)<H-k):=by show _<_;omega
   have uF:Hid ((zs.set k x).length=H):=by show _=_;simpa using hl
   clear hx hz
   go_wp2_with fail
   refine(ae C).mono ?_;rintro e w7 ⟨rfl,rfl⟩;go_wp2
   go_roundw
   case rel=>exact⟨k+1,_,_,by omega,rfl,by go_num,Fb,ae uF,fX,ae HB,ae hb7⟩
   case measure=>simp[intOf];have:=ae vH;omega
  ·obtain rfl:k=H:=(by omega);have hZ:=ae H2 k zs hl hz.out (af _);subst hZ;go_wp2;go_ret;exact⟨rfl,hB,hb⟩
theorem Ee(P:PS w gt gm go oo gp p r L H)(N:Nat)(hN:N=2^L)(ga:Option Addr)(b o cap:Nat)(xs:List Nat)(hl:xs.length=N)(hR:cH w ga b o cap xs):Calls Tryz.prog 213 #[.pointer (some ⟨gt,0,none⟩),.slice ga N cap] w fun e w'=>e=.returned (.slice (some ⟨w.heap.size,0,none⟩) N N)/\(∃zs,Jd p L xs zs (2^L)/\cW w' w.heap.size zs)/\Below w.heap.size w w':=by
 have hL:=P.low;have zE:=fW hL;have zD:=one_le_two_pow L;have hp:=P.mw.low;have vp:=ag (Od (show 0<p by omega) L xs);rw[<-hN]at vp zE zD ⊢;have sj:=ag (qx w N);have qG:=uK N N (N:Int) rfl rfl (by omega);have yA:=ag ((aj w.heap.size w).alloc (af _) (.cells (dS N).toArray 47));have CR:=ag (fun x w=>Ec x w);have CD:=ag (fun x w' (b:Below w.heap.size w w')=>rP (P.mw.next b) x);have H2:=ag (fun zs k=>S8 (p:=p) (L:=L) (xs:=xs) (zs:=zs) (k:=k) (by omega));have H8:Hid (∀zs k,Jd p L xs zs k->zs.length=N):=fun zs k h=>by rw[hN];exact h.1
 have H9:=ag (fun x=>aax (L:=L) x (by omega));have H10:Hid (∀k,rev L k<N):=fun k=>by rw[hN];exact Cs L k
 rw[<-hN]at H2;obtain⟨S,hS⟩:∃S,S=64-L:=⟨_,rfl⟩;rw[<-hS]at H9;have eS:(64:Int)-(L:Int)=(S:Int):=by omega
 have c2:=fun w' (b:Below w.heap.size w w')=>(b.cell (p:=⟨gt,2,none⟩) P.lt).trans P.c2;have c0:=fun w' (b:Below w.heap.size w w')=>(b.cell (p:=⟨gt,0,none⟩) P.lt).trans P.c0;have C2:=ag c2;have C0:=ag c0;have ks:=hR.room;rw[hl]at ks;have abj:=hR.head;obtain rfl:=abj (by omega);have Bv:Hid (∀w',Below w.heap.size w w'->cH w' (some ⟨b,o,none⟩) b o cap xs):=fun w' h=>hR.next h;clear hR P c0 c2 abj hN hS;generalize Jd p L xs=F at *;generalize rev L=V at *;obtain⟨G,hG⟩:∃G,w.heap.size=G:=⟨_,rfl⟩;rw[hG]at sj yA C0 C2 CD Bv ⊢;have HG:=ag hG;go_enter Tryz.func213,Tryz.ntmps213;go_wp2;clear qG hG
 go_loopw [13] (fun iv wr=>∃(k:Nat) (zs:List Nat),k<=N/\iv=.int .i64 (k:Int)/\Hid (F zs k)/\cW wr G zs/\Below G w wr) (fun iv _=>N-(intOf iv).toNat)
 case atStart=>exact⟨0,_,aO _,rfl,vp,ae sj,ae yA⟩
 case round=>
  clear sj yA vp;obtain⟨k,zs,hk,rfl,hF,hB,hb⟩:=hrel;by_cases h1:k<N
  ·have DF:(k:Int)<(N:Int):=(by omega);have kG:=ae H8 _ _ hF.out;obtain⟨x,hx⟩:∃x,x=xs.getD k 0:=⟨_,rfl⟩;have cx:wr.cell? ⟨b,o+k,none⟩=some (.int .u64 (x:Int)):=by rw[hx];exact(ae Bv wr hb).cell k (by omega)
   have C1:=ag (fun w=>ae CR k w (by omega));have eV:=nQ (r64 k) S;rw[ae H9 k]at eV;have hv:=ae H10 k;have fR:=ae H2 zs k hF.out h1;rw[<-hx]at fR;have HF:Hid (F (zs.set (V k) (rd p x)) (k+1)):=fR;have D1:=ag (fun w' b=>ae CD x w' b);generalize r64 k=y at *;generalize V k=v at *;generalize rd p x=z at *;have hvi:0<=(v:Int)/\(v:Int)<(N:Int):=(by omega);have ek:IntKind.u64.wrap (k:Int)=(k:Int):=by rw[aK];omega
   have d2:=ae C2 wr hb;have d0:=ae C0 wr hb;have y2:=Old.cell d2;have y0:=Old.cell d0;have inst:=gM wr;have Mg:Hid (G<=wr.heap.size):=by have:=hb.size;rw[HG.out]at this;exact this
   have D1:Hid (∀u:Old wr,Calls Tryz.prog 215 #[.pointer (some ⟨gm,0,none⟩),.int .u64 (x:Int)] u.val fun e w'=>e=.returned (.int .u64 (z:Int))/\w'=u.val):=fun u=>ae D1 _ (hb.trans (u.jD.mono (ae Mg)));have vH:Hid (N-(k+1)<N-k):=by show _<_;omega
   clear hF hx fR
   go_wp2_with fail
   refine pJ 17 (by kernel_rfl) (by kernel_rfl) (by kernel_rfl) (by kernel_rfl) (by kernel_rfl) (by kernel_rfl) ?_;simp only[List.take_succ_cons,List.take_zero,List.drop_succ_cons,List.drop_zero]
   repeat (go_big_quiet_step (first|(go_at_call 232;exact Calls.gj (ae C1 _))|(go_at_call 215;exact Calls.gj (ae D1 _))))
   refine wpQuiet_nil ?_;intro w5 tH;obtain⟨u,rfl⟩:=tH;have Ax:=hB.next u.jD;have Ze:Below G w u.val:=hb.trans (u.jD.mono (ae Mg));have c5:=Ax.cell v (by omega);have f5:=Ax.frozen v;generalize u.val=w5 at *;clear u;have MS:=Ax.set v z;have hb7:Below G w (w5.setCell ⟨G,v,none⟩ (.int .u64 (z:Int))):=Ze.setCell (af _) _;go_wp2
   go_roundw
   case rel=>exact⟨k+1,_,by omega,by go_num,HF,MS,hb7⟩
   case measure=>simp[intOf];have:=ae vH;omega
  ·obtain rfl:k=N:=(by omega);go_wp2;go_ret;exact⟨rfl,⟨zs,hF.out,hB⟩,hb⟩
theorem Xb{s:Nat}(h:L=s+t+1):2^L/2=2^s*2^t/\2^L=2*2^s*2^t:=by
 have e:2^L=2*(2^s*2^t):=by rw[h,aE,aQ,aC]
 refine⟨by rw[e];omega,by rw[e,aF]⟩
theorem Rv(h:H=n*M)(hn:0<n):H/n=M:=by rw[h];exact abc M hn
theorem aer(h:H=n*M)(hj:j<n)(hM:0<M):j*M<H:=by rw[h];exact fb hj hM
theorem WQ(P:PS w gt gm go oo gp p r L H)(s t n M N g:Nat)(hL:L=s+t+1)(hn:n=2^s)(hM:M=2^t)(hN:N=2^L)(z0:List Nat)(hl:z0.length=N)(hB:cW w g z0)(h1:gt≠g)(h2:gm≠g)(h3:gp≠g):Calls Tryz.prog 214 #[.pointer (some ⟨gt,0,none⟩),.slice (some ⟨g,0,none⟩) N N,.int .i64 (n:Int)] w fun e w'=>e=.returned (.tuple #[])/\cW w' g (jn p (mp p r) n M z0)/\w.grownBy w' (some g):=by
 obtain⟨e1,e2⟩:=Xb hL;have zE:=fW P.low;have Uk:=one_le_two_pow s;have hM0:=one_le_two_pow t;have hH:=P.half;rw[<-hn]at Uk;rw[<-hM]at hM0;rw[e1, <-hn, <-hM]at hH;rw[e2, <-hn, <-hM]at hN;rw[e2, <-hn, <-hM, <-hN]at zE;have hq:=Rv hH Uk;have hHN:2*H=N:=by rw[hN,hH,aF]
 have ed:(H:Int).tdiv (n:Int)=(M:Int):=by have:(H:Int).tdiv (n:Int)=((H/n:Nat):Int):=rfl;rw[this,hq]
 have ed2:(H:Int)/(n:Int)=(M:Int):=by have:(H:Int)/(n:Int)=((H/n:Nat):Int):=rfl;rw[this,hq]
 have ew:IntKind.i64.wrap (M:Int)=(M:Int):=by
  have:M<=H:=by rw[<-hq];exact bT _ _
  rw[ao];omega
 have RK:¬(n:Int)=0:=by omega
 obtain⟨n2,xA⟩:∃n2,n2=2*n:=⟨_,rfl⟩;have en2:2*(n:Int)=(n2:Int):=by omega
 have Ul:n2<=N:=by rw[hN,xA];exact abb _ hM0
 have ewn:IntKind.i64.wrap (n2:Int)=(n2:Int):=by rw[ao];omega
 have HP:Hid (∀w',w.grownBy w' (some g)->PS w' gt gm go oo gp p r L H):=fun w' b=>P.off b h1 h2 h3;have c3:=P.c3;have HJ:Hid (∀j,j<n->j*M<H):=fun j hj=>aer hH hj hM0;have HQ:Hid (∀q,n2*q<N->q+1<=M/\n2*q+n2<=N):=fun q h=>by rw[hN, <-xA]at h ⊢;have:q<M:=gL h;refine⟨this,?_⟩;have:=au n2 (show q+1<=M from this);rwa [aH,dG]at this
 have HL:Hid (∀q j,j<n->bf p (mp p r) n M z0 (n2*q+j)=ad p (z0.getD (n2*q+j) 0) (mm p (z0.getD (n2*q+n+j) 0) (mp p r (j*M)))):=fun q j hj=>by rw[xA];exact U8 p (mp p r) z0 q hj
 have HH:Hid (∀q j,j<n->bf p (mp p r) n M z0 (n2*q+n+j)=sb p (z0.getD (n2*q+j) 0) (mm p (z0.getD (n2*q+n+j) 0) (mp p r (j*M)))):=fun q j hj=>by rw[xA];exact OU p (mp p r) z0 q hj
 have HE:Hid (∀zs st,zY (bf p (mp p r) n M z0) z0 zs n st 0->N<=st->zs=jn p (mp p r) n M z0):=fun zs st h hs=>WS h (by omega);have HPW:Hid (∀i,i<H->(IM p r H).getD i 0=mp p r i):=fun i hi=>XH p r H hi;have HPL:=ag (mG p r H);clear P h1 h2 h3 hq hH hN e1 e2 hn hM hL;generalize jn p (mp p r) n M z0=Z at *;generalize bf p (mp p r) n M z0=F at *;go_enter Tryz.func214,Tryz.ntmps214;go_wp2
 go_loopw [7] (fun sv wr=>∃(q st:Nat) (zs:List Nat),st<=N/\sv=.int .i64 (st:Int)/\Hid (st=n2*q)/\Hid (zY F z0 zs n st 0)/\cW wr g zs/\w.grownBy wr (some g)) (fun sv _=>N-(intOf sv).toNat)
 case atStart=>exact⟨0,0,z0,aO _,rfl,rfl,Nv F z0 n,hB,iD _ _⟩
 case round=>
  clear hB c3;obtain⟨q,st,zs,vp,rfl,hsq,hJ,hB,hG⟩:=hrel;by_cases h1:st<N
  ·have xB:(st:Int)<(N:Int):=(by omega);obtain⟨hqM,AA⟩:=ae HQ q (by rw[<-hsq.out];exact h1);rw[<-hsq.out]at AA;obtain⟨a1,ha1⟩:∃a1,a1=st+n:=⟨_,rfl⟩;obtain⟨a2,GB⟩:∃a2,a2=st+n2:=⟨_,rfl⟩;have E1:(st:Int)+(n:Int)=(a1:Int):=(by omega);have E2:(st:Int)+(n2:Int)=(a2:Int):=(by omega);have W1:IntKind.i64.wrap (a1:Int)=(a1:Int):=by rw[ao];omega
   have W2:IntKind.i64.wrap (a2:Int)=(a2:Int):=by rw[ao];omega
   have i1:0<=(st:Int)/\(st:Int)<=(a1:Int)/\(a1:Int)<=(N:Int):=(by omega);have i2:(a1:Int)<=(a2:Int)/\(a2:Int)<=(N:Int):=(by omega);have i3:st<=a1:=(by omega);have i4:a1<=a2:=(by omega);have i5:a1<=N:=(by omega);have i6:a2<=N:=(by omega);have i7:a1-st=n:=(by omega);have i8:a2-a1=n:=(by omega);obtain⟨k1,DF⟩:∃k1,N-st=k1:=⟨_,rfl⟩;obtain⟨k2,sK⟩:∃k2,N-a1=k2:=⟨_,rfl⟩;have i9:¬N=st:=(by omega);have i10:¬N=a1:=(by omega);have afY:n<=k1:=(by omega);have afZ:n<=k2:=(by omega);have HA1:=ag ha1;have HA2:=ag GB;have HN2:=ag xA;clear ha1 GB xA;go_wp2
   go_big_region
   go_wp2;have hdr:Hid (w.grownBy wr.drew (some g)):=pB hG 1;have hBd:Hid (cW wr.drew g zs):=hB;clear hG hB;generalize wr.drew=wd at *
   go_loopw [45] (fun jv wr=>∃(j:Nat) (zs:List Nat),j<=n/\jv=.int .i64 (j:Int)/\Hid (zY F z0 zs n st j)/\cW wr g zs/\w.grownBy wr (some g)) (fun jv _=>n-(intOf jv).toNat)
   case atStart=>exact⟨0,zs,aO _,rfl,hJ,ae hBd,ae hdr⟩
   case round=>
    clear hJ hBd hdr;obtain⟨j,zs,hj,rfl,hJ,hB,hG⟩:=hrel;by_cases h2:j<n
    ·have hj1:(j:Int)<(n:Int):=(by omega);have jA:st+2*n<=z0.length:=by rw[hl];have:=ae HN2;omega
     have kG:zs.length=N:=(by rw[hJ.out.1,hl]);obtain⟨x,hx⟩:∃x,x=z0.getD (st+j) 0:=⟨_,rfl⟩;obtain⟨o,ho⟩:∃o,o=z0.getD (a1+j) 0:=⟨_,rfl⟩;obtain⟨jm,hjm⟩:∃jm,jm=j*M:=⟨_,rfl⟩;have ad9:jm<H:=by rw[hjm];exact ae HJ j h2
     have ejm:(j:Int)*(M:Int)=(jm:Int):=by rw[hjm];exact(aG j M).symm
     have wjm:IntKind.i64.wrap (jm:Int)=(jm:Int):=by rw[ao];omega
     have ijm:0<=(jm:Int)/\(jm:Int)<(H:Int):=(by omega);have P:=ae HP wr hG;have cx:wr.cell? ⟨g,st+j,none⟩=some (.int .u64 (x:Int)):=by rw[hx, <-WT hJ.out h2 jA];exact hB.cell (st+j) (by have:=ae HA1;have:=ae HA2;omega)
     have co:wr.cell? ⟨g,a1+j,none⟩=some (.int .u64 (o:Int)):=by have e:=RR hJ.out h2 jA;rw[<-ae HA1]at e;rw[ho, <-e];exact hB.cell (a1+j) (by have:=ae HA1;have:=ae HA2;omega)
     have cp:wr.cell? ⟨gp,jm,none⟩=some (.int .u64 (mp p r jm:Int)):=by rw[<-ae HPW jm ad9];exact P.pw.cell jm (by rw[ae HPL];exact ad9)
     have CM:Hid (∀u:Old wr,Calls Tryz.prog 219 #[.pointer (some ⟨gm,0,none⟩),.int .u64 (o:Int),.int .u64 (mp p r jm:Int)] u.val fun e w'=>e=.returned (.int .u64 (mm p o (mp p r jm):Int))/\w'=u.val):=fun u=>gT (P.mw.next u.jD) o (mp p r jm);have CA:Hid (∀u:Old wr,Calls Tryz.prog 233 #[.pointer (some ⟨gm,0,none⟩),.int .u64 (x:Int),.int .u64 (mm p o (mp p r jm):Int)] u.val fun e w'=>e=.returned (.int .u64 (ad p x (mm p o (mp p r jm)):Int))/\w'=u.val):=fun u=>add_mod (P.mw.next u.jD) x _;have CS:Hid (∀u:Old wr,Calls Tryz.prog 221 #[.pointer (some ⟨gm,0,none⟩),.int .u64 (x:Int),.int .u64 (mm p o (mp p r jm):Int)] u.val fun e w'=>e=.returned (.int .u64 (sb p x (mm p o (mp p r jm)):Int))/\w'=u.val):=fun u=>rU (P.mw.next u.jD) x _;have fR:=RU hJ.out h2 jA;have eL:=ae HL q j h2;have eH:=ae HH q j h2;rw[<-hsq.out, <-ae HA1, <-hx, <-ho, <-hjm]at eL eH;rw[<-ae HA1,eL,eH]at fR;have HS:=ag fR;have d0:=P.c0;have d3:=P.c3;have y0:=Old.cell d0;have y3:=Old.cell d3;have yo:=Old.cell co;have yp:=Old.cell cp;have inst:=gM wr;have n1:¬a1=st:=by have:=ae HA1;omega
     have n2':¬st=a1:=(by omega);clear hx ho hjm fR eL eH P hJ;generalize ad p x (mm p o (mp p r jm))=A at *;generalize sb p x (mm p o (mp p r jm))=S at *;generalize mm p o (mp p r jm)=y at *;generalize mp p r jm=m at *
     go_wp2_with fail
     refine fo (by kernel_rfl) (by kernel_rfl) ?_
     repeat (go_big_quiet_step (first|(go_at_call 219;exact Calls.gj (ae CM _))|fail))
     refine wpQuiet_nil ?_;intro w5 tH;obtain⟨u,rfl⟩:=tH;have Ax:=hB.next u.jD;have hG5:=tB hG u.jD;have Uw:=y0 u;have CA5:Hid (Calls Tryz.prog 233 #[.pointer (some ⟨gm,0,none⟩),.int .u64 (x:Int),.int .u64 (y:Int)] u.val.drew fun e w'=>e=.returned (.int .u64 (A:Int))/\w'=u.val.drew):=ae CA ⟨u.val.drew,u.jD.drew⟩;have CS5:Hid (Calls Tryz.prog 221 #[.pointer (some ⟨gm,0,none⟩),.int .u64 (x:Int),.int .u64 (y:Int)] u.val.drew fun e w'=>e=.returned (.int .u64 (S:Int))/\w'=u.val.drew):=ae CS ⟨u.val.drew,u.jD.drew⟩;have c5:=Ax.cell (st+j) (by have:=ae HA1;have:=ae HA2;omega);have f5:=Ax.frozen (st+j);have c6:=yo u;have f6:=Ax.frozen (a1+j);have MS:=ag (((Ax.set (st+j) A).set (a1+j) S).drewN 1);have hG7:=ag (pB (cj (cj hG5 (aY _ g (st+j) (.int .u64 (A:Int)))) (aY _ g (a1+j) (.int .u64 (S:Int)))) 1);obtain⟨o5,ho5⟩:∃o5,o5=zs.getD (st+j) 0:=⟨_,rfl⟩;rw[<-ho5]at c5;clear ho5 Ax hG5 hB hG;generalize u.val=w5 at *;clear u;have vH:Hid (n-(j+1)<n-j):=by show _<_;omega
     go_wp2_with fail
     go_region_with (first|(go_at_call 233;refine(ae CA5).mono ?_;rintro e w6 ⟨rfl,WA⟩;subst WA)|(go_at_call 221;refine(ae CS5).mono ?_;rintro e w6 ⟨rfl,WA⟩;subst WA))
     all_goals
      focus
       go_wp2
       go_roundw
       case rel=>exact⟨j+1,_,by omega,by go_num,HS,ae MS,ae hG7⟩
       case measure=>simp[intOf];have:=ae vH;omega
    ·obtain rfl:j=n:=(by omega);have hJ2:Hid (zY F z0 zs j a2 0):=by have:=RT hJ.out;rw[<-ae HN2, <-ae HA2]at this;exact this
     have afr:Hid (a2=n2*(q+1)):=by show _=_;rw[ae HA2,hsq.out,aH,dG]
     have vH:Hid (N-a2<N-st):=by show _<_;have:=ae HA2;omega
     clear hJ;go_wp2
     go_roundw
     case rel=>exact⟨q+1,a2,zs,i6,rfl,afr,hJ2,hB,hG⟩
     case measure=>simp[intOf];have:=ae vH;omega
  ·obtain rfl:st=N:=(by omega);have hZ:=ae HE zs st hJ.out (af _);subst hZ;clear hJ;go_wp2
   go_end0
   exact⟨rfl,hB,hG⟩
theorem Nz(s:Nat):2^s+2^s=2^(s+1):=by rw[aE];omega
theorem acR{s:Nat}(h:2^s<2^L):s<L:=by apply eI;intro hle;have:=aA (n:=2) (by decide) hle;omega
theorem acQ{s:Nat}(h:s<=L):2^s<=2^L:=aA (by decide) h
theorem qQ(h1:H<=1048576)(h2:L<=20):H*L<=20971520:=aP h1 h2
theorem pA(P:PS w gt gm go oo gp p r L H)(hM:gQ w go oo s l m)(N:Nat)(hN:N=2^L)(ga:Option Addr)(b o cap:Nat)(xs:List Nat)(hl:xs.length=N)(hR:cH w ga b o cap xs)(EZ:0<=s)(hs:s<=4611686018427387904):Calls Tryz.prog 193 #[.pointer (some ⟨gt,0,none⟩),.slice ga N cap] w fun e w'=>e=.returned (.tuple #[.slice (some ⟨w.heap.size,0,none⟩) N N,.bool true])/\cW w' w.heap.size (fwd p r xs)/\gQ w' go oo (s+((H*L:Nat):Int)) l m/\Touch go oo 3 w w':=by
 have hL:=P.low;have zE:=fW hL;have hH:=P.half;rw[<-hN]at zE hH;have hp:=P.mw.low;have hpo:=P.mw.KA;have hph:=P.mw.high;obtain⟨K,hK⟩:∃K,K=H*L:=⟨_,rfl⟩;have Ue:K<=20971520:=by rw[hK];exact qQ (by omega) hL
 have eK:(H:Int)*(L:Int)=(K:Int):=by rw[hK];exact(aG H L).symm
 have wK:IntKind.i64.wrap (K:Int)=(K:Int):=by rw[ao];omega
 rw[<-hK];have eH:(N:Int).tdiv 2=(H:Int):=by rw[hH];rfl
 have eH2:(N:Int)/2=(H:Int):=by rw[hH];rfl
 have wH:IntKind.i64.wrap (H:Int)=(H:Int):=by rw[ao];omega
 have CZ:=ag (fun w' (b:Below w.heap.size w w')=>tW (P.next b) hN);have CS:=ag (Ee P N hN ga b o cap xs hl hR);have HF:=ag (fun zs (h:Zy p r 0 L xs zs)=>V' (show 0<p by omega) (by rw[hl,hN]) h);have H0:=ag (fun zs (h:Jd p L xs zs (2^L))=>RZ (r:=r) h);have HS:Hid (∀z t zs,L=z+t+1->Zy p r (t+1) z xs zs->Zy p r t (z+1) xs (jn p (mp p r) (2^z) (2^t) zs)):=fun z t zs e h=>WY (by rw[<-e];exact P.rt) hpo (by omega) h;have HJ:Hid (∀(w':World) (z t n:Nat) (zs:List Nat),Below w.heap.size w w'->L=z+t+1->n=2^z->zs.length=N->cW w' w.heap.size zs->Calls Tryz.prog 214 #[.pointer (some ⟨gt,0,none⟩),.slice (some ⟨w.heap.size,0,none⟩) N N,.int .i64 (n:Int)] w' fun e sP=>e=.returned (.tuple #[])/\cW sP w.heap.size (jn p (mp p r) n (2^t) zs)/\w'.grownBy sP (some w.heap.size)):=fun w' z t n zs b e hn hz hB=>
  WQ (P.next b) z t n (2^t) N w.heap.size e hn rfl hN zs hz hB (by have:=P.lt;omega) (by have:=P.mw.lt;omega) (by have:=P.pw.lt;omega)
 have HLn:Hid (∀t z zs,Zy p r t z xs zs->z+t=L->zs.length=N):=fun t z zs h e=>by rw[hN,h.1,e]
 have c1:=fun w' (b:Below w.heap.size w w')=>(b.cell (p:=⟨gt,1,none⟩) P.lt).trans P.c1;have c2:=fun w' (b:Below w.heap.size w w')=>(b.cell (p:=⟨gt,2,none⟩) P.lt).trans P.c2;have C1:=ag c1;have C2:=ag c2;have CM:=ag (fun w' (b:Below w.heap.size w w')=>jU (K:Int) (s+(K:Int)) (hM.next b) (by omega) (by omega) (by omega));have nV:=hM.lt;have HN:=ag hN;have q1:((N:Int)!=(N:Int))=false:=by simp
 clear P hM c1 c2 hN hK hR hH;generalize fwd p r xs=Z at *;generalize Zy p r=V at *;obtain⟨G,hG⟩:∃G,w.heap.size=G:=⟨_,rfl⟩;rw[hG]at CZ CS HJ C1 C2 CM nV ⊢;have HG:=ag hG;go_enter Tryz.func193,Tryz.ntmps193
 go_wp2_with fail
 refine(ae CZ _ (aj _ _)).mono ?_;rintro e w0 ⟨rfl,DV⟩;obtain rfl:=DV.symm;clear DV
 go_wp2_with fail
 refine(ae CS).mono ?_;rintro e w1 ⟨rfl,⟨z1,gY,sG⟩,b1⟩;have hV1:=ag (ae H0 z1 gY);clear gY CS hG H0;have sG:=ag sG;have tE:=ag b1;clear b1;go_wp2
 go_loopw [7] (fun hv wr=>∃(z t n:Nat) (zs:List Nat),n<=N/\hv=.int .i64 (n:Int)/\Hid (z+t=L)/\Hid (n=2^z)/\Hid (V t z xs zs)/\cW wr G zs/\Below G w wr) (fun hv _=>N-(intOf hv).toNat)
 case atStart=>exact⟨0,L,1,z1,by have:=one_le_two_pow L;rw[ae HN];exact this,rfl,bh L,rfl,hV1,ae sG,ae tE⟩
 case round=>
  clear hV1 sG tE;obtain⟨z,t,n,zs,hn,rfl,hzt,RK,hV,hB,hb⟩:=hrel;have kG:=ae HLn t z zs hV.out hzt.out;by_cases h1:n<N
  ·have qH:(n:Int)<(N:Int):=(by omega);obtain⟨t,rfl⟩:∃k,t=k+1:=⟨t-1,by have:=acR (s:=z) (L:=L) (by rw[<-RK.out, <-ae HN];exact h1);have:=hzt.out;omega⟩;have e:L=z+t+1:=by have:=hzt.out;omega
   have CJ:=ag (ae HJ wr z t n zs hb e RK.out kG hB);have hV2:=ae HS z t zs e hV.out;rw[<-RK.out]at hV2;have HV2:=ag hV2;obtain⟨n2,xA⟩:∃n2,n2=n+n:=⟨_,rfl⟩;have e2:(n:Int)*2=(n2:Int):=(by omega);have w2:IntKind.i64.wrap (n2:Int)=(n2:Int):=by rw[ao];omega
   have aed:Hid (n2=2^(z+1)):=by show _=_;rw[xA,RK.out,Nz]
   have hle:n2<=N:=by rw[ae aed,ae HN];exact acQ (by omega)
   have afy:Hid (z+1+t=L):=by show _=_;omega
   have vH:Hid (N-n2<N-n):=by show _<_;have:=one_le_two_pow z;rw[<-RK.out]at this;omega
   have Mg:Hid (G<=wr.heap.size):=by have:=hb.size;rw[HG.out]at this;exact this
   clear hV xA e hV2 kG
   go_wp2_with fail
   refine(ae CJ).mono ?_;rintro e w3 ⟨rfl,Zc,g3⟩;have hb3:=gS hb g3 (af _) (ae Mg);go_wp2
   go_roundw
   case rel=>exact⟨z+1,t,n2,_,hle,by first|rfl|go_num,afy,aed,HV2,Zc,hb3⟩
   case measure=>simp[intOf];have:=ae vH;omega
  ·obtain rfl:n=N:=(by omega);obtain rfl:z=L:=by have h2:2^z=2^L:=(by rw[<-RK.out, <-ae HN]);have h3:=hzt.out;exact QC (by omega) (cG fun dh=>absurd h2 (Nat.ne_of_lt (AX (by decide) dh)))
   obtain rfl:t=0:=by have:=hzt.out;omega
   have hZ:=ae HF zs hV.out;subst hZ;have d1:=ae C1 wr hb;have d2:=ae C2 wr hb;have y1:=Old.cell d1;have y2:=Old.cell d2;have inst:=gM wr;have Mg:Hid (G<=wr.heap.size):=by have:=hb.size;rw[HG.out]at this;exact this
   have CZ5:Hid (∀u:Old wr,Calls Tryz.prog 192 #[.pointer (some ⟨gt,0,none⟩)] u.val fun e w'=>e=.returned (.int .i64 (n:Int))/\w'=u.val):=fun u=>ae CZ _ (hb.trans (u.jD.mono (ae Mg)));clear hV hzt RK
   go_wp2_with fail
   refine pJ 12 (by kernel_rfl) (by kernel_rfl) (by kernel_rfl) (by kernel_rfl) (by kernel_rfl) (by kernel_rfl) ?_;simp only[List.take_succ_cons,List.take_zero,List.drop_succ_cons,List.drop_zero]
   repeat (go_big_quiet_step (first|(go_at_call 192;exact Calls.gj (ae CZ5 _))|fail))
   refine wpQuiet_nil ?_;intro w5 tH;obtain⟨u,rfl⟩:=tH;have Ax:=hB.next u.jD;have Ze:Below G w u.val:=hb.trans (u.jD.mono (ae Mg));generalize u.val=w5 at *;clear u
   go_wp2_with fail
   refine(ae CM _ Ze).mono ?_;rintro e w6 ⟨rfl,M6,T6⟩;have T7:=Touch.after (by rw[HG.out];exact Ze) T6 (by rw[HG.out];exact nV);have MS:=Ax.but T6.grown (by omega);go_wp2
   go_ret2
   exact⟨rfl,MS,M6,T7⟩
theorem z'(h:H=2^L/2)(hL:L<=20):H<=1048576:=by have:=fW hL;omega
theorem NJ{X:Nat}(hM:gQ w go oo s l m)(h:Fld p X)(hL:L<=20)(hd:L<=tw p)(hT:TB w):Calls Tryz.prog 191 #[.pointer (some ⟨go,oo,none⟩),.int .u64 (p:Int),.int .i64 (L:Int)] w fun e w'=>∃gt gm gp H,e=.returned (.tuple #[.pointer (some ⟨gt,0,none⟩),.int .i64 0])/\PS w' gt gm go oo gp p (pw p X ((p-1)/2^L)) L H/\w.heap.size<=gt/\Below w.heap.size w w':=by
 have CR:=ag (XO p X L w h.KA h.G7 h.abq hL hd hT);have CN:=ag (fun w=>oR p w h.KA.1 h.KA.2.1 h.KA.2.2);obtain⟨r,hr⟩:∃r,r=pw p X ((p-1)/2^L):=⟨_,rfl⟩;have yf:=h.rt hd;rw[<-hr]at CR yf ⊢;obtain⟨H,hH⟩:∃H,H=2^L/2:=⟨_,rfl⟩;have hHb:=z' hH hL;have CP:=ag (fun w' g (k:MW w' g p)=>Hr r H k hHb);obtain⟨N,hN⟩:∃N,N=2^L:=⟨_,rfl⟩;have zE:=fW hL;have e1:=abz hN;have hH2:=hH;rw[<-hN]at zE hH2;have e2:IntKind.i64.wrap (N:Int)=(N:Int):=by rw[ao];omega
 have eH:(N:Int).tdiv 2=(H:Int):=by rw[hH2];rfl
 have eH2:(N:Int)/2=(H:Int):=by rw[hH2];rfl
 have wH:IntKind.i64.wrap (H:Int)=(H:Int):=by rw[ao];omega
 have h0:¬(L:Int)<0:=by omega
 have nV:=hM.lt;have HRT:=ag yf;have HH:=ag hH;clear hM h hT hr hd hH hH2 hN yf;go_enter Tryz.func191,Tryz.ntmps191
 go_wp2_with fail
 refine(ae CR).mono ?_;rintro e w1 ⟨rfl,b1⟩;clear CR
 go_wp2_with fail
 refine(ae CN _).mono ?_;rintro e w2 ⟨gm,rfl,hW,hg,b2⟩;have b:=aJ b1 b2;have Mf:w.heap.size<=gm:=ak b1.size hg;have hs:=b.size;have CP:=ag (ae CP w2 gm hW);have HW:=ag hW;have HB:=ag b;have HG:=ag Mf;clear CN hW b1 b2 b hg Mf
 go_wp2_with fail
 refine(ae CP).mono ?_;rintro e w3 ⟨rfl,hB,b3⟩;have b4:=aJ (ae HB) b3;have Uf:=(ae HW).next b3;have hs3:=b3.size;have Ng:=hB.lt;have hm3:=Uf.lt;have HB3:=ag hB;have HB4:=ag b4;have HW3:=ag Uf;clear CP hB b3 b4 Uf HW HB;go_wp2
 go_ret2
 have hk:=aI w3 (.cells #[.pointer (some ⟨gm,0,none⟩),.pointer (some ⟨go,oo,none⟩),.int .i64 (L:Int),.slice (some ⟨w2.heap.size,0,none⟩) H H] 242);have Nf:=ae HG;have hb4:=ae HB4;have wc:=hb4.size;have zF:Below w3.heap.size w3 (w3.alloc (.cells #[.pointer (some ⟨gm,0,none⟩),.pointer (some ⟨go,oo,none⟩),.int .i64 (L:Int),.slice (some ⟨w2.heap.size,0,none⟩) H H] 242)):=(aj _ _).alloc (af _) _;refine⟨w3.heap.size,gm,w2.heap.size,H,rfl,⟨ay _ w3.heap.size 0 _ _ (0,0) hk,ay _ w3.heap.size 1 _ _ (0,0) hk,ay _ w3.heap.size 2 _ _ (0,0) hk,ay _ w3.heap.size 3 _ _ (0,0) hk,(ae HW3).next zF,(ae HB3).next zF,by omega,by omega,by omega,ae HH,hL,ae HRT⟩,wc,hb4.alloc wc _⟩
theorem zR(w:World)(g o n cap:Nat)(z0:List Nat)(hl:o+n<=z0.length)(hb:n<=1048576)(hB:cW w g z0):Calls Tryz.prog 216 #[.slice (some ⟨g,o,none⟩) n cap] w fun e w'=>e=.returned (.tuple #[])/\(∃zs,nM z0 zs o n n/\cW w' g zs)/\w.grownBy w' (some g):=by
 obtain⟨j0,hj0⟩:∃j0:Int,j0=(n:Int)-1:=⟨_,rfl⟩;have e0:(n:Int)-1=j0:=hj0.symm;have w0:IntKind.i64.wrap j0=j0:=by rw[ao];omega
 have HJ:=ag hj0;clear hj0;go_enter Tryz.func216,Tryz.ntmps216;go_wp2
 go_loopw [2,3] (fun iv jv wr=>∃(i:Nat) (j:Int) (zs:List Nat),i<=n/\iv=.int .i64 (i:Int)/\jv=.int .i64 j/\j=(n:Int)-1-(i:Int)/\Hid (nM z0 zs o n i)/\cW wr g zs/\w.grownBy wr (some g)) (fun iv _ _=>n-(intOf iv).toNat)
 case atStart=>exact⟨0,j0,z0,aO _,rfl,rfl,by have:=ae HJ;omega,xP z0 o n,hB,iD _ _⟩
 case round=>
  clear hB e0 w0 HJ;obtain⟨i,j,zs,hi,rfl,rfl,hj,hV,hB,hG⟩:=hrel;by_cases h1:2*i+1<n
  ·obtain⟨J,hJ⟩:∃J:Nat,J=n-1-i:=⟨_,rfl⟩;obtain rfl:j=(J:Int):=(by omega);have dh:(i:Int)<(J:Int):=(by omega);have iJ:0<=(J:Int)/\(J:Int)<(n:Int):=(by omega);have ii:0<=(i:Int)/\(i:Int)<(n:Int):=(by omega);obtain⟨j2,xz⟩:∃j2:Int,j2=(J:Int)-1:=⟨_,rfl⟩;have e2:(J:Int)-1=j2:=xz.symm;have w2:IntKind.i64.wrap j2=j2:=by rw[ao];omega
   have kG:=hV.out.1;obtain⟨x,hx⟩:∃x,x=z0.getD (o+i) 0:=⟨_,rfl⟩;obtain⟨y,hy⟩:∃y,y=z0.getD (o+J) 0:=⟨_,rfl⟩;have cx:wr.cell? ⟨g,o+i,none⟩=some (.int .u64 (x:Int)):=by rw[hx, <-Cr hV.out h1 hl];exact hB.cell (o+i) (by omega)
   have cy:wr.cell? ⟨g,o+J,none⟩=some (.int .u64 (y:Int)):=by have:=zP hV.out h1 hl;rw[<-hJ]at this;rw[hy, <-this];exact hB.cell (o+J) (by omega)
   have fx:=hB.frozen (o+i);have fy:=hB.frozen (o+J);have fR:=zQ hV.out h1 hl;rw[<-hJ, <-hx, <-hy]at fR;have HS:=ag fR;have MS:=ag (((hB.set (o+i) y).set (o+J) x).drewN 1);have hG7:=ag (pB (cj (cj hG (aY _ g (o+i) (.int .u64 (y:Int)))) (aY _ g (o+J) (.int .u64 (x:Int)))) 1);have n1:¬i=J:=(by omega);have n2:¬J=i:=(by omega);have Rs:Hid (j2=(n:Int)-1-((i+1:Nat):Int)):=by show _=_;omega
   have vH:Hid (n-(i+1)<n-i):=by show _<_;omega
   clear hx hy fR hV hJ hj xz;go_wp2
   go_big_region
   all_goals
    focus
     go_wp2
     go_roundw
     case rel=>exact⟨i+1,j2,_,by omega,by go_num,rfl,ae Rs,HS,ae MS,ae hG7⟩
     case measure=>simp[intOf];have:=ae vH;omega
  ·have dh:¬(i:Int)<j:=(by omega);have hE:=ag (Cq hV.out (by omega) hi);clear hV hj;go_wp2
   go_end0
   exact⟨rfl,⟨zs,ae hE,hB⟩,hG⟩
def cN(p L:Nat):Nat:=sb p 0 ((p-1)/2^L)
def Kf(p r L:Nat)(xs:List Nat):List Nat:=(List.range (2^L)).map fun k=>ml p ((fwd p r xs).getD ((2^L-k)%2^L) 0) (cN p L)
theorem Nt(p r L:Nat)(xs:List Nat):(Kf p r L xs).length=2^L:=by simp[Kf]
theorem WO(p r L:Nat)(xs:List Nat)(h:k<2^L):(Kf p r L xs).getD k 0=ml p ((fwd p r xs).getD ((2^L-k)%2^L) 0) (cN p L):=xN _ h
theorem acJ(hp:0<p)(r L:Nat)(xs:List Nat)(k:Nat)(h:k<2^L):(Kf p r L xs).getD k 0<p:=by rw[WO p r L xs h];exact aD _ hp
theorem aes(x c:Nat)(h:p%2=1)(hp:p<18446744073709551616):mm p x (ml p c 18446744073709551616)=ml p x c:=by
 have h0:0<p:=by omega
 have h1:=abn x c 1 h hp;have e:mp p c 1=ml p c 18446744073709551616:=by unfold mp ml;rw[fi]
 rw[e,gU,iz,g8]at h1;exact Cg.eq (h1.trans (Kq p x c).symm) (aD _ h0) (aD _ h0)
theorem Fw(P:PS w gt gm go oo gp p r L H):Calls Tryz.prog 218 #[.pointer (some ⟨gt,0,none⟩)] w fun e w'=>e=.returned (.int .u64 (cN p L:Int))/\Below w.heap.size w w':=by
 have hl:=P.mw.low;have hh:=P.mw.high;have hL:=P.low;have c0:=P.c0;have c2:=P.c2;have y0:=Old.cell c0;have y2:=Old.cell c2;have inst:=gM w;have CP:Hid (∀u:Old w,Calls Tryz.prog 223 #[.pointer (some ⟨gm,0,none⟩)] u.val fun e w'=>e=.returned (.int .u64 (p:Int))/\w'=u.val):=fun u=>tN (P.mw.next u.jD);have CN:Hid (∀(x:Nat) (u:Old w),Calls Tryz.prog 234 #[.pointer (some ⟨gm,0,none⟩),.int .u64 (x:Int)] u.val fun e w'=>e=.returned (.int .u64 (sb p 0 x:Int))/\w'=u.val):=fun x u=>aah (P.mw.next u.jD) x;have es:=nQ (p-1) L;have CN:=ag (fun u=>ae CN ((p-1)/2^L) u);have HC:Hid (cN p L=sb p 0 ((p-1)/2^L)):=rfl;rw[ae HC];generalize sb p 0 ((p-1)/2^L)=z at *;generalize (p-1)/2^L=E at *;obtain⟨N,hN⟩:∃N,N=p-1:=⟨_,rfl⟩;rw[<-hN]at es;have eN:(p:Int)-1=(N:Int):=by omega
 have eNw:IntKind.u64.wrap (N:Int)=(N:Int):=by rw[aK];omega
 have h0:¬(L:Int)<0:=by omega
 clear P hN HC;go_enter Tryz.func218,Tryz.ntmps218
 go_wp2_with fail
 refine fo (by kernel_rfl) (by kernel_rfl) ?_
 repeat (go_big_quiet_step (first|(go_at_call 223;exact Calls.gj (ae CP _))|(go_at_call 234;exact Calls.gj (ae CN _))))
 refine wpQuiet_nil ?_;intro w5 tH;obtain⟨u,rfl⟩:=tH;go_wp2;go_ret;exact⟨bY rfl,u.jD⟩
theorem TG{N:Nat}(hN:z0.length=N)(h1:1<=N)(h:nM z0 zs 1 (N-1) (N-1))(hk:k<N):zs.getD k 0=z0.getD ((N-k)%N) 0:=by
 rw[h.2 k (by omega)];by_cases e:k=0
 ·subst e;rw[aV (by omega)];congr 1;rw[lQ,Nat.mod_self]
 ·rw[aW (by omega)];congr 1;rw[bc (by omega)];omega
theorem zL(P:PS w gt gm go oo gp p r L H)(hM:gQ w go oo s l m)(N:Nat)(hN:N=2^L)(ga:Option Addr)(b o cap:Nat)(xs:List Nat)(hl:xs.length=N)(hR:cH w ga b o cap xs)(EZ:0<=s)(hs:s<=4611686018427387904):Calls Tryz.prog 195 #[.pointer (some ⟨gt,0,none⟩),.slice ga N cap] w fun e w'=>e=.returned (.tuple #[.slice (some ⟨w.heap.size,0,none⟩) N N,.bool true])/\cW w' w.heap.size (Kf p r L xs)/\gQ w' go oo (s+((H*L+N:Nat):Int)) l m/\Touch go oo 3 w w':=by
 have hL:=P.low;have zE:=fW hL;have zD:=one_le_two_pow L;rw[<-hN]at zE zD;have hH:=P.half;rw[<-hN]at hH;have Ue:H*L<=20971520:=qQ (by omega) hL;have CF:=ag (pA P hM N hN ga b o cap xs hl hR EZ hs);have hfl:(fwd p r xs).length=N:=by rw[iB,hl]
 have HI:Hid (Kf p r L xs=(List.range N).map fun k=>ml p ((fwd p r xs).getD ((N-k)%N) 0) (cN p L)):=by show _=_;unfold Kf;rw[hN]
 have HW:Hid (∀w',Touch go oo 3 w w'->PS w' gt gm go oo gp p r L H):=fun w' t=>P.but t.grown;have HMM:Hid (∀x c,mm p x (ml p c 18446744073709551616)=ml p x c):=fun x c=>aes x c P.mw.KA (by have:=P.mw.high;omega);have nV:=hM.lt;generalize Kf p r L xs=Z at *;generalize fwd p r xs=F at *;generalize H*L=K at *;obtain⟨S,hS⟩:∃S:Int,S=s+((K+N:Nat):Int):=⟨_,rfl⟩;rw[<-hS];have HS:=ag hS;clear P hM hN hR hH hl hS;obtain⟨G,hG⟩:∃G,w.heap.size=G:=⟨_,rfl⟩;rw[hG]at CF nV ⊢;have HG:=ag hG;clear hG;go_enter Tryz.func195,Tryz.ntmps195
 go_wp2_with fail
 refine(ae CF).mono ?_;rintro e w1 ⟨rfl,sG,M1,T1⟩;clear CF;by_cases h1:N=1
 ·subst h1;have CR:=ag (zR w1 G 0 0 0 F (by omega) (by omega) sG);have OI:=ag T1;have FZ:=ag M1;clear sG T1 M1
  go_wp2_with fail
  refine(ae CR).mono ?_;rintro e w2 ⟨rfl,⟨z2,fX,wa⟩,g2⟩;have hz:Hid (z2.length=1/\∀k,k<1->z2.getD k 0=F.getD ((1-k)%1) 0):=⟨by rw[fX.1,hfl],fun k hk=>by obtain rfl:k=0:=(by omega);rw[fX.2 0 (by omega),aV (by omega)]⟩;clear fX;have hgG:go≠G:=by omega
  have T2:=(ae OI).fresh g2 (by rw[HG.out];exact nV) (by rw[HG.out];exact af _);have M2:=(ae FZ).but g2 hgG;have P2:=ae HW _ T2;have y0:=Old.cell P2.c0;have inst:=gM w2;have CSh:Hid (∀u:Old w2,Calls Tryz.prog 218 #[.pointer (some ⟨gt,0,none⟩)] u.val fun e w'=>e=.returned (.int .u64 (cN p L:Int))/\Below u.val.heap.size u.val w'):=fun u=>Fw (P2.next u.jD);have CMo:Hid (∀u:Old w2,Calls Tryz.prog 217 #[.pointer (some ⟨gm,0,none⟩),.int .u64 (cN p L:Int)] u.val fun e w'=>e=.returned (.int .u64 (ml p (cN p L) 18446744073709551616:Int))/\w'=u.val):=fun u=>oT (P2.next u.jD).mw (cN p L);have HX:Hid (∀x,mm p x (ml p (cN p L) 18446744073709551616)=ml p x (cN p L)):=fun x=>ae HMM x (cN p L);have DG:=ag T2;have HM2:=ag M2;have wa:=ag wa;have Wi:Hid (go<w2.heap.size):=M2.lt;clear T2 M2 P2 OI FZ g2 CR;generalize ml p (cN p L) 18446744073709551616=q at *;generalize cN p L=c at *
  go_wp2_with fail
  refine fo (by kernel_rfl) (by kernel_rfl) ?_
  repeat (go_big_quiet_step (first|(go_at_call 218;exact Calls.jD (ae CSh _))|(go_at_call 217;exact Calls.gj (ae CMo _))))
  refine wpQuiet_nil ?_;intro w5 tH;obtain⟨u,rfl⟩:=tH;have T5:=ag ((ae DG).then u.jD (ae Wi));have M5:=ag ((ae HM2).next u.jD);have B5:=ag ((ae wa).next u.jD);generalize u.val=w5 at *;clear u y0 inst CSh CMo DG HM2 wa Wi;go_wp2
  go_loopw [31] (fun iv wr=>∃(k:Nat) (zs:List Nat),k<=1/\iv=.int .i64 (k:Int)/\Hid (mn (fun i=>ml p (z2.getD i 0) c) z2 zs k)/\cW wr G zs/\gQ wr go oo (s+(K:Int)) l m/\Touch go oo 3 w wr) (fun iv _=>1-(intOf iv).toNat)
  case atStart=>exact⟨0,z2,aO _,rfl,nY _ z2,ae B5,ae M5,ae T5⟩
  case round=>
   clear T5 M5 B5;obtain⟨k,zs,hk,rfl,hV,hB,hM,hT⟩:=hrel;have GX:=hz.out.1;have kG:zs.length=1:=(by rw[hV.out.1,GX]);by_cases h2:k<1
   ·have DF:(k:Int)<(1:Int):=(by omega);obtain⟨x,hx⟩:∃x,x=z2.getD k 0:=⟨_,rfl⟩;have cx:wr.cell? ⟨G,k,none⟩=some (.int .u64 (x:Int)):=by rw[hx, <-uL hV.out (by omega)];exact hB.cell k (by omega)
    have P5:=ae HW _ hT;have c0:=P5.c0;have CMm:Hid (Calls Tryz.prog 219 #[.pointer (some ⟨gm,0,none⟩),.int .u64 (x:Int),.int .u64 (q:Int)] wr fun e w'=>e=.returned (.int .u64 (ml p x c:Int))/\w'=wr):=by have:=gT P5.mw x q;rw[ae HX x]at this;exact this
    have fR:Hid (mn (fun i=>ml p (z2.getD i 0) c) z2 (zs.set k (ml p x c)) (k+1)):=by rw[hx];exact pI hV.out (by omega)
    have vH:Hid (1-(k+1)<1-k):=by show _<_;omega
    have Wk:Hid (go<wr.heap.size):=hM.lt;clear P5 hx hV;generalize ml p x c=y at *
    go_wp2_with fail
    refine(ae CMm).mono ?_;rintro e w6 ⟨rfl,WA⟩;obtain rfl:=WA.symm;clear WA;have f6:=hB.frozen k;have B7:=ag (hB.set k y);have M7:=ag (hM.but (aY _ G k (.int .u64 (y:Int))) hgG);have T7:=ag (hT.fresh (aY _ G k (.int .u64 (y:Int))) (by rw[HG.out];exact nV) (by rw[HG.out];exact af _));go_wp2
    go_roundw
    case rel=>exact⟨k+1,_,by omega,by go_num,fR,ae B7,ae M7,ae T7⟩
    case measure=>simp[intOf];have:=ae vH;omega
   ·obtain rfl:k=1:=(by omega);have hZ:zs=Z:=by have RH:=rK (f:=fun i=>ml p (z2.getD i 0) c) (z0:=z2) (zs:=zs) (by rw[GX];exact hV.out);rw[GX]at RH;rw[ae HI,RH];apply DI;intro i hi;rw[hz.out.2 i (oJ.1 hi)]
    subst hZ;have P5:=ae HW _ hT;have c1:=P5.c1;have eS:=ae HS;have CSp:=ag (jU (1:Int) S hM (by omega) (by omega) (by omega));clear hV P5 kG GX HI eS
    go_wp2_with fail
    refine(ae CSp).mono ?_;rintro e w6 ⟨rfl,M6,T6⟩;have MS:=hB.but T6.grown (by omega);have T7:=hT.trans T6;go_wp2
    go_ret2
    exact⟨rfl,MS,M6,T7⟩
 ·obtain⟨n1,qH⟩:∃n1,n1=N-1:=⟨_,rfl⟩;have i1:(1:Int)<=(N:Int):=by omega
  have i3:N-1=n1:=qH.symm;have CR:=ag (zR w1 G 1 n1 n1 F (by omega) (by omega) sG);have OI:=ag T1;have FZ:=ag M1;have HN1:=ag qH;clear sG T1 M1 qH
  go_wp2_with fail
  refine(ae CR).mono ?_;rintro e w2 ⟨rfl,⟨z2,fX,wa⟩,g2⟩;have hz:Hid (z2.length=N/\∀k,k<N->z2.getD k 0=F.getD ((N-k)%N) 0):=⟨by rw[fX.1,hfl],fun k hk=>by rw[ae HN1]at fX;exact TG hfl zD fX hk⟩;clear fX i1 i3 HN1;have hgG:go≠G:=by omega
  have T2:=(ae OI).fresh g2 (by rw[HG.out];exact nV) (by rw[HG.out];exact af _);have M2:=(ae FZ).but g2 hgG;have P2:=ae HW _ T2;have y0:=Old.cell P2.c0;have inst:=gM w2;have CSh:Hid (∀u:Old w2,Calls Tryz.prog 218 #[.pointer (some ⟨gt,0,none⟩)] u.val fun e w'=>e=.returned (.int .u64 (cN p L:Int))/\Below u.val.heap.size u.val w'):=fun u=>Fw (P2.next u.jD);have CMo:Hid (∀u:Old w2,Calls Tryz.prog 217 #[.pointer (some ⟨gm,0,none⟩),.int .u64 (cN p L:Int)] u.val fun e w'=>e=.returned (.int .u64 (ml p (cN p L) 18446744073709551616:Int))/\w'=u.val):=fun u=>oT (P2.next u.jD).mw (cN p L);have HX:Hid (∀x,mm p x (ml p (cN p L) 18446744073709551616)=ml p x (cN p L)):=fun x=>ae HMM x (cN p L);have DG:=ag T2;have HM2:=ag M2;have wa:=ag wa;have Wi:Hid (go<w2.heap.size):=M2.lt;clear T2 M2 P2 OI FZ g2 CR;generalize ml p (cN p L) 18446744073709551616=q at *;generalize cN p L=c at *
  go_wp2_with fail
  refine fo (by kernel_rfl) (by kernel_rfl) ?_
  repeat (go_big_quiet_step (first|(go_at_call 218;exact Calls.jD (ae CSh _))|(go_at_call 217;exact Calls.gj (ae CMo _))))
  refine wpQuiet_nil ?_;intro w5 tH;obtain⟨u,rfl⟩:=tH;have T5:=ag ((ae DG).then u.jD (ae Wi));have M5:=ag ((ae HM2).next u.jD);have B5:=ag ((ae wa).next u.jD);generalize u.val=w5 at *;clear u y0 inst CSh CMo DG HM2 wa Wi;go_wp2
  go_loopw [31] (fun iv wr=>∃(k:Nat) (zs:List Nat),k<=N/\iv=.int .i64 (k:Int)/\Hid (mn (fun i=>ml p (z2.getD i 0) c) z2 zs k)/\cW wr G zs/\gQ wr go oo (s+(K:Int)) l m/\Touch go oo 3 w wr) (fun iv _=>N-(intOf iv).toNat)
  case atStart=>exact⟨0,z2,aO _,rfl,nY _ z2,ae B5,ae M5,ae T5⟩
  case round=>
   clear T5 M5 B5;obtain⟨k,zs,hk,rfl,hV,hB,hM,hT⟩:=hrel;have GX:=hz.out.1;have kG:zs.length=N:=(by rw[hV.out.1,GX]);by_cases h2:k<N
   ·have DF:(k:Int)<(N:Int):=(by omega);obtain⟨x,hx⟩:∃x,x=z2.getD k 0:=⟨_,rfl⟩;have cx:wr.cell? ⟨G,k,none⟩=some (.int .u64 (x:Int)):=by rw[hx, <-uL hV.out (by omega)];exact hB.cell k (by omega)
    have P5:=ae HW _ hT;have c0:=P5.c0;have CMm:Hid (Calls Tryz.prog 219 #[.pointer (some ⟨gm,0,none⟩),.int .u64 (x:Int),.int .u64 (q:Int)] wr fun e w'=>e=.returned (.int .u64 (ml p x c:Int))/\w'=wr):=by have:=gT P5.mw x q;rw[ae HX x]at this;exact this
    have fR:Hid (mn (fun i=>ml p (z2.getD i 0) c) z2 (zs.set k (ml p x c)) (k+1)):=by rw[hx];exact pI hV.out (by omega)
    have vH:Hid (N-(k+1)<N-k):=by show _<_;omega
    have Wk:Hid (go<wr.heap.size):=hM.lt;clear P5 hx hV;generalize ml p x c=y at *
    go_wp2_with fail
    refine(ae CMm).mono ?_;rintro e w6 ⟨rfl,WA⟩;obtain rfl:=WA.symm;clear WA;have f6:=hB.frozen k;have B7:=ag (hB.set k y);have M7:=ag (hM.but (aY _ G k (.int .u64 (y:Int))) hgG);have T7:=ag (hT.fresh (aY _ G k (.int .u64 (y:Int))) (by rw[HG.out];exact nV) (by rw[HG.out];exact af _));go_wp2
    go_roundw
    case rel=>exact⟨k+1,_,by omega,by go_num,fR,ae B7,ae M7,ae T7⟩
    case measure=>simp[intOf];have:=ae vH;omega
   ·obtain rfl:k=N:=(by omega);have hZ:zs=Z:=by have RH:=rK (f:=fun i=>ml p (z2.getD i 0) c) (z0:=z2) (zs:=zs) (by rw[GX];exact hV.out);rw[GX]at RH;rw[ae HI,RH];apply DI;intro i hi;rw[hz.out.2 i (oJ.1 hi)]
    subst hZ;have P5:=ae HW _ hT;have c1:=P5.c1;have eS:=ae HS;have CSp:=ag (jU (k:Int) S hM (by omega) (by omega) (by omega));clear hV P5 kG GX HI eS
    go_wp2_with fail
    refine(ae CSp).mono ?_;rintro e w6 ⟨rfl,M6,T6⟩;have MS:=hB.but T6.grown (by omega);have T7:=hT.trans T6;go_wp2
    go_ret2
    exact⟨rfl,MS,M6,T7⟩
def Ku(p:Nat)(xs ys:List Nat):List Nat:=(List.range xs.length).map fun i=>ml p (xs.getD i 0) (ys.getD i 0)
theorem Kv(p:Nat)(xs ys:List Nat):(Ku p xs ys).length=xs.length:=by simp[Ku]
theorem aag(p:Nat)(xs ys:List Nat)(h:k<xs.length):(Ku p xs ys).getD k 0=ml p (xs.getD k 0) (ys.getD k 0):=xN _ h
def JL(p r L:Nat)(xs ys:List Nat):List Nat:=Kf p r L (Ku p (fwd p r xs) (fwd p r ys))
theorem MI(P:PS w gt gm go oo gp p r L H)(hM:gQ w go oo s l m)(N:Nat)(hN:N=2^L)(ga gb:Option Addr)(b o cap b' o' bM:Nat)(xs ys:List Nat)(hl:xs.length=N)(hR:cH w ga b o cap xs)(Ad:ys.length=N)(kV:cH w gb b' o' bM ys)(hb:b'≠go)(EZ:0<=s)(hs:s<=2305843009213693952):Calls Tryz.prog 224 #[.pointer (some ⟨gt,0,none⟩),.slice ga N cap,.slice gb N bM] w fun e w'=>∃g,e=.returned (.tuple #[.slice (some ⟨g,0,none⟩) N N,.bool true])/\w.heap.size<=g/\cW w' g (JL p r L xs ys)/\gQ w' go oo (s+((3*(H*L)+2*N:Nat):Int)) l m/\Touch go oo 3 w w':=by
 have hL:=P.low;have zE:=fW hL;have zD:=one_le_two_pow L;rw[<-hN]at zE zD;have hH:=P.half;rw[<-hN]at hH;have Ue:H*L<=20971520:=qQ (by omega) hL;have CZ:=ag (tW P hN);have CF:=ag (pA P hM N hN ga b o cap xs hl hR EZ (by omega));have HW:Hid (∀w',Touch go oo 3 w w'->PS w' gt gm go oo gp p r L H):=fun w' t=>P.but t.grown;have nV:=hM.lt;have HF2:Hid (∀w',Touch go oo 3 w w'->gQ w' go oo (s+((H*L:Nat):Int)) l m->Calls Tryz.prog 193 #[.pointer (some ⟨gt,0,none⟩),.slice gb N bM] w' fun e sP=>e=.returned (.tuple #[.slice (some ⟨w'.heap.size,0,none⟩) N N,.bool true])/\cW sP w'.heap.size (fwd p r ys)/\gQ sP go oo (s+((H*L:Nat):Int)+((H*L:Nat):Int)) l m/\Touch go oo 3 w' sP):=fun w' t M=>
  pA (P.but t.grown) M N hN gb b' o' bM ys Ad (kV.but t.grown (fun _=>hb)) (by omega) (by omega)
 have HI:Hid (∀w' g (s':Int) (zs:List Nat),Touch go oo 3 w w'->gQ w' go oo s' l m->zs.length=N->cW w' g zs->0<=s'->s'<=4611686018427387904->Calls Tryz.prog 195 #[.pointer (some ⟨gt,0,none⟩),.slice (some ⟨g,0,none⟩) N N] w' fun e sP=>e=.returned (.tuple #[.slice (some ⟨w'.heap.size,0,none⟩) N N,.bool true])/\cW sP w'.heap.size (Kf p r L zs)/\gQ sP go oo (s'+((H*L+N:Nat):Int)) l m/\Touch go oo 3 w' sP):=fun w' g s' zs t M hz hB h0 h1=>
  zL (P.but t.grown) M N hN (some ⟨g,0,none⟩) g 0 N zs hz (hB.whole hz) h0 h1
 have HC:Hid (JL p r L xs ys=Kf p r L ((List.range N).map fun i=>ml p ((fwd p r xs).getD i 0) ((fwd p r ys).getD i 0))):=by show _=_;unfold JL Ku;rw[iB,hl]
 have hfx:(fwd p r xs).length=N:=by rw[iB,hl]
 have hfy:(fwd p r ys).length=N:=by rw[iB,Ad]
 have HCM:=ag (fun w' g (h:MW w' g p) x y=>mul_mod h x y);have q1:((N:Int)!=(N:Int))=false:=by simp
 generalize JL p r L xs ys=Z at *;generalize fwd p r xs=X at *;generalize fwd p r ys=Y at *;generalize Kf p r L=I at *;generalize H*L=K at *;obtain⟨S,hS⟩:∃S:Int,S=s+((3*K+2*N:Nat):Int):=⟨_,rfl⟩;rw[<-hS];have HS:=ag hS;obtain⟨s1,xB⟩:∃s1:Int,s1=s+(K:Int):=⟨_,rfl⟩;obtain⟨s2,GQ⟩:∃s2:Int,s2=s1+(K:Int):=⟨_,rfl⟩;obtain⟨s3,hs3⟩:∃s3:Int,s3=s2+(N:Int):=⟨_,rfl⟩;rw[<-xB]at CF HF2;rw[<-GQ]at HF2;have HS1:=ag xB;have HS2:=ag GQ;have HS3:=ag hs3;have r2:0<=s2/\s3<=4611686018427387904/\s3+((K+N:Nat):Int)=S/\s3=s2+max (N:Int) 0/\s2<=s3:=by omega
 clear P hM hN hR kV hH hl Ad hS hb xB GQ hs3;go_enter Tryz.func224,Tryz.ntmps224
 go_wp2_with fail
 refine(ae CZ).mono ?_;rintro e w0 ⟨rfl,DV⟩;obtain rfl:=DV.symm;clear DV
 go_wp2_with fail
 refine(ae CZ).mono ?_;rintro e w0 ⟨rfl,DV⟩;obtain rfl:=DV.symm;clear DV CZ
 go_wp2_with fail
 refine(ae CF).mono ?_;rintro e w1 ⟨rfl,sG,M1,T1⟩;clear CF
 go_wp2_with fail
 refine(ae HF2 _ T1 M1).mono ?_;rintro e w2 ⟨rfl,wa,M2,T2⟩;have dh:=sG.lt;have sG:=sG.but T2.grown (by omega);have T2:=T1.trans T2;have Wk:go<w1.heap.size:=M1.lt;obtain⟨G1,hG1⟩:∃G1,w.heap.size=G1:=⟨_,rfl⟩;obtain⟨G2,hG2⟩:∃G2,w1.heap.size=G2:=⟨_,rfl⟩;rw[hG1]at sG dh nV ⊢;rw[hG2]at wa dh Wk ⊢;have HG1:=ag hG1;have B1:=ag sG;have B2:=ag wa;have DG:=ag T2;have HM2:=ag M2;clear hG1 hG2 sG wa T2 M2 T1 M1 HF2;go_wp2
 go_loopw [39] (fun iv wr=>∃(k:Nat) (zs:List Nat),k<=N/\iv=.int .i64 (k:Int)/\Hid (mn (fun i=>ml p (X.getD i 0) (Y.getD i 0)) X zs k)/\cW wr G1 zs/\cW wr G2 Y/\gQ wr go oo s2 l m/\Touch go oo 3 w wr) (fun iv _=>N-(intOf iv).toNat)
 case atStart=>exact⟨0,X,aO _,rfl,nY _ X,ae B1,ae B2,ae HM2,ae DG⟩
 case round=>
  clear B1 B2 HM2 DG;obtain⟨k,zs,hk,rfl,hV,hB,hBY,hM,hT⟩:=hrel;have kG:zs.length=N:=by rw[hV.out.1,hfx]
  by_cases h2:k<N
  ·have DF:(k:Int)<(N:Int):=(by omega);obtain⟨x,hx⟩:∃x,x=X.getD k 0:=⟨_,rfl⟩;obtain⟨y,hy⟩:∃y,y=Y.getD k 0:=⟨_,rfl⟩;have cx:wr.cell? ⟨G1,k,none⟩=some (.int .u64 (x:Int)):=by rw[hx, <-uL hV.out (by omega)];exact hB.cell k (by omega)
   have cy:wr.cell? ⟨G2,k,none⟩=some (.int .u64 (y:Int)):=by rw[hy];exact hBY.cell k (by omega)
   have P5:=ae HW _ hT;have y0:=Old.cell P5.c0;have yx:=Old.cell cx;have yy:=Old.cell cy;have inst:=gM wr;have CMm:Hid (∀u:Old wr,Calls Tryz.prog 194 #[.pointer (some ⟨gm,0,none⟩),.int .u64 (x:Int),.int .u64 (y:Int)] u.val fun e w'=>e=.returned (.int .u64 (ml p x y:Int))/\Below u.val.heap.size u.val w'):=fun u=>ae HCM _ gm (P5.mw.next u.jD) x y;have fR:Hid (mn (fun i=>ml p (X.getD i 0) (Y.getD i 0)) X (zs.set k (ml p x y)) (k+1)):=by rw[hx,hy];exact pI hV.out (by omega)
   have vH:Hid (N-(k+1)<N-k):=by show _<_;omega
   have afb:Hid (go<wr.heap.size):=hM.lt;have n1:Hid (G2≠G1/\go≠G1):=by show _/\_;omega
   clear P5 hx hy hV;generalize ml p x y=v at *
   go_wp2_with fail
   refine pJ 16 (by kernel_rfl) (by kernel_rfl) (by kernel_rfl) (by kernel_rfl) (by kernel_rfl) (by kernel_rfl) ?_;simp only[List.take_succ_cons,List.take_zero,List.drop_succ_cons,List.drop_zero]
   repeat (go_big_quiet_step (first|(go_at_call 194;exact Calls.jD (ae CMm _))|fail))
   refine wpQuiet_nil ?_;intro w6 WA;obtain⟨u,rfl⟩:=WA;have q_:=hB.next u.jD;have c6:=q_.cell k (by omega);have f6:=q_.frozen k;have B7:=ag (q_.set k v);have Y7:=ag ((hBY.next u.jD).but (aY _ G1 k (.int .u64 (v:Int))) n1.out.1);have M7:=ag ((hM.next u.jD).but (aY _ G1 k (.int .u64 (v:Int))) n1.out.2);have T7:=ag ((hT.then u.jD (ae afb)).fresh (aY _ G1 k (.int .u64 (v:Int))) (by rw[HG1.out];exact nV) (by rw[HG1.out];exact af _));generalize u.val=w6 at *;clear u q_ y0 yx yy inst;go_wp2
   go_roundw
   case rel=>exact⟨k+1,_,by omega,by go_num,fR,ae B7,ae Y7,ae M7,ae T7⟩
   case measure=>simp[intOf];have:=ae vH;omega
  ·obtain rfl:k=N:=(by omega);have RH:=rK (f:=fun i=>ml p (X.getD i 0) (Y.getD i 0)) (z0:=X) (zs:=zs) (by rw[hfx];exact hV.out);rw[hfx]at RH;have HZ:Hid (I zs=Z):=by show _=_;rw[ae HC,RH]
   have P5:=ae HW _ hT;have c1:=P5.c1;have CSp:=ag (jU (k:Int) s3 hM (by omega) (by omega) r2.2.2.2.1);obtain⟨r21,r22,r23,r24,r25⟩:=r2;have R22:=ag r22;have R23:=ag r23;have R20:Hid (0<=s3):=by show _<=_;omega
   have n1:Hid (G1≠go):=by show _≠_;omega
   clear hV P5 RH HC r21 r22 r23 r24 r25
   go_wp2_with fail
   refine(ae CSp).mono ?_;rintro e w6 ⟨rfl,M6,T6⟩;have MS:=hB.but T6.grown n1.out;have T7:=hT.trans T6;have CI:=ag (ae HI _ G1 s3 zs T7 M6 kG MS (ae R20) (ae R22));have HT7:=ag T7;have hle:Hid (G1<=w6.heap.size):=fk MS.lt;clear M6 T6 MS T7 c1
   go_wp2_with fail
   refine(ae CI).mono ?_;rintro e w8 ⟨rfl,hB8,M8,T8⟩;rw[ae HZ]at hB8;rw[ae R23]at M8;have T9:=(ae HT7).trans T8;go_wp2
   go_ret2
   exact⟨_,rfl,by rw[HG1.out];exact ae hle,hB8,M8,T9⟩
theorem Cd(P:PS w gt gm go oo gp p r L H)(n:Nat)(hN:n=2^L)(ga:Option Addr)(b o cap l:Nat)(xs:List Nat)(hl:xs.length=l)(hR:cH w ga b o cap xs):Calls Tryz.prog 225 #[.pointer (some ⟨gt,0,none⟩),.slice ga l cap] w fun e w'=>e=.returned (.slice (some ⟨w.heap.size,0,none⟩) n n)/\cW w' w.heap.size (fu n xs)/\Below w.heap.size w w':=by
 have hn:=fW P.low;rw[<-hN]at hn;have CZ:=ag (tW P hN);have qG:=uK n n (n:Int) rfl rfl (by omega);obtain⟨k,hk⟩:∃k,k=min n l:=⟨_,rfl⟩;have hkl:k<=xs.length:=by omega
 have Gy:=hR.take k hkl;have kt:(xs.take k).length=k:=by simp;omega
 have e:fu n xs=xs.take k++List.replicate (n-k) 0:=by unfold fu;rw[hl, <-hk]
 rw[e];have HC:=ag (fun ob=>rm Gy ob);generalize xs.take k=ys at *;clear hR Gy e hkl hN P;go_enter Tryz.func225,Tryz.ntmps225
 go_wp2_with fail
 refine(ae CZ).mono ?_;rintro e w0 ⟨rfl,DV⟩;obtain rfl:=DV.symm;clear DV CZ
 go_wp2_with (refine wpList_copy_splice rfl _ _ 24 24 rfl 47 bm Tryz.pL _ _ n n l cap rfl rfl w.heap.size 0 (dS n) 47 ?h1 (iU ys) ?h2 ?h3 ?h4 (gD _) w.heap.size w ?h5 (af _) ?_)
 case h1=>exact aI w _
 case h2=>rw[dL,kt];exact hk.trans (Nat.min_comm n l)
 case h3=>exact ae HC _
 case h4=>rw[dL,kU,kt];omega
 case h5=>exact(aj _ _).alloc (af _) _
 intro w2 kW jA;have hB:cW w2 w.heap.size (ys++List.replicate (n-k) 0):=by show _=_;rw[<-Db ys n k kt (by omega)];exact kW.out
 clear kW HC qG;go_wp2;go_ret;exact⟨fg rfl,hB,jA⟩
theorem Vl(P:PS w gt gm go oo gp p r L H)(hM:gQ w go oo s l m)(N n:Nat)(hN:N=2^L)(ga gb:Option Addr)(b o cap b' o' bM la lb:Nat)(xs ys:List Nat)(hl:xs.length=la)(hR:cH w ga b o cap xs)(Ad:ys.length=lb)(kV:cH w gb b' o' bM ys)(ha:1<=la)(hb:1<=lb)(hn:n+1=la+lb)(Ul:n<=N)(EZ:0<=s)(hs:s<=2305843009213693952):Calls Tryz.prog 198 #[.pointer (some ⟨gt,0,none⟩),.slice ga la cap,.slice gb lb bM] w fun e w'=>∃g,e=.returned (.tuple #[.slice (some ⟨g,0,none⟩) n N,.bool true])/\w.heap.size<=g/\cW w' g (JL p r L (fu N xs) (fu N ys))/\gQ w' go oo (s+((3*(H*L)+2*N:Nat):Int)) l m/\Touch go oo 3 w w':=by
 have zE:=fW P.low;rw[<-hN]at zE;have CZ:=ag (tW P hN);have CA:=ag (Cd P N hN ga b o cap la xs hl hR);have CB:=ag (fun w' (t:Below w.heap.size w w')=>Cd (P.next t) N hN gb b' o' bM lb ys Ad (kV.next t));have nV:=hM.lt;have CY:Hid (∀w' G1 G2 (zs ys:List Nat),Below w.heap.size w w'->cW w' G1 zs->cW w' G2 ys->zs.length=N->ys.length=N->G2≠go->Calls Tryz.prog 224 #[.pointer (some ⟨gt,0,none⟩),.slice (some ⟨G1,0,none⟩) N N,.slice (some ⟨G2,0,none⟩) N N] w' fun e sP=>∃g,e=.returned (.tuple #[.slice (some ⟨g,0,none⟩) N N,.bool true])/\w'.heap.size<=g/\cW sP g (JL p r L zs ys)/\gQ sP go oo (s+((3*(H*L)+2*N:Nat):Int)) l m/\Touch go oo 3 w' sP):=fun w' G1 G2 zs ys t B1 B2 h1 h2 h3=>
  MI (P.next t) (hM.next t) N hN _ _ G1 0 N G2 0 N zs ys h1 (B1.whole h1) h2 (B2.whole h2) h3 EZ hs
 have h1:=lL N xs;have h2:=lL N ys;generalize JL p r L=C at *;generalize fu N xs=X at *;generalize fu N ys=Y at *;generalize s+((3*(H*L)+2*N:Nat):Int)=S at *;obtain⟨n1,qH⟩:∃n1,n1=la+lb:=⟨_,rfl⟩;have e1:(la:Int)+(lb:Int)=(n1:Int):=by omega
 have e2:(n1:Int)-1=(n:Int):=by omega
 have IQ:IntKind.i64.wrap (n1:Int)=(n1:Int):=by rw[ao];omega
 have w2':IntKind.i64.wrap (n:Int)=(n:Int):=by rw[ao];omega
 have q1:((la:Int)==0)=false:=by rw[dn];omega
 have q2:((lb:Int)==0)=false:=by rw[dn];omega
 have q3:¬(N:Int)<(n:Int):=by omega
 have q4:decide ((N:Int)<(n:Int))=false:=by simp;omega
 have i1:(n:Int)<=(N:Int):=by omega
 clear P hM hN hR kV hl Ad hn qH ha hb;go_enter Tryz.func198,Tryz.ntmps198
 go_wp2_with fail
 refine(ae CZ).mono ?_;rintro e w0 ⟨rfl,DV⟩;obtain rfl:=DV.symm;clear DV CZ
 go_wp2_with fail
 refine(ae CA).mono ?_;rintro e w1 ⟨rfl,sG,b1⟩;clear CA
 go_wp2_with fail
 refine(ae CB _ b1).mono ?_;rintro e w2 ⟨rfl,wa,b2⟩;clear CB;have Wk:w1.heap.size≠go:=by have:=b1.size;omega
 have b3:=aJ b1 b2;have sG:=sG.next b2;have kF:=b3.size;have CY:=ag (ae CY w2 w.heap.size w1.heap.size X Y b3 sG wa h1 h2 Wk);have HB3:=ag b3;have HS:=ag kF;clear b1 b2 sG wa Wk kF b3
 go_wp2_with fail
 refine(ae CY).mono ?_;rintro e w4 ⟨g,rfl,hg,hB4,M4,T4⟩;have T5:=T4.after (ae HB3) nV;have Mf:Hid (w.heap.size<=g):=ak (ae HS) hg;clear hg;go_wp2
 go_ret2
 exact⟨g,rfl,ae Mf,hB4,M4,T5⟩
end
section
theorem abZ(hp:0<p)(h:(p-1)/2^L*2^L=p-1):Cg p ((cN p L:Int)*((2^L:Nat):Int)) 1:=by
 have h1:=(Cw hp 0 ((p-1)/2^L)).mul (Cg.refl p ((2^L:Nat):Int));refine h1.trans ?_;have e:(((0:Nat):Int)-(((p-1)/2^L:Nat):Int))*((2^L:Nat):Int)= -(((p-1:Nat)):Int):=by
  generalize (p-1)/2^L=a at h ⊢;generalize 2^L=b at h ⊢;have h':((p-1:Nat):Int)=(a:Int)*(b:Int):=by rw[<-h,aG]
  rw[h',gN,Int.zero_sub,Int.neg_mul]
 rw[e];exact⟨-1,by omega⟩
def vr(r N:Nat):Int:=(r:Int)^(N-1)
theorem YN(h:Rt p (r:Int) L):Cg p ((r:Int)*vr r (2^L)) 1:=by
 have h1:=h.one;have e:(r:Int)*vr r (2^L)=(r:Int)^2^L:=by unfold vr;have:=one_le_two_pow L;obtain⟨m,hm⟩:∃m,2^L=m+1:=⟨2^L-1,by omega⟩;rw[hm,gU,fa];rfl
 rw[e];exact h1
theorem e_(h:Rt p (r:Int) L)(a:Nat->Int)(hk:k<2^L):Cg p (px (r:Int) (2^L) a ((2^L-k)%2^L)) (px (vr r (2^L)) (2^L) a k):=by
 refine tS fun j _=>(Cg.refl p (a j)).mul ?_;have hv:=YN h;have afn:=h.one;by_cases e:k=0
 ·subst e;rw[lQ,Nat.mod_self,dO,iz,iz];exact Cg.refl _ _
 ·rw[bc (by omega)]
  -- both are what r to the j k is the other way of
  have h1:Cg p ((r:Int)^(j*(2^L-k))*(r:Int)^(j*k)) 1:=by rw[<-iE, <-aH,show 2^L-k+k=2^L by omega];exact oU afn j
  have h2:=xC hv (j*k);have h3:=(Cg.refl p ((r:Int)^(j*(2^L-k)))).mul h2;rw[gZ]at h3;refine h3.symm.trans ?_;rw[<-Ep];have h4:=h1.mul (Cg.refl p (vr r (2^L)^(j*k)));rwa [g8]at h4
theorem acI(h:Rt p (r:Int) L)(hl:xs.length=2^L)(hk:k<2^L):Cg p (fG (Kf p r L xs) k) ((cN p L:Int)*px (vr r (2^L)) (2^L) (fG xs) k):=by
 have hm:(2^L-k)%2^L<xs.length:=by rw[hl];exact aD _ (by omega)
 have h1:Cg p (fG (Kf p r L xs) k) (fG (fwd p r xs) ((2^L-k)%2^L)*(cN p L:Int)):=by unfold fG;rw[WO p r L xs hk];exact Kq p _ _
 refine h1.trans ?_;rw[fa];refine(Cg.refl p _).mul ((Gp xs hm).trans ?_);rw[hl];exact e_ h _ hk
theorem vT(p r L:Nat)(xs ys:List Nat):(JL p r L xs ys).length=2^L:=Nt p r L _
theorem ab5(hp:0<p)(r L:Nat)(xs ys:List Nat)(k:Nat)(h:k<2^L):(JL p r L xs ys).getD k 0<p:=acJ hp r L _ k h
theorem ab4(hp:0<p)(h:Rt p (r:Int) L)(hd:(p-1)/2^L*2^L=p-1)(hl:xs.length=2^L)(Ad:ys.length=2^L)(hk:k<2^L):Cg p (fG (JL p r L xs ys) k) (cyc (2^L) (fG xs) (fG ys) k):=by
 have hml:(Ku p (fwd p r xs) (fwd p r ys)).length=2^L:=by rw[Kv,iB,hl]
 refine(acI h hml hk).trans ?_;refine Vr h (YN h) (abZ hp hd) (fun i hi=>?_) k hk;have e:fG (Ku p (fwd p r xs) (fwd p r ys)) i=(ml p ((fwd p r xs).getD i 0) ((fwd p r ys).getD i 0):Int):=by unfold fG;rw[aag p _ _ (by rw[iB,hl];exact hi)]
 rw[e];have h1:=Gp (p:=p) (w:=r) xs (k:=i) (by omega);have h2:=Gp (p:=p) (w:=r) ys (k:=i) (by omega);rw[hl]at h1;rw[Ad]at h2;exact(Kq p _ _).trans (h1.mul h2)
theorem rV(zs:List Nat)(h:k<n):(zs.take n).getD k 0=zs.getD k 0:=by rw[aq,aq,iO,aW h]
theorem JM(hp:0<p)(h:Rt p (r:Int) L)(hd:(p-1)/2^L*2^L=p-1)(hx:1<=xs.length)(hy:1<=ys.length)(hn:n+1=xs.length+ys.length)(hN:n<=2^L):(JL p r L (fu (2^L) xs) (fu (2^L) ys)).take n=JE p n xs ys:=by
 refine PY (p:=p) (n:=n) (by rw[cF,vT];omega) (Gi p _ xs ys) (fun k hk=>?_) (fun k _=>JF hp k) fun k hk=>?_
 ·rw[rV _ hk];exact ab5 hp r L _ _ k (by omega)
 ·have e:fG ((JL p r L (fu (2^L) xs) (fu (2^L) ys)).take n) k=fG (JL p r L (fu (2^L) xs) (fu (2^L) ys)) k:=by
   unfold fG;rw[rV _ hk]
  rw[e];exact(ab4 hp h hd (lL _ xs) (lL _ ys) (by omega)).trans (Vm hx hy hn hN k hk).symm
end
section
open Go.RowKit
end
section
open Go.RowKit
theorem qh(a b c hi lo:Nat)(w:World)(ha:a<18446744073709551616)(hb:b<18446744073709551616)(hc:c<18446744073709551616)(h:hi*18446744073709551616+lo=a*b+c)(BH:lo<18446744073709551616):Calls Tryz.prog 222 #[.int .u64 (a:Int),.int .u64 (b:Int),.int .u64 (c:Int)] w fun e w'=>e=.returned (.tuple #[.int .u64 (hi:Int),.int .u64 (lo:Int)])/\w'=w:=by
 have dh:=xU ha hb hc;have C1:=ag (fun w=>nC a b w ha hb);have hT:=aS (a*b) 18446744073709551616;have qk:=aD (a*b) (show 0<18446744073709551616 by omega);generalize a*b/18446744073709551616=h1 at *;generalize a*b%18446744073709551616=l1 at *;generalize a*b=ab at *;have C2:Hid (∀w,Calls Tryz.prog 107 #[.int .u64 (l1:Int),.int .u64 (c:Int),.int .u64 0] w fun e w'=>e=.returned (.tuple #[.int .u64 (((l1+c+0)%18446744073709551616:Nat):Int),.int .u64 (((l1+c+0)/18446744073709551616:Nat):Int)])/\w'=w):=fun w=>lN l1 c 0 0 w (.inl ⟨rfl,rfl⟩);have hT2:=aS (l1+c+0) 18446744073709551616;have uF:=aD (l1+c+0) (show 0<18446744073709551616 by omega);generalize (l1+c+0)/18446744073709551616=k at *;generalize (l1+c+0)%18446744073709551616=l2 at *;have e1:l2=lo:=by omega
 have e2:(h1:Int)+(k:Int)=(hi:Int):=by omega
 have e3:IntKind.u64.wrap (hi:Int)=(hi:Int):=by rw[aK];omega
 subst e1;clear ha hb hc h BH dh hT qk hT2 uF;go_enter Tryz.func222,Tryz.ntmps222
 go_wp2_with fail
 refine(ae C1 _).mono ?_;rintro e w1 ⟨rfl,hw⟩;obtain rfl:=hw.symm;clear hw
 go_wp2_with fail
 refine(ae C2 _).mono ?_;rintro e w1 ⟨rfl,hw⟩;obtain rfl:=hw.symm;clear hw;go_wp2
 go_ret2
 exact⟨rfl,rfl⟩
theorem Cc(hp:MW w gp p)(hq:MW w gq q)(hg:Nat.gcd p q=1):Calls Tryz.prog 220 #[.pointer (some ⟨gp,0,none⟩),.pointer (some ⟨gq,0,none⟩)] w fun e w'=>∃v,e=.returned (.int .u64 (ml q v 18446744073709551616:Int))/\ml q p v=1/\Below w.heap.size w w':=by
 have CP:=ag (tN hp);have CI:=ag (N' hq p);have CM:=ag (fun w' (b:Below w.heap.size w w') v=>oT (hq.next b) v);clear hp hq;generalize hF:(fun v=>ml q v 18446744073709551616)=F at *;have CM:Hid (∀w' (_:Below w.heap.size w w') (v:Nat),Calls Tryz.prog 217 #[.pointer (some ⟨gq,0,none⟩),.int .u64 (v:Int)] w' fun e sP=>e=.returned (.int .u64 (F v:Int))/\sP=w'):=by rw[<-hF];exact ae CM
 have HF:Hid (∀v,F v=ml q v 18446744073709551616):=by rw[<-hF];intro v;rfl
 clear hF;go_enter Tryz.func220,Tryz.ntmps220
 go_wp2_with fail
 refine(ae CP).mono ?_;rintro e w1 ⟨rfl,hw⟩;obtain rfl:=hw.symm;clear hw
 go_wp2_with fail
 refine(ae CI).mono ?_;rintro e w1 ⟨v,rfl,hv,b1⟩;rcases hv with⟨_,x,hx,h1,rfl⟩|⟨hn,_⟩
 ·have CM:=ag (ae CM w1 b1 x);clear CP CI
  go_wp2_with fail
  refine(ae CM).mono ?_;rintro e w2 ⟨rfl,hw⟩;obtain rfl:=hw.symm;clear hw;go_wp2;go_ret;exact⟨x,bY (by rw[ae HF x]),h1,b1⟩
 ·exact absurd hg hn
structure GS(w:World)(g gp gq gr v v2 v3:Nat):Prop where
 c0:w.cell? ⟨g,0,none⟩=some (.pointer (some ⟨gp,0,none⟩))
 c1:w.cell? ⟨g,1,none⟩=some (.pointer (some ⟨gq,0,none⟩))
 c2:w.cell? ⟨g,2,none⟩=some (.pointer (some ⟨gr,0,none⟩))
 c3:w.cell? ⟨g,3,none⟩=some (.int .u64 (ml kA v 18446744073709551616:Int))
 c4:w.cell? ⟨g,4,none⟩=some (.int .u64 (ml iI v2 18446744073709551616:Int))
 c5:w.cell? ⟨g,5,none⟩=some (.int .u64 (ml iI v3 18446744073709551616:Int))
 mp:MW w gp lk
 mq:MW w gq kA
 mr:MW w gr iI
 i1:ml kA lk v=1
 i2:ml iI lk v2=1
 i3:ml iI kA v3=1
theorem GS.lt{v3:Nat}(h:GS w g gp gq gr v v2 v3):g<w.heap.size:=aw _ _ h.c0
theorem GS.next{v3:Nat}(h:GS w g gp gq gr v v2 v3)(b:Below w.heap.size w w'):GS w' g gp gq gr v v2 v3:=
 ⟨(b.cell (p:=⟨g,0,none⟩) h.lt).trans h.c0,(b.cell (p:=⟨g,1,none⟩) h.lt).trans h.c1,(b.cell (p:=⟨g,2,none⟩) h.lt).trans h.c2,(b.cell (p:=⟨g,3,none⟩) h.lt).trans h.c3,(b.cell (p:=⟨g,4,none⟩) h.lt).trans h.c4,(b.cell (p:=⟨g,5,none⟩) h.lt).trans h.c5,h.mp.next b,h.mq.next b,h.mr.next b,h.i1,h.i2,h.i3⟩
theorem adN:Nat.gcd lk kA=1:=by decide+kernel
theorem adO:Nat.gcd lk iI=1:=by decide+kernel
theorem adP:Nat.gcd kA iI=1:=by decide+kernel
theorem D8(w:World):Calls Tryz.prog 196 #[] w fun e w'=>∃g gp gq gr v v2 v3,e=.returned (.pointer (some ⟨g,0,none⟩))/\GS w' g gp gq gr v v2 v3/\Below w.heap.size w w':=by
 have C3:=ag (fun w=>ss w);have N0:Hid (∀w,Calls Tryz.prog 211 #[.int .u64 180143985094819841] w fun e w'=>∃g,e=.returned (.tuple #[.pointer (some ⟨g,0,none⟩),.int .i64 0])/\MW w' g lk/\w.heap.size<=g/\Below w.heap.size w w'):=fun w=>oR lk w (by decide) (by decide) (by decide);have N1:Hid (∀w,Calls Tryz.prog 211 #[.int .u64 1945555039024054273] w fun e w'=>∃g,e=.returned (.tuple #[.pointer (some ⟨g,0,none⟩),.int .i64 0])/\MW w' g kA/\w.heap.size<=g/\Below w.heap.size w w'):=fun w=>oR kA w (by decide) (by decide) (by decide);have N2:Hid (∀w,Calls Tryz.prog 211 #[.int .u64 4179340454199820289] w fun e w'=>∃g,e=.returned (.tuple #[.pointer (some ⟨g,0,none⟩),.int .i64 0])/\MW w' g iI/\w.heap.size<=g/\Below w.heap.size w w'):=fun w=>oR iI w (by decide) (by decide) (by decide);go_enter Tryz.func196,Tryz.ntmps196
 go_wp2_with fail
 refine(ae C3 _).mono ?_;rintro e w1 ⟨rfl,b⟩;have hk:=aI w1 (.cells #[.int .u64 180143985094819841,.int .i64 55,.int .u64 6,.int .u64 1945555039024054273,.int .i64 56,.int .u64 5,.int .u64 4179340454199820289,.int .i64 57,.int .u64 3] 233);have bl:=b.alloc b.size (.cells #[.int .u64 180143985094819841,.int .i64 55,.int .u64 6,.int .u64 1945555039024054273,.int .i64 56,.int .u64 5,.int .u64 4179340454199820289,.int .i64 57,.int .u64 3] 233);obtain⟨W1,mP⟩:∃W1,w1.alloc (.cells #[.int .u64 180143985094819841,.int .i64 55,.int .u64 6,.int .u64 1945555039024054273,.int .i64 56,.int .u64 5,.int .u64 4179340454199820289,.int .i64 57,.int .u64 3] 233)=W1:=⟨_,rfl⟩;rw[mP]at hk bl;obtain⟨G,hG⟩:∃G,w1.heap.size=G:=⟨_,rfl⟩;rw[hG]at hk;have c0:W1.cell? ⟨G,0,none⟩=some (.int .u64 180143985094819841):=ay _ G 0 _ _ (0,0) hk;have c3:W1.cell? ⟨G,3,none⟩=some (.int .u64 1945555039024054273):=ay _ G 3 _ _ (0,0) hk;have c6:W1.cell? ⟨G,6,none⟩=some (.int .u64 4179340454199820289):=ay _ G 6 _ _ (0,0) hk;have gl:Hid (G<W1.heap.size):=aw _ _ c0;have bl:=ag bl;have B1:=ag (aj W1.heap.size W1);have D3:Hid (∀W,Below W1.heap.size W1 W->W.cell? ⟨G,3,none⟩=some (.int .u64 1945555039024054273)):=fun W b=>(b.cell (p:=⟨G,3,none⟩) (ae gl)).trans c3;have D6:Hid (∀W,Below W1.heap.size W1 W->W.cell? ⟨G,6,none⟩=some (.int .u64 4179340454199820289)):=fun W b=>(b.cell (p:=⟨G,6,none⟩) (ae gl)).trans c6;clear C3 b hk c3 c6 gl
 go_wp2_with fail
 refine(ae N0 _).mono ?_;rintro e w2 ⟨gp,rfl,mp,_,b⟩;have bl:=ag (aJ (ae bl) b);have B1:=ag (aJ (ae B1) b);have c3:=ae D3 _ (ae B1);clear N0 b c0 mP hG
 go_wp2_with fail
 refine(ae N1 _).mono ?_;rintro e w3 ⟨gq,rfl,mq,_,b⟩;have bl:=ag (aJ (ae bl) b);have mp:=mp.next b;have B1:=ag (aJ (ae B1) b);have c6:=ae D6 _ (ae B1);clear N1 b c3 D3
 go_wp2_with fail
 refine(ae N2 _).mono ?_;rintro e w4 ⟨gr,rfl,mr,_,b⟩;have bl:=ag (aJ (ae bl) b);have mp:=mp.next b;have mq:=mq.next b;clear N2 b c6 D6
 go_wp2_with fail
 refine(Cc mp mq adN).mono ?_;rintro e w5 ⟨v,rfl,i1,b⟩;have bl:=ag (aJ (ae bl) b);have mp:=mp.next b;have mq:=mq.next b;have mr:=mr.next b;have I1:=ag i1;clear b i1
 go_wp2_with fail
 refine(Cc mp mr adO).mono ?_;rintro e w6 ⟨v2,rfl,i2,b⟩;have bl:=ag (aJ (ae bl) b);have mp:=mp.next b;have mq:=mq.next b;have mr:=mr.next b;have I2:=ag i2;clear b i2
 go_wp2_with fail
 refine(Cc mq mr adP).mono ?_;rintro e w7 ⟨v3,rfl,i3,b⟩;have bl:=ag (aJ (ae bl) b);have mp:=ag (mp.next b);have mq:=ag (mq.next b);have mr:=ag (mr.next b);have I3:=ag i3;clear b i3;obtain⟨m1,h1⟩:∃m,m=ml kA v 18446744073709551616:=⟨_,rfl⟩;obtain⟨m2,h2⟩:∃m,m=ml iI v2 18446744073709551616:=⟨_,rfl⟩;obtain⟨m3,h3⟩:∃m,m=ml iI v3 18446744073709551616:=⟨_,rfl⟩;rw[<-h1, <-h2, <-h3];have H1:=ag h1;have H2:=ag h2;have H3:=ag h3;clear h1 h2 h3;go_wp2;go_ret;have hk:=aI w7 (.cells #[.pointer (some ⟨gp,0,none⟩),.pointer (some ⟨gq,0,none⟩),.pointer (some ⟨gr,0,none⟩),.int .u64 (m1:Int),.int .u64 (m2:Int),.int .u64 (m3:Int)] 266);have zF:Below w7.heap.size w7 (w7.alloc (.cells #[.pointer (some ⟨gp,0,none⟩),.pointer (some ⟨gq,0,none⟩),.pointer (some ⟨gr,0,none⟩),.int .u64 (m1:Int),.int .u64 (m2:Int),.int .u64 (m3:Int)] 266)):=(aj _ _).alloc (af _) _;refine⟨w7.heap.size,gp,gq,gr,v,v2,v3,rfl,⟨ay _ w7.heap.size 0 _ _ (0,0) hk,ay _ w7.heap.size 1 _ _ (0,0) hk,ay _ w7.heap.size 2 _ _ (0,0) hk,?_,?_,?_,(ae mp).next zF,(ae mq).next zF,(ae mr).next zF,ae I1,ae I2,ae I3⟩,aJ (ae bl) zF⟩
 ·rw[<-ae H1];exact ay _ w7.heap.size 3 _ _ (0,0) hk
 ·rw[<-ae H2];exact ay _ w7.heap.size 4 _ _ (0,0) hk
 ·rw[<-ae H3];exact ay _ w7.heap.size 5 _ _ (0,0) hk
theorem Yz:lk<18446744073709551616/\kA<18446744073709551616/\iI<18446744073709551616:=by decide
theorem zm(n:Nat):n/18446744073709551616*18446744073709551616+n%18446744073709551616=n:=by have:=aS n 18446744073709551616;omega
def Ms(r0 r1 r2 t0 t1 t2:Nat):Prop:=t0<18446744073709551616/\t1<18446744073709551616/\t2<18446744073709551616/\v3 t0 t1 t2%lk=r0%lk/\v3 t0 t1 t2%kA=r1%kA/\v3 t0 t1 t2%iI=r2%iI/\v3 t0 t1 t2<lk*kA*iI
theorem NK(h:GS w g gp gq gr v v2 TL)(r0 r1 r2:Nat):Calls Tryz.prog 197 #[.pointer (some ⟨g,0,none⟩),.int .u64 (r0:Int),.int .u64 (r1:Int),.int .u64 (r2:Int)] w fun e w'=>∃t0 t1 t2:Nat,e=.returned (.agg #[.int .u64 (t0:Int),.int .u64 (t1:Int),.int .u64 (t2:Int)])/\Ms r0 r1 r2 t0 t1 t2/\Below w.heap.size w w':=by
 obtain⟨l0,l1,l2⟩:=Yz;have hx:=abg r0;have hy:=abh r0 r1 v;have hz:=abi r0 r1 r2 v v2 TL;have G0:=aeW r0 r1 r2 v v2 TL;have G1:=aeX (r0:=r0) (r1:=r1) (r2:=r2) (v2:=v2) (v3:=TL) h.i1;have G2:=aeY (r0:=r0) (r1:=r1) (r2:=r2) (v:=v) h.i2 h.i3;have G3:=adQ r0 r1 r2 v v2 TL;unfold gn at G0 G1 G2 G3;have CR:Hid (∀W,Below w.heap.size w W->Calls Tryz.prog 215 #[.pointer (some ⟨gp,0,none⟩),.int .u64 (r0:Int)] W fun e w'=>e=.returned (.int .u64 (gx r0:Int))/\w'=W):=fun W b=>rP (h.mp.next b) r0;have Zr:=ag (fun W (b:Below w.heap.size w W)=>rU (h.mq.next b) r1 (gx r0));have CM1:Hid (∀W,Below w.heap.size w W->Calls Tryz.prog 219 #[.pointer (some ⟨gq,0,none⟩),.int .u64 (sb kA r1 (gx r0):Int),.int .u64 (ml kA v 18446744073709551616:Int)] W fun e w'=>e=.returned (.int .u64 (gy r0 r1 v:Int))/\w'=W):=fun W b=>by have:=gT (h.mq.next b) (sb kA r1 (gx r0)) (ml kA v 18446744073709551616);rw[Xf _ _ (by decide) l1]at this;exact this
 have CS2:=ag (fun W (b:Below w.heap.size w W)=>rU (h.mr.next b) r2 (gx r0));have CM2:Hid (∀W,Below w.heap.size w W->Calls Tryz.prog 219 #[.pointer (some ⟨gr,0,none⟩),.int .u64 (sb iI r2 (gx r0):Int),.int .u64 (ml iI v2 18446744073709551616:Int)] W fun e w'=>e=.returned (.int .u64 (ml iI (sb iI r2 (gx r0)) v2:Int))/\w'=W):=fun W b=>by have:=gT (h.mr.next b) (sb iI r2 (gx r0)) (ml iI v2 18446744073709551616);rw[Xf _ _ (by decide) l2]at this;exact this
 have CS3:=ag (fun W (b:Below w.heap.size w W)=>rU (h.mr.next b) (ml iI (sb iI r2 (gx r0)) v2) (gy r0 r1 v));have CM3:Hid (∀W,Below w.heap.size w W->Calls Tryz.prog 219 #[.pointer (some ⟨gr,0,none⟩),.int .u64 (sb iI (ml iI (sb iI r2 (gx r0)) v2) (gy r0 r1 v):Int),.int .u64 (ml iI TL 18446744073709551616:Int)] W fun e w'=>e=.returned (.int .u64 (gz r0 r1 r2 v v2 TL:Int))/\w'=W):=fun W b=>by have:=gT (h.mr.next b) (sb iI (ml iI (sb iI r2 (gx r0)) v2) (gy r0 r1 v)) (ml iI TL 18446744073709551616);rw[Xf _ _ (by decide) l2]at this;exact this
 have CPq:=ag (fun W (b:Below w.heap.size w W)=>tN (h.mq.next b));have CPp:=ag (fun W (b:Below w.heap.size w W)=>tN (h.mp.next b));have D0:=ag (fun W (b:Below w.heap.size w W)=>(h.next b).c0);have D1:=ag (fun W (b:Below w.heap.size w W)=>(h.next b).c1);have D2:=ag (fun W (b:Below w.heap.size w W)=>(h.next b).c2);have D3:=ag (fun W (b:Below w.heap.size w W)=>(h.next b).c3);have D4:=ag (fun W (b:Below w.heap.size w W)=>(h.next b).c4);have D5:=ag (fun W (b:Below w.heap.size w W)=>(h.next b).c5);clear h;generalize sb iI (ml iI (sb iI r2 (gx r0)) v2) (gy r0 r1 v)=s3 at *;generalize ml iI (sb iI r2 (gx r0)) v2=rest at *;generalize sb iI r2 (gx r0)=s2 at *;generalize sb kA r1 (gx r0)=s1 at *;generalize ml kA v 18446744073709551616=m1 at *;generalize ml iI v2 18446744073709551616=m2 at *;generalize ml iI TL 18446744073709551616=m3 at *;generalize gz r0 r1 r2 v v2 TL=z at *;generalize gy r0 r1 v=y at *;generalize gx r0=x at *;have E1:=zm (z*kA+y);have L1:=aD (z*kA+y) (show 0<18446744073709551616 by omega);generalize (z*kA+y)/18446744073709551616=hi at *;generalize (z*kA+y)%18446744073709551616=lo at *;have E2:=zm (lo*lk+x);have L2:=aD (lo*lk+x) (show 0<18446744073709551616 by omega);generalize (lo*lk+x)/18446744073709551616=mid at *;generalize (lo*lk+x)%18446744073709551616=w0 at *;have E3:=zm (hi*lk+mid);have L3:=aD (hi*lk+mid) (show 0<18446744073709551616 by omega);generalize (hi*lk+mid)/18446744073709551616=t2 at *;generalize (hi*lk+mid)%18446744073709551616=t1 at *;have Ka:hi<18446744073709551616:=by have:=xU (a:=z) (b:=kA) (c:=y) (by omega) l1 (by omega);omega
 have acy:mid<18446744073709551616:=by have:=xU (a:=lo) (b:=lk) (c:=x) L1 l0 (by omega);omega
 have E8:t2<18446744073709551616:=by have:=xU (a:=hi) (b:=lk) (c:=mid) Ka l0 acy;omega
 have EW:=YS E1 E2 E3;have CT1:=ag (fun w=>qh z kA y hi lo w (by omega) l1 (by omega) E1 L1);have CT2:=ag (fun w=>qh lo lk x mid w0 w L1 l0 (by omega) E2 L2);have CT3:=ag (fun w=>qh hi lk mid t2 t1 w Ka l0 acy E3 L3);have ANS:Hid (Ms r0 r1 r2 w0 t1 t2):=by show Ms r0 r1 r2 w0 t1 t2;rw[<-EW]at G0 G1 G2 G3;exact⟨L2,L3,E8,G0,G1,G2,G3⟩
 clear E1 E2 E3 L1 L2 L3 EW G0 G1 G2 G3 hx hy hz Ka acy E8 l0 l1 l2;generalize lk=P0 at *;generalize kA=P1 at *;generalize iI=P2 at *;have bl:=(aj w.heap.size w).alloc (af _) (.cells #[.int .u64 0,.int .u64 0,.int .u64 0] 243);have hk:=aI w (.cells #[.int .u64 0,.int .u64 0,.int .u64 0] 243);obtain⟨W1,mP⟩:∃W1,w.alloc (.cells #[.int .u64 0,.int .u64 0,.int .u64 0] 243)=W1:=⟨_,rfl⟩;rw[mP]at hk bl;obtain⟨G,hG⟩:∃G,w.heap.size=G:=⟨_,rfl⟩;rw[hG]at hk;have c0:=ae D0 _ bl;have CR:=ag (ae CR _ bl);have B1:=ag (aj W1.heap.size W1);have HG:Hid (w.heap.size<=G):=gV hG;have HK:Hid (∀W,Below W1.heap.size W1 W->(W.cell? ⟨G,0,none⟩=some (.int .u64 0)/\W.cell? ⟨G,1,none⟩=some (.int .u64 0)/\W.cell? ⟨G,2,none⟩=some (.int .u64 0))/\W.frozen? ⟨G,0,none⟩=false/\W.frozen? ⟨G,1,none⟩=false/\W.frozen? ⟨G,2,none⟩=false):=fun W b=>by have hk':=(b.block G (ah.1 hk).1).trans hk;exact⟨⟨ay _ G 0 _ _ (0,0) hk',ay _ G 1 _ _ (0,0) hk',ay _ G 2 _ _ (0,0) hk'⟩,bZ _ G 0 _ _ hk',bZ _ G 1 _ _ hk',bZ _ G 2 _ _ hk'⟩
 go_enter Tryz.func197,Tryz.ntmps197
 go_wp2_with fail
 refine(ae CR).mono ?_;rintro e w1 ⟨rfl,hw⟩;obtain rfl:=hw.symm;clear hw CR c0 mP hG hk;have y1:=Old.cell (ae D1 _ bl);have y2:=Old.cell (ae D3 _ bl);have inst:=gM W1;have CS:Hid (∀u:Old W1,_):=fun u=>ae Zr u.val (aJ bl u.jD);have CM:Hid (∀u:Old W1,_):=fun u=>ae CM1 u.val (aJ bl u.jD);have BL:=ag bl;clear bl Zr CM1
 go_wp2_with fail
 refine fo (by kernel_rfl) (by kernel_rfl) ?_
 repeat (go_big_quiet_step (first|(go_at_call 221;exact Calls.gj (ae CS _))|(go_at_call 219;exact Calls.gj (ae CM _))))
 refine wpQuiet_nil ?_;intro w5 tH;obtain⟨u,rfl⟩:=tH;have bl:=aJ (ae BL) u.jD;have B1:=ag (aJ (ae B1) u.jD);generalize u.val=w2 at *;clear u y1 y2 inst CS CM BL;have y1:=Old.cell (ae D2 _ bl);have y2:=Old.cell (ae D4 _ bl);have inst:=gM w2;have CS:Hid (∀u:Old w2,_):=fun u=>ae CS2 u.val (aJ bl u.jD);have CM:Hid (∀u:Old w2,_):=fun u=>ae CM2 u.val (aJ bl u.jD);have BL:=ag bl;clear bl CS2 CM2
 go_wp2_with fail
 refine fo (by kernel_rfl) (by kernel_rfl) ?_
 repeat (go_big_quiet_step (first|(go_at_call 221;exact Calls.gj (ae CS _))|(go_at_call 219;exact Calls.gj (ae CM _))))
 refine wpQuiet_nil ?_;intro w5 tH;obtain⟨u,rfl⟩:=tH;have bl:=aJ (ae BL) u.jD;have B1:=ag (aJ (ae B1) u.jD);generalize u.val=w3 at *;clear u y1 y2 inst CS CM BL;have y1:=Old.cell (ae D2 _ bl);have y2:=Old.cell (ae D5 _ bl);have inst:=gM w3;have CS:Hid (∀u:Old w3,_):=fun u=>ae CS3 u.val (aJ bl u.jD);have CM:Hid (∀u:Old w3,_):=fun u=>ae CM3 u.val (aJ bl u.jD);have BL:=ag bl;clear bl CS3 CM3
 go_wp2_with fail
 refine fo (by kernel_rfl) (by kernel_rfl) ?_
 repeat (go_big_quiet_step (first|(go_at_call 221;exact Calls.gj (ae CS _))|(go_at_call 219;exact Calls.gj (ae CM _))))
 refine wpQuiet_nil ?_;intro w5 tH;obtain⟨u,rfl⟩:=tH;have bl:=aJ (ae BL) u.jD;have B1:=ag (aJ (ae B1) u.jD);generalize u.val=w4 at *;clear u y1 y2 inst CS CM BL;have y1:=ae D1 _ bl
 go_wp2_with fail
 refine(ae CPq _ bl).mono ?_;rintro e w5 ⟨rfl,hw⟩;obtain rfl:=hw.symm;clear hw y1
 go_wp2_with fail
 refine(ae CT1 _).mono ?_;rintro e w5 ⟨rfl,hw⟩;obtain rfl:=hw.symm;clear hw;have y1:=ae D0 _ bl
 go_wp2_with fail
 refine(ae CPp _ bl).mono ?_;rintro e w5 ⟨rfl,hw⟩;obtain rfl:=hw.symm;clear hw y1
 go_wp2_with fail
 refine(ae CT2 _).mono ?_;rintro e w5 ⟨rfl,hw⟩;obtain rfl:=hw.symm;clear hw;have y1:=ae D0 _ bl
 go_wp2_with fail
 refine(ae CPp _ bl).mono ?_;rintro e w5 ⟨rfl,hw⟩;obtain rfl:=hw.symm;clear hw y1
 go_wp2_with fail
 refine(ae CT3 _).mono ?_;rintro e w5 ⟨rfl,hw⟩;obtain rfl:=hw.symm;clear hw;obtain⟨⟨z0,z1,z2⟩,f0,f1,f2⟩:=ae HK _ (ae B1);have BL:=ag bl;clear bl;go_wp2;refine dR (v:=.agg #[.int .u64 (w0:Int),.int .u64 (t1:Int),.int .u64 (t2:Int)]) (by simp[results,Tryz.results197,go_sem,z0,z1,z2]) rfl ⟨w0,t1,t2,rfl,ae ANS,?_⟩;exact(((ae BL).setCell (p:=⟨G,0,none⟩) (ae HG) _).setCell (p:=⟨G,1,none⟩) (ae HG) _).setCell (p:=⟨G,2,none⟩) (ae HG) _
end
section
theorem xT(n:Nat)(f:Nat->Nat):((sN n f:Nat):Int)=sI n fun i=>(f i:Int):=by
 induction n with
 |zero=>rfl
 |succ n ih=>show((sN n f+f n:Nat):Int)=sI n _+_;rw[fL,ih]
def cs(xs ys:List Nat)(k:Nat):Nat:=sN xs.length fun i=>sN ys.length fun j=>if i+j=k then xs.getD i 0*ys.getD j 0 else 0
theorem adH(hx:bG xs)(hy:bG ys)(k:Nat):cs xs ys k<=xs.length*(18446744073709551615*18446744073709551615):=by
 refine aev fun i _=>?_;refine aaD (i:=k-i) (fun j _ hj=>?_) fun _=>?_
 ·split
  ·omega
  ·rfl
 ·split
  ·have h1:=hx i;have h2:=hy (k-i);exact aP (by omega) (by omega)
  ·exact aO _
theorem abe(hx:bG xs)(hy:bG ys)(hl:xs.length<=1048576)(k:Nat):cs xs ys k<lk*kA*iI:=by refine aN (ak (adH hx hy k) (ax _ hl)) ?_;decide+kernel
theorem O7(hp:0<p)(hn:n+1=xs.length+ys.length)(hk:k<n):(JE p n xs ys).getD k 0=cs xs ys k%p:=by
 refine Cg.eq ?_ (JF hp k) (aD _ hp);refine(Bl (p:=p) (xs:=xs) (ys:=ys) (by omega) k hk xs.length).trans ?_;refine Cg.trans (Cg.of_eq ?_) (Cg.mod p _).symm;unfold cs;rw[xT];refine dM fun i hi=>?_;rw[xT];refine dM fun j hj=>?_;rw[bc (show i+j<n by omega)];by_cases e:i+j=k
 ·rw[aW e,aW e,aG];rfl
 ·rw[aV e,aV e];rfl
theorem LV(xs:List Nat):(aB xs:Int)=sI xs.length fun i=>fG xs i*(18446744073709551616:Int)^i:=by
 have key:∀k,(aB (xs.take k):Int)=sI k fun i=>fG xs i*(18446744073709551616:Int)^i:=by
  intro k;induction k with
  |zero=>rfl
  |succ k ih=>
   rw[cQ,fL,ih,aG,km,fa];rfl
 have:=key xs.length;rwa [cf]at this
theorem JI(hn:n+1=xs.length+ys.length):(sN n fun k=>cs xs ys k*18446744073709551616^k)=aB xs*aB ys:=by
 apply Int.ofNat.inj;show((sN n fun k=>cs xs ys k*18446744073709551616^k:Nat):Int)=((aB xs*aB ys:Nat):Int);rw[xT,aG,LV xs,LV ys];have e1:(sI n fun k=>((cs xs ys k*18446744073709551616^k:Nat):Int))=sI n fun k=>sI xs.length fun i=>sI ys.length fun j=>if k=i+j then fG xs i*fG ys j*(18446744073709551616:Int)^(i+j) else 0:=by
  refine dM fun k _=>?_;rw[aG,km];unfold cs;rw[xT,fa, <-o8];refine dM fun i _=>?_;rw[xT, <-o8];refine dM fun j _=>?_;by_cases e:i+j=k
  ·rw[aW e,aW e.symm,aG,fa,e];rfl
  ·rw[aV e,aV (fun h=>e h.symm)];exact yB _
 rw[e1,xQ];have e2:(sI xs.length fun i=>fG xs i*(18446744073709551616:Int)^i)*(sI ys.length fun j=>fG ys j*(18446744073709551616:Int)^j)=sI xs.length fun i=>sI ys.length fun j=>fG xs i*fG ys j*(18446744073709551616:Int)^(i+j):=by
  rw[fa, <-o8];refine dM fun i _=>?_;rw[fa, <-o8];refine dM fun j _=>?_;rw[iE]
  grind
 rw[e2];refine dM fun i hi=>?_;rw[xQ];refine dM fun j hj=>?_;exact Hz n (i+j) _ (by omega)
end
section
open Go.RowKit
theorem Tryz.M_:(Tryz.prog.info? 243).map (fun i=>(i.zero,i.size,i.bytes))=some (some (.agg #[.int .u64 0,.int .u64 0,.int .u64 0]),3,24):=by kernel_rfl
theorem WL:∃i:TypeInfo,Tryz.prog.info? 243=some i/\i.zero=some (.agg #[.int .u64 0,.int .u64 0,.int .u64 0])/\i.size=3/\i.bytes=24:=by
 have h:=Tryz.M_;cases hi:Tryz.prog.info? 243 with
 |none=>rw[hi]at h;cases h
 |some i=>
  rw[hi]at h;simp at h;exact⟨i,rfl,h.1,h.2.1,h.2.2⟩
theorem Xc(n:Nat):madeCells (Value.agg #[.int .u64 0,.int .u64 0,.int .u64 0]).cells n=(dS n).toArray:=by
 have e:(Value.agg #[.int .u64 0,.int .u64 0,.int .u64 0]).cells=#[Value.int .u64 0,Value.int .u64 0,Value.int .u64 0]:=rfl;rw[e];unfold madeCells dS;apply Array.ext
 ·simp[cellsOf]
 ·intro i h1 h2;simp[cellsOf];have h3:i%3<3:=aD _ (by decide);have:i%3=0\/i%3=1\/i%3=2:=by omega
  rcases this with h|h|h<;>rw[h]<;>rfl
theorem Xd(n:Nat)(hb:n<=2097152):∀w,(Instr.makeSlice 211 (.int .i64 (n:Int)) (.int .i64 (n:Int))).run Tryz.prog w=.ok (.slice (some ⟨w.heap.size,0,none⟩) n n) (w.alloc (.cells (dS (n*3)).toArray 243)):=fun w=>by
 obtain⟨i0,hi,jx,gY,fX⟩:=WL;have h:=Fv (P:=Tryz.prog) w 211 243 i0 (.agg #[.int .u64 0,.int .u64 0,.int .u64 0]) Tryz.underlying211 hi jx .i64 .i64 (n:Int) (n:Int) (by omega) (by omega) (by rw[fX];omega) (by omega);rw[h];have e1:((n:Int)).toNat=n:=by omega
 rw[e1,gY,Xc]
def vN(w:World)(g:Nat)(zs:List Nat):Prop:=w.heap[g]?=some (.cells (cellsOf zs).toArray 243 (0,0))
theorem vN.lt(h:vN w g zs):g<w.heap.size:=(ah.1 h).1
theorem vN.cell(h:vN w g zs)(j:Nat)(hj:j<zs.length):w.cell? ⟨g,j,none⟩=some (.int .u64 ((zs.getD j 0:Nat):Int)):=by rw[ay w g j _ _ (0,0) h];simp[cellsOf,hj]
theorem vN.frozen(h:vN w g zs)(j:Nat):w.frozen? ⟨g,j,none⟩=false:=bZ w g j _ _ h
theorem vN.set(h:vN w g zs)(k d:Nat):vN (w.setCell ⟨g,k,none⟩ (.int .u64 ((d:Nat):Int))) g (zs.set k d):=by have:=jC w g k _ _ (.int .u64 ((d:Nat):Int)) h;show _=_;rw[this];simp[cellsOf,List.map_set]
theorem vN.next(h:vN w g zs)(hb:Below w.heap.size w w'):vN w' g zs:=(hb.block g h.lt).trans h
def DK(T:Nat->Nat)(zs:List Nat)(k:Nat):Prop:=∀j,j<k->∃t0 t1 t2:Nat,t0<18446744073709551616/\t1<18446744073709551616/\t2<18446744073709551616/\v3 t0 t1 t2=T j/\zs.getD (j*3) 0=t0/\zs.getD (j*3+1) 0=t1/\zs.getD (j*3+2) 0=t2
theorem DK.start(T:Nat->Nat)(zs:List Nat):DK T zs 0:=fun _ h=>absurd h (by omega)
theorem Ie(zs:List Nat)(k t0 t1 t2 j:Nat)(hl:k*3+2<zs.length):(((zs.set (k*3) t0).set (k*3+1) t1).set (k*3+2) t2).getD j 0=if j=k*3 then t0 else if j=k*3+1 then t1 else if j=k*3+2 then t2 else zs.getD j 0:=by
 rw[aq,vz,vz,vz];simp only[List.length_set];by_cases h2:k*3+2=j
 ·subst h2;rw[aW rfl,aW hl,aV (by omega),aV (by omega),aW rfl];rfl
 ·rw[aV h2];by_cases h1:k*3+1=j
  ·subst h1;rw[aW rfl,aW (by omega),aV (by omega),aW rfl];rfl
  ·rw[aV h1];by_cases h0:k*3=j
   ·subst h0;rw[aW rfl,aW (by omega),aW rfl];rfl
   ·rw[aV h0,aV (fun h=>h0 h.symm),aV (fun h=>h1 h.symm),aV (fun h=>h2 h.symm),aq]
theorem DK.step(h:DK T zs k)(hl:k*3+2<zs.length)(a0:t0<18446744073709551616)(a1:t1<18446744073709551616)(a2:t2<18446744073709551616)(e:v3 t0 t1 t2=T k):DK T (((zs.set (k*3) t0).set (k*3+1) t1).set (k*3+2) t2) (k+1):=fun j hj=>by
 rw[Ie _ _ _ _ _ _ hl,Ie _ _ _ _ _ _ hl,Ie _ _ _ _ _ _ hl];by_cases hjk:j=k
 ·subst hjk;refine⟨t0,t1,t2,a0,a1,a2,e,aW rfl,?_,?_⟩
  ·rw[aV (by omega),aW rfl]
  ·rw[aV (by omega),aV (by omega),aW rfl]
 ·obtain⟨s0,s1,s2,b0,b1,b2,e',c0,c1,c2⟩:=h j (by omega);refine⟨s0,s1,s2,b0,b1,b2,e',?_,?_,?_⟩
  ·rw[aV (by omega),aV (by omega),aV (by omega)];exact c0
  ·rw[aV (by omega),aV (by omega),aV (by omega)];exact c1
  ·rw[aV (by omega),aV (by omega),aV (by omega)];exact c2
theorem DK.YB(h:DK T zs n)(hB:vN w g zs)(hl:zs.length=n*3):qt w g n T:=fun k hk=>by
 obtain⟨t0,t1,t2,a0,a1,a2,e,c0,c1,c2⟩:=h k hk;refine⟨t0,t1,t2,a0,a1,a2,e,?_,?_,?_⟩
 ·rw[hB.cell _ (by omega),c0]
 ·rw[hB.cell _ (by omega),c1]
 ·rw[hB.cell _ (by omega),c2]
structure adD(r0 r1 r2 n:Nat):Prop where
 m0:n%lk=r0%lk
 m1:n%kA=r1%kA
 m2:n%iI=r2%iI
 lt:n<lk*kA*iI
def d0(n:Nat):Nat:=n%18446744073709551616
def d1(n:Nat):Nat:=n/18446744073709551616%18446744073709551616
def d2(n:Nat):Nat:=n/18446744073709551616/18446744073709551616
theorem YH(h0:t0<18446744073709551616)(h1:t1<18446744073709551616)(h:v3 t0 t1 t2=n):t0=d0 n/\t1=d1 n/\t2=d2 n:=by subst h;unfold v3 d0 d1 d2;refine⟨?_,?_,?_⟩<;>omega
theorem b_(n:Nat)(h:n<lk*kA*iI):d0 n<18446744073709551616/\d1 n<18446744073709551616/\d2 n<18446744073709551616/\v3 (d0 n) (d1 n) (d2 n)=n:=by
 have hb:lk*kA*iI<18446744073709551616*(18446744073709551616*18446744073709551616):=by decide+kernel
 have hn:=jY h hb;clear h hb;unfold d0 d1 d2 v3;refine⟨?_,?_,?_,?_⟩
 ·omega
 ·omega
 ·rw[cI,aR (by omega)];omega
 ·omega
theorem Sw(h:GS w g gp gq gr v v2 TL){r0 r1 r2:Nat}(hr:adD r0 r1 r2 n):Calls Tryz.prog 197 #[.pointer (some ⟨g,0,none⟩),.int .u64 (r0:Int),.int .u64 (r1:Int),.int .u64 (r2:Int)] w fun e w'=>e=.returned (.agg #[.int .u64 (d0 n:Int),.int .u64 (d1 n:Int),.int .u64 (d2 n:Int)])/\Below w.heap.size w w':=by
 refine(NK h r0 r1 r2).mono ?_;rintro e w' ⟨t0,t1,t2,rfl,⟨a0,a1,a2,m0,m1,m2,hl⟩,b⟩;have e:=TA (m0.trans hr.m0.symm) (m1.trans hr.m1.symm) (m2.trans hr.m2.symm) hl hr.lt;obtain⟨rfl,rfl,rfl⟩:=YH a0 a1 e;exact⟨rfl,b⟩
theorem Kz{g0 g1 g2 N0 N1 N2:Nat}(T:Nat->Nat)(hn:n<=2097152)(h0:cH w (some ⟨g0,0,none⟩) g0 0 N0 xs)(h1:cH w (some ⟨g1,0,none⟩) g1 0 N1 ys)(h2:cH w (some ⟨g2,0,none⟩) g2 0 N2 zs)(l0:xs.length=n)(l1:ys.length=n)(l2:zs.length=n)(hT:∀k,k<n->adD (xs.getD k 0) (ys.getD k 0) (zs.getD k 0) (T k)):Calls Tryz.prog 166 #[.agg #[.slice (some ⟨g0,0,none⟩) n N0,.slice (some ⟨g1,0,none⟩) n N1,.slice (some ⟨g2,0,none⟩) n N2]] w fun e w'=>∃g,e=.returned (.slice (some ⟨g,0,none⟩) n n)/\w.heap.size<=g/\qt w' g n T/\Below w.heap.size w w':=by
 have CN:=ag (fun w=>D8 w);have qG:=Xd n hn;have bl:Below w.heap.size w (w.alloc (.cells #[.slice (some ⟨g0,0,none⟩) n N0,.slice (some ⟨g1,0,none⟩) n N1,.slice (some ⟨g2,0,none⟩) n N2] 205)):=(aj _ _).alloc (af _) _;have hk:=aI w (.cells #[.slice (some ⟨g0,0,none⟩) n N0,.slice (some ⟨g1,0,none⟩) n N1,.slice (some ⟨g2,0,none⟩) n N2] 205);obtain⟨W1,mP⟩:∃W1,w.alloc (.cells #[.slice (some ⟨g0,0,none⟩) n N0,.slice (some ⟨g1,0,none⟩) n N1,.slice (some ⟨g2,0,none⟩) n N2] 205)=W1:=⟨_,rfl⟩;rw[mP]at hk bl;obtain⟨A,hA⟩:∃A,w.heap.size=A:=⟨_,rfl⟩;rw[hA]at hk;have c0:W1.cell? ⟨A,0,none⟩=some (.slice (some ⟨g0,0,none⟩) n N0):=ay _ A 0 _ _ (0,0) hk;have c1:W1.cell? ⟨A,1,none⟩=some (.slice (some ⟨g1,0,none⟩) n N1):=ay _ A 1 _ _ (0,0) hk;have c2:W1.cell? ⟨A,2,none⟩=some (.slice (some ⟨g2,0,none⟩) n N2):=ay _ A 2 _ _ (0,0) hk;have zF:A<W1.heap.size:=aw _ _ c0;have BL:=ag bl;have H0:=ag (h0.next bl);have H1:=ag (h1.next bl);have H2:=ag (h2.next bl);have HT:=ag hT;have HA:=ag hA;clear h0 h1 h2 hk bl hT;go_enter Tryz.func166,Tryz.ntmps166
 go_wp2_with fail
 refine(ae CN _).mono ?_;rintro e w1 ⟨g,gp,gq,gr,v,v2,TL,rfl,Mg,b1⟩;have H0:=ag ((ae H0).next b1);have H1:=ag ((ae H1).next b1);have H2:=ag ((ae H2).next b1);have BL:=ag (aJ (ae BL) b1);have c0:=(b1.cell (p:=⟨A,0,none⟩) zF).trans c0;have c1:=(b1.cell (p:=⟨A,1,none⟩) zF).trans c1;have c2:=(b1.cell (p:=⟨A,2,none⟩) zF).trans c2;have D0:=ag c0;have D1:=ag c1;have D2:=ag c2;have al1:Hid (A<w1.heap.size):=aw _ _ c0;have hB0:vN (w1.alloc (.cells (dS (n*3)).toArray 243)) w1.heap.size (List.replicate (n*3) 0):=aI w1 _;have ack:Below w1.heap.size w1 (w1.alloc (.cells (dS (n*3)).toArray 243)):=(aj _ _).alloc (af _) _;obtain⟨W2,Ru⟩:∃W2,w1.alloc (.cells (dS (n*3)).toArray 243)=W2:=⟨_,rfl⟩;rw[Ru]at hB0 ack;obtain⟨G,hG⟩:∃G,w1.heap.size=G:=⟨_,rfl⟩;rw[hG]at hB0;have yA:=ag hB0;have HAL:=ag ack;have HG:=ag hG;have HGS:=ag Mg;have WG:Hid (w.heap.size<=G):=by show _<=_;rw[<-hG];exact(ae BL).size
 clear Mg b1 hB0 ack CN zF mP hA c1 c2;go_wp2;clear Ru hG qG c0
 go_loopw [13] (fun iv wr=>∃(k:Nat) (us:List Nat),k<=n/\iv=.int .i64 (k:Int)/\us.length=n*3/\Hid (DK T us k)/\vN wr G us/\Below w1.heap.size w1 wr) (fun iv _=>n-(intOf iv).toNat)
 case atStart=>exact⟨0,_,aO _,rfl,adr,DK.start T _,ae yA,ae HAL⟩
 case round=>
  clear yA HAL;obtain⟨k,us,hk,rfl,hl,hN,hB,hb⟩:=hrel;by_cases Pq:k<n
  ·have Zi:(k:Int)<(n:Int):=(by omega);obtain⟨q,hq⟩:∃q,q=k*3:=⟨_,rfl⟩;obtain⟨x,hx⟩:∃x,x=xs.getD k 0:=⟨_,rfl⟩;obtain⟨y,hy⟩:∃y,y=ys.getD k 0:=⟨_,rfl⟩;obtain⟨z,hz⟩:∃z,z=zs.getD k 0:=⟨_,rfl⟩;have hT:=ae HT k Pq;rw[<-hx, <-hy, <-hz]at hT;have cx:wr.cell? ⟨g0,k,none⟩=some (.int .u64 (x:Int)):=by rw[hx];have:=((ae H0).next hb).cell k (by omega);rwa [bh]at this
   have cy:wr.cell? ⟨g1,k,none⟩=some (.int .u64 (y:Int)):=by rw[hy];have:=((ae H1).next hb).cell k (by omega);rwa [bh]at this
   have cz:wr.cell? ⟨g2,k,none⟩=some (.int .u64 (z:Int)):=by rw[hz];have:=((ae H2).next hb).cell k (by omega);rwa [bh]at this
   have c0:=(hb.cell (p:=⟨A,0,none⟩) (ae al1)).trans (ae D0);have c1:=(hb.cell (p:=⟨A,1,none⟩) (ae al1)).trans (ae D1);have c2:=(hb.cell (p:=⟨A,2,none⟩) (ae al1)).trans (ae D2);have yx:=Old.cell cx;have yy:=Old.cell cy;have yz:=Old.cell cz;have y0:=Old.cell c0;have y1:=Old.cell c1;have y2:=Old.cell c2;have inst:=gM wr;have CM:Hid (∀u:Old wr,Calls Tryz.prog 197 #[.pointer (some ⟨g,0,none⟩),.int .u64 (x:Int),.int .u64 (y:Int),.int .u64 (z:Int)] u.val fun e w'=>e=.returned (.agg #[.int .u64 (d0 (T k):Int),.int .u64 (d1 (T k):Int),.int .u64 (d2 (T k):Int)])/\Below u.val.heap.size u.val w'):=fun u=>Sw (((ae HGS).next hb).next u.jD) hT;obtain⟨a0,a1,a2,e3⟩:=b_ (T k) hT.lt;have HN2:Hid (DK T (((us.set q (d0 (T k))).set (q+1) (d1 (T k))).set (q+2) (d2 (T k))) (k+1)):=by rw[hq];exact(ae hN).step (by omega) a0 a1 a2 e3
   have vH:Hid (n-(k+1)<n-k):=by show _<_;omega
   have HB:=ag hb;have hql:q+2<us.length:=(by omega);have HL:Hid ((((us.set q (d0 (T k))).set (q+1) (d1 (T k))).set (q+2) (d2 (T k))).length=n*3):=by simp only[List.length_set];exact hl
   have hBB:=ag hB;generalize d0 (T k)=u0 at *;generalize d1 (T k)=u1 at *;generalize d2 (T k)=u2 at *;have AA:=hq.symm;clear hx hy hz hT hN hb hB hl cx cy cz c0 c1 c2 a0 a1 a2 e3 hq
   go_wp2_with fail
   refine pJ 20 (by kernel_rfl) (by kernel_rfl) (by kernel_rfl) (by kernel_rfl) (by kernel_rfl) (by kernel_rfl) ?_;simp only[List.take_succ_cons,List.take_zero,List.drop_succ_cons,List.drop_zero]
   repeat (go_big_quiet_step (first|(go_at_call 197;exact Calls.jD (ae CM _))))
   refine wpQuiet_nil ?_;intro w5 tH;obtain⟨u,rfl⟩:=tH;have Ax:=(ae hBB).next u.jD;have Ze:=aJ (ae HB) u.jD;have r0:=Ax.cell q (by omega);have r1:=Ax.cell (q+1) (by omega);have r2:=Ax.cell (q+2) (by omega);have f0:=Ax.frozen q;have f1:=Ax.frozen (q+1);have f2:=Ax.frozen (q+2);generalize u.val=w5 at *;clear u yx yy yz y0 y1 y2 inst CM;have B7:=ag (((Ax.set q u0).set (q+1) u1).set (q+2) u2);have b7:=ag (((Ze.setCell (p:=⟨G,q,none⟩) (gV (ae HG)) (.int .u64 (u0:Int))).setCell (p:=⟨G,q+1,none⟩) (gV (ae HG)) (.int .u64 (u1:Int))).setCell (p:=⟨G,q+2,none⟩) (gV (ae HG)) (.int .u64 (u2:Int)));clear Ax Ze;go_wp2
   go_roundw
   case rel=>exact⟨k+1,_,by omega,by go_num,ae HL,HN2,ae B7,ae b7⟩
   case measure=>simp[intOf];have:=ae vH;omega
  ·obtain rfl:k=n:=(by omega);have Gz:=(ae hN).YB hB hl;have bl:=aJ (ae BL) hb;clear hN hB hl hb;go_wp2;go_ret;exact⟨G,rfl,ae WG,Gz,bl⟩
def YB(g k:Nat):Value:=.slice (some ⟨g,k*3,none⟩) 3 3
def vt(g:Nat):Nat->List Value
 |0=>[]
 |k+1=>vt g k++[YB g k]
theorem qR(g:Nat):∀k,(vt g k).length=k
 |0=>rfl
 |k+1=>by simp[vt,qR g k]
theorem Qi(g:Nat):∀ {q k:Nat},k<q->(vt g q).getD k undef=YB g k
 |0,_,h=>absurd h (by omega)
 |q+1,k,h=>by
  have hl:=qR g q;unfold vt;rw[aq];by_cases hk:k<q
  ·rw[gK (by omega), <-aq];exact Qi g hk
  ·obtain rfl:k=q:=(by omega);rw[lC (by omega),hl,gW];rfl
theorem YD(g q k:Nat)(h:k<q):(vt g k++y9 (q-k)).set k (YB g k)=vt g (k+1)++y9 (q-(k+1)):=by
 have hl:=qR g k;rw[po _ _ (by omega),hl,gW];obtain⟨m,hm⟩:∃m,q-k=m+1:=⟨q-k-1,by omega⟩;have Ae:q-(k+1)=m:=by omega
 rw[hm,Ae];show vt g k++(List.replicate (m+1) _).set 0 (YB g k)=(vt g k++[YB g k])++List.replicate m _;rw[ij,F7,fB];rfl
theorem adh(h:qt w g q T)(hk:k<q):fI w (YB g k) (T k):=by
 obtain⟨t0,t1,t2,a0,a1,a2,e,c0,c1,c2⟩:=h k hk;refine⟨_,g,k*3,3,[t0,t1,t2],rfl,⟨fun _=>rfl,by simp,fun j hj=>?_⟩,?_,by rw[adm];exact e,by simp⟩
 ·have hj:j<3:=hj
  match j,hj with
  |0,_=>exact c0
  |1,_=>exact c1
  |2,_=>exact c2
 ·intro j
  match j with
  |0=>exact a0
  |1=>exact a1
  |2=>exact a2
  |j+3=>exact Nat.zero_lt_succ _
def rowOf(T:Nat->Nat)(q:Nat):List Nat:=(List.range q).map T
theorem S7(T:Nat->Nat)(q:Nat):(rowOf T q).length=q:=by simp[rowOf]
theorem K0(T:Nat->Nat)(h:k<q):(rowOf T q).getD k 0=T k:=by simp[rowOf,h]
theorem BN(T:Nat->Nat){q:Nat}:∀k,k<=q->mC 1 (rowOf T q) k=sN k fun i=>T i*18446744073709551616^i
 |0,_=>rfl
 |k+1,h=>by show mC 1 (rowOf T q) k+_=sN k _+T k*18446744073709551616^k;rw[BN T k (by omega),K0 T (by omega),cX,aC]
theorem TF(h:qt w g q T)(hv:ou w gp (vt g q) 38):wO w (some ⟨gp,0,none⟩) gp 0 (vt g q) (rowOf T q):=by
 have hl:=qR g q;refine⟨fun _=>rfl,by rw[S7,hl],fun j hj=>?_,fun j hj=>?_⟩
 ·rw[bh];exact hv.cell j hj
 ·rw[hl]at hj;rw[Qi g hj,K0 T hj];exact adh h hj
theorem Ey(w:World)(ga:Option Addr)(g C q:Nat)(T:Nat->Nat)(hq:q<=1048576)(hg:0<q->ga=some ⟨g,0,none⟩)(AA:q<=65536)(hC:q<=C)(hT:qt w g q T):Calls Tryz.prog 165 #[.slice ga q C] w fun e w'=>∃r,e=.returned r/\aU w.heap.size w' r (sN q fun k=>T k*18446744073709551616^k)/\Below w.heap.size w w':=by
 have qG:=Sc q hq;have HT:Hid (∀W,Below w.heap.size w W->qt W g q T):=fun W b=>hT.next b;have Up:ou (w.alloc (.cells (y9 q).toArray 38)) w.heap.size (vt g 0++y9 (q-0)) 38:=aI w _;have bl:Below w.heap.size w (w.alloc (.cells (y9 q).toArray 38)):=(aj _ _).alloc (af _) _;obtain⟨W1,mP⟩:∃W1,w.alloc (.cells (y9 q).toArray 38)=W1:=⟨_,rfl⟩;rw[mP]at Up bl;obtain⟨G,hG⟩:∃G,w.heap.size=G:=⟨_,rfl⟩;rw[hG]at Up;have HG:=ag hG;have HV:=ag Up;have BL:=ag bl;clear hT Up bl;go_enter Tryz.func165,Tryz.ntmps165;go_wp2;clear mP hG qG
 go_loopw [10] (fun iv wr=>∃k:Nat,k<=q/\iv=.int .i64 (k:Int)/\ou wr G (vt g k++y9 (q-k)) 38/\Below w.heap.size w wr) (fun iv _=>q-(intOf iv).toNat)
 case atStart=>exact⟨0,aO _,rfl,ae HV,ae BL⟩
 case round=>
  clear HV BL;obtain⟨k,hk,rfl,hV,hb⟩:=hrel;by_cases h1:k<q
  ·obtain rfl:=hg (by omega);have hl:(vt g k++y9 (q-k)).length=q:=by rw[bU,qR];simp[y9];omega
   have cv:=hV.cell k (by omega);have fv:=hV.frozen k;have V2:=ag (hV.set k (YB g k));rw[YD g q k h1]at V2;have B2:=ag (hb.setCell (p:=⟨G,k,none⟩) (gV (ae HG)) (YB g k));have vH:Hid (q-(k+1)<q-k):=by show _<_;omega
   unfold YB at V2 B2;clear hV hb hl;go_wp2
   go_roundw
   case rel=>exact⟨k+1,by omega,by go_num,ae V2,ae B2⟩
   case measure=>simp[intOf];have:=ae vH;omega
  ·obtain rfl:k=q:=(by omega);have hV':ou wr G (vt g k) 38:=by have:=hV;rw[gW]at this;simpa [y9]using this
   have hP:=TF (ae HT _ hb) hV';have CJ:=ag (yU wr (some ⟨G,0,none⟩) G 0 k k 1 1 (vt g k) (rowOf T k) (qR g k) AA (by decide) hP);rw[BN T k (af _)]at CJ;have BL:=ag hb;have SZ:=ag hb.size;clear hV hV' hP hb;obtain⟨S,hS⟩:∃S,S=sN k fun i=>T i*18446744073709551616^i:=⟨_,rfl⟩;rw[<-hS]at CJ;have HS:=ag hS;clear hS
   go_wp2_with fail
   refine(ae CJ).mono ?_;rintro e w2 ⟨r,rfl,nr,b⟩;have bl:=aJ (ae BL) b;have nr:=nr.mono (ae SZ);clear CJ b;go_wp2;go_ret;exact⟨r,rfl,by rw[<-ae HS];exact nr,bl⟩
end
end Go.Proofs.YtkdmippllpekfaaGreatDoor
