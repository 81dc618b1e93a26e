/- What the statements on transforms call: a row of just n words, a prime of the list. -/
import Derived.Test.YtgcnhfgpflncaaaGreatDoorB33
import Derived.Test.YtgcnhfgpflncaaaGreatDoorB34
import Derived.Test.YtgcnhfgpflncaaaGreatDoorB5
import Derived.Test.YtgcnhfgpflncaaaGreatDoorB30
import Derived.Test.YtgcnhfgpflncaaaGreatDoorB14
import Derived.Test.YtgcnhfgpflncaaaGreatDoorB9
import Derived.Test.YtgcnhfgpflncaaaGreatDoorB31
import Derived.Test.YtgcnhfgpflncaaaGreatDoorB6
import Derived.Test.YtgcnhfgpflncaaaGreatDoorB12
namespace Go.Proofs.YtgcnhfgpflncaaaGreatDoor
open Go.RowKit
def aR(n:Nat)(xs:List Nat):List Nat:=xs.take (min n xs.length)++List.replicate (n-min n xs.length) 0
theorem dZ(n:Nat)(xs:List Nat):(aR n xs).length=n:=by simp[aR];omega
theorem pX(ys:List Nat)(n k:Nat)(h:ys.length=k)(_hk:k<=n):splice (aF n) 0 (df ys)=cellsOf (ys++List.replicate (n-k) 0):=by
 simp[splice,aF,df,cellsOf,h]
end Go.Proofs.YtgcnhfgpflncaaaGreatDoor
/- Transforms:what comes back;sums of products by transforms are the reference's. Nothing of any program here but the reference's rows. -/
namespace Go.Proofs.YtgcnhfgpflncaaaGreatDoor
theorem IW{n m:Nat}{f:Nat->Int}(h:m<=n)(hz:∀ j,m<=j->j<n->f j=0):sI n f=sI m f:=by
 obtain⟨d,rfl⟩:∃ d,n=m+d:=⟨n-m,by omega⟩
 rw[tQ,aE (n:=d) (g:=fun _=>0) fun j hj=>hz (m+j) (by omega) (by omega),mo,Int.add_zero]
theorem wU{xs:List Nat}{j:Nat}(h:xs.length<=j):aT xs j=0:=by
 unfold aT
 rw[List.getD_eq_getElem?_getD,List.getElem?_eq_none h]
 rfl
theorem pQ{xs:List Nat}{n j:Nat}(hj:j<n):aT (aR n xs) j=aT xs j:=by
 unfold aT aR
 congr 1
 rw[List.getD_eq_getElem?_getD,List.getD_eq_getElem?_getD]
 by_cases h:j<xs.length
 ·rw[List.getElem?_append_left (by simp;omega),List.getElem?_take,if_pos (by omega)]
 ·rw[List.getElem?_append_right (by simp;omega),List.getElem?_replicate,List.getElem?_eq_none (l:=xs) (by omega)]
  split<;>rfl
theorem F7{p n m:Nat}{xs ys:List Nat}(hx:1<=xs.length)(hy:1<=ys.length)(hm:m+1=xs.length+ys.length)(hn:m<=n)(k:Nat)(hk:k<m):Cg p ((uY p m xs ys).getD k 0:Int) (N9 n (aT (aR n xs)) (aT (aR n ys)) k):=by
 refine(o8 (p:=p) (xs:=xs) (ys:=ys) (by omega) k hk xs.length).trans (Cg.of_eq ?_)
 unfold N9
 have e1:(sI n fun i=>sI n fun j=>if (i+j)%n=k then aT (aR n xs) i*aT (aR n ys) j else 0)=sI n fun i=>sI n fun j=>if (i+j)%n=k then aT xs i*aT ys j else 0:=
  aE fun i hi=>aE fun j hj=>by rw[pQ hi,pQ hj]
 rw[e1]
 symm
 rw[IW (m:=xs.length) (by omega) fun i h1 h2=>by
  rw[aE (g:=fun _=>0) fun j _=>by rw[wU h1,Int.zero_mul];split<;>rfl]
  exact mo n]
 refine aE fun i hi=>?_
 rw[IW (m:=ys.length) (by omega) fun j h1 h2=>by rw[wU h1,Int.mul_zero];split<;>rfl]
 refine aE fun j hj=>?_
 rw[Nat.mod_eq_of_lt (show i+j<n by omega),Nat.mod_eq_of_lt (show i+j<m by omega)]
theorem AB{p n:Nat}{xs ys:List Nat}(hx:xs.length=n)(hy:ys.length=n)(lx:∀ k,k<n->xs.getD k 0<p)(ly:∀ k,k<n->ys.getD k 0<p)(h:∀ k,k<n->Cg p (aT xs k) (aT ys k)):xs=ys:=
 ot (hx.trans hy.symm) fun k hk=>Cg.eq (h k (by omega)) (lx k (by omega)) (ly k (by omega))
theorem uZ{p m:Nat}{xs ys:List Nat}(hp:0<p)(k:Nat):(uY p m xs ys).getD k 0<p:=vj hp xs.length k
theorem sS(p m:Nat)(xs ys:List Nat):(uY p m xs ys).length=m:=iU p m xs ys xs.length
theorem sV{p w:Nat}(xs:List Nat){k:Nat}(h:k<xs.length):Cg p (aT (jB p w xs) k) (gK (w:Int) xs.length (aT xs) k):=by
 unfold aT
 rw[GA p w xs h]
 exact Lr p w xs k xs.length
theorem Oh{p:Nat}(hp:0<p)(w:Nat)(xs:List Nat)(k:Nat):(jB p w xs).getD k 0<p:=by
 by_cases h:k<xs.length
 ·rw[GA p w xs h];exact Ls hp w xs k _
 ·rw[List.getD_eq_getElem?_getD,List.getElem?_eq_none (by rw[bJ];omega)];exact hp
theorem JY{p l:Nat}{w v c:Int}(h:Rt p w l)(hv:Cg p (w*v) 1)(hc:Cg p (c*((2^l:Nat):Int)) 1){a b:Nat->Int}(hb:∀ k,k<2^l->Cg p (b k) (gK w (2^l) a k))(i:Nat)(hi:i<2^l):
  Cg p (c*gK v (2^l) b i) (a i):=by
 have h1:Cg p (gK v (2^l) b i) (gK v (2^l) (gK w (2^l) a) i):=Oc (Cg.refl p v) hb
 have h2:=(Cg.refl p c).mul (h1.trans (Gi h hv a i hi))
 refine h2.trans ?_
 rw[<-Int.mul_assoc]
 have:=hc.mul (Cg.refl p (a i))
 rwa [Int.one_mul]at this
theorem Gh{p l:Nat}{w v c:Int}(h:Rt p w l)(hv:Cg p (w*v) 1)(hc:Cg p (c*((2^l:Nat):Int)) 1){a b d:Nat->Int}(hd:∀ k,k<2^l->Cg p (d k) (gK w (2^l) a k*gK w (2^l) b k))(i:Nat)(hi:i<2^l):
  Cg p (c*gK v (2^l) d i) (N9 (2^l) a b i):=
 JY h hv hc (fun k hk=>(hd k hk).trans (Kr h.one (Nat.pow_pos (by omega)) a b k)) i hi
end Go.Proofs.YtgcnhfgpflncaaaGreatDoor
/- A transform by halves,in place:plain mathematics. Nothing of any program here. -/
namespace Go.Proofs.YtgcnhfgpflncaaaGreatDoor
def mp(p r i:Nat):Nat:=r^i*18446744073709551616%p
theorem K6{p:Nat}(r i:Nat)(h:p%2=1)(hp:p<18446744073709551616):mm p (mp p r i) (ml p r 18446744073709551616)=mp p r (i+1):=by
 have:=ox (r^i) r h hp
 rw[<-Nat.pow_succ]at this
 exact this
theorem K7(p r:Nat):ml p 1 18446744073709551616=mp p r 0:=by unfold mp ml;rw[Nat.pow_zero]
theorem Nh{p:Nat}(a r t:Nat)(h:p%2=1)(hp:p<18446744073709551616):Cg p (mm p a (mp p r t):Int) ((a:Int)*(r:Int)^t):=by
 unfold mm
 have h1:=mQ h hp
 have h2:Cg p (mp p r t:Int) ((r:Int)^t*18446744073709551616):=by
  unfold mp
  refine(Cg.mod p _).trans (Cg.of_eq ?_)
  rw[Int.natCast_mul,Int.natCast_pow]
  rfl
 refine(Cg.mod p _).trans ?_
 rw[Int.natCast_mul,Int.natCast_mul]
 have h3:=((Cg.refl p (a:Int)).mul h2).mul (Cg.refl p (ib p:Int))
 refine h3.trans ?_
 have h4:=(Cg.refl p ((a:Int)*(r:Int)^t)).mul h1
 rw[Int.mul_one]at h4
 refine Cg.trans (Cg.of_eq ?_) h4
 grind
def bf(p:Nat)(W:Nat->Nat)(n M:Nat)(z:List Nat)(i:Nat):Nat:=
 if i/n%2=0 then ad p (z.getD i 0) (mm p (z.getD (i+n) 0) (W (i%n*M))) else sb p (z.getD (i-n) 0) (mm p (z.getD i 0) (W (i%n*M)))
def jn(p:Nat)(W:Nat->Nat)(n M:Nat)(z:List Nat):List Nat:=(List.range z.length).map (bf p W n M z)
theorem kj(p:Nat)(W:Nat->Nat)(n M:Nat)(z:List Nat):(jn p W n M z).length=z.length:=by simp[jn]
theorem Aj(p:Nat)(W:Nat->Nat)(n M:Nat)(z:List Nat){i:Nat}(h:i<z.length):(jn p W n M z).getD i 0=bf p W n M z i:=by simp[jn,h]
theorem FT(p:Nat)(W:Nat->Nat){n M:Nat}(z:List Nat)(q:Nat){k:Nat}(hk:k<n):bf p W n M z (2*n*q+k)=ad p (z.getD (2*n*q+k) 0) (mm p (z.getD (2*n*q+n+k) 0) (W (k*M))):=by
 have e:2*n*q+k=k+n*(2*q):=by rw[Nat.mul_comm 2 n,Nat.mul_assoc];omega
 have h1:(2*n*q+k)/n=2*q:=by rw[e,Nat.add_mul_div_left _ _ (by omega),Nat.div_eq_of_lt hk];omega
 have h2:(2*n*q+k)%n=k:=by rw[e,Nat.add_mul_mod_self_left,Nat.mod_eq_of_lt hk]
 unfold bf
 rw[h1,h2,if_pos (by omega),show 2*n*q+k+n=2*n*q+n+k by omega]
theorem zR(p:Nat)(W:Nat->Nat){n M:Nat}(z:List Nat)(q:Nat){k:Nat}(hk:k<n):bf p W n M z (2*n*q+n+k)=sb p (z.getD (2*n*q+k) 0) (mm p (z.getD (2*n*q+n+k) 0) (W (k*M))):=by
 have e:2*n*q+n+k=k+n*(2*q+1):=by rw[Nat.mul_comm 2 n,Nat.mul_assoc,Nat.mul_add,Nat.mul_one];omega
 have h1:(2*n*q+n+k)/n=2*q+1:=by rw[e,Nat.add_mul_div_left _ _ (by omega),Nat.div_eq_of_lt hk];omega
 have h2:(2*n*q+n+k)%n=k:=by rw[e,Nat.add_mul_mod_self_left,Nat.mod_eq_of_lt hk]
 unfold bf
 rw[h1,h2,if_neg (by omega),show 2*n*q+n+k-n=2*n*q+k by omega]
def nT(F:Nat->Nat)(z0 zs:List Nat)(n st j:Nat):Prop:=
 zs.length=z0.length/\∀ i,i<z0.length->zs.getD i 0=if i<st+j\/(st+n<=i/\i<st+n+j) then F i else z0.getD i 0
theorem yT(F:Nat->Nat)(z0:List Nat)(n:Nat):nT F z0 z0 n 0 0:=⟨rfl,fun i _=>by rw[if_neg (by omega)]⟩
theorem Hf{F:Nat->Nat}{z0 zs:List Nat}{n st j:Nat}(h:nT F z0 zs n st j)(hj:j<n)(hl:st+2*n<=z0.length):zs.getD (st+j) 0=z0.getD (st+j) 0:=by
 rw[h.2 _ (by omega),if_neg (by omega)]
theorem Ce{F:Nat->Nat}{z0 zs:List Nat}{n st j:Nat}(h:nT F z0 zs n st j)(hj:j<n)(hl:st+2*n<=z0.length):zs.getD (st+n+j) 0=z0.getD (st+n+j) 0:=by
 rw[h.2 _ (by omega),if_neg (by omega)]
theorem Ci{F:Nat->Nat}{z0 zs:List Nat}{n st j:Nat}(h:nT F z0 zs n st j)(hj:j<n)(hl:st+2*n<=z0.length):nT F z0 ((zs.set (st+j) (F (st+j))).set (st+n+j) (F (st+n+j))) n st (j+1):=by
 refine⟨by simpa using h.1,fun i hi=>?_⟩
 have h0:=h.2 i hi
 have hz:=h.1
 rw[jO _ _ _ _ (by simp;omega),jO _ _ _ _ (by omega)]
 by_cases e1:i=st+n+j
 ·rw[if_pos e1,if_pos (by omega),e1]
 ·rw[if_neg e1]
  by_cases e2:i=st+j
  ·rw[if_pos e2,if_pos (by omega),e2]
  ·rw[if_neg e2,h0]
   by_cases c:i<st+j\/(st+n<=i/\i<st+n+j)
   ·rw[if_pos c,if_pos (by omega)]
   ·rw[if_neg c,if_neg (by omega)]
theorem Cf{F:Nat->Nat}{z0 zs:List Nat}{n st:Nat}(h:nT F z0 zs n st n):nT F z0 zs n (st+2*n) 0:=by
 refine⟨h.1,fun i hi=>?_⟩
 rw[h.2 i hi]
 by_cases c:i<st+2*n
 ·rw[if_pos (by omega),if_pos (by omega)]
 ·rw[if_neg (by omega),if_neg (by omega)]
theorem He{p:Nat}{W:Nat->Nat}{M:Nat}{z0 zs:List Nat}{n st:Nat}(h:nT (bf p W n M z0) z0 zs n st 0)(hs:z0.length<=st):zs=jn p W n M z0:=by
 refine ot (by rw[h.1,kj]) fun k hk=>?_
 rw[kj]at hk
 rw[Aj _ _ _ _ _ hk,h.2 k hk,if_pos (by omega)]
def JQ(p r t s:Nat)(xs zs:List Nat):Prop:=
 zs.length=2^(s+t)/\(∀ i,zs.getD i 0<p)/\∀ q k,q<2^t->k<2^s->Cg p (aT zs (2^s*q+k)) (gK ((r:Int)^2^t) (2^s) (fun j=>aT xs (rev t q+2^t*j)) k)
def uH(p L:Nat)(xs zs:List Nat)(k:Nat):Prop:=zs.length=2^L/\(∀ i,zs.getD i 0<p)/\∀ i,i<k->zs.getD (rev L i) 0=xs.getD i 0%p
theorem zo{p:Nat}(hp:0<p)(L:Nat)(xs:List Nat):uH p L xs (List.replicate (2^L) 0) 0:=by
 refine⟨by simp,fun i=>?_,fun i hi=>absurd hi (by omega)⟩
 rw[List.getD_eq_getElem?_getD,List.getElem?_replicate]
 split<;>exact hp
theorem Ej{p L:Nat}{xs zs:List Nat}{k:Nat}(hp:0<p)(h:uH p L xs zs k)(hk:k<2^L):uH p L xs (zs.set (rev L k) (xs.getD k 0%p)) (k+1):=by
 obtain⟨h1,h2,h3⟩:=h
 have hr:rev L k<zs.length:=by rw[h1];exact pN L k
 refine⟨by simpa using h1,fun i=>?_,fun i hi=>?_⟩
 ·rw[jO _ _ _ _ hr]
  split
  ·exact Nat.mod_lt _ hp
  ·exact h2 i
 ·rw[jO _ _ _ _ hr]
  by_cases e:i=k
  ·subst e;rw[if_pos rfl]
  ·rw[if_neg,h3 i (by omega)]
   intro e2
   apply e
   rw[<-tO (L:=L) (x:=i) (by omega),e2,tO hk]
theorem Dc{p r L:Nat}{xs zs:List Nat}(h:uH p L xs zs (2^L)):JQ p r L 0 xs zs:=by
 obtain⟨h1,h2,h3⟩:=h
 refine⟨by rw[h1,Nat.zero_add],h2,fun q k hq hk=>?_⟩
 obtain rfl:k=0:=by simpa using hk
 have e:aT zs (2^0*q+0)=((xs.getD (rev L q) 0%p:Nat):Int):=by
  unfold aT
  rw[Nat.pow_zero,Nat.one_mul,Nat.add_zero, <-h3 (rev L q) (pN L q),tO hq]
 rw[e]
 refine(Cg.mod p _).trans (Cg.of_eq ?_)
 show _=sI 1 _
 show _=0+aT xs (rev L q+2^L*0)*_^(0*0)
 rw[Nat.mul_zero,Nat.mul_zero,Nat.add_zero,Int.pow_zero,Int.mul_one,Int.zero_add]
 rfl
theorem Hk{p r t s:Nat}{xs z0:List Nat}(hr:Rt p (r:Int) (s+t+1))(h:p%2=1)(hp:p<18446744073709551616)(H:JQ p r (t+1) s xs z0):JQ p r t (s+1) xs (jn p (mp p r) (2^s) (2^t) z0):=by
 obtain⟨h1,h2,h3⟩:=H
 have hp0:0<p:=by omega
 have hlen:z0.length=2^(s+1+t):=by rw[h1];congr 1;omega
 refine⟨by rw[kj,hlen],fun i=>?_,fun q k hq hk=>?_⟩
 ·by_cases hi:i<z0.length
  ·rw[Aj _ _ _ _ _ hi]
   unfold bf
   split
   ·exact Nat.mod_lt _ hp0
   ·exact Nat.mod_lt _ hp0
  ·rw[List.getD_eq_getElem?_getD,List.getElem?_eq_none (by rw[kj];omega)]
   exact hp0
 ·obtain⟨n,hn⟩:∃ n,n=2^s:=⟨_,rfl⟩
  have hn1:0<n:=by rw[hn];exact Nat.pow_pos (by decide)
  have e2:2^(s+1)=2*n:=by rw[hn,Nat.pow_succ,Nat.mul_comm]
  have hNn:z0.length=2*n*2^t:=by rw[hlen,Nat.pow_add,e2]
  have hq1:2*n*q+2*n<=z0.length:=by
   rw[hNn]
   have:=Nat.mul_le_mul_left (2*n) (show q+1<=2^t from hq)
   rwa [Nat.mul_add,Nat.mul_one]at this
  obtain⟨v,hv⟩:∃ v:Int,v=(r:Int)^2^t:=⟨_,rfl⟩
  have hvv:(r:Int)^2^(t+1)=v*v:=by rw[hv,Nat.pow_succ,Int.pow_mul,Int.pow_succ,Int.pow_succ,Int.pow_zero,Int.one_mul]
  have hm1:Cg p (v^n) (-1):=by
   have:Cg p ((r:Int)^2^(s+t)) (-1):=hr
   rw[hv,hn, <-Int.pow_mul, <-Nat.pow_add,Nat.add_comm t s]
   exact this
  obtain⟨b,hb⟩:∃ b:Nat->Int,b=fun j=>aT xs (rev t q+2^t*j):=⟨_,rfl⟩
  have q1:2*q<2^(t+1):=by rw[Nat.pow_succ];omega
  have q2:2*q+1<2^(t+1):=by rw[Nat.pow_succ];omega
  have hE:∀ c,c<n->Cg p (aT z0 (2*n*q+c)) (gK (v*v) n (fun j=>b (2*j)) c):=fun c hc=>by
   have:=h3 (2*q) c q1 (by rw[<-hn];exact hc)
   rw[hvv, <-hn,II,show n*(2*q)+c=2*n*q+c by rw[Nat.mul_comm 2 n,Nat.mul_assoc]]at this
   refine this.trans (Cg.of_eq ?_)
   congr 1
   funext j
   rw[hb]
   show _=aT xs (rev t q+2^t*(2*j))
   rw[Nat.pow_succ,Nat.mul_assoc]
  have hO:∀ c,c<n->Cg p (aT z0 (2*n*q+n+c)) (gK (v*v) n (fun j=>b (2*j+1)) c):=fun c hc=>by
   have:=h3 (2*q+1) c q2 (by rw[<-hn];exact hc)
   rw[hvv, <-hn,LJ,show n*(2*q+1)+c=2*n*q+n+c by rw[Nat.mul_add,Nat.mul_one,Nat.mul_comm 2 n,Nat.mul_assoc]]at this
   refine this.trans (Cg.of_eq ?_)
   congr 1
   funext j
   rw[hb]
   show _=aT xs (rev t q+2^t*(2*j+1))
   rw[Nat.pow_succ,Nat.mul_add,Nat.mul_one,Nat.mul_assoc]
   congr 1
   omega
  have hmul:∀ c,c<n->Cg p (mm p (z0.getD (2*n*q+n+c) 0) (mp p r (c*2^t)):Int) (v^c*gK (v*v) n (fun j=>b (2*j+1)) c):=fun c hc=>by
   refine(Nh _ r _ h hp).trans ?_
   have e:(r:Int)^(c*2^t)=v^c:=by rw[hv, <-Int.pow_mul,Nat.mul_comm]
   rw[e,Int.mul_comm]
   exact(Cg.refl p _).mul (hO c hc)
  rw[e2]at hk ⊢
  by_cases hc:k<n
  ·have e3:aT (jn p (mp p r) (2^s) (2^t) z0) (2*n*q+k)=(ad p (z0.getD (2*n*q+k) 0) (mm p (z0.getD (2*n*q+n+k) 0) (mp p r (k*2^t))):Int):=by
    unfold aT
    rw[<-hn,Aj _ _ _ _ _ (by omega),FT _ _ _ _ hc]
   rw[e3, <-hb, <-hv]
   refine(FI p _ _).trans ?_
   refine((hE k hc).add (hmul k hc)).trans ?_
   exact(Ks n b k).symm
  ·obtain⟨c,rfl⟩:∃ c,k=c+n:=⟨k-n,by omega⟩
   have hc:c<n:=by omega
   have e3:aT (jn p (mp p r) (2^s) (2^t) z0) (2*n*q+(c+n))=(sb p (z0.getD (2*n*q+c) 0) (mm p (z0.getD (2*n*q+n+c) 0) (mp p r (c*2^t))):Int):=by
    unfold aT
    rw[<-hn,show 2*n*q+(c+n)=2*n*q+n+c by omega,Aj _ _ _ _ _ (by omega),zR _ _ _ _ hc]
   rw[e3, <-hb, <-hv]
   refine(pT hp0 _ _).trans ?_
   refine((hE c hc).sub (hmul c hc)).trans ?_
   exact(Gj hm1 b c).symm
theorem KX{p r L:Nat}{xs zs:List Nat}(hp:0<p)(hl:xs.length=2^L)(H:JQ p r 0 L xs zs):zs=jB p r xs:=by
 obtain⟨h1,h2,h3⟩:=H
 refine AB (p:=p) (n:=2^L) (by rw[h1,Nat.add_zero]) (by rw[bJ,hl]) (fun k _=>h2 k) (fun k _=>Oh hp r xs k) fun k hk=>?_
 have:=h3 0 k (by decide) hk
 rw[Nat.mul_zero,Nat.zero_add]at this
 refine this.trans (Cg.trans (Cg.of_eq ?_) (sV (p:=p) (w:=r) xs (by omega)).symm)
 rw[hl,Nat.pow_zero,Int.pow_succ,Int.pow_zero,Int.one_mul]
 congr 1
 funext j
 rw[Nat.one_mul]
 show aT xs (0+j)=_
 rw[Nat.zero_add]
end Go.Proofs.YtgcnhfgpflncaaaGreatDoor
/- Package ntt:a plan in memory;its size;the powers;a row scattered. -/
namespace Go.Proofs.YtgcnhfgpflncaaaGreatDoor
open Go.RowKit
def Nl(p r n:Nat):List Nat:=(List.range n).map (mp p r)
theorem eU(p r n:Nat):(Nl p r n).length=n:=by simp[Nl]
theorem Iz(p r n:Nat){i:Nat}(h:i<n):(Nl p r n).getD i 0=mp p r i:=mh (mp p r) h
structure PS(w:World)(gt gm go oo gp p r L H:Nat):Prop where
 c0:w.cell? ⟨gt,0,none⟩=some (.pointer (some ⟨gm,0,none⟩))
 c1:w.cell? ⟨gt,1,none⟩=some (.pointer (some ⟨go,oo,none⟩))
 c2:w.cell? ⟨gt,2,none⟩=some (.int .i64 (L:Int))
 c3:w.cell? ⟨gt,3,none⟩=some (.slice (some ⟨gp,0,none⟩) H H)
 mw:MW w gm p
 pw:aB w gp (Nl p r H)
 nt:gt≠go
 nm:gm≠go
 np:gp≠go
 half:H=2^L/2
 low:L<=20
 rt:Rt p (r:Int) L
theorem PS.lt{w:World}{gt gm go oo gp p r L H:Nat}(h:PS w gt gm go oo gp p r L H):gt<w.heap.size:=World.block_lt_of_cell? _ _ h.c0
theorem PS.next{w w':World}{gt gm go oo gp p r L H:Nat}(h:PS w gt gm go oo gp p r L H)(b:Below w.heap.size w w'):PS w' gt gm go oo gp p r L H:=
 ⟨(b.cell (p:=⟨gt,0,none⟩) h.lt).trans h.c0,(b.cell (p:=⟨gt,1,none⟩) h.lt).trans h.c1,(b.cell (p:=⟨gt,2,none⟩) h.lt).trans h.c2,(b.cell (p:=⟨gt,3,none⟩) h.lt).trans h.c3,h.mw.next b,h.pw.next b,h.nt,h.nm,h.np,h.half,h.low,h.rt⟩
theorem MW.but{w w':World}{g p k:Nat}(h:MW w g p)(b:w.grownBy w' (some k))(hk:g≠k):MW w' g p:=
 ⟨b.cell h.c0 (by simpa using hk),b.cell h.c1 (by simpa using hk),b.cell h.c2 (by simpa using hk),h.odd,h.low,h.high⟩
theorem PS.off{w w':World}{gt gm go oo gp p r L H k:Nat}(h:PS w gt gm go oo gp p r L H)(b:w.grownBy w' (some k))(h1:gt≠k)(h2:gm≠k)(h3:gp≠k):PS w' gt gm go oo gp p r L H:=
 ⟨b.cell h.c0 (by simpa using h1),b.cell h.c1 (by simpa using h1),b.cell h.c2 (by simpa using h1),b.cell h.c3 (by simpa using h1),h.mw.but b h2,h.pw.but b h3,h.nt,h.nm,h.np,h.half,h.low,h.rt⟩
theorem PS.but{w w':World}{gt gm go oo gp p r L H:Nat}(h:PS w gt gm go oo gp p r L H)(b:w.grownBy w' (some go)):PS w' gt gm go oo gp p r L H:=h.off b h.nt h.nm h.np
theorem aW{L:Nat}(h:L<=20):2^L<=1048576:=Nat.pow_le_pow_right (by decide) h
theorem aJ(L:Nat):1<=2^L:=Nat.pow_pos (by decide)
theorem Nv{L N:Nat}(h:N=2^L):(2:Int)^L=(N:Int):=by rw[h];exact(Int.natCast_pow 2 L).symm
set_option maxHeartbeats 800000 in
theorem size_any{w:World}{gt gm go oo gp p r L H N:Nat}(h:PS w gt gm go oo gp p r L H)(hN:N=2^L):
  Calls Tryz.prog 168 #[.pointer (some ⟨gt,0,none⟩)] w fun e w'=>e=.returned (.int .i64 (N:Int))/\w'=w:=by
 have c2:=h.c2
 have hL:=h.low
 have hb:=aW hL
 have e1:=Nv hN
 rw[<-hN]at hb
 have e2:IntKind.i64.wrap (N:Int)=(N:Int):=by rw[IntKind.wrap_i64];omega
 have h0:¬(L:Int)<0:=by omega
 clear h hN
 go_enter Tryz.func168,Tryz.ntmps168
 go_wp2
 go_ret
 exact⟨ax rfl,rfl⟩
set_option maxHeartbeats 1600000 in
theorem tI{w:World}{g p:Nat}(r H:Nat)(h:MW w g p)(hH:H<=1048576):
  Calls Tryz.prog 189 #[.pointer (some ⟨g,0,none⟩),.int .u64 (r:Int),.int .i64 (H:Int)] w fun e w'=>e=.returned (.slice (some ⟨w.heap.size,0,none⟩) H H)/\aB w' w.heap.size (Nl p r H)/\Below w.heap.size w w':=by
 have hmk:=ou H H (H:Int) rfl rfl (by omega)
 have hk0:=hide (qW w H)
 have HB0:=hide ((Below.refl w.heap.size w).alloc (Nat.le_refl _) (.cells (aF H).toArray 41))
 have C1:Hid (∀ w',Below w.heap.size w w'->Calls Tryz.prog 194 #[.pointer (some ⟨g,0,none⟩),.int .u64 1] w' fun e w''=>e=.returned (.int .u64 (mp p r 0:Int))/\w''=w'):=fun w' b=>by
  rw[<-K7 p r]
  exact fZ (h.next b) 1
 have C2:=hide (fun w' (b:Below w.heap.size w w')=>fZ (h.next b) r)
 have C3:=hide (fun x y w' (b:Below w.heap.size w w')=>bg (h.next b) x y)
 have H1:=hide (fun i=>K6 (p:=p) r i h.odd (by have:=h.high;omega))
 have H2:Hid (∀ k (zs:List Nat),zs.length=H->(∀ i,i<k->zs.getD i 0=mp p r i)->H<=k->zs=Nl p r H):=fun k zs h1 h2 h3=>by
  refine ot (by rw[h1,eU]) fun i hi=>?_
  rw[eU]at hi
  rw[Iz p r H hi,h2 i (by omega)]
 clear h
 generalize Nl p r H=Z at *
 generalize mp p r=Q at *
 generalize ml p r 18446744073709551616=f at *
 generalize mm p=M at *
 obtain⟨G,hG⟩:∃ G,w.heap.size=G:=⟨_,rfl⟩
 rw[hG]at hk0 HB0 C1 C2 C3 ⊢
 go_enter Tryz.func189,Tryz.ntmps189
 go_wp2_with fail
 refine(ae C1 _ (ae HB0)).mono ?_
 rintro e w1 ⟨rfl,rfl⟩
 go_wp2_with fail
 refine(ae C2 _ (ae HB0)).mono ?_
 rintro e w1 ⟨rfl,rfl⟩
 clear hmk hG C1 C2
 go_wp2
 go_loopw [8,20] (fun pv iv wr=>∃(k x:Nat) (zs:List Nat),k<=H/\pv=.int .u64 (x:Int)/\iv=.int .i64 (k:Int)/\Hid (x=Q k)/\zs.length=H/\Hid (∀ i,i<k->zs.getD i 0=Q i)/\aB wr G zs/\Below G w wr) (fun _ iv _=>H-(intOf iv).toNat)
 case atStart=>exact⟨0,_,_,Nat.zero_le _,rfl,rfl,rfl,by simp,fun i hi=>absurd hi (by omega),ae hk0,ae HB0⟩
 case round=>
  clear hk0 HB0
  obtain⟨k,x,zs,hk,rfl,rfl,hx,hl,hz,hB,hb⟩:=hrel
  by_cases h1:k<H
  ·have cz:=hB.cell k (by omega)
   have fz:=hB.frozen k
   have HB:=hide (hB.set k x)
   have hb7:Hid (Below G w (wr.setCell ⟨G,k,none⟩ (.int .u64 (x:Int)))):=hb.setCell (Nat.le_refl _) _
   have C:=hide (ae C3 x f _ (ae hb7))
   have hx2:Hid (M x f=Q (k+1)):=by show _=_;rw[hx.out];exact ae H1 k
   have hz2:Hid (∀ i,i<k+1->(zs.set k x).getD i 0=Q i):=fun i hi=>by
    rw[jO _ _ _ _ (by omega)]
    by_cases e:i=k
    ·rw[if_pos e,e];exact hx.out
    ·rw[if_neg e];exact hz.out i (by omega)
   have hmm:Hid (H-(k+1)<H-k):=by show _<_;omega
   have hl2:Hid ((zs.set k x).length=H):=by show _=_;simpa using hl
   clear hx hz
   go_wp2_with fail
   refine(ae C).mono ?_
   rintro e w7 ⟨rfl,rfl⟩
   go_wp2
   go_roundw
   case rel=>exact⟨k+1,_,_,by omega,rfl,by go_num,hx2,ae hl2,hz2,ae HB,ae hb7⟩
   case measure=>simp[intOf];have:=ae hmm;omega
  ·obtain rfl:k=H:=by omega
   have hZ:=ae H2 k zs hl hz.out (Nat.le_refl _)
   subst hZ
   go_wp2
   go_ret
   exact⟨rfl,hB,hb⟩
set_option maxRecDepth 100000 in
set_option maxHeartbeats 1600000 in
theorem qN{w:World}{gt gm go oo gp p r L H:Nat}(P:PS w gt gm go oo gp p r L H)(N:Nat)(hN:N=2^L)(ga:Option Addr)(b o cap:Nat)(xs:List Nat)(hl:xs.length=N)(hR:Rep w ga b o cap xs):
  Calls Tryz.prog 190 #[.pointer (some ⟨gt,0,none⟩),.slice ga N cap] w fun e w'=>e=.returned (.slice (some ⟨w.heap.size,0,none⟩) N N)/\(∃ zs,uH p L xs zs (2^L)/\aB w' w.heap.size zs)/\Below w.heap.size w w':=by
 have hL:=P.low
 have hNb:=aW hL
 have hN1:=aJ L
 have hp:=P.mw.low
 have hst:=hide (zo (show 0<p by omega) L xs)
 rw[<-hN]at hst hNb hN1 ⊢
 have hk0:=hide (qW w N)
 have hmk:=ou N N (N:Int) rfl rfl (by omega)
 have HB0:=hide ((Below.refl w.heap.size w).alloc (Nat.le_refl _) (.cells (aF N).toArray 41))
 have CR:=hide (fun x w=>qJ x w)
 have CD:=hide (fun x w' (b:Below w.heap.size w w')=>je (P.mw.next b) x)
 have H2:=hide (fun zs k=>Ej (p:=p) (L:=L) (xs:=xs) (zs:=zs) (k:=k) (by omega))
 have H8:Hid (∀ zs k,uH p L xs zs k->zs.length=N):=fun zs k h=>by rw[hN];exact h.1
 have H9:=hide (fun x=>LG (L:=L) x (by omega))
 have H10:Hid (∀ k,rev L k<N):=fun k=>by rw[hN];exact pN L k
 rw[<-hN]at H2
 obtain⟨S,hS⟩:∃ S,S=64-L:=⟨_,rfl⟩
 rw[<-hS]at H9
 have eS:(64:Int)-(L:Int)=(S:Int):=by omega
 have c2:=fun w' (b:Below w.heap.size w w')=>(b.cell (p:=⟨gt,2,none⟩) P.lt).trans P.c2
 have c0:=fun w' (b:Below w.heap.size w w')=>(b.cell (p:=⟨gt,0,none⟩) P.lt).trans P.c0
 have C2:=hide c2
 have C0:=hide c0
 have hcap:=hR.room
 rw[hl]at hcap
 have hhead:=hR.head
 obtain rfl:=hhead (by omega)
 have hRw:Hid (∀ w',Below w.heap.size w w'->Rep w' (some ⟨b,o,none⟩) b o cap xs):=fun w' h=>hR.next h
 clear hR P c0 c2 hhead hN hS
 generalize uH p L xs=F at *
 generalize rev L=V at *
 obtain⟨G,hG⟩:∃ G,w.heap.size=G:=⟨_,rfl⟩
 rw[hG]at hk0 HB0 C0 C2 CD hRw ⊢
 have HG:=hide hG
 go_enter Tryz.func190,Tryz.ntmps190
 go_wp2
 clear hmk hG
 go_loopw [13] (fun iv wr=>∃(k:Nat) (zs:List Nat),k<=N/\iv=.int .i64 (k:Int)/\Hid (F zs k)/\aB wr G zs/\Below G w wr) (fun iv _=>N-(intOf iv).toNat)
 case atStart=>exact⟨0,_,Nat.zero_le _,rfl,hst,ae hk0,ae HB0⟩
 case round=>
  clear hk0 HB0 hst
  obtain⟨k,zs,hk,rfl,hF,hB,hb⟩:=hrel
  by_cases h1:k<N
  ·have hk1:(k:Int)<(N:Int):=by omega
   have hzl:=ae H8 _ _ hF.out
   obtain⟨x,hx⟩:∃ x,x=xs.getD k 0:=⟨_,rfl⟩
   have cx:wr.cell? ⟨b,o+k,none⟩=some (.int .u64 (x:Int)):=by rw[hx];exact(ae hRw wr hb).cell k (by omega)
   have C1:=hide (fun w=>ae CR k w (by omega))
   have eV:=fC (Np k) S
   rw[ae H9 k]at eV
   have hv:=ae H10 k
   have hstep:=ae H2 zs k hF.out h1
   rw[<-hx]at hstep
   have HF:Hid (F (zs.set (V k) (rd p x)) (k+1)):=hstep
   have D1:=hide (fun w' b=>ae CD x w' b)
   generalize Np k=y at *
   generalize V k=v at *
   generalize rd p x=z at *
   have hvi:0<=(v:Int)/\(v:Int)<(N:Int):=by omega
   have ek:IntKind.u64.wrap (k:Int)=(k:Int):=by rw[IntKind.wrap_u64];omega
   have d2:=ae C2 wr hb
   have d0:=ae C0 wr hb
   have y2:=cH.cell d2
   have y0:=cH.cell d0
   have inst:=bD wr
   have hgs:Hid (G<=wr.heap.size):=by have:=hb.size;rw[HG.out]at this;exact this
   have D1:Hid (∀ u:cH wr,Calls Tryz.prog 192 #[.pointer (some ⟨gm,0,none⟩),.int .u64 (x:Int)] u.val fun e w'=>e=.returned (.int .u64 (z:Int))/\w'=u.val):=fun u=>ae D1 _ (hb.trans (u.old.mono (ae hgs)))
   have hmm:Hid (N-(k+1)<N-k):=by show _<_;omega
   clear hF hx hstep
   go_wp2_with fail
   refine gW 17 (by kernel_rfl) (by kernel_rfl) (by kernel_rfl) (by kernel_rfl) (by kernel_rfl) (by kernel_rfl) ?_
   simp only[List.take_succ_cons,List.take_zero,List.drop_succ_cons,List.drop_zero]
   repeat (go_big_quiet_step (first|(go_at_call 211;exact Calls.old_same (ae C1 _))|(go_at_call 192;exact Calls.old_same (ae D1 _))))
   refine wpQuiet_nil ?_
   intro w5 hw5
   obtain⟨u,rfl⟩:=hw5
   have hB5:=hB.next u.old
   have hb5:Below G w u.val:=hb.trans (u.old.mono (ae hgs))
   have c5:=hB5.cell v (by omega)
   have f5:=hB5.frozen v
   generalize u.val=w5 at *
   clear u
   have hB7:=hB5.set v z
   have hb7:Below G w (w5.setCell ⟨G,v,none⟩ (.int .u64 (z:Int))):=hb5.setCell (Nat.le_refl _) _
   go_wp2
   go_roundw
   case rel=>exact⟨k+1,_,by omega,by go_num,HF,hB7,hb7⟩
   case measure=>simp[intOf];have:=ae hmm;omega
  ·obtain rfl:k=N:=by omega
   go_wp2
   go_ret
   exact⟨rfl,⟨zs,hF.out,hB⟩,hb⟩
end Go.Proofs.YtgcnhfgpflncaaaGreatDoor
/- Package ntt:halves joined. -/
namespace Go.Proofs.YtgcnhfgpflncaaaGreatDoor
open Go.RowKit
theorem Hn{L s t:Nat}(h:L=s+t+1):2^L/2=2^s*2^t/\2^L=2*2^s*2^t:=by
 have e:2^L=2*(2^s*2^t):=by rw[h,Nat.pow_succ,Nat.pow_add,Nat.mul_comm]
 refine⟨by rw[e];omega,by rw[e,Nat.mul_assoc]⟩
theorem BS{n M H:Nat}(h:H=n*M)(hn:0<n):H/n=M:=by rw[h];exact Nat.mul_div_cancel_left M hn
theorem PD{n M H j:Nat}(h:H=n*M)(hj:j<n)(hM:0<M):j*M<H:=by rw[h];exact Nat.mul_lt_mul_of_pos_right hj hM
set_option maxRecDepth 100000 in
set_option maxHeartbeats 3200000 in
theorem Ha{w:World}{gt gm go oo gp p r L H:Nat}(P:PS w gt gm go oo gp p r L H)(s t n M N g:Nat)(hL:L=s+t+1)(hn:n=2^s)(hM:M=2^t)(hN:N=2^L)(z0:List Nat)(hl:z0.length=N)(hB:aB w g z0)(h1:gt≠g)(h2:gm≠g)(h3:gp≠g):
  Calls Tryz.prog 191 #[.pointer (some ⟨gt,0,none⟩),.slice (some ⟨g,0,none⟩) N N,.int .i64 (n:Int)] w fun e w'=>e=.returned (.tuple #[])/\aB w' g (jn p (mp p r) n M z0)/\w.grownBy w' (some g):=by
 obtain⟨e1,e2⟩:=Hn hL
 have hNb:=aW P.low
 have hn0:=aJ s
 have hM0:=aJ t
 have hH:=P.half
 rw[<-hn]at hn0
 rw[<-hM]at hM0
 rw[e1, <-hn, <-hM]at hH
 rw[e2, <-hn, <-hM]at hN
 rw[e2, <-hn, <-hM, <-hN]at hNb
 have hq:=BS hH hn0
 have hHN:2*H=N:=by rw[hN,hH,Nat.mul_assoc]
 have ed:(H:Int).tdiv (n:Int)=(M:Int):=by
  have:(H:Int).tdiv (n:Int)=((H/n:Nat):Int):=rfl
  rw[this,hq]
 have ed2:(H:Int)/(n:Int)=(M:Int):=by
  have:(H:Int)/(n:Int)=((H/n:Nat):Int):=rfl
  rw[this,hq]
 have ew:IntKind.i64.wrap (M:Int)=(M:Int):=by
  have:M<=H:=by rw[<-hq];exact Nat.div_le_self _ _
  rw[IntKind.wrap_i64];omega
 have hnz:¬(n:Int)=0:=by omega
 obtain⟨n2,hn2⟩:∃ n2,n2=2*n:=⟨_,rfl⟩
 have en2:2*(n:Int)=(n2:Int):=by omega
 have hnN:n2<=N:=by
  rw[hN,hn2]
  exact Nat.le_mul_of_pos_right _ hM0
 have ewn:IntKind.i64.wrap (n2:Int)=(n2:Int):=by rw[IntKind.wrap_i64];omega
 have HP:Hid (∀ w',w.grownBy w' (some g)->PS w' gt gm go oo gp p r L H):=fun w' b=>P.off b h1 h2 h3
 have c3:=P.c3
 have HJ:Hid (∀ j,j<n->j*M<H):=fun j hj=>PD hH hj hM0
 have HQ:Hid (∀ q,n2*q<N->q+1<=M/\n2*q+n2<=N):=fun q h=>by
  rw[hN, <-hn2]at h ⊢
  have:q<M:=Nat.lt_of_mul_lt_mul_left h
  refine⟨this,?_⟩
  have:=Nat.mul_le_mul_left n2 (show q+1<=M from this)
  rwa [Nat.mul_add,Nat.mul_one]at this
 have HL:Hid (∀ q j,j<n->bf p (mp p r) n M z0 (n2*q+j)=ad p (z0.getD (n2*q+j) 0) (mm p (z0.getD (n2*q+n+j) 0) (mp p r (j*M)))):=fun q j hj=>by rw[hn2];exact FT p (mp p r) z0 q hj
 have HH:Hid (∀ q j,j<n->bf p (mp p r) n M z0 (n2*q+n+j)=sb p (z0.getD (n2*q+j) 0) (mm p (z0.getD (n2*q+n+j) 0) (mp p r (j*M)))):=fun q j hj=>by rw[hn2];exact zR p (mp p r) z0 q hj
 have HE:Hid (∀ zs st,nT (bf p (mp p r) n M z0) z0 zs n st 0->N<=st->zs=jn p (mp p r) n M z0):=fun zs st h hs=>He h (by omega)
 have HPW:Hid (∀ i,i<H->(Nl p r H).getD i 0=mp p r i):=fun i hi=>Iz p r H hi
 have HPL:=hide (eU p r H)
 clear P h1 h2 h3 hq hH hN e1 e2 hn hM hL
 generalize jn p (mp p r) n M z0=Z at *
 generalize bf p (mp p r) n M z0=F at *
 go_enter Tryz.func191,Tryz.ntmps191
 go_wp2
 go_loopw [7] (fun sv wr=>∃(q st:Nat) (zs:List Nat),st<=N/\sv=.int .i64 (st:Int)/\Hid (st=n2*q)/\Hid (nT F z0 zs n st 0)/\aB wr g zs/\w.grownBy wr (some g)) (fun sv _=>N-(intOf sv).toNat)
 case atStart=>exact⟨0,0,z0,Nat.zero_le _,rfl,rfl,yT F z0 n,hB,bK _ _⟩
 case round=>
  clear hB c3
  obtain⟨q,st,zs,hst,rfl,hsq,hJ,hB,hG⟩:=hrel
  by_cases h1:st<N
  ·have hs1:(st:Int)<(N:Int):=by omega
   obtain⟨hqM,hq2⟩:=ae HQ q (by rw[<-hsq.out];exact h1)
   rw[<-hsq.out]at hq2
   obtain⟨a1,ha1⟩:∃ a1,a1=st+n:=⟨_,rfl⟩
   obtain⟨a2,ha2⟩:∃ a2,a2=st+n2:=⟨_,rfl⟩
   have E1:(st:Int)+(n:Int)=(a1:Int):=by omega
   have E2:(st:Int)+(n2:Int)=(a2:Int):=by omega
   have W1:IntKind.i64.wrap (a1:Int)=(a1:Int):=by rw[IntKind.wrap_i64];omega
   have W2:IntKind.i64.wrap (a2:Int)=(a2:Int):=by rw[IntKind.wrap_i64];omega
   have i1:0<=(st:Int)/\(st:Int)<=(a1:Int)/\(a1:Int)<=(N:Int):=by omega
   have i2:(a1:Int)<=(a2:Int)/\(a2:Int)<=(N:Int):=by omega
   have i3:st<=a1:=by omega
   have i4:a1<=a2:=by omega
   have i5:a1<=N:=by omega
   have i6:a2<=N:=by omega
   have i7:a1-st=n:=by omega
   have i8:a2-a1=n:=by omega
   obtain⟨k1,hk1⟩:∃ k1,N-st=k1:=⟨_,rfl⟩
   obtain⟨k2,hk2⟩:∃ k2,N-a1=k2:=⟨_,rfl⟩
   have i9:¬N=st:=by omega
   have i10:¬N=a1:=by omega
   have hnk1:n<=k1:=by omega
   have hnk2:n<=k2:=by omega
   have HA1:=hide ha1
   have HA2:=hide ha2
   have HN2:=hide hn2
   clear ha1 ha2 hn2
   go_wp2
   go_big_region
   go_wp2
   have hdr:Hid (w.grownBy wr.drew (some g)):=grown_drewN hG 1
   have hBd:Hid (aB wr.drew g zs):=hB
   clear hG hB
   generalize wr.drew=wd at *
   go_loopw [45] (fun jv wr=>∃(j:Nat) (zs:List Nat),j<=n/\jv=.int .i64 (j:Int)/\Hid (nT F z0 zs n st j)/\aB wr g zs/\w.grownBy wr (some g)) (fun jv _=>n-(intOf jv).toNat)
   case atStart=>exact⟨0,zs,Nat.zero_le _,rfl,hJ,ae hBd,ae hdr⟩
   case round=>
    clear hJ hBd hdr
    obtain⟨j,zs,hj,rfl,hJ,hB,hG⟩:=hrel
    by_cases h2:j<n
    ·have hj1:(j:Int)<(n:Int):=by omega
     have hb2:st+2*n<=z0.length:=by rw[hl];have:=ae HN2;omega
     have hzl:zs.length=N:=by rw[hJ.out.1,hl]
     obtain⟨x,hx⟩:∃ x,x=z0.getD (st+j) 0:=⟨_,rfl⟩
     obtain⟨o,ho⟩:∃ o,o=z0.getD (a1+j) 0:=⟨_,rfl⟩
     obtain⟨jm,hjm⟩:∃ jm,jm=j*M:=⟨_,rfl⟩
     have hjmH:jm<H:=by rw[hjm];exact ae HJ j h2
     have ejm:(j:Int)*(M:Int)=(jm:Int):=by rw[hjm];exact(Int.natCast_mul j M).symm
     have wjm:IntKind.i64.wrap (jm:Int)=(jm:Int):=by rw[IntKind.wrap_i64];omega
     have ijm:0<=(jm:Int)/\(jm:Int)<(H:Int):=by omega
     have P:=ae HP wr hG
     have cx:wr.cell? ⟨g,st+j,none⟩=some (.int .u64 (x:Int)):=by
      rw[hx, <-Hf hJ.out h2 hb2]
      exact hB.cell (st+j) (by have:=ae HA1;have:=ae HA2;omega)
     have co:wr.cell? ⟨g,a1+j,none⟩=some (.int .u64 (o:Int)):=by
      have e:=Ce hJ.out h2 hb2
      rw[<-ae HA1]at e
      rw[ho, <-e]
      exact hB.cell (a1+j) (by have:=ae HA1;have:=ae HA2;omega)
     have cp:wr.cell? ⟨gp,jm,none⟩=some (.int .u64 (mp p r jm:Int)):=by
      rw[<-ae HPW jm hjmH]
      exact P.pw.cell jm (by rw[ae HPL];exact hjmH)
     have CM:Hid (∀ u:cH wr,Calls Tryz.prog 196 #[.pointer (some ⟨gm,0,none⟩),.int .u64 (o:Int),.int .u64 (mp p r jm:Int)] u.val fun e w'=>e=.returned (.int .u64 (mm p o (mp p r jm):Int))/\w'=u.val):=fun u=>bg (P.mw.next u.old) o (mp p r jm)
     have CA:Hid (∀ u:cH wr,Calls Tryz.prog 212 #[.pointer (some ⟨gm,0,none⟩),.int .u64 (x:Int),.int .u64 (mm p o (mp p r jm):Int)] u.val fun e w'=>e=.returned (.int .u64 (ad p x (mm p o (mp p r jm)):Int))/\w'=u.val):=fun u=>add_mod (P.mw.next u.old) x _
     have CS:Hid (∀ u:cH wr,Calls Tryz.prog 198 #[.pointer (some ⟨gm,0,none⟩),.int .u64 (x:Int),.int .u64 (mm p o (mp p r jm):Int)] u.val fun e w'=>e=.returned (.int .u64 (sb p x (mm p o (mp p r jm)):Int))/\w'=u.val):=fun u=>jh (P.mw.next u.old) x _
     have hstep:=Ci hJ.out h2 hb2
     have eL:=ae HL q j h2
     have eH:=ae HH q j h2
     rw[<-hsq.out, <-ae HA1, <-hx, <-ho, <-hjm]at eL eH
     rw[<-ae HA1,eL,eH]at hstep
     have HS:=hide hstep
     have d0:=P.c0
     have d3:=P.c3
     have y0:=cH.cell d0
     have y3:=cH.cell d3
     have yo:=cH.cell co
     have yp:=cH.cell cp
     have inst:=bD wr
     have n1:¬a1=st:=by have:=ae HA1;omega
     have n2':¬st=a1:=by omega
     clear hx ho hjm hstep eL eH P hJ
     generalize ad p x (mm p o (mp p r jm))=A at *
     generalize sb p x (mm p o (mp p r jm))=S at *
     generalize mm p o (mp p r jm)=y at *
     generalize mp p r jm=m at *
     go_wp2_with fail
     refine bn (by kernel_rfl) (by kernel_rfl) ?_
     repeat (go_big_quiet_step (first|(go_at_call 196;exact Calls.old_same (ae CM _))|fail))
     refine wpQuiet_nil ?_
     intro w5 hw5
     obtain⟨u,rfl⟩:=hw5
     have hB5:=hB.next u.old
     have hG5:=grown_below hG u.old
     have z0':=y0 u
     have CA5:Hid (Calls Tryz.prog 212 #[.pointer (some ⟨gm,0,none⟩),.int .u64 (x:Int),.int .u64 (y:Int)] u.val.drew fun e w'=>e=.returned (.int .u64 (A:Int))/\w'=u.val.drew):=ae CA ⟨u.val.drew,u.old.drew⟩
     have CS5:Hid (Calls Tryz.prog 198 #[.pointer (some ⟨gm,0,none⟩),.int .u64 (x:Int),.int .u64 (y:Int)] u.val.drew fun e w'=>e=.returned (.int .u64 (S:Int))/\w'=u.val.drew):=ae CS ⟨u.val.drew,u.old.drew⟩
     have c5:=hB5.cell (st+j) (by have:=ae HA1;have:=ae HA2;omega)
     have f5:=hB5.frozen (st+j)
     have c6:=yo u
     have f6:=hB5.frozen (a1+j)
     have hB7:=hide (((hB5.set (st+j) A).set (a1+j) S).drewN 1)
     have hG7:=hide (grown_drewN (az (az hG5 (aj _ g (st+j) (.int .u64 (A:Int)))) (aj _ g (a1+j) (.int .u64 (S:Int)))) 1)
     obtain⟨o5,ho5⟩:∃ o5,o5=zs.getD (st+j) 0:=⟨_,rfl⟩
     rw[<-ho5]at c5
     clear ho5 hB5 hG5 hB hG
     generalize u.val=w5 at *
     clear u
     have hmm:Hid (n-(j+1)<n-j):=by show _<_;omega
     go_wp2_with fail
     go_region_with (first|(go_at_call 212;refine(ae CA5).mono ?_;rintro e w6 ⟨rfl,hw6⟩;subst hw6)|(go_at_call 198;refine(ae CS5).mono ?_;rintro e w6 ⟨rfl,hw6⟩;subst hw6))
     all_goals
      focus
       go_wp2
       go_roundw
       case rel=>exact⟨j+1,_,by omega,by go_num,HS,ae hB7,ae hG7⟩
       case measure=>simp[intOf];have:=ae hmm;omega
    ·obtain rfl:j=n:=by omega
     have hJ2:Hid (nT F z0 zs j a2 0):=by
      have:=Cf hJ.out
      rw[<-ae HN2, <-ae HA2]at this
      exact this
     have hsq2:Hid (a2=n2*(q+1)):=by show _=_;rw[ae HA2,hsq.out,Nat.mul_add,Nat.mul_one]
     have hmm:Hid (N-a2<N-st):=by show _<_;have:=ae HA2;omega
     clear hJ
     go_wp2
     go_roundw
     case rel=>exact⟨q+1,a2,zs,i6,rfl,hsq2,hJ2,hB,hG⟩
     case measure=>simp[intOf];have:=ae hmm;omega
  ·obtain rfl:st=N:=by omega
   have hZ:=ae HE zs st hJ.out (Nat.le_refl _)
   subst hZ
   clear hJ
   go_wp2
   go_end0
   exact⟨rfl,hB,hG⟩
end Go.Proofs.YtgcnhfgpflncaaaGreatDoor
/- Package ntt:Forward. -/
namespace Go.Proofs.YtgcnhfgpflncaaaGreatDoor
open Go.RowKit
theorem yX(s:Nat):2^s+2^s=2^(s+1):=by rw[Nat.pow_succ];omega
theorem Ov{s L:Nat}(h:2^s<2^L):s<L:=by
 apply Nat.lt_of_not_le
 intro hle
 have:=Nat.pow_le_pow_right (n:=2) (by decide) hle
 omega
theorem Ou{s L:Nat}(h:s<=L):2^s<=2^L:=Nat.pow_le_pow_right (by decide) h
theorem iD{H L:Nat}(h1:H<=1048576)(h2:L<=20):H*L<=20971520:=Nat.mul_le_mul h1 h2
set_option maxRecDepth 100000 in
set_option maxHeartbeats 3200000 in
theorem gQ{w:World}{gt gm go oo gp p r L H:Nat}{s l m:Int}(P:PS w gt gm go oo gp p r L H)(hM:Met w go oo s l m)(N:Nat)(hN:N=2^L)(ga:Option Addr)(b o cap:Nat)(xs:List Nat)(hl:xs.length=N)(hR:Rep w ga b o cap xs)(hs0:0<=s)(hs:s<=4611686018427387904):
  Calls Tryz.prog 169 #[.pointer (some ⟨gt,0,none⟩),.slice ga N cap] w fun e w'=>e=.returned (.tuple #[.slice (some ⟨w.heap.size,0,none⟩) N N,.bool true])/\aB w' w.heap.size (jB p r xs)/\Met w' go oo (s+((H*L:Nat):Int)) l m/\Touch go oo 3 w w':=by
 have hL:=P.low
 have hNb:=aW hL
 have hH:=P.half
 rw[<-hN]at hNb hH
 have hp:=P.mw.low
 have hpo:=P.mw.odd
 have hph:=P.mw.high
 obtain⟨K,hK⟩:∃ K,K=H*L:=⟨_,rfl⟩
 have hKb:K<=20971520:=by rw[hK];exact iD (by omega) hL
 have eK:(H:Int)*(L:Int)=(K:Int):=by rw[hK];exact(Int.natCast_mul H L).symm
 have wK:IntKind.i64.wrap (K:Int)=(K:Int):=by rw[IntKind.wrap_i64];omega
 rw[<-hK]
 have eH:(N:Int).tdiv 2=(H:Int):=by rw[hH];rfl
 have eH2:(N:Int)/2=(H:Int):=by rw[hH];rfl
 have wH:IntKind.i64.wrap (H:Int)=(H:Int):=by rw[IntKind.wrap_i64];omega
 have CZ:=hide (fun w' (b:Below w.heap.size w w')=>size_any (P.next b) hN)
 have CS:=hide (qN P N hN ga b o cap xs hl hR)
 have HF:=hide (fun zs (h:JQ p r 0 L xs zs)=>KX (show 0<p by omega) (by rw[hl,hN]) h)
 have H0:=hide (fun zs (h:uH p L xs zs (2^L))=>Dc (r:=r) h)
 have HS:Hid (∀ z t zs,L=z+t+1->JQ p r (t+1) z xs zs->JQ p r t (z+1) xs (jn p (mp p r) (2^z) (2^t) zs)):=fun z t zs e h=>Hk (by rw[<-e];exact P.rt) hpo (by omega) h
 have HJ:Hid (∀(w':World) (z t n:Nat) (zs:List Nat),Below w.heap.size w w'->L=z+t+1->n=2^z->zs.length=N->aB w' w.heap.size zs->Calls Tryz.prog 191 #[.pointer (some ⟨gt,0,none⟩),.slice (some ⟨w.heap.size,0,none⟩) N N,.int .i64 (n:Int)] w' fun e w''=>e=.returned (.tuple #[])/\aB w'' w.heap.size (jn p (mp p r) n (2^t) zs)/\w'.grownBy w'' (some w.heap.size)):=fun w' z t n zs b e hn hz hB=>
  Ha (P.next b) z t n (2^t) N w.heap.size e hn rfl hN zs hz hB (by have:=P.lt;omega) (by have:=P.mw.lt;omega) (by have:=P.pw.lt;omega)
 have HLn:Hid (∀ t z zs,JQ p r t z xs zs->z+t=L->zs.length=N):=fun t z zs h e=>by rw[hN,h.1,e]
 have c1:=fun w' (b:Below w.heap.size w w')=>(b.cell (p:=⟨gt,1,none⟩) P.lt).trans P.c1
 have c2:=fun w' (b:Below w.heap.size w w')=>(b.cell (p:=⟨gt,2,none⟩) P.lt).trans P.c2
 have C1:=hide c1
 have C2:=hide c2
 have CM:=hide (fun w' (b:Below w.heap.size w w')=>dn (K:Int) (s+(K:Int)) (hM.next b) (by omega) (by omega) (by omega))
 have hgl:=hM.lt
 have HN:=hide hN
 have q1:((N:Int)!=(N:Int))=false:=by simp
 clear P hM c1 c2 hN hK hR hH
 generalize jB p r xs=Z at *
 generalize JQ p r=V at *
 obtain⟨G,hG⟩:∃ G,w.heap.size=G:=⟨_,rfl⟩
 rw[hG]at CZ CS HJ C1 C2 CM hgl ⊢
 have HG:=hide hG
 go_enter Tryz.func169,Tryz.ntmps169
 go_wp2_with fail
 refine(ae CZ _ (Below.refl _ _)).mono ?_
 rintro e w0 ⟨rfl,hw0⟩
 obtain rfl:=hw0.symm
 clear hw0
 go_wp2_with fail
 refine(ae CS).mono ?_
 rintro e w1 ⟨rfl,⟨z1,hz1,hB1⟩,b1⟩
 have hV1:=hide (ae H0 z1 hz1)
 clear hz1 CS hG H0
 have hB1:=hide hB1
 have hb1:=hide b1
 clear b1
 go_wp2
 go_loopw [7] (fun hv wr=>∃(z t n:Nat) (zs:List Nat),n<=N/\hv=.int .i64 (n:Int)/\Hid (z+t=L)/\Hid (n=2^z)/\Hid (V t z xs zs)/\aB wr G zs/\Below G w wr) (fun hv _=>N-(intOf hv).toNat)
 case atStart=>exact⟨0,L,1,z1,by have:=aJ L;rw[ae HN];exact this,rfl,Nat.zero_add L,rfl,hV1,ae hB1,ae hb1⟩
 case round=>
  clear hV1 hB1 hb1
  obtain⟨z,t,n,zs,hn,rfl,hzt,hnz,hV,hB,hb⟩:=hrel
  have hzl:=ae HLn t z zs hV.out hzt.out
  by_cases h1:n<N
  ·have hn1:(n:Int)<(N:Int):=by omega
   obtain⟨t,rfl⟩:∃ k,t=k+1:=⟨t-1,by
    have:=Ov (s:=z) (L:=L) (by rw[<-hnz.out, <-ae HN];exact h1)
    have:=hzt.out
    omega⟩
   have e:L=z+t+1:=by have:=hzt.out;omega
   have CJ:=hide (ae HJ wr z t n zs hb e hnz.out hzl hB)
   have hV2:=ae HS z t zs e hV.out
   rw[<-hnz.out]at hV2
   have HV2:=hide hV2
   obtain⟨n2,hn2⟩:∃ n2,n2=n+n:=⟨_,rfl⟩
   have e2:(n:Int)*2=(n2:Int):=by omega
   have w2:IntKind.i64.wrap (n2:Int)=(n2:Int):=by rw[IntKind.wrap_i64];omega
   have hnz2:Hid (n2=2^(z+1)):=by show _=_;rw[hn2,hnz.out,yX]
   have hle:n2<=N:=by rw[ae hnz2,ae HN];exact Ou (by omega)
   have hzt2:Hid (z+1+t=L):=by show _=_;omega
   have hmm:Hid (N-n2<N-n):=by show _<_;have:=aJ z;rw[<-hnz.out]at this;omega
   have hgs:Hid (G<=wr.heap.size):=by have:=hb.size;rw[HG.out]at this;exact this
   clear hV hn2 e hV2 hzl
   go_wp2_with fail
   refine(ae CJ).mono ?_
   rintro e w3 ⟨rfl,hB3,g3⟩
   have hb3:=below_grown hb g3 (Nat.le_refl _) (ae hgs)
   go_wp2
   go_roundw
   case rel=>exact⟨z+1,t,n2,_,hle,by first|rfl|go_num,hzt2,hnz2,HV2,hB3,hb3⟩
   case measure=>simp[intOf];have:=ae hmm;omega
  ·obtain rfl:n=N:=by omega
   obtain rfl:z=L:=by
    have h2:2^z=2^L:=by rw[<-hnz.out, <-ae HN]
    have h3:=hzt.out
    exact Nat.le_antisymm (by omega) (Nat.le_of_not_lt fun hlt=>absurd h2 (Nat.ne_of_lt (Nat.pow_lt_pow_right (by decide) hlt)))
   obtain rfl:t=0:=by have:=hzt.out;omega
   have hZ:=ae HF zs hV.out
   subst hZ
   have d1:=ae C1 wr hb
   have d2:=ae C2 wr hb
   have y1:=cH.cell d1
   have y2:=cH.cell d2
   have inst:=bD wr
   have hgs:Hid (G<=wr.heap.size):=by have:=hb.size;rw[HG.out]at this;exact this
   have CZ5:Hid (∀ u:cH wr,Calls Tryz.prog 168 #[.pointer (some ⟨gt,0,none⟩)] u.val fun e w'=>e=.returned (.int .i64 (n:Int))/\w'=u.val):=fun u=>ae CZ _ (hb.trans (u.old.mono (ae hgs)))
   clear hV hzt hnz
   go_wp2_with fail
   refine gW 12 (by kernel_rfl) (by kernel_rfl) (by kernel_rfl) (by kernel_rfl) (by kernel_rfl) (by kernel_rfl) ?_
   simp only[List.take_succ_cons,List.take_zero,List.drop_succ_cons,List.drop_zero]
   repeat (go_big_quiet_step (first|(go_at_call 168;exact Calls.old_same (ae CZ5 _))|fail))
   refine wpQuiet_nil ?_
   intro w5 hw5
   obtain⟨u,rfl⟩:=hw5
   have hB5:=hB.next u.old
   have hb5:Below G w u.val:=hb.trans (u.old.mono (ae hgs))
   generalize u.val=w5 at *
   clear u
   go_wp2_with fail
   refine(ae CM _ hb5).mono ?_
   rintro e w6 ⟨rfl,M6,T6⟩
   have T7:=Touch.after (by rw[HG.out];exact hb5) T6 (by rw[HG.out];exact hgl)
   have hB7:=hB5.but T6.grown (by omega)
   go_wp2
   go_ret2
   exact⟨rfl,hB7,M6,T7⟩
end Go.Proofs.YtgcnhfgpflncaaaGreatDoor
/- Package ntt:New;a row reversed. -/
namespace Go.Proofs.YtgcnhfgpflncaaaGreatDoor
open Go.RowKit
theorem KG{L H:Nat}(h:H=2^L/2)(hL:L<=20):H<=1048576:=by have:=aW hL;omega
set_option maxHeartbeats 3200000 in
theorem y7{w:World}{go oo p X L:Nat}{s l m:Int}(hM:Met w go oo s l m)(h:Nz p X)(hL:L<=20)(hd:L<=tw p)(hT:TB w):
  Calls Tryz.prog 167 #[.pointer (some ⟨go,oo,none⟩),.int .u64 (p:Int),.int .i64 (L:Int)] w fun e w'=>∃ gt gm gp H,e=.returned (.tuple #[.pointer (some ⟨gt,0,none⟩),.int .i64 0])/\PS w' gt gm go oo gp p (pw p X ((p-1)/2^L)) L H/\w.heap.size<=gt/\Below w.heap.size w w':=by
 have CR:=hide (IJ p X L w h.odd h.isP h.nonSq hL hd hT)
 have CN:=hide (fun w=>fY p w h.odd.1 h.odd.2.1 h.odd.2.2)
 obtain⟨r,hr⟩:∃ r,r=pw p X ((p-1)/2^L):=⟨_,rfl⟩
 have hrt:=h.rt hd
 rw[<-hr]at CR hrt ⊢
 obtain⟨H,hH⟩:∃ H,H=2^L/2:=⟨_,rfl⟩
 have hHb:=KG hH hL
 have CP:=hide (fun w' g (k:MW w' g p)=>tI r H k hHb)
 obtain⟨N,hN⟩:∃ N,N=2^L:=⟨_,rfl⟩
 have hNb:=aW hL
 have e1:=Nv hN
 have hH2:=hH
 rw[<-hN]at hNb hH2
 have e2:IntKind.i64.wrap (N:Int)=(N:Int):=by rw[IntKind.wrap_i64];omega
 have eH:(N:Int).tdiv 2=(H:Int):=by rw[hH2];rfl
 have eH2:(N:Int)/2=(H:Int):=by rw[hH2];rfl
 have wH:IntKind.i64.wrap (H:Int)=(H:Int):=by rw[IntKind.wrap_i64];omega
 have h0:¬(L:Int)<0:=by omega
 have hgl:=hM.lt
 have HRT:=hide hrt
 have HH:=hide hH
 clear hM h hT hr hd hH hH2 hN hrt
 go_enter Tryz.func167,Tryz.ntmps167
 go_wp2_with fail
 refine(ae CR).mono ?_
 rintro e w1 ⟨rfl,b1⟩
 clear CR
 go_wp2_with fail
 refine(ae CN _).mono ?_
 rintro e w2 ⟨gm,rfl,hW,hg,b2⟩
 have b:=ag b1 b2
 have hg2:w.heap.size<=gm:=Nat.le_trans b1.size hg
 have hs:=b.size
 have CP:=hide (ae CP w2 gm hW)
 have HW:=hide hW
 have HB:=hide b
 have HG:=hide hg2
 clear CN hW b1 b2 b hg hg2
 go_wp2_with fail
 refine(ae CP).mono ?_
 rintro e w3 ⟨rfl,hB,b3⟩
 have b4:=ag (ae HB) b3
 have hW3:=(ae HW).next b3
 have hs3:=b3.size
 have hl3:=hB.lt
 have hm3:=hW3.lt
 have HB3:=hide hB
 have HB4:=hide b4
 have HW3:=hide hW3
 clear CP hB b3 b4 hW3 HW HB
 go_wp2
 go_ret2
 have hk:=heap_alloc_new w3 (.cells #[.pointer (some ⟨gm,0,none⟩),.pointer (some ⟨go,oo,none⟩),.int .i64 (L:Int),.slice (some ⟨w2.heap.size,0,none⟩) H H] 197)
 have hgm:=ae HG
 have hb4:=ae HB4
 have hbl:=hb4.size
 have hal:Below w3.heap.size w3 (w3.alloc (.cells #[.pointer (some ⟨gm,0,none⟩),.pointer (some ⟨go,oo,none⟩),.int .i64 (L:Int),.slice (some ⟨w2.heap.size,0,none⟩) H H] 197)):=(Below.refl _ _).alloc (Nat.le_refl _) _
 refine⟨w3.heap.size,gm,w2.heap.size,H,rfl,⟨cell_of_row _ w3.heap.size 0 _ _ (0,0) hk,cell_of_row _ w3.heap.size 1 _ _ (0,0) hk,cell_of_row _ w3.heap.size 2 _ _ (0,0) hk,cell_of_row _ w3.heap.size 3 _ _ (0,0) hk,(ae HW3).next hal,(ae HB3).next hal,by omega,by omega,by omega,ae HH,hL,ae HRT⟩,hbl,hb4.alloc hbl _⟩
set_option maxRecDepth 100000 in
set_option maxHeartbeats 3200000 in
theorem nN(w:World)(g o n cap:Nat)(z0:List Nat)(hl:o+n<=z0.length)(hb:n<=1048576)(hB:aB w g z0):
  Calls Tryz.prog 193 #[.slice (some ⟨g,o,none⟩) n cap] w fun e w'=>e=.returned (.tuple #[])/\(∃ zs,gY z0 zs o n n/\aB w' g zs)/\w.grownBy w' (some g):=by
 obtain⟨j0,hj0⟩:∃ j0:Int,j0=(n:Int)-1:=⟨_,rfl⟩
 have e0:(n:Int)-1=j0:=hj0.symm
 have w0:IntKind.i64.wrap j0=j0:=by rw[IntKind.wrap_i64];omega
 have HJ:=hide hj0
 clear hj0
 go_enter Tryz.func193,Tryz.ntmps193
 go_wp2
 go_loopw [2,3] (fun iv jv wr=>∃(i:Nat) (j:Int) (zs:List Nat),i<=n/\iv=.int .i64 (i:Int)/\jv=.int .i64 j/\j=(n:Int)-1-(i:Int)/\Hid (gY z0 zs o n i)/\aB wr g zs/\w.grownBy wr (some g)) (fun iv _ _=>n-(intOf iv).toNat)
 case atStart=>exact⟨0,j0,z0,Nat.zero_le _,rfl,rfl,by have:=ae HJ;omega,tN z0 o n,hB,bK _ _⟩
 case round=>
  clear hB e0 w0 HJ
  obtain⟨i,j,zs,hi,rfl,rfl,hj,hV,hB,hG⟩:=hrel
  by_cases h1:2*i+1<n
  ·obtain⟨J,hJ⟩:∃ J:Nat,J=n-1-i:=⟨_,rfl⟩
   obtain rfl:j=(J:Int):=by omega
   have hlt:(i:Int)<(J:Int):=by omega
   have iJ:0<=(J:Int)/\(J:Int)<(n:Int):=by omega
   have ii:0<=(i:Int)/\(i:Int)<(n:Int):=by omega
   obtain⟨j2,hj2⟩:∃ j2:Int,j2=(J:Int)-1:=⟨_,rfl⟩
   have e2:(J:Int)-1=j2:=hj2.symm
   have w2:IntKind.i64.wrap j2=j2:=by rw[IntKind.wrap_i64];omega
   have hzl:=hV.out.1
   obtain⟨x,hx⟩:∃ x,x=z0.getD (o+i) 0:=⟨_,rfl⟩
   obtain⟨y,hy⟩:∃ y,y=z0.getD (o+J) 0:=⟨_,rfl⟩
   have cx:wr.cell? ⟨g,o+i,none⟩=some (.int .u64 (x:Int)):=by
    rw[hx, <-zm hV.out h1 hl]
    exact hB.cell (o+i) (by omega)
   have cy:wr.cell? ⟨g,o+J,none⟩=some (.int .u64 (y:Int)):=by
    have:=wN hV.out h1 hl
    rw[<-hJ]at this
    rw[hy, <-this]
    exact hB.cell (o+J) (by omega)
   have fx:=hB.frozen (o+i)
   have fy:=hB.frozen (o+J)
   have hstep:=wO hV.out h1 hl
   rw[<-hJ, <-hx, <-hy]at hstep
   have HS:=hide hstep
   have hB7:=hide (((hB.set (o+i) y).set (o+J) x).drewN 1)
   have hG7:=hide (grown_drewN (az (az hG (aj _ g (o+i) (.int .u64 (y:Int)))) (aj _ g (o+J) (.int .u64 (x:Int)))) 1)
   have n1:¬i=J:=by omega
   have n2:¬J=i:=by omega
   have hJ3:Hid (j2=(n:Int)-1-((i+1:Nat):Int)):=by show _=_;omega
   have hmm:Hid (n-(i+1)<n-i):=by show _<_;omega
   clear hx hy hstep hV hJ hj hj2
   go_wp2
   go_big_region
   all_goals
    focus
     go_wp2
     go_roundw
     case rel=>exact⟨i+1,j2,_,by omega,by go_num,rfl,ae hJ3,HS,ae hB7,ae hG7⟩
     case measure=>simp[intOf];have:=ae hmm;omega
  ·have hlt:¬(i:Int)<j:=by omega
   have hE:=hide (zk hV.out (by omega) hi)
   clear hV hj
   go_wp2
   go_end0
   exact⟨rfl,⟨zs,ae hE,hB⟩,hG⟩
end Go.Proofs.YtgcnhfgpflncaaaGreatDoor
/- Package ntt:Inverse. -/
namespace Go.Proofs.YtgcnhfgpflncaaaGreatDoor
open Go.RowKit
def cN(p L:Nat):Nat:=sb p 0 ((p-1)/2^L)
def vG(p r L:Nat)(xs:List Nat):List Nat:=(List.range (2^L)).map fun k=>ml p ((jB p r xs).getD ((2^L-k)%2^L) 0) (cN p L)
theorem yR(p r L:Nat)(xs:List Nat):(vG p r L xs).length=2^L:=by simp[vG]
theorem G9(p r L:Nat)(xs:List Nat){k:Nat}(h:k<2^L):(vG p r L xs).getD k 0=ml p ((jB p r xs).getD ((2^L-k)%2^L) 0) (cN p L):=mh _ h
theorem On{p:Nat}(hp:0<p)(r L:Nat)(xs:List Nat)(k:Nat)(h:k<2^L):(vG p r L xs).getD k 0<p:=by rw[G9 p r L xs h];exact Nat.mod_lt _ hp
theorem PI{p:Nat}(x c:Nat)(h:p%2=1)(hp:p<18446744073709551616):mm p x (ml p c 18446744073709551616)=ml p x c:=by
 have h0:0<p:=by omega
 have h1:=Nh x c 1 h hp
 have e:mp p c 1=ml p c 18446744073709551616:=by unfold mp ml;rw[Nat.pow_one]
 rw[e,Int.pow_succ,Int.pow_zero,Int.one_mul]at h1
 exact Cg.eq (h1.trans (vP p x c).symm) (Nat.mod_lt _ h0) (Nat.mod_lt _ h0)
set_option maxHeartbeats 1600000 in
theorem rS{w:World}{gt gm go oo gp p r L H:Nat}(P:PS w gt gm go oo gp p r L H):
  Calls Tryz.prog 195 #[.pointer (some ⟨gt,0,none⟩)] w fun e w'=>e=.returned (.int .u64 (cN p L:Int))/\Below w.heap.size w w':=by
 have hl:=P.mw.low
 have hh:=P.mw.high
 have hL:=P.low
 have c0:=P.c0
 have c2:=P.c2
 have y0:=cH.cell c0
 have y2:=cH.cell c2
 have inst:=bD w
 have CP:Hid (∀ u:cH w,Calls Tryz.prog 200 #[.pointer (some ⟨gm,0,none⟩)] u.val fun e w'=>e=.returned (.int .u64 (p:Int))/\w'=u.val):=fun u=>jG (P.mw.next u.old)
 have CN:Hid (∀(x:Nat) (u:cH w),Calls Tryz.prog 213 #[.pointer (some ⟨gm,0,none⟩),.int .u64 (x:Int)] u.val fun e w'=>e=.returned (.int .u64 (sb p 0 x:Int))/\w'=u.val):=fun x u=>Lh (P.mw.next u.old) x
 have es:=fC (p-1) L
 have CN:=hide (fun u=>ae CN ((p-1)/2^L) u)
 have HC:Hid (cN p L=sb p 0 ((p-1)/2^L)):=rfl
 rw[ae HC]
 generalize sb p 0 ((p-1)/2^L)=z at *
 generalize (p-1)/2^L=E at *
 obtain⟨N,hN⟩:∃ N,N=p-1:=⟨_,rfl⟩
 rw[<-hN]at es
 have eN:(p:Int)-1=(N:Int):=by omega
 have eNw:IntKind.u64.wrap (N:Int)=(N:Int):=by rw[IntKind.wrap_u64];omega
 have h0:¬(L:Int)<0:=by omega
 clear P hN HC
 go_enter Tryz.func195,Tryz.ntmps195
 go_wp2_with fail
 refine bn (by kernel_rfl) (by kernel_rfl) ?_
 repeat (go_big_quiet_step (first|(go_at_call 200;exact Calls.old_same (ae CP _))|(go_at_call 213;exact Calls.old_same (ae CN _))))
 refine wpQuiet_nil ?_
 intro w5 hw5
 obtain⟨u,rfl⟩:=hw5
 go_wp2
 go_ret
 exact⟨ax rfl,u.old⟩
theorem EZ{z0 zs:List Nat}{N:Nat}(hN:z0.length=N)(h1:1<=N)(h:gY z0 zs 1 (N-1) (N-1)){k:Nat}(hk:k<N):zs.getD k 0=z0.getD ((N-k)%N) 0:=by
 rw[h.2 k (by omega)]
 by_cases e:k=0
 ·subst e
  rw[if_neg (by omega)]
  congr 1
  rw[Nat.sub_zero,Nat.mod_self]
 ·rw[if_pos (by omega)]
  congr 1
  rw[Nat.mod_eq_of_lt (by omega)]
  omega
set_option maxRecDepth 100000 in
set_option maxHeartbeats 3200000 in
theorem nG{w:World}{gt gm go oo gp p r L H:Nat}{s l m:Int}(P:PS w gt gm go oo gp p r L H)(hM:Met w go oo s l m)(N:Nat)(hN:N=2^L)(ga:Option Addr)(b o cap:Nat)(xs:List Nat)(hl:xs.length=N)(hR:Rep w ga b o cap xs)(hs0:0<=s)(hs:s<=4611686018427387904):
  Calls Tryz.prog 171 #[.pointer (some ⟨gt,0,none⟩),.slice ga N cap] w fun e w'=>e=.returned (.tuple #[.slice (some ⟨w.heap.size,0,none⟩) N N,.bool true])/\aB w' w.heap.size (vG p r L xs)/\Met w' go oo (s+((H*L+N:Nat):Int)) l m/\Touch go oo 3 w w':=by
 have hL:=P.low
 have hNb:=aW hL
 have hN1:=aJ L
 rw[<-hN]at hNb hN1
 have hH:=P.half
 rw[<-hN]at hH
 have hKb:H*L<=20971520:=iD (by omega) hL
 have CF:=hide (gQ P hM N hN ga b o cap xs hl hR hs0 hs)
 have hfl:(jB p r xs).length=N:=by rw[bJ,hl]
 have HI:Hid (vG p r L xs=(List.range N).map fun k=>ml p ((jB p r xs).getD ((N-k)%N) 0) (cN p L)):=by show _=_;unfold vG;rw[hN]
 have HW:Hid (∀ w',Touch go oo 3 w w'->PS w' gt gm go oo gp p r L H):=fun w' t=>P.but t.grown
 have HMM:Hid (∀ x c,mm p x (ml p c 18446744073709551616)=ml p x c):=fun x c=>PI x c P.mw.odd (by have:=P.mw.high;omega)
 have hgl:=hM.lt
 generalize vG p r L xs=Z at *
 generalize jB p r xs=F at *
 generalize H*L=K at *
 obtain⟨S,hS⟩:∃ S:Int,S=s+((K+N:Nat):Int):=⟨_,rfl⟩
 rw[<-hS]
 have HS:=hide hS
 clear P hM hN hR hH hl hS
 obtain⟨G,hG⟩:∃ G,w.heap.size=G:=⟨_,rfl⟩
 rw[hG]at CF hgl ⊢
 have HG:=hide hG
 clear hG
 go_enter Tryz.func171,Tryz.ntmps171
 go_wp2_with fail
 refine(ae CF).mono ?_
 rintro e w1 ⟨rfl,hB1,M1,T1⟩
 clear CF
 by_cases h1:N=1
 ·subst h1
  have CR:=hide (nN w1 G 0 0 0 F (by omega) (by omega) hB1)
  have HT1:=hide T1
  have HM1:=hide M1
  clear hB1 T1 M1
  go_wp2_with fail
  refine(ae CR).mono ?_
  rintro e w2 ⟨rfl,⟨z2,hz2,hB2⟩,g2⟩
  have hz:Hid (z2.length=1/\∀ k,k<1->z2.getD k 0=F.getD ((1-k)%1) 0):=⟨by rw[hz2.1,hfl],fun k hk=>by
   obtain rfl:k=0:=by omega
   rw[hz2.2 0 (by omega),if_neg (by omega)]⟩
  clear hz2
  have hgG:go≠G:=by omega
  have T2:=(ae HT1).fresh g2 (by rw[HG.out];exact hgl) (by rw[HG.out];exact Nat.le_refl _)
  have M2:=(ae HM1).but g2 hgG
  have P2:=ae HW _ T2
  have y0:=cH.cell P2.c0
  have inst:=bD w2
  have CSh:Hid (∀ u:cH w2,Calls Tryz.prog 195 #[.pointer (some ⟨gt,0,none⟩)] u.val fun e w'=>e=.returned (.int .u64 (cN p L:Int))/\Below u.val.heap.size u.val w'):=fun u=>rS (P2.next u.old)
  have CMo:Hid (∀ u:cH w2,Calls Tryz.prog 194 #[.pointer (some ⟨gm,0,none⟩),.int .u64 (cN p L:Int)] u.val fun e w'=>e=.returned (.int .u64 (ml p (cN p L) 18446744073709551616:Int))/\w'=u.val):=fun u=>fZ (P2.next u.old).mw (cN p L)
  have HX:Hid (∀ x,mm p x (ml p (cN p L) 18446744073709551616)=ml p x (cN p L)):=fun x=>ae HMM x (cN p L)
  have HT2:=hide T2
  have HM2:=hide M2
  have hB2:=hide hB2
  have hgl2:Hid (go<w2.heap.size):=M2.lt
  clear T2 M2 P2 HT1 HM1 g2 CR
  generalize ml p (cN p L) 18446744073709551616=q at *
  generalize cN p L=c at *
  go_wp2_with fail
  refine bn (by kernel_rfl) (by kernel_rfl) ?_
  repeat (go_big_quiet_step (first|(go_at_call 195;exact Calls.old (ae CSh _))|(go_at_call 194;exact Calls.old_same (ae CMo _))))
  refine wpQuiet_nil ?_
  intro w5 hw5
  obtain⟨u,rfl⟩:=hw5
  have T5:=hide ((ae HT2).then u.old (ae hgl2))
  have M5:=hide ((ae HM2).next u.old)
  have B5:=hide ((ae hB2).next u.old)
  generalize u.val=w5 at *
  clear u y0 inst CSh CMo HT2 HM2 hB2 hgl2
  go_wp2
  go_loopw [31] (fun iv wr=>∃(k:Nat) (zs:List Nat),k<=1/\iv=.int .i64 (k:Int)/\Hid (eB (fun i=>ml p (z2.getD i 0) c) z2 zs k)/\aB wr G zs/\Met wr go oo (s+(K:Int)) l m/\Touch go oo 3 w wr) (fun iv _=>1-(intOf iv).toNat)
  case atStart=>exact⟨0,z2,Nat.zero_le _,rfl,fF _ z2,ae B5,ae M5,ae T5⟩
  case round=>
   clear T5 M5 B5
   obtain⟨k,zs,hk,rfl,hV,hB,hM,hT⟩:=hrel
   have hz2l:=hz.out.1
   have hzl:zs.length=1:=by rw[hV.out.1,hz2l]
   by_cases h2:k<1
   ·have hk1:(k:Int)<(1:Int):=by omega
    obtain⟨x,hx⟩:∃ x,x=z2.getD k 0:=⟨_,rfl⟩
    have cx:wr.cell? ⟨G,k,none⟩=some (.int .u64 (x:Int)):=by
     rw[hx, <-kn hV.out (by omega)]
     exact hB.cell k (by omega)
    have P5:=ae HW _ hT
    have c0:=P5.c0
    have CMm:Hid (Calls Tryz.prog 196 #[.pointer (some ⟨gm,0,none⟩),.int .u64 (x:Int),.int .u64 (q:Int)] wr fun e w'=>e=.returned (.int .u64 (ml p x c:Int))/\w'=wr):=by
     have:=bg P5.mw x q
     rw[ae HX x]at this
     exact this
    have hstep:Hid (eB (fun i=>ml p (z2.getD i 0) c) z2 (zs.set k (ml p x c)) (k+1)):=by rw[hx];exact gV hV.out (by omega)
    have hmm:Hid (1-(k+1)<1-k):=by show _<_;omega
    have hgw:Hid (go<wr.heap.size):=hM.lt
    clear P5 hx hV
    generalize ml p x c=y at *
    go_wp2_with fail
    refine(ae CMm).mono ?_
    rintro e w6 ⟨rfl,hw6⟩
    obtain rfl:=hw6.symm
    clear hw6
    have f6:=hB.frozen k
    have B7:=hide (hB.set k y)
    have M7:=hide (hM.but (aj _ G k (.int .u64 (y:Int))) hgG)
    have T7:=hide (hT.fresh (aj _ G k (.int .u64 (y:Int))) (by rw[HG.out];exact hgl) (by rw[HG.out];exact Nat.le_refl _))
    go_wp2
    go_roundw
    case rel=>exact⟨k+1,_,by omega,by go_num,hstep,ae B7,ae M7,ae T7⟩
    case measure=>simp[intOf];have:=ae hmm;omega
   ·obtain rfl:k=1:=by omega
    have hZ:zs=Z:=by
     have hme:=iZ (f:=fun i=>ml p (z2.getD i 0) c) (z0:=z2) (zs:=zs) (by rw[hz2l];exact hV.out)
     rw[hz2l]at hme
     rw[ae HI,hme]
     apply List.map_congr_left
     intro i hi
     rw[hz.out.2 i (List.mem_range.1 hi)]
    subst hZ
    have P5:=ae HW _ hT
    have c1:=P5.c1
    have eS:=ae HS
    have CSp:=hide (dn (1:Int) S hM (by omega) (by omega) (by omega))
    clear hV P5 hzl hz2l HI eS
    go_wp2_with fail
    refine(ae CSp).mono ?_
    rintro e w6 ⟨rfl,M6,T6⟩
    have hB7:=hB.but T6.grown (by omega)
    have T7:=hT.trans T6
    go_wp2
    go_ret2
    exact⟨rfl,hB7,M6,T7⟩
 ·obtain⟨n1,hn1⟩:∃ n1,n1=N-1:=⟨_,rfl⟩
  have i1:(1:Int)<=(N:Int):=by omega
  have i3:N-1=n1:=hn1.symm
  have CR:=hide (nN w1 G 1 n1 n1 F (by omega) (by omega) hB1)
  have HT1:=hide T1
  have HM1:=hide M1
  have HN1:=hide hn1
  clear hB1 T1 M1 hn1
  go_wp2_with fail
  refine(ae CR).mono ?_
  rintro e w2 ⟨rfl,⟨z2,hz2,hB2⟩,g2⟩
  have hz:Hid (z2.length=N/\∀ k,k<N->z2.getD k 0=F.getD ((N-k)%N) 0):=⟨by rw[hz2.1,hfl],fun k hk=>by
   rw[ae HN1]at hz2
   exact EZ hfl hN1 hz2 hk⟩
  clear hz2 i1 i3 HN1
  have hgG:go≠G:=by omega
  have T2:=(ae HT1).fresh g2 (by rw[HG.out];exact hgl) (by rw[HG.out];exact Nat.le_refl _)
  have M2:=(ae HM1).but g2 hgG
  have P2:=ae HW _ T2
  have y0:=cH.cell P2.c0
  have inst:=bD w2
  have CSh:Hid (∀ u:cH w2,Calls Tryz.prog 195 #[.pointer (some ⟨gt,0,none⟩)] u.val fun e w'=>e=.returned (.int .u64 (cN p L:Int))/\Below u.val.heap.size u.val w'):=fun u=>rS (P2.next u.old)
  have CMo:Hid (∀ u:cH w2,Calls Tryz.prog 194 #[.pointer (some ⟨gm,0,none⟩),.int .u64 (cN p L:Int)] u.val fun e w'=>e=.returned (.int .u64 (ml p (cN p L) 18446744073709551616:Int))/\w'=u.val):=fun u=>fZ (P2.next u.old).mw (cN p L)
  have HX:Hid (∀ x,mm p x (ml p (cN p L) 18446744073709551616)=ml p x (cN p L)):=fun x=>ae HMM x (cN p L)
  have HT2:=hide T2
  have HM2:=hide M2
  have hB2:=hide hB2
  have hgl2:Hid (go<w2.heap.size):=M2.lt
  clear T2 M2 P2 HT1 HM1 g2 CR
  generalize ml p (cN p L) 18446744073709551616=q at *
  generalize cN p L=c at *
  go_wp2_with fail
  refine bn (by kernel_rfl) (by kernel_rfl) ?_
  repeat (go_big_quiet_step (first|(go_at_call 195;exact Calls.old (ae CSh _))|(go_at_call 194;exact Calls.old_same (ae CMo _))))
  refine wpQuiet_nil ?_
  intro w5 hw5
  obtain⟨u,rfl⟩:=hw5
  have T5:=hide ((ae HT2).then u.old (ae hgl2))
  have M5:=hide ((ae HM2).next u.old)
  have B5:=hide ((ae hB2).next u.old)
  generalize u.val=w5 at *
  clear u y0 inst CSh CMo HT2 HM2 hB2 hgl2
  go_wp2
  go_loopw [31] (fun iv wr=>∃(k:Nat) (zs:List Nat),k<=N/\iv=.int .i64 (k:Int)/\Hid (eB (fun i=>ml p (z2.getD i 0) c) z2 zs k)/\aB wr G zs/\Met wr go oo (s+(K:Int)) l m/\Touch go oo 3 w wr) (fun iv _=>N-(intOf iv).toNat)
  case atStart=>exact⟨0,z2,Nat.zero_le _,rfl,fF _ z2,ae B5,ae M5,ae T5⟩
  case round=>
   clear T5 M5 B5
   obtain⟨k,zs,hk,rfl,hV,hB,hM,hT⟩:=hrel
   have hz2l:=hz.out.1
   have hzl:zs.length=N:=by rw[hV.out.1,hz2l]
   by_cases h2:k<N
   ·have hk1:(k:Int)<(N:Int):=by omega
    obtain⟨x,hx⟩:∃ x,x=z2.getD k 0:=⟨_,rfl⟩
    have cx:wr.cell? ⟨G,k,none⟩=some (.int .u64 (x:Int)):=by
     rw[hx, <-kn hV.out (by omega)]
     exact hB.cell k (by omega)
    have P5:=ae HW _ hT
    have c0:=P5.c0
    have CMm:Hid (Calls Tryz.prog 196 #[.pointer (some ⟨gm,0,none⟩),.int .u64 (x:Int),.int .u64 (q:Int)] wr fun e w'=>e=.returned (.int .u64 (ml p x c:Int))/\w'=wr):=by
     have:=bg P5.mw x q
     rw[ae HX x]at this
     exact this
    have hstep:Hid (eB (fun i=>ml p (z2.getD i 0) c) z2 (zs.set k (ml p x c)) (k+1)):=by rw[hx];exact gV hV.out (by omega)
    have hmm:Hid (N-(k+1)<N-k):=by show _<_;omega
    have hgw:Hid (go<wr.heap.size):=hM.lt
    clear P5 hx hV
    generalize ml p x c=y at *
    go_wp2_with fail
    refine(ae CMm).mono ?_
    rintro e w6 ⟨rfl,hw6⟩
    obtain rfl:=hw6.symm
    clear hw6
    have f6:=hB.frozen k
    have B7:=hide (hB.set k y)
    have M7:=hide (hM.but (aj _ G k (.int .u64 (y:Int))) hgG)
    have T7:=hide (hT.fresh (aj _ G k (.int .u64 (y:Int))) (by rw[HG.out];exact hgl) (by rw[HG.out];exact Nat.le_refl _))
    go_wp2
    go_roundw
    case rel=>exact⟨k+1,_,by omega,by go_num,hstep,ae B7,ae M7,ae T7⟩
    case measure=>simp[intOf];have:=ae hmm;omega
   ·obtain rfl:k=N:=by omega
    have hZ:zs=Z:=by
     have hme:=iZ (f:=fun i=>ml p (z2.getD i 0) c) (z0:=z2) (zs:=zs) (by rw[hz2l];exact hV.out)
     rw[hz2l]at hme
     rw[ae HI,hme]
     apply List.map_congr_left
     intro i hi
     rw[hz.out.2 i (List.mem_range.1 hi)]
    subst hZ
    have P5:=ae HW _ hT
    have c1:=P5.c1
    have eS:=ae HS
    have CSp:=hide (dn (k:Int) S hM (by omega) (by omega) (by omega))
    clear hV P5 hzl hz2l HI eS
    go_wp2_with fail
    refine(ae CSp).mono ?_
    rintro e w6 ⟨rfl,M6,T6⟩
    have hB7:=hB.but T6.grown (by omega)
    have T7:=hT.trans T6
    go_wp2
    go_ret2
    exact⟨rfl,hB7,M6,T7⟩
end Go.Proofs.YtgcnhfgpflncaaaGreatDoor
/- Package ntt:Cyclic,Conv. -/
namespace Go.Proofs.YtgcnhfgpflncaaaGreatDoor
open Go.RowKit
def vT(p:Nat)(xs ys:List Nat):List Nat:=(List.range xs.length).map fun i=>ml p (xs.getD i 0) (ys.getD i 0)
theorem vV(p:Nat)(xs ys:List Nat):(vT p xs ys).length=xs.length:=by simp[vT]
theorem Le(p:Nat)(xs ys:List Nat){k:Nat}(h:k<xs.length):(vT p xs ys).getD k 0=ml p (xs.getD k 0) (ys.getD k 0):=mh _ h
def vk(p r L:Nat)(xs ys:List Nat):List Nat:=vG p r L (vT p (jB p r xs) (jB p r ys))
set_option maxRecDepth 100000 in
set_option maxHeartbeats 3200000 in
theorem yF{w:World}{gt gm go oo gp p r L H:Nat}{s l m:Int}(P:PS w gt gm go oo gp p r L H)(hM:Met w go oo s l m)(N:Nat)(hN:N=2^L)(ga gb:Option Addr)(b o cap b' o' cap':Nat)(xs ys:List Nat)(hl:xs.length=N)(hR:Rep w ga b o cap xs)(hl':ys.length=N)(hR':Rep w gb b' o' cap' ys)(hb:b'≠go)(hs0:0<=s)(hs:s<=2305843009213693952):
  Calls Tryz.prog 215 #[.pointer (some ⟨gt,0,none⟩),.slice ga N cap,.slice gb N cap'] w fun e w'=>∃ g,e=.returned (.tuple #[.slice (some ⟨g,0,none⟩) N N,.bool true])/\w.heap.size<=g/\aB w' g (vk p r L xs ys)/\Met w' go oo (s+((3*(H*L)+2*N:Nat):Int)) l m/\Touch go oo 3 w w':=by
 have hL:=P.low
 have hNb:=aW hL
 have hN1:=aJ L
 rw[<-hN]at hNb hN1
 have hH:=P.half
 rw[<-hN]at hH
 have hKb:H*L<=20971520:=iD (by omega) hL
 have CZ:=hide (size_any P hN)
 have CF:=hide (gQ P hM N hN ga b o cap xs hl hR hs0 (by omega))
 have HW:Hid (∀ w',Touch go oo 3 w w'->PS w' gt gm go oo gp p r L H):=fun w' t=>P.but t.grown
 have hgl:=hM.lt
 have HF2:Hid (∀ w',Touch go oo 3 w w'->Met w' go oo (s+((H*L:Nat):Int)) l m->Calls Tryz.prog 169 #[.pointer (some ⟨gt,0,none⟩),.slice gb N cap'] w' fun e w''=>e=.returned (.tuple #[.slice (some ⟨w'.heap.size,0,none⟩) N N,.bool true])/\aB w'' w'.heap.size (jB p r ys)/\Met w'' go oo (s+((H*L:Nat):Int)+((H*L:Nat):Int)) l m/\Touch go oo 3 w' w''):=fun w' t M=>
  gQ (P.but t.grown) M N hN gb b' o' cap' ys hl' (hR'.but t.grown (fun _=>hb)) (by omega) (by omega)
 have HI:Hid (∀ w' g (s':Int) (zs:List Nat),Touch go oo 3 w w'->Met w' go oo s' l m->zs.length=N->aB w' g zs->0<=s'->s'<=4611686018427387904->Calls Tryz.prog 171 #[.pointer (some ⟨gt,0,none⟩),.slice (some ⟨g,0,none⟩) N N] w' fun e w''=>e=.returned (.tuple #[.slice (some ⟨w'.heap.size,0,none⟩) N N,.bool true])/\aB w'' w'.heap.size (vG p r L zs)/\Met w'' go oo (s'+((H*L+N:Nat):Int)) l m/\Touch go oo 3 w' w''):=fun w' g s' zs t M hz hB h0 h1=>
  nG (P.but t.grown) M N hN (some ⟨g,0,none⟩) g 0 N zs hz (hB.whole hz) h0 h1
 have HC:Hid (vk p r L xs ys=vG p r L ((List.range N).map fun i=>ml p ((jB p r xs).getD i 0) ((jB p r ys).getD i 0))):=by
  show _=_
  unfold vk vT
  rw[bJ,hl]
 have hfx:(jB p r xs).length=N:=by rw[bJ,hl]
 have hfy:(jB p r ys).length=N:=by rw[bJ,hl']
 have HCM:=hide (fun w' g (h:MW w' g p) x y=>mul_mod h x y)
 have q1:((N:Int)!=(N:Int))=false:=by simp
 generalize vk p r L xs ys=Z at *
 generalize jB p r xs=X at *
 generalize jB p r ys=Y at *
 generalize vG p r L=I at *
 generalize H*L=K at *
 obtain⟨S,hS⟩:∃ S:Int,S=s+((3*K+2*N:Nat):Int):=⟨_,rfl⟩
 rw[<-hS]
 have HS:=hide hS
 obtain⟨s1,hs1⟩:∃ s1:Int,s1=s+(K:Int):=⟨_,rfl⟩
 obtain⟨s2,hs2⟩:∃ s2:Int,s2=s1+(K:Int):=⟨_,rfl⟩
 obtain⟨s3,hs3⟩:∃ s3:Int,s3=s2+(N:Int):=⟨_,rfl⟩
 rw[<-hs1]at CF HF2
 rw[<-hs2]at HF2
 have HS1:=hide hs1
 have HS2:=hide hs2
 have HS3:=hide hs3
 have r2:0<=s2/\s3<=4611686018427387904/\s3+((K+N:Nat):Int)=S/\s3=s2+max (N:Int) 0/\s2<=s3:=by omega
 clear P hM hN hR hR' hH hl hl' hS hb hs1 hs2 hs3
 go_enter Tryz.func215,Tryz.ntmps215
 go_wp2_with fail
 refine(ae CZ).mono ?_
 rintro e w0 ⟨rfl,hw0⟩
 obtain rfl:=hw0.symm
 clear hw0
 go_wp2_with fail
 refine(ae CZ).mono ?_
 rintro e w0 ⟨rfl,hw0⟩
 obtain rfl:=hw0.symm
 clear hw0 CZ
 go_wp2_with fail
 refine(ae CF).mono ?_
 rintro e w1 ⟨rfl,hB1,M1,T1⟩
 clear CF
 go_wp2_with fail
 refine(ae HF2 _ T1 M1).mono ?_
 rintro e w2 ⟨rfl,hB2,M2,T2⟩
 have hlt:=hB1.lt
 have hB1:=hB1.but T2.grown (by omega)
 have T2:=T1.trans T2
 have hgw:go<w1.heap.size:=M1.lt
 obtain⟨G1,hG1⟩:∃ G1,w.heap.size=G1:=⟨_,rfl⟩
 obtain⟨G2,hG2⟩:∃ G2,w1.heap.size=G2:=⟨_,rfl⟩
 rw[hG1]at hB1 hlt hgl ⊢
 rw[hG2]at hB2 hlt hgw ⊢
 have HG1:=hide hG1
 have B1:=hide hB1
 have B2:=hide hB2
 have HT2:=hide T2
 have HM2:=hide M2
 clear hG1 hG2 hB1 hB2 T2 M2 T1 M1 HF2
 go_wp2
 go_loopw [39] (fun iv wr=>∃(k:Nat) (zs:List Nat),k<=N/\iv=.int .i64 (k:Int)/\Hid (eB (fun i=>ml p (X.getD i 0) (Y.getD i 0)) X zs k)/\aB wr G1 zs/\aB wr G2 Y/\Met wr go oo s2 l m/\Touch go oo 3 w wr) (fun iv _=>N-(intOf iv).toNat)
 case atStart=>exact⟨0,X,Nat.zero_le _,rfl,fF _ X,ae B1,ae B2,ae HM2,ae HT2⟩
 case round=>
  clear B1 B2 HM2 HT2
  obtain⟨k,zs,hk,rfl,hV,hB,hBY,hM,hT⟩:=hrel
  have hzl:zs.length=N:=by rw[hV.out.1,hfx]
  by_cases h2:k<N
  ·have hk1:(k:Int)<(N:Int):=by omega
   obtain⟨x,hx⟩:∃ x,x=X.getD k 0:=⟨_,rfl⟩
   obtain⟨y,hy⟩:∃ y,y=Y.getD k 0:=⟨_,rfl⟩
   have cx:wr.cell? ⟨G1,k,none⟩=some (.int .u64 (x:Int)):=by
    rw[hx, <-kn hV.out (by omega)]
    exact hB.cell k (by omega)
   have cy:wr.cell? ⟨G2,k,none⟩=some (.int .u64 (y:Int)):=by rw[hy];exact hBY.cell k (by omega)
   have P5:=ae HW _ hT
   have y0:=cH.cell P5.c0
   have yx:=cH.cell cx
   have yy:=cH.cell cy
   have inst:=bD wr
   have CMm:Hid (∀ u:cH wr,Calls Tryz.prog 170 #[.pointer (some ⟨gm,0,none⟩),.int .u64 (x:Int),.int .u64 (y:Int)] u.val fun e w'=>e=.returned (.int .u64 (ml p x y:Int))/\Below u.val.heap.size u.val w'):=fun u=>ae HCM _ gm (P5.mw.next u.old) x y
   have hstep:Hid (eB (fun i=>ml p (X.getD i 0) (Y.getD i 0)) X (zs.set k (ml p x y)) (k+1)):=by rw[hx,hy];exact gV hV.out (by omega)
   have hmm:Hid (N-(k+1)<N-k):=by show _<_;omega
   have hgw2:Hid (go<wr.heap.size):=hM.lt
   have n1:Hid (G2≠G1/\go≠G1):=by show _/\_;omega
   clear P5 hx hy hV
   generalize ml p x y=v at *
   go_wp2_with fail
   refine gW 16 (by kernel_rfl) (by kernel_rfl) (by kernel_rfl) (by kernel_rfl) (by kernel_rfl) (by kernel_rfl) ?_
   simp only[List.take_succ_cons,List.take_zero,List.drop_succ_cons,List.drop_zero]
   repeat (go_big_quiet_step (first|(go_at_call 170;exact Calls.old (ae CMm _))|fail))
   refine wpQuiet_nil ?_
   intro w6 hw6
   obtain⟨u,rfl⟩:=hw6
   have hB6:=hB.next u.old
   have c6:=hB6.cell k (by omega)
   have f6:=hB6.frozen k
   have B7:=hide (hB6.set k v)
   have Y7:=hide ((hBY.next u.old).but (aj _ G1 k (.int .u64 (v:Int))) n1.out.1)
   have M7:=hide ((hM.next u.old).but (aj _ G1 k (.int .u64 (v:Int))) n1.out.2)
   have T7:=hide ((hT.then u.old (ae hgw2)).fresh (aj _ G1 k (.int .u64 (v:Int))) (by rw[HG1.out];exact hgl) (by rw[HG1.out];exact Nat.le_refl _))
   generalize u.val=w6 at *
   clear u hB6 y0 yx yy inst
   go_wp2
   go_roundw
   case rel=>exact⟨k+1,_,by omega,by go_num,hstep,ae B7,ae Y7,ae M7,ae T7⟩
   case measure=>simp[intOf];have:=ae hmm;omega
  ·obtain rfl:k=N:=by omega
   have hme:=iZ (f:=fun i=>ml p (X.getD i 0) (Y.getD i 0)) (z0:=X) (zs:=zs) (by rw[hfx];exact hV.out)
   rw[hfx]at hme
   have HZ:Hid (I zs=Z):=by show _=_;rw[ae HC,hme]
   have P5:=ae HW _ hT
   have c1:=P5.c1
   have CSp:=hide (dn (k:Int) s3 hM (by omega) (by omega) r2.2.2.2.1)
   obtain⟨r21,r22,r23,r24,r25⟩:=r2
   have R22:=hide r22
   have R23:=hide r23
   have R20:Hid (0<=s3):=by show _<=_;omega
   have n1:Hid (G1≠go):=by show _≠_;omega
   clear hV P5 hme HC r21 r22 r23 r24 r25
   go_wp2_with fail
   refine(ae CSp).mono ?_
   rintro e w6 ⟨rfl,M6,T6⟩
   have hB7:=hB.but T6.grown n1.out
   have T7:=hT.trans T6
   have CI:=hide (ae HI _ G1 s3 zs T7 M6 hzl hB7 (ae R20) (ae R22))
   have HT7:=hide T7
   have hle:Hid (G1<=w6.heap.size):=Nat.le_of_lt hB7.lt
   clear M6 T6 hB7 T7 c1
   go_wp2_with fail
   refine(ae CI).mono ?_
   rintro e w8 ⟨rfl,hB8,M8,T8⟩
   rw[ae HZ]at hB8
   rw[ae R23]at M8
   have T9:=(ae HT7).trans T8
   go_wp2
   go_ret2
   exact⟨_,rfl,by rw[HG1.out];exact ae hle,hB8,M8,T9⟩
set_option maxRecDepth 100000 in
set_option maxHeartbeats 1600000 in
theorem pF{w:World}{gt gm go oo gp p r L H:Nat}(P:PS w gt gm go oo gp p r L H)(n:Nat)(hN:n=2^L)(ga:Option Addr)(b o cap l:Nat)(xs:List Nat)(hl:xs.length=l)(hR:Rep w ga b o cap xs):
  Calls Tryz.prog 216 #[.pointer (some ⟨gt,0,none⟩),.slice ga l cap] w fun e w'=>e=.returned (.slice (some ⟨w.heap.size,0,none⟩) n n)/\aB w' w.heap.size (aR n xs)/\Below w.heap.size w w':=by
 have hn:=aW P.low
 rw[<-hN]at hn
 have CZ:=hide (size_any P hN)
 have hmk:=ou n n (n:Int) rfl rfl (by omega)
 obtain⟨k,hk⟩:∃ k,k=min n l:=⟨_,rfl⟩
 have hkl:k<=xs.length:=by omega
 have hR2:=hR.take k hkl
 have hyl:(xs.take k).length=k:=by simp;omega
 have e:aR n xs=xs.take k++List.replicate (n-k) 0:=by unfold aR;rw[hl, <-hk]
 rw[e]
 have HC:=hide (fun ob=>iS hR2 ob)
 generalize xs.take k=ys at *
 clear hR hR2 e hkl hN P
 go_enter Tryz.func216,Tryz.ntmps216
 go_wp2_with fail
 refine(ae CZ).mono ?_
 rintro e w0 ⟨rfl,hw0⟩
 obtain rfl:=hw0.symm
 clear hw0 CZ
 go_wp2_with (refine wpList_copy_splice rfl _ _ 24 24 rfl 41 Tryz.underlying24 Tryz.sizeU _ _ n n l cap rfl rfl w.heap.size 0 (aF n) 41 ?h1 (df ys) ?h2 ?h3 ?h4 (cells_one _) w.heap.size w ?h5 (Nat.le_refl _) ?_)
 case h1=>exact heap_alloc_new w _
 case h2=>rw[aG,hyl];exact hk.trans (Nat.min_comm n l)
 case h3=>exact ae HC _
 case h4=>rw[aG,dr,hyl];omega
 case h5=>exact(Below.refl _ _).alloc (Nat.le_refl _) _
 intro w2 hblk hb2
 have hB:aB w2 w.heap.size (ys++List.replicate (n-k) 0):=by
  show _=_
  rw[<-pX ys n k hyl (by omega)]
  exact hblk.out
 clear hblk HC hmk
 go_wp2
 go_ret
 exact⟨aQ rfl,hB,hb2⟩
set_option maxRecDepth 100000 in
set_option maxHeartbeats 3200000 in
theorem F6{w:World}{gt gm go oo gp p r L H:Nat}{s l m:Int}(P:PS w gt gm go oo gp p r L H)(hM:Met w go oo s l m)(N n:Nat)(hN:N=2^L)(ga gb:Option Addr)(b o cap b' o' cap' la lb:Nat)(xs ys:List Nat)(hl:xs.length=la)(hR:Rep w ga b o cap xs)(hl':ys.length=lb)(hR':Rep w gb b' o' cap' ys)(ha:1<=la)(hb:1<=lb)(hn:n+1=la+lb)(hnN:n<=N)(hs0:0<=s)(hs:s<=2305843009213693952):
  Calls Tryz.prog 201 #[.pointer (some ⟨gt,0,none⟩),.slice ga la cap,.slice gb lb cap'] w fun e w'=>∃ g,e=.returned (.tuple #[.slice (some ⟨g,0,none⟩) n N,.bool true])/\w.heap.size<=g/\aB w' g (vk p r L (aR N xs) (aR N ys))/\Met w' go oo (s+((3*(H*L)+2*N:Nat):Int)) l m/\Touch go oo 3 w w':=by
 have hNb:=aW P.low
 rw[<-hN]at hNb
 have CZ:=hide (size_any P hN)
 have CA:=hide (pF P N hN ga b o cap la xs hl hR)
 have CB:=hide (fun w' (t:Below w.heap.size w w')=>pF (P.next t) N hN gb b' o' cap' lb ys hl' (hR'.next t))
 have hgl:=hM.lt
 have CY:Hid (∀ w' G1 G2 (zs ys:List Nat),Below w.heap.size w w'->aB w' G1 zs->aB w' G2 ys->zs.length=N->ys.length=N->G2≠go->Calls Tryz.prog 215 #[.pointer (some ⟨gt,0,none⟩),.slice (some ⟨G1,0,none⟩) N N,.slice (some ⟨G2,0,none⟩) N N] w' fun e w''=>∃ g,e=.returned (.tuple #[.slice (some ⟨g,0,none⟩) N N,.bool true])/\w'.heap.size<=g/\aB w'' g (vk p r L zs ys)/\Met w'' go oo (s+((3*(H*L)+2*N:Nat):Int)) l m/\Touch go oo 3 w' w''):=fun w' G1 G2 zs ys t B1 B2 h1 h2 h3=>
  yF (P.next t) (hM.next t) N hN _ _ G1 0 N G2 0 N zs ys h1 (B1.whole h1) h2 (B2.whole h2) h3 hs0 hs
 have h1:=dZ N xs
 have h2:=dZ N ys
 generalize vk p r L=C at *
 generalize aR N xs=X at *
 generalize aR N ys=Y at *
 generalize s+((3*(H*L)+2*N:Nat):Int)=S at *
 obtain⟨n1,hn1⟩:∃ n1,n1=la+lb:=⟨_,rfl⟩
 have e1:(la:Int)+(lb:Int)=(n1:Int):=by omega
 have e2:(n1:Int)-1=(n:Int):=by omega
 have w1':IntKind.i64.wrap (n1:Int)=(n1:Int):=by rw[IntKind.wrap_i64];omega
 have w2':IntKind.i64.wrap (n:Int)=(n:Int):=by rw[IntKind.wrap_i64];omega
 have q1:((la:Int)==0)=false:=by rw[beq_eq_false_iff_ne];omega
 have q2:((lb:Int)==0)=false:=by rw[beq_eq_false_iff_ne];omega
 have q3:¬(N:Int)<(n:Int):=by omega
 have q4:decide ((N:Int)<(n:Int))=false:=by simp;omega
 have i1:(n:Int)<=(N:Int):=by omega
 clear P hM hN hR hR' hl hl' hn hn1 ha hb
 go_enter Tryz.func201,Tryz.ntmps201
 go_wp2_with fail
 refine(ae CZ).mono ?_
 rintro e w0 ⟨rfl,hw0⟩
 obtain rfl:=hw0.symm
 clear hw0 CZ
 go_wp2_with fail
 refine(ae CA).mono ?_
 rintro e w1 ⟨rfl,hB1,b1⟩
 clear CA
 go_wp2_with fail
 refine(ae CB _ b1).mono ?_
 rintro e w2 ⟨rfl,hB2,b2⟩
 clear CB
 have hgw:w1.heap.size≠go:=by have:=b1.size;omega
 have b3:=ag b1 b2
 have hB1:=hB1.next b2
 have hsz:=b3.size
 have CY:=hide (ae CY w2 w.heap.size w1.heap.size X Y b3 hB1 hB2 h1 h2 hgw)
 have HB3:=hide b3
 have HS:=hide hsz
 clear b1 b2 hB1 hB2 hgw hsz b3
 go_wp2_with fail
 refine(ae CY).mono ?_
 rintro e w4 ⟨g,rfl,hg,hB4,M4,T4⟩
 have T5:=T4.after (ae HB3) hgl
 have hg2:Hid (w.heap.size<=g):=Nat.le_trans (ae HS) hg
 clear hg
 go_wp2
 go_ret2
 exact⟨g,rfl,ae hg2,hB4,M4,T5⟩
end Go.Proofs.YtgcnhfgpflncaaaGreatDoor
/- What comes back,and products by transforms:the code's rows are the reference's. Nothing of any program here. -/
namespace Go.Proofs.YtgcnhfgpflncaaaGreatDoor
theorem NW{p L:Nat}(hp:0<p)(h:(p-1)/2^L*2^L=p-1):Cg p ((cN p L:Int)*((2^L:Nat):Int)) 1:=by
 have h1:=(pT hp 0 ((p-1)/2^L)).mul (Cg.refl p ((2^L:Nat):Int))
 refine h1.trans ?_
 have e:(((0:Nat):Int)-(((p-1)/2^L:Nat):Int))*((2^L:Nat):Int)= -(((p-1:Nat)):Int):=by
  generalize (p-1)/2^L=a at h ⊢
  generalize 2^L=b at h ⊢
  have h':((p-1:Nat):Int)=(a:Int)*(b:Int):=by rw[<-h,Int.natCast_mul]
  rw[h',Int.natCast_zero,Int.zero_sub,Int.neg_mul]
 rw[e]
 exact⟨-1,by omega⟩
def vr(r N:Nat):Int:=(r:Int)^(N-1)
theorem JC{p r L:Nat}(h:Rt p (r:Int) L):Cg p ((r:Int)*vr r (2^L)) 1:=by
 have h1:=h.one
 have e:(r:Int)*vr r (2^L)=(r:Int)^2^L:=by
  unfold vr
  have:=aJ L
  obtain⟨m,hm⟩:∃ m,2^L=m+1:=⟨2^L-1,by omega⟩
  rw[hm,Int.pow_succ,Int.mul_comm]
  rfl
 rw[e]
 exact h1
theorem Kt{p r L:Nat}(h:Rt p (r:Int) L)(a:Nat->Int){k:Nat}(hk:k<2^L):Cg p (gK (r:Int) (2^L) a ((2^L-k)%2^L)) (gK (vr r (2^L)) (2^L) a k):=by
 refine jM fun j _=>(Cg.refl p (a j)).mul ?_
 have hv:=JC h
 have hone:=h.one
 by_cases e:k=0
 ·subst e
  rw[Nat.sub_zero,Nat.mod_self,Nat.mul_zero,Int.pow_zero,Int.pow_zero]
  exact Cg.refl _ _
 ·rw[Nat.mod_eq_of_lt (by omega)]
  -- both are what r to the j k is the other way of
  have h1:Cg p ((r:Int)^(j*(2^L-k))*(r:Int)^(j*k)) 1:=by
   rw[<-Int.pow_add, <-Nat.mul_add,show 2^L-k+k=2^L by omega]
   exact f8 hone j
  have h2:=lZ hv (j*k)
  have h3:=(Cg.refl p ((r:Int)^(j*(2^L-k)))).mul h2
  rw[Int.mul_one]at h3
  refine h3.symm.trans ?_
  rw[<-Int.mul_assoc]
  have h4:=h1.mul (Cg.refl p (vr r (2^L)^(j*k)))
  rwa [Int.one_mul]at h4
theorem Om{p r L:Nat}{xs:List Nat}(h:Rt p (r:Int) L)(hl:xs.length=2^L){k:Nat}(hk:k<2^L):Cg p (aT (vG p r L xs) k) ((cN p L:Int)*gK (vr r (2^L)) (2^L) (aT xs) k):=by
 have hm:(2^L-k)%2^L<xs.length:=by rw[hl];exact Nat.mod_lt _ (by omega)
 have h1:Cg p (aT (vG p r L xs) k) (aT (jB p r xs) ((2^L-k)%2^L)*(cN p L:Int)):=by
  unfold aT
  rw[G9 p r L xs hk]
  exact vP p _ _
 refine h1.trans ?_
 rw[Int.mul_comm]
 refine(Cg.refl p _).mul ((sV xs hm).trans ?_)
 rw[hl]
 exact Kt h _ hk
theorem kW(p r L:Nat)(xs ys:List Nat):(vk p r L xs ys).length=2^L:=yR p r L _
theorem Ob{p:Nat}(hp:0<p)(r L:Nat)(xs ys:List Nat)(k:Nat)(h:k<2^L):(vk p r L xs ys).getD k 0<p:=On hp r L _ k h
theorem Oa{p r L:Nat}{xs ys:List Nat}(hp:0<p)(h:Rt p (r:Int) L)(hd:(p-1)/2^L*2^L=p-1)(hl:xs.length=2^L)(hl':ys.length=2^L){k:Nat}(hk:k<2^L):Cg p (aT (vk p r L xs ys) k) (N9 (2^L) (aT xs) (aT ys) k):=by
 have hml:(vT p (jB p r xs) (jB p r ys)).length=2^L:=by rw[vV,bJ,hl]
 refine(Om h hml hk).trans ?_
 refine Gh h (JC h) (NW hp hd) (fun i hi=>?_) k hk
 have e:aT (vT p (jB p r xs) (jB p r ys)) i=(ml p ((jB p r xs).getD i 0) ((jB p r ys).getD i 0):Int):=by
  unfold aT
  rw[Le p _ _ (by rw[bJ,hl];exact hi)]
 rw[e]
 have h1:=sV (p:=p) (w:=r) xs (k:=i) (by omega)
 have h2:=sV (p:=p) (w:=r) ys (k:=i) (by omega)
 rw[hl]at h1
 rw[hl']at h2
 exact(vP p _ _).trans (h1.mul h2)
theorem take_at(zs:List Nat){n k:Nat}(h:k<n):(zs.take n).getD k 0=zs.getD k 0:=by
 rw[List.getD_eq_getElem?_getD,List.getD_eq_getElem?_getD,List.getElem?_take,if_pos h]
theorem vm{p r L n:Nat}{xs ys:List Nat}(hp:0<p)(h:Rt p (r:Int) L)(hd:(p-1)/2^L*2^L=p-1)(hx:1<=xs.length)(hy:1<=ys.length)(hn:n+1=xs.length+ys.length)(hN:n<=2^L):(vk p r L (aR (2^L) xs) (aR (2^L) ys)).take n=uY p n xs ys:=by
 refine AB (p:=p) (n:=n) (by rw[List.length_take,kW];omega) (sS p _ xs ys) (fun k hk=>?_) (fun k _=>uZ hp k) fun k hk=>?_
 ·rw[take_at _ hk]
  exact Ob hp r L _ _ k (by omega)
 ·have e:aT ((vk p r L (aR (2^L) xs) (aR (2^L) ys)).take n) k=aT (vk p r L (aR (2^L) xs) (aR (2^L) ys)) k:=by
   unfold aT
   rw[take_at _ hk]
  rw[e]
  exact(Oa hp h hd (dZ _ xs) (dZ _ ys) (by omega)).trans (F7 hx hy hn hN k hk).symm
end Go.Proofs.YtgcnhfgpflncaaaGreatDoor
/- What the statements on transforms call:the examples,a plan. -/
namespace Go.Proofs.YtgcnhfgpflncaaaGreatDoor
open Go.RowKit
end Go.Proofs.YtgcnhfgpflncaaaGreatDoor
/- Package conv:a number by its three remainders. -/
namespace Go.Proofs.YtgcnhfgpflncaaaGreatDoor
open Go.RowKit
set_option maxHeartbeats 1600000 in
theorem gZ(a b c hi lo:Nat)(w:World)(ha:a<18446744073709551616)(hb:b<18446744073709551616)(hc:c<18446744073709551616)(h:hi*18446744073709551616+lo=a*b+c)(hlo:lo<18446744073709551616):
  Calls Tryz.prog 199 #[.int .u64 (a:Int),.int .u64 (b:Int),.int .u64 (c:Int)] w fun e w'=>e=.returned (.tuple #[.int .u64 (hi:Int),.int .u64 (lo:Int)])/\w'=w:=by
 have hlt:=mA ha hb hc
 have C1:=hide (fun w=>fw a b w ha hb)
 have hT:=Nat.div_add_mod (a*b) 18446744073709551616
 have hl1:=Nat.mod_lt (a*b) (show 0<18446744073709551616 by omega)
 generalize a*b/18446744073709551616=h1 at *
 generalize a*b%18446744073709551616=l1 at *
 generalize a*b=ab at *
 have C2:Hid (∀ w,Calls Tryz.prog 98 #[.int .u64 (l1:Int),.int .u64 (c:Int),.int .u64 0] w fun e w'=>e=.returned (.tuple #[.int .u64 (((l1+c+0)%18446744073709551616:Nat):Int),.int .u64 (((l1+c+0)/18446744073709551616:Nat):Int)])/\w'=w):=fun w=>ef l1 c 0 0 w (.inl ⟨rfl,rfl⟩)
 have hT2:=Nat.div_add_mod (l1+c+0) 18446744073709551616
 have hl2:=Nat.mod_lt (l1+c+0) (show 0<18446744073709551616 by omega)
 generalize (l1+c+0)/18446744073709551616=k at *
 generalize (l1+c+0)%18446744073709551616=l2 at *
 have e1:l2=lo:=by omega
 have e2:(h1:Int)+(k:Int)=(hi:Int):=by omega
 have e3:IntKind.u64.wrap (hi:Int)=(hi:Int):=by rw[IntKind.wrap_u64];omega
 subst e1
 clear ha hb hc h hlo hlt hT hl1 hT2 hl2
 go_enter Tryz.func199,Tryz.ntmps199
 go_wp2_with fail
 refine(ae C1 _).mono ?_
 rintro e w1 ⟨rfl,hw⟩
 obtain rfl:=hw.symm
 clear hw
 go_wp2_with fail
 refine(ae C2 _).mono ?_
 rintro e w1 ⟨rfl,hw⟩
 obtain rfl:=hw.symm
 clear hw
 go_wp2
 go_ret2
 exact⟨rfl,rfl⟩
theorem pE{w:World}{gp gq p q:Nat}(hp:MW w gp p)(hq:MW w gq q)(hg:Nat.gcd p q=1):
  Calls Tryz.prog 197 #[.pointer (some ⟨gp,0,none⟩),.pointer (some ⟨gq,0,none⟩)] w fun e w'=>∃ v,e=.returned (.int .u64 (ml q v 18446744073709551616:Int))/\ml q p v=1/\Below w.heap.size w w':=by
 have CP:=hide (jG hp)
 have CI:=hide (KJ hq p)
 have CM:=hide (fun w' (b:Below w.heap.size w w') v=>fZ (hq.next b) v)
 clear hp hq
 generalize hF:(fun v=>ml q v 18446744073709551616)=F at *
 have CM:Hid (∀ w' (_:Below w.heap.size w w') (v:Nat),Calls Tryz.prog 194 #[.pointer (some ⟨gq,0,none⟩),.int .u64 (v:Int)] w' fun e w''=>e=.returned (.int .u64 (F v:Int))/\w''=w'):=by rw[<-hF];exact ae CM
 have HF:Hid (∀ v,F v=ml q v 18446744073709551616):=by rw[<-hF];intro v;rfl
 clear hF
 go_enter Tryz.func197,Tryz.ntmps197
 go_wp2_with fail
 refine(ae CP).mono ?_
 rintro e w1 ⟨rfl,hw⟩
 obtain rfl:=hw.symm
 clear hw
 go_wp2_with fail
 refine(ae CI).mono ?_
 rintro e w1 ⟨v,rfl,hv,b1⟩
 rcases hv with⟨_,x,hx,h1,rfl⟩|⟨hn,_⟩
 ·have CM:=hide (ae CM w1 b1 x)
  clear CP CI
  go_wp2_with fail
  refine(ae CM).mono ?_
  rintro e w2 ⟨rfl,hw⟩
  obtain rfl:=hw.symm
  clear hw
  go_wp2
  go_ret
  exact⟨x,ax (by rw[ae HF x]),h1,b1⟩
 ·exact absurd hg hn
structure GS(w:World)(g gp gq gr v v2 v3:Nat):Prop where
 c0:w.cell? ⟨g,0,none⟩=some (.pointer (some ⟨gp,0,none⟩))
 c1:w.cell? ⟨g,1,none⟩=some (.pointer (some ⟨gq,0,none⟩))
 c2:w.cell? ⟨g,2,none⟩=some (.pointer (some ⟨gr,0,none⟩))
 c3:w.cell? ⟨g,3,none⟩=some (.int .u64 (ml dC v 18446744073709551616:Int))
 c4:w.cell? ⟨g,4,none⟩=some (.int .u64 (ml bR v2 18446744073709551616:Int))
 c5:w.cell? ⟨g,5,none⟩=some (.int .u64 (ml bR v3 18446744073709551616:Int))
 mp:MW w gp dN
 mq:MW w gq dC
 mr:MW w gr bR
 i1:ml dC dN v=1
 i2:ml bR dN v2=1
 i3:ml bR dC v3=1
theorem GS.lt{w:World}{g gp gq gr v v2 v3:Nat}(h:GS w g gp gq gr v v2 v3):g<w.heap.size:=World.block_lt_of_cell? _ _ h.c0
theorem GS.next{w w':World}{g gp gq gr v v2 v3:Nat}(h:GS w g gp gq gr v v2 v3)(b:Below w.heap.size w w'):GS w' g gp gq gr v v2 v3:=
 ⟨(b.cell (p:=⟨g,0,none⟩) h.lt).trans h.c0,(b.cell (p:=⟨g,1,none⟩) h.lt).trans h.c1,(b.cell (p:=⟨g,2,none⟩) h.lt).trans h.c2,(b.cell (p:=⟨g,3,none⟩) h.lt).trans h.c3,(b.cell (p:=⟨g,4,none⟩) h.lt).trans h.c4,(b.cell (p:=⟨g,5,none⟩) h.lt).trans h.c5,h.mp.next b,h.mq.next b,h.mr.next b,h.i1,h.i2,h.i3⟩
theorem Px:Nat.gcd dN dC=1:=by decide+kernel
theorem Py:Nat.gcd dN bR=1:=by decide+kernel
theorem Pz:Nat.gcd dC bR=1:=by decide+kernel
set_option maxRecDepth 100000 in
set_option maxHeartbeats 3200000 in
theorem qF(w:World):
  Calls Tryz.prog 172 #[] w fun e w'=>∃ g gp gq gr v v2 v3,e=.returned (.pointer (some ⟨g,0,none⟩))/\GS w' g gp gq gr v v2 v3/\Below w.heap.size w w':=by
 have C3:=hide (fun w=>jr w)
 have N0:Hid (∀ w,Calls Tryz.prog 188 #[.int .u64 180143985094819841] w fun e w'=>∃ g,e=.returned (.tuple #[.pointer (some ⟨g,0,none⟩),.int .i64 0])/\MW w' g dN/\w.heap.size<=g/\Below w.heap.size w w'):=fun w=>fY dN w (by decide) (by decide) (by decide)
 have N1:Hid (∀ w,Calls Tryz.prog 188 #[.int .u64 1945555039024054273] w fun e w'=>∃ g,e=.returned (.tuple #[.pointer (some ⟨g,0,none⟩),.int .i64 0])/\MW w' g dC/\w.heap.size<=g/\Below w.heap.size w w'):=fun w=>fY dC w (by decide) (by decide) (by decide)
 have N2:Hid (∀ w,Calls Tryz.prog 188 #[.int .u64 4179340454199820289] w fun e w'=>∃ g,e=.returned (.tuple #[.pointer (some ⟨g,0,none⟩),.int .i64 0])/\MW w' g bR/\w.heap.size<=g/\Below w.heap.size w w'):=fun w=>fY bR w (by decide) (by decide) (by decide)
 go_enter Tryz.func172,Tryz.ntmps172
 go_wp2_with fail
 refine(ae C3 _).mono ?_
 rintro e w1 ⟨rfl,b⟩
 have hk:=heap_alloc_new w1 (.cells #[.int .u64 180143985094819841,.int .i64 55,.int .u64 6,.int .u64 1945555039024054273,.int .i64 56,.int .u64 5,.int .u64 4179340454199820289,.int .i64 57,.int .u64 3] 188)
 have bl:=b.alloc b.size (.cells #[.int .u64 180143985094819841,.int .i64 55,.int .u64 6,.int .u64 1945555039024054273,.int .i64 56,.int .u64 5,.int .u64 4179340454199820289,.int .i64 57,.int .u64 3] 188)
 obtain⟨W1,hW1⟩:∃ W1,w1.alloc (.cells #[.int .u64 180143985094819841,.int .i64 55,.int .u64 6,.int .u64 1945555039024054273,.int .i64 56,.int .u64 5,.int .u64 4179340454199820289,.int .i64 57,.int .u64 3] 188)=W1:=⟨_,rfl⟩
 rw[hW1]at hk bl
 obtain⟨G,hG⟩:∃ G,w1.heap.size=G:=⟨_,rfl⟩
 rw[hG]at hk
 have c0:W1.cell? ⟨G,0,none⟩=some (.int .u64 180143985094819841):=cell_of_row _ G 0 _ _ (0,0) hk
 have c3:W1.cell? ⟨G,3,none⟩=some (.int .u64 1945555039024054273):=cell_of_row _ G 3 _ _ (0,0) hk
 have c6:W1.cell? ⟨G,6,none⟩=some (.int .u64 4179340454199820289):=cell_of_row _ G 6 _ _ (0,0) hk
 have gl:Hid (G<W1.heap.size):=World.block_lt_of_cell? _ _ c0
 have bl:=hide bl
 have B1:=hide (Below.refl W1.heap.size W1)
 have D3:Hid (∀ W,Below W1.heap.size W1 W->W.cell? ⟨G,3,none⟩=some (.int .u64 1945555039024054273)):=fun W b=>(b.cell (p:=⟨G,3,none⟩) (ae gl)).trans c3
 have D6:Hid (∀ W,Below W1.heap.size W1 W->W.cell? ⟨G,6,none⟩=some (.int .u64 4179340454199820289)):=fun W b=>(b.cell (p:=⟨G,6,none⟩) (ae gl)).trans c6
 clear C3 b hk c3 c6 gl
 go_wp2_with fail
 refine(ae N0 _).mono ?_
 rintro e w2 ⟨gp,rfl,mp,_,b⟩
 have bl:=hide (ag (ae bl) b)
 have B1:=hide (ag (ae B1) b)
 have c3:=ae D3 _ (ae B1)
 clear N0 b c0 hW1 hG
 go_wp2_with fail
 refine(ae N1 _).mono ?_
 rintro e w3 ⟨gq,rfl,mq,_,b⟩
 have bl:=hide (ag (ae bl) b)
 have mp:=mp.next b
 have B1:=hide (ag (ae B1) b)
 have c6:=ae D6 _ (ae B1)
 clear N1 b c3 D3
 go_wp2_with fail
 refine(ae N2 _).mono ?_
 rintro e w4 ⟨gr,rfl,mr,_,b⟩
 have bl:=hide (ag (ae bl) b)
 have mp:=mp.next b
 have mq:=mq.next b
 clear N2 b c6 D6
 go_wp2_with fail
 refine(pE mp mq Px).mono ?_
 rintro e w5 ⟨v,rfl,i1,b⟩
 have bl:=hide (ag (ae bl) b)
 have mp:=mp.next b
 have mq:=mq.next b
 have mr:=mr.next b
 have I1:=hide i1
 clear b i1
 go_wp2_with fail
 refine(pE mp mr Py).mono ?_
 rintro e w6 ⟨v2,rfl,i2,b⟩
 have bl:=hide (ag (ae bl) b)
 have mp:=mp.next b
 have mq:=mq.next b
 have mr:=mr.next b
 have I2:=hide i2
 clear b i2
 go_wp2_with fail
 refine(pE mq mr Pz).mono ?_
 rintro e w7 ⟨v3,rfl,i3,b⟩
 have bl:=hide (ag (ae bl) b)
 have mp:=hide (mp.next b)
 have mq:=hide (mq.next b)
 have mr:=hide (mr.next b)
 have I3:=hide i3
 clear b i3
 obtain⟨m1,h1⟩:∃ m,m=ml dC v 18446744073709551616:=⟨_,rfl⟩
 obtain⟨m2,h2⟩:∃ m,m=ml bR v2 18446744073709551616:=⟨_,rfl⟩
 obtain⟨m3,h3⟩:∃ m,m=ml bR v3 18446744073709551616:=⟨_,rfl⟩
 rw[<-h1, <-h2, <-h3]
 have H1:=hide h1
 have H2:=hide h2
 have H3:=hide h3
 clear h1 h2 h3
 go_wp2
 go_ret
 have hk:=heap_alloc_new w7 (.cells #[.pointer (some ⟨gp,0,none⟩),.pointer (some ⟨gq,0,none⟩),.pointer (some ⟨gr,0,none⟩),.int .u64 (m1:Int),.int .u64 (m2:Int),.int .u64 (m3:Int)] 224)
 have hal:Below w7.heap.size w7 (w7.alloc (.cells #[.pointer (some ⟨gp,0,none⟩),.pointer (some ⟨gq,0,none⟩),.pointer (some ⟨gr,0,none⟩),.int .u64 (m1:Int),.int .u64 (m2:Int),.int .u64 (m3:Int)] 224)):=(Below.refl _ _).alloc (Nat.le_refl _) _
 refine⟨w7.heap.size,gp,gq,gr,v,v2,v3,rfl,⟨cell_of_row _ w7.heap.size 0 _ _ (0,0) hk,cell_of_row _ w7.heap.size 1 _ _ (0,0) hk,cell_of_row _ w7.heap.size 2 _ _ (0,0) hk,?_,?_,?_,(ae mp).next hal,(ae mq).next hal,(ae mr).next hal,ae I1,ae I2,ae I3⟩,ag (ae bl) hal⟩
 ·rw[<-ae H1];exact cell_of_row _ w7.heap.size 3 _ _ (0,0) hk
 ·rw[<-ae H2];exact cell_of_row _ w7.heap.size 4 _ _ (0,0) hk
 ·rw[<-ae H3];exact cell_of_row _ w7.heap.size 5 _ _ (0,0) hk
theorem Js:dN<18446744073709551616/\dC<18446744073709551616/\bR<18446744073709551616:=by decide
theorem nw(n:Nat):n/18446744073709551616*18446744073709551616+n%18446744073709551616=n:=by
 have:=Nat.div_add_mod n 18446744073709551616
 omega
def yi(r0 r1 r2 t0 t1 t2:Nat):Prop:=t0<18446744073709551616/\t1<18446744073709551616/\t2<18446744073709551616/\v3 t0 t1 t2%dN=r0%dN/\v3 t0 t1 t2%dC=r1%dC/\v3 t0 t1 t2%bR=r2%bR/\v3 t0 t1 t2<dN*dC*bR
set_option maxRecDepth 100000 in
set_option maxHeartbeats 6400000 in
theorem y8{w:World}{g gp gq gr v v2 v3':Nat}(h:GS w g gp gq gr v v2 v3')(r0 r1 r2:Nat):
  Calls Tryz.prog 173 #[.pointer (some ⟨g,0,none⟩),.int .u64 (r0:Int),.int .u64 (r1:Int),.int .u64 (r2:Int)] w fun e w'=>∃ t0 t1 t2:Nat,e=.returned (.agg #[.int .u64 (t0:Int),.int .u64 (t1:Int),.int .u64 (t2:Int)])/\yi r0 r1 r2 t0 t1 t2/\Below w.heap.size w w':=by
 obtain⟨l0,l1,l2⟩:=Js
 have hx:=MX r0
 have hy:=MY r0 r1 v
 have hz:=MZ r0 r1 r2 v v2 v3'
 have G0:=P9 r0 r1 r2 v v2 v3'
 have G1:=Qa (r0:=r0) (r1:=r1) (r2:=r2) (v2:=v2) (v3:=v3') h.i1
 have G2:=Qb (r0:=r0) (r1:=r1) (r2:=r2) (v:=v) h.i2 h.i3
 have G3:=PC r0 r1 r2 v v2 v3'
 unfold gn at G0 G1 G2 G3
 have CR:Hid (∀ W,Below w.heap.size w W->Calls Tryz.prog 192 #[.pointer (some ⟨gp,0,none⟩),.int .u64 (r0:Int)] W fun e w'=>e=.returned (.int .u64 (gx r0:Int))/\w'=W):=fun W b=>je (h.mp.next b) r0
 have CS1:=hide (fun W (b:Below w.heap.size w W)=>jh (h.mq.next b) r1 (gx r0))
 have CM1:Hid (∀ W,Below w.heap.size w W->Calls Tryz.prog 196 #[.pointer (some ⟨gq,0,none⟩),.int .u64 (sb dC r1 (gx r0):Int),.int .u64 (ml dC v 18446744073709551616:Int)] W fun e w'=>e=.returned (.int .u64 (gy r0 r1 v:Int))/\w'=W):=fun W b=>by
  have:=bg (h.mq.next b) (sb dC r1 (gx r0)) (ml dC v 18446744073709551616)
  rw[Hr _ _ (by decide) l1]at this
  exact this
 have CS2:=hide (fun W (b:Below w.heap.size w W)=>jh (h.mr.next b) r2 (gx r0))
 have CM2:Hid (∀ W,Below w.heap.size w W->Calls Tryz.prog 196 #[.pointer (some ⟨gr,0,none⟩),.int .u64 (sb bR r2 (gx r0):Int),.int .u64 (ml bR v2 18446744073709551616:Int)] W fun e w'=>e=.returned (.int .u64 (ml bR (sb bR r2 (gx r0)) v2:Int))/\w'=W):=fun W b=>by
  have:=bg (h.mr.next b) (sb bR r2 (gx r0)) (ml bR v2 18446744073709551616)
  rw[Hr _ _ (by decide) l2]at this
  exact this
 have CS3:=hide (fun W (b:Below w.heap.size w W)=>jh (h.mr.next b) (ml bR (sb bR r2 (gx r0)) v2) (gy r0 r1 v))
 have CM3:Hid (∀ W,Below w.heap.size w W->Calls Tryz.prog 196 #[.pointer (some ⟨gr,0,none⟩),.int .u64 (sb bR (ml bR (sb bR r2 (gx r0)) v2) (gy r0 r1 v):Int),.int .u64 (ml bR v3' 18446744073709551616:Int)] W fun e w'=>e=.returned (.int .u64 (gz r0 r1 r2 v v2 v3':Int))/\w'=W):=fun W b=>by
  have:=bg (h.mr.next b) (sb bR (ml bR (sb bR r2 (gx r0)) v2) (gy r0 r1 v)) (ml bR v3' 18446744073709551616)
  rw[Hr _ _ (by decide) l2]at this
  exact this
 have CPq:=hide (fun W (b:Below w.heap.size w W)=>jG (h.mq.next b))
 have CPp:=hide (fun W (b:Below w.heap.size w W)=>jG (h.mp.next b))
 have D0:=hide (fun W (b:Below w.heap.size w W)=>(h.next b).c0)
 have D1:=hide (fun W (b:Below w.heap.size w W)=>(h.next b).c1)
 have D2:=hide (fun W (b:Below w.heap.size w W)=>(h.next b).c2)
 have D3:=hide (fun W (b:Below w.heap.size w W)=>(h.next b).c3)
 have D4:=hide (fun W (b:Below w.heap.size w W)=>(h.next b).c4)
 have D5:=hide (fun W (b:Below w.heap.size w W)=>(h.next b).c5)
 clear h
 generalize sb bR (ml bR (sb bR r2 (gx r0)) v2) (gy r0 r1 v)=s3 at *
 generalize ml bR (sb bR r2 (gx r0)) v2=rest at *
 generalize sb bR r2 (gx r0)=s2 at *
 generalize sb dC r1 (gx r0)=s1 at *
 generalize ml dC v 18446744073709551616=m1 at *
 generalize ml bR v2 18446744073709551616=m2 at *
 generalize ml bR v3' 18446744073709551616=m3 at *
 generalize gz r0 r1 r2 v v2 v3'=z at *
 generalize gy r0 r1 v=y at *
 generalize gx r0=x at *
 have E1:=nw (z*dC+y)
 have L1:=Nat.mod_lt (z*dC+y) (show 0<18446744073709551616 by omega)
 generalize (z*dC+y)/18446744073709551616=hi at *
 generalize (z*dC+y)%18446744073709551616=lo at *
 have E2:=nw (lo*dN+x)
 have L2:=Nat.mod_lt (lo*dN+x) (show 0<18446744073709551616 by omega)
 generalize (lo*dN+x)/18446744073709551616=mid at *
 generalize (lo*dN+x)%18446744073709551616=w0 at *
 have E3:=nw (hi*dN+mid)
 have L3:=Nat.mod_lt (hi*dN+mid) (show 0<18446744073709551616 by omega)
 generalize (hi*dN+mid)/18446744073709551616=t2 at *
 generalize (hi*dN+mid)%18446744073709551616=t1 at *
 have hhi:hi<18446744073709551616:=by
  have:=mA (a:=z) (b:=dC) (c:=y) (by omega) l1 (by omega)
  omega
 have hmid:mid<18446744073709551616:=by
  have:=mA (a:=lo) (b:=dN) (c:=x) L1 l0 (by omega)
  omega
 have ht2:t2<18446744073709551616:=by
  have:=mA (a:=hi) (b:=dN) (c:=mid) hhi l0 hmid
  omega
 have EW:=JI E1 E2 E3
 have CT1:=hide (fun w=>gZ z dC y hi lo w (by omega) l1 (by omega) E1 L1)
 have CT2:=hide (fun w=>gZ lo dN x mid w0 w L1 l0 (by omega) E2 L2)
 have CT3:=hide (fun w=>gZ hi dN mid t2 t1 w hhi l0 hmid E3 L3)
 have ANS:Hid (yi r0 r1 r2 w0 t1 t2):=by
  show yi r0 r1 r2 w0 t1 t2
  rw[<-EW]at G0 G1 G2 G3
  exact⟨L2,L3,ht2,G0,G1,G2,G3⟩
 clear E1 E2 E3 L1 L2 L3 EW G0 G1 G2 G3 hx hy hz hhi hmid ht2 l0 l1 l2
 generalize dN=P0 at *
 generalize dC=P1 at *
 generalize bR=P2 at *
 have bl:=(Below.refl w.heap.size w).alloc (Nat.le_refl _) (.cells #[.int .u64 0,.int .u64 0,.int .u64 0] 198)
 have hk:=heap_alloc_new w (.cells #[.int .u64 0,.int .u64 0,.int .u64 0] 198)
 obtain⟨W1,hW1⟩:∃ W1,w.alloc (.cells #[.int .u64 0,.int .u64 0,.int .u64 0] 198)=W1:=⟨_,rfl⟩
 rw[hW1]at hk bl
 obtain⟨G,hG⟩:∃ G,w.heap.size=G:=⟨_,rfl⟩
 rw[hG]at hk
 have c0:=ae D0 _ bl
 have CR:=hide (ae CR _ bl)
 have B1:=hide (Below.refl W1.heap.size W1)
 have HG:Hid (w.heap.size<=G):=Nat.le_of_eq hG
 have HK:Hid (∀ W,Below W1.heap.size W1 W->(W.cell? ⟨G,0,none⟩=some (.int .u64 0)/\W.cell? ⟨G,1,none⟩=some (.int .u64 0)/\W.cell? ⟨G,2,none⟩=some (.int .u64 0))/\W.frozen? ⟨G,0,none⟩=false/\W.frozen? ⟨G,1,none⟩=false/\W.frozen? ⟨G,2,none⟩=false):=fun W b=>by
  have hk':=(b.block G (Array.getElem?_eq_some_iff.1 hk).1).trans hk
  exact⟨⟨cell_of_row _ G 0 _ _ (0,0) hk',cell_of_row _ G 1 _ _ (0,0) hk',cell_of_row _ G 2 _ _ (0,0) hk'⟩,frozen_of_row _ G 0 _ _ hk',frozen_of_row _ G 1 _ _ hk',frozen_of_row _ G 2 _ _ hk'⟩
 go_enter Tryz.func173,Tryz.ntmps173
 go_wp2_with fail
 refine(ae CR).mono ?_
 rintro e w1 ⟨rfl,hw⟩
 obtain rfl:=hw.symm
 clear hw CR c0 hW1 hG hk
 have y1:=cH.cell (ae D1 _ bl)
 have y2:=cH.cell (ae D3 _ bl)
 have inst:=bD W1
 have CS:Hid (∀ u:cH W1,_):=fun u=>ae CS1 u.val (ag bl u.old)
 have CM:Hid (∀ u:cH W1,_):=fun u=>ae CM1 u.val (ag bl u.old)
 have BL:=hide bl
 clear bl CS1 CM1
 go_wp2_with fail
 refine bn (by kernel_rfl) (by kernel_rfl) ?_
 repeat (go_big_quiet_step (first|(go_at_call 198;exact Calls.old_same (ae CS _))|(go_at_call 196;exact Calls.old_same (ae CM _))))
 refine wpQuiet_nil ?_
 intro w5 hw5
 obtain⟨u,rfl⟩:=hw5
 have bl:=ag (ae BL) u.old
 have B1:=hide (ag (ae B1) u.old)
 generalize u.val=w2 at *
 clear u y1 y2 inst CS CM BL
 have y1:=cH.cell (ae D2 _ bl)
 have y2:=cH.cell (ae D4 _ bl)
 have inst:=bD w2
 have CS:Hid (∀ u:cH w2,_):=fun u=>ae CS2 u.val (ag bl u.old)
 have CM:Hid (∀ u:cH w2,_):=fun u=>ae CM2 u.val (ag bl u.old)
 have BL:=hide bl
 clear bl CS2 CM2
 go_wp2_with fail
 refine bn (by kernel_rfl) (by kernel_rfl) ?_
 repeat (go_big_quiet_step (first|(go_at_call 198;exact Calls.old_same (ae CS _))|(go_at_call 196;exact Calls.old_same (ae CM _))))
 refine wpQuiet_nil ?_
 intro w5 hw5
 obtain⟨u,rfl⟩:=hw5
 have bl:=ag (ae BL) u.old
 have B1:=hide (ag (ae B1) u.old)
 generalize u.val=w3 at *
 clear u y1 y2 inst CS CM BL
 have y1:=cH.cell (ae D2 _ bl)
 have y2:=cH.cell (ae D5 _ bl)
 have inst:=bD w3
 have CS:Hid (∀ u:cH w3,_):=fun u=>ae CS3 u.val (ag bl u.old)
 have CM:Hid (∀ u:cH w3,_):=fun u=>ae CM3 u.val (ag bl u.old)
 have BL:=hide bl
 clear bl CS3 CM3
 go_wp2_with fail
 refine bn (by kernel_rfl) (by kernel_rfl) ?_
 repeat (go_big_quiet_step (first|(go_at_call 198;exact Calls.old_same (ae CS _))|(go_at_call 196;exact Calls.old_same (ae CM _))))
 refine wpQuiet_nil ?_
 intro w5 hw5
 obtain⟨u,rfl⟩:=hw5
 have bl:=ag (ae BL) u.old
 have B1:=hide (ag (ae B1) u.old)
 generalize u.val=w4 at *
 clear u y1 y2 inst CS CM BL
 have y1:=ae D1 _ bl
 go_wp2_with fail
 refine(ae CPq _ bl).mono ?_
 rintro e w5 ⟨rfl,hw⟩
 obtain rfl:=hw.symm
 clear hw y1
 go_wp2_with fail
 refine(ae CT1 _).mono ?_
 rintro e w5 ⟨rfl,hw⟩
 obtain rfl:=hw.symm
 clear hw
 have y1:=ae D0 _ bl
 go_wp2_with fail
 refine(ae CPp _ bl).mono ?_
 rintro e w5 ⟨rfl,hw⟩
 obtain rfl:=hw.symm
 clear hw y1
 go_wp2_with fail
 refine(ae CT2 _).mono ?_
 rintro e w5 ⟨rfl,hw⟩
 obtain rfl:=hw.symm
 clear hw
 have y1:=ae D0 _ bl
 go_wp2_with fail
 refine(ae CPp _ bl).mono ?_
 rintro e w5 ⟨rfl,hw⟩
 obtain rfl:=hw.symm
 clear hw y1
 go_wp2_with fail
 refine(ae CT3 _).mono ?_
 rintro e w5 ⟨rfl,hw⟩
 obtain rfl:=hw.symm
 clear hw
 obtain⟨⟨z0,z1,z2⟩,f0,f1,f2⟩:=ae HK _ (ae B1)
 have BL:=hide bl
 clear bl
 go_wp2
 refine bodyPost_ret (v:=.agg #[.int .u64 (w0:Int),.int .u64 (t1:Int),.int .u64 (t2:Int)]) (by simp[results,Tryz.results173,go_sem,z0,z1,z2]) rfl ⟨w0,t1,t2,rfl,ae ANS,?_⟩
 exact(((ae BL).setCell (p:=⟨G,0,none⟩) (ae HG) _).setCell (p:=⟨G,1,none⟩) (ae HG) _).setCell (p:=⟨G,2,none⟩) (ae HG) _
end Go.Proofs.YtgcnhfgpflncaaaGreatDoor
/- Sums of products of words:their number. Nothing of any program here. -/
namespace Go.Proofs.YtgcnhfgpflncaaaGreatDoor
theorem my(n:Nat)(f:Nat->Nat):((sN n f:Nat):Int)=sI n fun i=>(f i:Int):=by
 induction n with
 |zero=>rfl
 |succ n ih=>show((sN n f+f n:Nat):Int)=sI n _+_;rw[Int.natCast_add,ih]
def cs(xs ys:List Nat)(k:Nat):Nat:=sN xs.length fun i=>sN ys.length fun j=>if i+j=k then xs.getD i 0*ys.getD j 0 else 0
theorem Pl{xs ys:List Nat}(hx:ao xs)(hy:ao ys)(k:Nat):cs xs ys k<=xs.length*(18446744073709551615*18446744073709551615):=by
 refine PM fun i _=>?_
 refine LL (i:=k-i) (fun j _ hj=>?_) fun _=>?_
 ·split
  ·omega
  ·rfl
 ·split
  ·have h1:=hx i
   have h2:=hy (k-i)
   exact Nat.mul_le_mul (by omega) (by omega)
  ·exact Nat.zero_le _
theorem MV{xs ys:List Nat}(hx:ao xs)(hy:ao ys)(hl:xs.length<=1048576)(k:Nat):cs xs ys k<dN*dC*bR:=by
 refine Nat.lt_of_le_of_lt (Nat.le_trans (Pl hx hy k) (Nat.mul_le_mul_right _ hl)) ?_
 decide+kernel
theorem zZ{p n:Nat}{xs ys:List Nat}(hp:0<p)(hn:n+1=xs.length+ys.length){k:Nat}(hk:k<n):(uY p n xs ys).getD k 0=cs xs ys k%p:=by
 refine Cg.eq ?_ (uZ hp k) (Nat.mod_lt _ hp)
 refine(o8 (p:=p) (xs:=xs) (ys:=ys) (by omega) k hk xs.length).trans ?_
 refine Cg.trans (Cg.of_eq ?_) (Cg.mod p _).symm
 unfold cs
 rw[my]
 refine aE fun i hi=>?_
 rw[my]
 refine aE fun j hj=>?_
 rw[Nat.mod_eq_of_lt (show i+j<n by omega)]
 by_cases e:i+j=k
 ·rw[if_pos e,if_pos e,Int.natCast_mul];rfl
 ·rw[if_neg e,if_neg e];rfl
theorem x9(xs:List Nat):(af xs:Int)=sI xs.length fun i=>aT xs i*(18446744073709551616:Int)^i:=by
 have key:∀ k,(af (xs.take k):Int)=sI k fun i=>aT xs i*(18446744073709551616:Int)^i:=by
  intro k
  induction k with
  |zero=>rfl
  |succ k ih=>
   rw[ay,Int.natCast_add,ih,Int.natCast_mul,Int.natCast_pow,Int.mul_comm]
   rfl
 have:=key xs.length
 rwa [List.take_length]at this
theorem vg{xs ys:List Nat}{n:Nat}(hn:n+1=xs.length+ys.length):(sN n fun k=>cs xs ys k*18446744073709551616^k)=af xs*af ys:=by
 apply Int.ofNat.inj
 show((sN n fun k=>cs xs ys k*18446744073709551616^k:Nat):Int)=((af xs*af ys:Nat):Int)
 rw[my,Int.natCast_mul,x9 xs,x9 ys]
 have e1:(sI n fun k=>((cs xs ys k*18446744073709551616^k:Nat):Int))=sI n fun k=>sI xs.length fun i=>sI ys.length fun j=>if k=i+j then aT xs i*aT ys j*(18446744073709551616:Int)^(i+j) else 0:=by
  refine aE fun k _=>?_
  rw[Int.natCast_mul,Int.natCast_pow]
  unfold cs
  rw[my,Int.mul_comm, <-gh]
  refine aE fun i _=>?_
  rw[my, <-gh]
  refine aE fun j _=>?_
  by_cases e:i+j=k
  ·rw[if_pos e,if_pos e.symm,Int.natCast_mul,Int.mul_comm,e];rfl
  ·rw[if_neg e,if_neg (fun h=>e h.symm)];exact Int.mul_zero _
 rw[e1,mn]
 have e2:(sI xs.length fun i=>aT xs i*(18446744073709551616:Int)^i)*(sI ys.length fun j=>aT ys j*(18446744073709551616:Int)^j)=sI xs.length fun i=>sI ys.length fun j=>aT xs i*aT ys j*(18446744073709551616:Int)^(i+j):=by
  rw[Int.mul_comm, <-gh]
  refine aE fun i _=>?_
  rw[Int.mul_comm, <-gh]
  refine aE fun j _=>?_
  rw[Int.pow_add]
  grind
 rw[e2]
 refine aE fun i hi=>?_
 rw[mn]
 refine aE fun j hj=>?_
 exact tR n (i+j) _ (by omega)
end Go.Proofs.YtgcnhfgpflncaaaGreatDoor
/- Package conv:a row of numbers by their remainders. -/
namespace Go.Proofs.YtgcnhfgpflncaaaGreatDoor
open Go.RowKit
theorem Tryz.infoTri:(Tryz.prog.info? 198).map (fun i=>(i.zero,i.size,i.bytes))=some (some (.agg #[.int .u64 0,.int .u64 0,.int .u64 0]),3,24):=by kernel_rfl
theorem G6:∃ i:TypeInfo,Tryz.prog.info? 198=some i/\i.zero=some (.agg #[.int .u64 0,.int .u64 0,.int .u64 0])/\i.size=3/\i.bytes=24:=by
 have h:=Tryz.infoTri
 cases hi:Tryz.prog.info? 198 with
 |none=>rw[hi]at h;cases h
 |some i=>
  rw[hi]at h
  simp at h
  exact⟨i,rfl,h.1,h.2.1,h.2.2⟩
theorem Ho(n:Nat):madeCells (Value.agg #[.int .u64 0,.int .u64 0,.int .u64 0]).cells n=(aF n).toArray:=by
 have e:(Value.agg #[.int .u64 0,.int .u64 0,.int .u64 0]).cells=#[Value.int .u64 0,Value.int .u64 0,Value.int .u64 0]:=rfl
 rw[e]
 unfold madeCells aF
 apply Array.ext
 ·simp[cellsOf]
 ·intro i h1 h2
  simp[cellsOf]
  have h3:i%3<3:=Nat.mod_lt _ (by decide)
  have:i%3=0\/i%3=1\/i%3=2:=by omega
  rcases this with h|h|h<;>rw[h]<;>rfl
theorem Hq(n:Nat)(hb:n<=2097152):∀ w,(Instr.makeSlice 167 (.int .i64 (n:Int)) (.int .i64 (n:Int))).run Tryz.prog w=.ok (.slice (some ⟨w.heap.size,0,none⟩) n n) (w.alloc (.cells (aF (n*3)).toArray 198)):=fun w=>by
 obtain⟨i0,hi,hz0,hz1,hz2⟩:=G6
 have h:=run_make (P:=Tryz.prog) w 167 198 i0 (.agg #[.int .u64 0,.int .u64 0,.int .u64 0]) Tryz.underlying167 hi hz0 .i64 .i64 (n:Int) (n:Int) (by omega) (by omega) (by rw[hz2];omega) (by omega)
 rw[h]
 have e1:((n:Int)).toNat=n:=by omega
 rw[e1,hz1,Ho]
def kN(w:World)(g:Nat)(zs:List Nat):Prop:=w.heap[g]?=some (.cells (cellsOf zs).toArray 198 (0,0))
theorem kN.lt{w:World}{g:Nat}{zs:List Nat}(h:kN w g zs):g<w.heap.size:=(Array.getElem?_eq_some_iff.1 h).1
theorem kN.cell{w:World}{g:Nat}{zs:List Nat}(h:kN w g zs)(j:Nat)(hj:j<zs.length):w.cell? ⟨g,j,none⟩=some (.int .u64 ((zs.getD j 0:Nat):Int)):=by
 rw[cell_of_row w g j _ _ (0,0) h]
 simp[cellsOf,hj]
theorem kN.frozen{w:World}{g:Nat}{zs:List Nat}(h:kN w g zs)(j:Nat):w.frozen? ⟨g,j,none⟩=false:=frozen_of_row w g j _ _ h
theorem kN.set{w:World}{g:Nat}{zs:List Nat}(h:kN w g zs)(k d:Nat):kN (w.setCell ⟨g,k,none⟩ (.int .u64 ((d:Nat):Int))) g (zs.set k d):=by
 have:=heap_setCell_same w g k _ _ (.int .u64 ((d:Nat):Int)) h
 show _=_
 rw[this]
 simp[cellsOf,List.map_set]
theorem kN.next{w w':World}{g:Nat}{zs:List Nat}(h:kN w g zs)(hb:Below w.heap.size w w'):kN w' g zs:=(hb.block g h.lt).trans h
def qB(T:Nat->Nat)(zs:List Nat)(k:Nat):Prop:=∀ j,j<k->∃ t0 t1 t2:Nat,t0<18446744073709551616/\t1<18446744073709551616/\t2<18446744073709551616/\v3 t0 t1 t2=T j/\zs.getD (j*3) 0=t0/\zs.getD (j*3+1) 0=t1/\zs.getD (j*3+2) 0=t2
theorem qB.start(T:Nat->Nat)(zs:List Nat):qB T zs 0:=fun _ h=>absurd h (by omega)
theorem tW(zs:List Nat)(k t0 t1 t2 j:Nat)(hl:k*3+2<zs.length):(((zs.set (k*3) t0).set (k*3+1) t1).set (k*3+2) t2).getD j 0=if j=k*3 then t0 else if j=k*3+1 then t1 else if j=k*3+2 then t2 else zs.getD j 0:=by
 rw[List.getD_eq_getElem?_getD,List.getElem?_set,List.getElem?_set,List.getElem?_set]
 simp only[List.length_set]
 by_cases h2:k*3+2=j
 ·subst h2
  rw[if_pos rfl,if_pos hl,if_neg (by omega),if_neg (by omega),if_pos rfl];rfl
 ·rw[if_neg h2]
  by_cases h1:k*3+1=j
  ·subst h1
   rw[if_pos rfl,if_pos (by omega),if_neg (by omega),if_pos rfl];rfl
  ·rw[if_neg h1]
   by_cases h0:k*3=j
   ·subst h0
    rw[if_pos rfl,if_pos (by omega),if_pos rfl];rfl
   ·rw[if_neg h0,if_neg (fun h=>h0 h.symm),if_neg (fun h=>h1 h.symm),if_neg (fun h=>h2 h.symm),List.getD_eq_getElem?_getD]
theorem qB.step{T:Nat->Nat}{zs:List Nat}{k t0 t1 t2:Nat}(h:qB T zs k)(hl:k*3+2<zs.length)(a0:t0<18446744073709551616)(a1:t1<18446744073709551616)(a2:t2<18446744073709551616)(e:v3 t0 t1 t2=T k):qB T (((zs.set (k*3) t0).set (k*3+1) t1).set (k*3+2) t2) (k+1):=fun j hj=>by
 rw[tW _ _ _ _ _ _ hl,tW _ _ _ _ _ _ hl,tW _ _ _ _ _ _ hl]
 by_cases hjk:j=k
 ·subst hjk
  refine⟨t0,t1,t2,a0,a1,a2,e,if_pos rfl,?_,?_⟩
  ·rw[if_neg (by omega),if_pos rfl]
  ·rw[if_neg (by omega),if_neg (by omega),if_pos rfl]
 ·obtain⟨s0,s1,s2,b0,b1,b2,e',c0,c1,c2⟩:=h j (by omega)
  refine⟨s0,s1,s2,b0,b1,b2,e',?_,?_,?_⟩
  ·rw[if_neg (by omega),if_neg (by omega),if_neg (by omega)];exact c0
  ·rw[if_neg (by omega),if_neg (by omega),if_neg (by omega)];exact c1
  ·rw[if_neg (by omega),if_neg (by omega),if_neg (by omega)];exact c2
theorem qB.tri{w:World}{g n:Nat}{T:Nat->Nat}{zs:List Nat}(h:qB T zs n)(hB:kN w g zs)(hl:zs.length=n*3):g9 w g n T:=fun k hk=>by
 obtain⟨t0,t1,t2,a0,a1,a2,e,c0,c1,c2⟩:=h k hk
 refine⟨t0,t1,t2,a0,a1,a2,e,?_,?_,?_⟩
 ·rw[hB.cell _ (by omega),c0]
 ·rw[hB.cell _ (by omega),c1]
 ·rw[hB.cell _ (by omega),c2]
structure Pe(r0 r1 r2 n:Nat):Prop where
 m0:n%dN=r0%dN
 m1:n%dC=r1%dC
 m2:n%bR=r2%bR
 lt:n<dN*dC*bR
def d0(n:Nat):Nat:=n%18446744073709551616
def d1(n:Nat):Nat:=n/18446744073709551616%18446744073709551616
def d2(n:Nat):Nat:=n/18446744073709551616/18446744073709551616
theorem JA{t0 t1 t2 n:Nat}(h0:t0<18446744073709551616)(h1:t1<18446744073709551616)(h:v3 t0 t1 t2=n):t0=d0 n/\t1=d1 n/\t2=d2 n:=by
 subst h
 unfold v3 d0 d1 d2
 refine⟨?_,?_,?_⟩<;>omega
theorem Kq(n:Nat)(h:n<dN*dC*bR):d0 n<18446744073709551616/\d1 n<18446744073709551616/\d2 n<18446744073709551616/\v3 (d0 n) (d1 n) (d2 n)=n:=by
 have hb:dN*dC*bR<18446744073709551616*(18446744073709551616*18446744073709551616):=by decide+kernel
 have hn:=Nat.lt_trans h hb
 clear h hb
 unfold d0 d1 d2 v3
 refine⟨?_,?_,?_,?_⟩
 ·omega
 ·omega
 ·rw[Nat.div_div_eq_div_mul,Nat.div_lt_iff_lt_mul (by omega)]
  omega
 ·omega
theorem DJ{w:World}{g gp gq gr v v2 v3':Nat}(h:GS w g gp gq gr v v2 v3'){r0 r1 r2 n:Nat}(hr:Pe r0 r1 r2 n):
  Calls Tryz.prog 173 #[.pointer (some ⟨g,0,none⟩),.int .u64 (r0:Int),.int .u64 (r1:Int),.int .u64 (r2:Int)] w fun e w'=>e=.returned (.agg #[.int .u64 (d0 n:Int),.int .u64 (d1 n:Int),.int .u64 (d2 n:Int)])/\Below w.heap.size w w':=by
 refine(y8 h r0 r1 r2).mono ?_
 rintro e w' ⟨t0,t1,t2,rfl,⟨a0,a1,a2,m0,m1,m2,hl⟩,b⟩
 have e:=EU (m0.trans hr.m0.symm) (m1.trans hr.m1.symm) (m2.trans hr.m2.symm) hl hr.lt
 obtain⟨rfl,rfl,rfl⟩:=JA a0 a1 e
 exact⟨rfl,b⟩
set_option maxRecDepth 100000 in
set_option maxHeartbeats 3200000 in
theorem wk{w:World}{g0 g1 g2 n N0 N1 N2:Nat}{xs ys zs:List Nat}(T:Nat->Nat)(hn:n<=2097152)(h0:Rep w (some ⟨g0,0,none⟩) g0 0 N0 xs)(h1:Rep w (some ⟨g1,0,none⟩) g1 0 N1 ys)(h2:Rep w (some ⟨g2,0,none⟩) g2 0 N2 zs)(l0:xs.length=n)(l1:ys.length=n)(l2:zs.length=n)
  (hT:∀ k,k<n->Pe (xs.getD k 0) (ys.getD k 0) (zs.getD k 0) (T k)):
  Calls Tryz.prog 141 #[.agg #[.slice (some ⟨g0,0,none⟩) n N0,.slice (some ⟨g1,0,none⟩) n N1,.slice (some ⟨g2,0,none⟩) n N2]] w fun e w'=>∃ g,e=.returned (.slice (some ⟨g,0,none⟩) n n)/\w.heap.size<=g/\g9 w' g n T/\Below w.heap.size w w':=by
 have CN:=hide (fun w=>qF w)
 have hmk:=Hq n hn
 have bl:Below w.heap.size w (w.alloc (.cells #[.slice (some ⟨g0,0,none⟩) n N0,.slice (some ⟨g1,0,none⟩) n N1,.slice (some ⟨g2,0,none⟩) n N2] 161)):=(Below.refl _ _).alloc (Nat.le_refl _) _
 have hk:=heap_alloc_new w (.cells #[.slice (some ⟨g0,0,none⟩) n N0,.slice (some ⟨g1,0,none⟩) n N1,.slice (some ⟨g2,0,none⟩) n N2] 161)
 obtain⟨W1,hW1⟩:∃ W1,w.alloc (.cells #[.slice (some ⟨g0,0,none⟩) n N0,.slice (some ⟨g1,0,none⟩) n N1,.slice (some ⟨g2,0,none⟩) n N2] 161)=W1:=⟨_,rfl⟩
 rw[hW1]at hk bl
 obtain⟨A,hA⟩:∃ A,w.heap.size=A:=⟨_,rfl⟩
 rw[hA]at hk
 have c0:W1.cell? ⟨A,0,none⟩=some (.slice (some ⟨g0,0,none⟩) n N0):=cell_of_row _ A 0 _ _ (0,0) hk
 have c1:W1.cell? ⟨A,1,none⟩=some (.slice (some ⟨g1,0,none⟩) n N1):=cell_of_row _ A 1 _ _ (0,0) hk
 have c2:W1.cell? ⟨A,2,none⟩=some (.slice (some ⟨g2,0,none⟩) n N2):=cell_of_row _ A 2 _ _ (0,0) hk
 have hal:A<W1.heap.size:=World.block_lt_of_cell? _ _ c0
 have BL:=hide bl
 have H0:=hide (h0.next bl)
 have H1:=hide (h1.next bl)
 have H2:=hide (h2.next bl)
 have HT:=hide hT
 have HA:=hide hA
 clear h0 h1 h2 hk bl hT
 go_enter Tryz.func141,Tryz.ntmps141
 go_wp2_with fail
 refine(ae CN _).mono ?_
 rintro e w1 ⟨g,gp,gq,gr,v,v2,v3',rfl,hgs,b1⟩
 have H0:=hide ((ae H0).next b1)
 have H1:=hide ((ae H1).next b1)
 have H2:=hide ((ae H2).next b1)
 have BL:=hide (ag (ae BL) b1)
 have c0:=(b1.cell (p:=⟨A,0,none⟩) hal).trans c0
 have c1:=(b1.cell (p:=⟨A,1,none⟩) hal).trans c1
 have c2:=(b1.cell (p:=⟨A,2,none⟩) hal).trans c2
 have D0:=hide c0
 have D1:=hide c1
 have D2:=hide c2
 have al1:Hid (A<w1.heap.size):=World.block_lt_of_cell? _ _ c0
 have hB0:kN (w1.alloc (.cells (aF (n*3)).toArray 198)) w1.heap.size (List.replicate (n*3) 0):=heap_alloc_new w1 _
 have hal1:Below w1.heap.size w1 (w1.alloc (.cells (aF (n*3)).toArray 198)):=(Below.refl _ _).alloc (Nat.le_refl _) _
 obtain⟨W2,hW2⟩:∃ W2,w1.alloc (.cells (aF (n*3)).toArray 198)=W2:=⟨_,rfl⟩
 rw[hW2]at hB0 hal1
 obtain⟨G,hG⟩:∃ G,w1.heap.size=G:=⟨_,rfl⟩
 rw[hG]at hB0
 have HB0:=hide hB0
 have HAL:=hide hal1
 have HG:=hide hG
 have HGS:=hide hgs
 have WG:Hid (w.heap.size<=G):=by show _<=_;rw[<-hG];exact(ae BL).size
 clear hgs b1 hB0 hal1 CN hal hW1 hA c1 c2
 go_wp2
 clear hW2 hG hmk c0
 go_loopw [13] (fun iv wr=>∃(k:Nat) (us:List Nat),k<=n/\iv=.int .i64 (k:Int)/\us.length=n*3/\Hid (qB T us k)/\kN wr G us/\Below w1.heap.size w1 wr) (fun iv _=>n-(intOf iv).toNat)
 case atStart=>exact⟨0,_,Nat.zero_le _,rfl,List.length_replicate,qB.start T _,ae HB0,ae HAL⟩
 case round=>
  clear HB0 HAL
  obtain⟨k,us,hk,rfl,hl,hN,hB,hb⟩:=hrel
  by_cases hkn:k<n
  ·have hki:(k:Int)<(n:Int):=by omega
   obtain⟨q,hq⟩:∃ q,q=k*3:=⟨_,rfl⟩
   obtain⟨x,hx⟩:∃ x,x=xs.getD k 0:=⟨_,rfl⟩
   obtain⟨y,hy⟩:∃ y,y=ys.getD k 0:=⟨_,rfl⟩
   obtain⟨z,hz⟩:∃ z,z=zs.getD k 0:=⟨_,rfl⟩
   have hT:=ae HT k hkn
   rw[<-hx, <-hy, <-hz]at hT
   have cx:wr.cell? ⟨g0,k,none⟩=some (.int .u64 (x:Int)):=by rw[hx];have:=((ae H0).next hb).cell k (by omega);rwa [Nat.zero_add]at this
   have cy:wr.cell? ⟨g1,k,none⟩=some (.int .u64 (y:Int)):=by rw[hy];have:=((ae H1).next hb).cell k (by omega);rwa [Nat.zero_add]at this
   have cz:wr.cell? ⟨g2,k,none⟩=some (.int .u64 (z:Int)):=by rw[hz];have:=((ae H2).next hb).cell k (by omega);rwa [Nat.zero_add]at this
   have c0:=(hb.cell (p:=⟨A,0,none⟩) (ae al1)).trans (ae D0)
   have c1:=(hb.cell (p:=⟨A,1,none⟩) (ae al1)).trans (ae D1)
   have c2:=(hb.cell (p:=⟨A,2,none⟩) (ae al1)).trans (ae D2)
   have yx:=cH.cell cx
   have yy:=cH.cell cy
   have yz:=cH.cell cz
   have y0:=cH.cell c0
   have y1:=cH.cell c1
   have y2:=cH.cell c2
   have inst:=bD wr
   have CM:Hid (∀ u:cH wr,Calls Tryz.prog 173 #[.pointer (some ⟨g,0,none⟩),.int .u64 (x:Int),.int .u64 (y:Int),.int .u64 (z:Int)] u.val fun e w'=>e=.returned (.agg #[.int .u64 (d0 (T k):Int),.int .u64 (d1 (T k):Int),.int .u64 (d2 (T k):Int)])/\Below u.val.heap.size u.val w'):=fun u=>DJ (((ae HGS).next hb).next u.old) hT
   obtain⟨a0,a1,a2,e3⟩:=Kq (T k) hT.lt
   have HN2:Hid (qB T (((us.set q (d0 (T k))).set (q+1) (d1 (T k))).set (q+2) (d2 (T k))) (k+1)):=by rw[hq];exact(ae hN).step (by omega) a0 a1 a2 e3
   have hmm:Hid (n-(k+1)<n-k):=by show _<_;omega
   have HB:=hide hb
   have hql:q+2<us.length:=by omega
   have HL:Hid ((((us.set q (d0 (T k))).set (q+1) (d1 (T k))).set (q+2) (d2 (T k))).length=n*3):=by simp only[List.length_set];exact hl
   have hBB:=hide hB
   generalize d0 (T k)=u0 at *
   generalize d1 (T k)=u1 at *
   generalize d2 (T k)=u2 at *
   have hq2:=hq.symm
   clear hx hy hz hT hN hb hB hl cx cy cz c0 c1 c2 a0 a1 a2 e3 hq
   go_wp2_with fail
   refine gW 20 (by kernel_rfl) (by kernel_rfl) (by kernel_rfl) (by kernel_rfl) (by kernel_rfl) (by kernel_rfl) ?_
   simp only[List.take_succ_cons,List.take_zero,List.drop_succ_cons,List.drop_zero]
   repeat (go_big_quiet_step (first|(go_at_call 173;exact Calls.old (ae CM _))))
   refine wpQuiet_nil ?_
   intro w5 hw5
   obtain⟨u,rfl⟩:=hw5
   have hB5:=(ae hBB).next u.old
   have hb5:=ag (ae HB) u.old
   have r0:=hB5.cell q (by omega)
   have r1:=hB5.cell (q+1) (by omega)
   have r2:=hB5.cell (q+2) (by omega)
   have f0:=hB5.frozen q
   have f1:=hB5.frozen (q+1)
   have f2:=hB5.frozen (q+2)
   generalize u.val=w5 at *
   clear u yx yy yz y0 y1 y2 inst CM
   have B7:=hide (((hB5.set q u0).set (q+1) u1).set (q+2) u2)
   have b7:=hide (((hb5.setCell (p:=⟨G,q,none⟩) (Nat.le_of_eq (ae HG)) (.int .u64 (u0:Int))).setCell (p:=⟨G,q+1,none⟩) (Nat.le_of_eq (ae HG)) (.int .u64 (u1:Int))).setCell (p:=⟨G,q+2,none⟩) (Nat.le_of_eq (ae HG)) (.int .u64 (u2:Int)))
   clear hB5 hb5
   go_wp2
   go_roundw
   case rel=>exact⟨k+1,_,by omega,by go_num,ae HL,HN2,ae B7,ae b7⟩
   case measure=>simp[intOf];have:=ae hmm;omega
  ·obtain rfl:k=n:=by omega
   have hTri:=(ae hN).tri hB hl
   have bl:=ag (ae BL) hb
   clear hN hB hl hb
   go_wp2
   go_ret
   exact⟨G,rfl,ae WG,hTri,bl⟩
end Go.Proofs.YtgcnhfgpflncaaaGreatDoor
