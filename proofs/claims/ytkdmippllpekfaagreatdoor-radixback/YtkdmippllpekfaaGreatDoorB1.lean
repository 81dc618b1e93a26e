import Derived.Lib.TrailingZeros
import Derived.Test.YtkdmippllpekfaaGreatDoorA0
namespace Go.Proofs.YtkdmippllpekfaaGreatDoor
variable{v w:Int}{ds os rs xs ys:List Nat}{A K L M T a b c d f j k l lo m n o p s t ut:Nat}
def val:List Nat->Nat
 |[]=>0
 |d :: ds=>d+4294967296*val ds
def oI(xs:List Nat):Prop:=∀j,xs.getD j 0<4294967296
def Can(xs:List Nat):Prop:=oI xs/\(0<xs.length->0<xs.getD (xs.length-1) 0)
theorem xo:oI []:=fun j=>by simp
theorem Gh:Can []:=⟨xo,fun h=>absurd h (by simp)⟩
theorem jh(xs ys:List Nat)(j:Nat):(xs++ys).getD j 0=if j<xs.length then xs.getD j 0 else ys.getD (j-xs.length) 0:=by simp only[List.getD_eq_getElem?_getD,List.getElem?_append];split<;>rfl
theorem xp(h:oI xs)(hd:d<4294967296):oI (xs++[d]):=by
 intro j;rw[jh];split
 ·exact h j
 ·generalize j-xs.length=k
  match k with
  |0=>simpa using hd
  |k+1=>simp
theorem JO(h:oI xs)(k:Nat):oI (xs.take k):=by
 intro j;simp only[List.getD_eq_getElem?_getD,List.getElem?_take];split
 ·have:=h j;simpa [List.getD_eq_getElem?_getD]using this
 ·simp
theorem Dm(xs ys:List Nat):val (xs++ys)=val xs+4294967296^xs.length*val ys:=by
 induction xs with
 |nil=>simp[val]
 |cons d ds ih=>
  simp only[List.cons_append,val,ih,List.length_cons,Nat.pow_succ,Nat.mul_add];rw[aC (4294967296^ds.length) 4294967296,aF];omega
theorem tZ(xs:List Nat)(d:Nat):val (xs++[d])=val xs+4294967296^xs.length*d:=by rw[Dm];simp[val]
theorem iK(h:j<xs.length):xs.getD j 0=xs[j]:=by simp[List.getD_eq_getElem?_getD,h]
theorem jo(h:xs.length<=j):xs.getD j 0=0:=by simp[List.getD_eq_getElem?_getD,h]
theorem zk(xs:List Nat)(k:Nat)(h:k<xs.length):xs.take (k+1)=xs.take k++[xs.getD k 0]:=by rw[gg h,iK h]
theorem cO(xs:List Nat)(k:Nat):val (xs.take (k+1))=val (xs.take k)+4294967296^k*xs.getD k 0:=by
 by_cases h:k<xs.length
 ·rw[zk xs k h,tZ,cF,bu (by omega)]
 ·rw[bK (by omega),bK (by omega),jo (by omega)];simp
theorem jj(xs:List Nat)(k:Nat)(h:xs.length<=k):val (xs.take k)=val xs:=by rw[bK h]
theorem Dn{xs:List Nat}(h:oI xs):∀k,val (xs.take k)<4294967296^k
 |0=>by simp[val]
 |k+1=>by
  rw[cO];have h1:=Dn h k;have h2:=h k;have h3:4294967296^k*xs.getD k 0<=4294967296^k*4294967295:=au _ (by omega);have h4:4294967296^(k+1)=4294967296^k*4294967295+4294967296^k:=by rw[aE, <-cJ]
  omega
theorem ph(h:oI xs):val xs<4294967296^xs.length:=by have:=Dn h xs.length;rwa [cf]at this
theorem xW(xs:List Nat)(k:Nat):val xs=val (xs.take k)+4294967296^k*val (xs.drop k):=by
 by_cases h:k<=xs.length
 ·have:=Dm (xs.take k) (xs.drop k);rw[eW,cF,bu h]at this;exact this
 ·rw[bK (by omega),aT (by omega)];simp[val]
theorem YI(h:Can xs)(hl:0<xs.length):4294967296^(xs.length-1)<=val xs:=by have h1:=cO xs (xs.length-1);rw[show xs.length-1+1=xs.length from by omega,cf]at h1;have h2:=h.2 hl;have h3:4294967296^(xs.length-1)*1<=4294967296^(xs.length-1)*xs.getD (xs.length-1) 0:=au _ (by omega);omega
theorem Hd(hx:oI xs)(hy:Can ys)(h:xs.length<ys.length):val xs<val ys:=by have h1:=ph hx;have h2:=YI hy (by omega);have h3:4294967296^xs.length<=4294967296^(ys.length-1):=aA (by omega) (by omega);omega
theorem uB(hx:oI xs)(i:Nat)(hd:xs.drop (i+1)=ys.drop (i+1))(h:xs.getD i 0<ys.getD i 0):val xs<val ys:=by have h1:=xW xs (i+1);have h2:=xW ys (i+1);rw[cO]at h1 h2;have h3:=Dn hx i;have h4:4294967296^i*(xs.getD i 0+1)<=4294967296^i*ys.getD i 0:=au _ (by omega);rw[cJ]at h4;rw[hd]at h1;omega
theorem uC(i:Nat)(hi:i<xs.length)(hl:xs.length=ys.length)(hd:xs.drop (i+1)=ys.drop (i+1))(h:xs.getD i 0=ys.getD i 0):xs.drop i=ys.drop i:=by
 have hj:i<ys.length:=by omega
 rw[cK hi,cK hj,hd];rw[iK hi,iK hj]at h;rw[h]
def js(m n:Nat):Int:=if m<n then -1 else if n<m then 1 else 0
theorem jR(h:m<n):js m n= -1:=by unfold js;rw[aW h]
theorem lG(h:n<m):js m n=1:=by unfold js;rw[aV (by omega),aW h]
theorem mO(h:m=n):js m n=0:=by unfold js;rw[aV (by omega),aV (by omega)]
theorem MA(hx:Can xs)(hy:Can ys)(h:val xs=val ys):xs=ys:=by
 have hl:xs.length=ys.length:=by
  rcases ig xs.length ys.length with l|l|l
  ·have:=Hd hx.1 hy l;omega
  ·exact l
  ·have:=Hd hy.1 hx l;omega
 have key:∀k,k<=xs.length->xs.drop (xs.length-k)=ys.drop (xs.length-k):=by
  intro k;induction k with
  |zero=>intro _;rw[lQ,aT (af _),aT (by omega)]
  |succ k ih=>
   intro hk;have ih:=ih (by omega);have e:xs.length-k=xs.length-(k+1)+1:=(by omega);rw[e]at ih;refine uC _ (by omega) hl ih ?_;rcases ig (xs.getD (xs.length-(k+1)) 0) (ys.getD (xs.length-(k+1)) 0)with l|l|l
   ·have:=uB hx.1 _ ih l;omega
   ·exact l
   ·have:=uB hy.1 _ ih.symm l;omega
 have:=key xs.length (af _);simpa using this
def fV(xs:List Nat):Nat->Nat
 |0=>0
 |k+1=>if xs.getD k 0=0 then fV xs k else k+1
theorem fZ(xs:List Nat):∀k,fV xs k<=k
 |0=>af _
 |k+1=>by unfold fV;split;(have:=fZ xs k;omega);omega
theorem Kw(xs:List Nat):∀k,val (xs.take (fV xs k))=val (xs.take k)
 |0=>rfl
 |k+1=>by
  unfold fV;split
  ·rename_i h;rw[Kw xs k,cO,h];simp
  ·rfl
theorem tR(xs:List Nat):∀k,0<fV xs k->0<xs.getD (fV xs k-1) 0
 |0=>fun h=>absurd h (by simp[fV])
 |k+1=>by
  unfold fV;split
  ·exact tR xs k
  ·rename_i h;intro _;simp only[Nat.add_sub_cancel];omega
def yi(xs:List Nat):List Nat:=xs.take (fV xs xs.length)
theorem ep(xs:List Nat):(yi xs).length=fV xs xs.length:=by have:=fZ xs xs.length;simp[yi];omega
theorem PJ(xs:List Nat):val (yi xs)=val xs:=by have:=Kw xs xs.length;rw[cf]at this;exact this
theorem PH(h:oI xs):Can (yi xs):=by refine⟨JO h _,fun hl=>?_⟩;rw[ep]at hl ⊢;have h1:=tR xs xs.length hl;unfold yi;rw[aq,iO,aW (by omega)];rwa [aq]at h1
theorem oQ(h:Can xs)(hv:val xs<4294967296^L):xs.length<=L:=by refine cG fun hl=>?_;have h1:=YI h (by omega);have h2:4294967296^L<=4294967296^(xs.length-1):=aA (by omega) (by omega);omega
theorem aaI(os rs:List Nat)(k d:Nat)(hk:os.length=k)(hr:k<rs.length):(os++rs.drop k).set k d=(os++[d])++rs.drop (k+1):=by rw[cK hr,po k d (by omega),hk,gW,F7,fB];rfl
theorem JX(os rs:List Nat)(k:Nat)(hk:os.length=k):(os++rs.drop k).getD k 0=rs.getD k 0:=by rw[jh,aV (by omega),hk,gW];simp[List.getD_eq_getElem?_getD]
theorem PD(os rs:List Nat)(n:Nat)(hr:rs.length=n):os++rs.drop n=os:=by rw[aT (by omega),dU]
theorem EN(xs:List Nat)(k t:Nat):(xs.drop k).getD t 0=xs.getD (k+t) 0:=by simp[List.getD_eq_getElem?_getD]
theorem Qo(h:∀t,xs.getD t 0=ys.getD t 0):val xs=val ys:=by
 have key:∀N,val (xs.take N)=val (ys.take N):=by
  intro N;induction N with
  |zero=>simp
  |succ N ih=>rw[cO,cO,ih,h N]
 have:=key (xs.length+ys.length);rwa [jj _ _ (by omega),jj _ _ (by omega)]at this
theorem xX(h:∀t,k<=t->xs.getD t 0=ys.getD t 0):val (xs.drop k)=val (ys.drop k):=
 Qo fun t=>by rw[EN,EN];exact h _ (by omega)
theorem Bo(hx:oI xs)(i:Nat)(hd:∀t,i+1<=t->xs.getD t 0=ys.getD t 0)(h:xs.getD i 0<ys.getD i 0):val xs<val ys:=by have h1:=xW xs (i+1);have h2:=xW ys (i+1);rw[cO]at h1 h2;have h3:=Dn hx i;have h4:4294967296^i*(xs.getD i 0+1)<=4294967296^i*ys.getD i 0:=au _ (by omega);rw[cJ]at h4;rw[xX hd]at h1;omega
def IZ(rs os:List Nat)(k b c:Nat):Prop:=os.length=k/\oI os/\c<=1/\val os+4294967296^k*c=2*val (rs.take k)+b
theorem Rb(rs:List Nat)(b:Nat)(hb:b<=1):IZ rs [] 0 b b:=⟨rfl,xo,hb,by simp[val]⟩
theorem Vs(h:IZ rs os k b c)(hr:rs.getD k 0<4294967296):IZ rs (os++[(2*rs.getD k 0+c)%4294967296]) (k+1) b ((2*rs.getD k 0+c)/4294967296):=by
 obtain⟨h1,h2,h3,h4⟩:=h;refine⟨by simp[h1],xp h2 (by omega),by omega,?_⟩;rw[tZ,h1,cO,aE,aF];generalize 4294967296^k=B at *;generalize rs.getD k 0=x at *;have e:B*((2*x+c)%4294967296)+B*(4294967296*((2*x+c)/4294967296))=B*(2*x)+B*c:=by rw[<-aH,QD,aH]
 have e2:B*(2*x)=2*(B*x):=dW _ _ _;omega
theorem c_(h:IZ rs os n b c)(hr:rs.length=n)(hv:2*val rs+b<4294967296^n):val os=2*val rs+b:=by
 obtain⟨h1,h2,h3,h4⟩:=h;rw[jj _ _ (by omega)]at h4;have:c=0\/c=1:=by omega
 rcases this with rfl|rfl
 ·simpa using h4
 ·omega
def Ba(rs ds os:List Nat)(k c:Nat):Prop:=os.length=k/\oI os/\c<=1/\val os+val (ds.take k)=val (rs.take k)+4294967296^k*c
theorem Tx(rs ds:List Nat):Ba rs ds [] 0 0:=⟨rfl,xo,by omega,by simp[val]⟩
theorem Yk(h:Ba rs ds os k c)(hr:rs.getD k 0<4294967296)(hs:c+ds.getD k 0<=rs.getD k 0):Ba rs ds (os++[rs.getD k 0-(c+ds.getD k 0)]) (k+1) 0:=by
 obtain⟨h1,h2,h3,h4⟩:=h;refine⟨by simp[h1],xp h2 (by omega),by omega,?_⟩;rw[tZ,h1,cO,cO];generalize 4294967296^k=B at *;generalize rs.getD k 0=x at *;generalize ds.getD k 0=d at *;have e:B*(x-(c+d))+(B*c+B*d)=B*x:=by rw[<-aH, <-aH,Nat.sub_add_cancel hs]
 omega
theorem Qa(h:Ba rs ds os k c)(hd:ds.getD k 0<4294967296)(hs:¬c+ds.getD k 0<=rs.getD k 0):Ba rs ds (os++[rs.getD k 0+(4294967296-(c+ds.getD k 0))]) (k+1) 1:=by
 obtain⟨h1,h2,h3,h4⟩:=h;refine⟨by simp[h1],xp h2 (by omega),by omega,?_⟩;rw[tZ,h1,cO,cO,aE];generalize 4294967296^k=B at *;generalize rs.getD k 0=x at *;generalize ds.getD k 0=d at *;have e:B*(x+(4294967296-(c+d)))+(B*c+B*d)=B*x+B*4294967296:=by rw[<-aH, <-aH, <-aH];congr 1;omega
 omega
theorem aaO(h:Ba rs ds os n c)(hr:rs.length<=n)(hd:ds.length<=n)(hv:val ds<=val rs):val os=val rs-val ds:=by
 obtain⟨h1,h2,h3,h4⟩:=h;rw[jj _ _ hr,jj _ _ hd]at h4;have hl:=ph h2;rw[h1]at hl;have:c=0\/c=1:=by omega
 rcases this with rfl|rfl
 ·omega
 ·omega
def rt(B T N n m:Nat):Nat:=
 if m=0 then 0 else if m<B then 1 else if 2*m<=n+1 then 2 else if m<T then 3 else if N<=n+m then 5 else if 2*((n+2)/3)<m then 4 else 3
def lg(s:Nat):Nat:=if s<=1 then 0 else (s-1).log2+1
theorem abm(s:Nat):s<=2^lg s:=by
 unfold lg;split
 ·simp;omega
 ·have:=@Nat.lt_log2_self (s-1);omega
theorem Kl(s:Nat)(h:2<=s):1<=lg s/\2^(lg s-1)<s:=by unfold lg;rw[aV (by omega)];have:=Nat.log2_self_le (n:=s-1) (by omega);exact⟨by omega,by rw[dF];omega⟩
theorem R8(h1:s<=2^L)(h2:L=0\/2^(L-1)<s):L=lg s:=by
 have a:=abm s;by_cases hs:s<=1
 ·have e:lg s=0:=by unfold lg;rw[aW hs]
  rcases h2 with h2|h2
  ·omega
  ·have:=bR (n:=L-1) (show 0<2 by omega);omega
 ·obtain⟨b,c⟩:=Kl s (by omega);rcases h2 with h2|h2
  ·subst h2;simp at h1;omega
  ·have l1:L-1<lg s:=(dZ (a:=2) (by omega)).1 (by omega);have l2:lg s-1<L:=(dZ (a:=2) (by omega)).1 (by omega);by_cases hL:L=0
   ·subst hL;simp at h1;omega
   ·omega
def tfL(L ways:Nat):Nat:=3*(ways*(2^L/2)*L+2*2^L)+6*2^L
def tf(n m ways:Nat):Nat:=tfL (lg (n+m)) ways
theorem Lv(h:L<=M)(hw:a<=b):tfL L a<=tfL M b:=by have hp:2^L<=2^M:=aA (by omega) h;have h1:a*(2^L/2)*L<=b*(2^M/2)*M:=aP (aP hw (AW hp)) h;unfold tfL;omega
theorem aaT(n m:Nat):tf n m 2<=tf n m 3:=Lv (af _) (by omega)
theorem aaS(n m w:Nat):tf n m w=tf m n w:=by unfold tf;rw[fj]
def lH(B T N:Nat):Nat->Nat->Nat->Nat
 |0,_,_=>0
 |f+1,n,m=>
  if rt B T N n m=1 then n*m
  else if rt B T N n m=2 then n/m*lH B T N f m m+lH B T N f m (n%m)
  else if rt B T N n m=3 then lH B T N f ((n+1)/2) ((n+1)/2)+lH B T N f (n-(n+1)/2) (m-(n+1)/2)+lH B T N f ((n+1)/2+1) ((n+1)/2+1)
  else if rt B T N n m=4 then lH B T N f ((n+2)/3) ((n+2)/3)+3*lH B T N f ((n+2)/3+1) ((n+2)/3+1)+lH B T N f (n-2*((n+2)/3)) (m-2*((n+2)/3))
  else if rt B T N n m=5 then tf n m 3
  else 0
def Mn(B T N:Nat):Nat->Nat->Nat
 |0,_=>0
 |f+1,n=>
  if rt B T N n n=1 then n*(n+1)/2
  else if rt B T N n n=3 then Mn B T N f ((n+1)/2)+Mn B T N f (n-(n+1)/2)+Mn B T N f ((n+1)/2+1)
  else if rt B T N n n=4 then Mn B T N f ((n+2)/3)+3*Mn B T N f ((n+2)/3+1)+Mn B T N f (n-2*((n+2)/3))
  else if rt B T N n n=5 then tf n n 2
  else 0
structure AP(B T N:Nat):Prop where
 b1:4<=B
 b2:B<=64
 t1:12<=T
 t2:T<=8192
 n1:64<=N
 n2:N<=16384
theorem om{B N:Nat}(n m:Nat)(hm:m<=n)(_e:AP B T N):(rt B T N n m=0/\m=0)\/(rt B T N n m=1/\0<m/\m<B)\/(rt B T N n m=2/\B<=m/\2*m<=n+1)\/(rt B T N n m=3/\B<=m/\n+1<2*m)\/(rt B T N n m=4/\T<=m/\B<=m/\2*((n+2)/3)<m)\/(rt B T N n m=5/\T<=m/\B<=m/\n+1<2*m/\N<=n+m):=by
 unfold rt
 repeat' split
 all_goals omega
theorem Bi{B T N:Nat}(e:AP B T N):∀f g n m,m<=n->n<f->n<g->lH B T N f n m=lH B T N g n m
 |0,_,_,_,_,h,_=>by omega
 |_+1,0,_,_,_,_,h=>by omega
 |f+1,g+1,n,m,hm,h1,h2=>by
  have ih:=fun n m (a:m<=n) (b:n<f) (c:n<g)=>Bi e f g n m a b c;have e1:=e.b1;unfold lH;rcases om n m hm e with⟨r,_⟩|⟨r,_,_⟩|⟨r,_,_⟩|⟨r,_,_⟩|⟨r,_,_,_⟩|⟨r,_,_,_,_⟩<;>rw[r]<;>simp only[Nat.reduceEqDiff,if_true,if_false]
  ·rw[ih m m (by omega) (by omega) (by omega),ih m (n%m) (by have:=aD n (show 0<m by omega);omega) (by omega) (by omega)]
  ·rw[ih ((n+1)/2) ((n+1)/2) (by omega) (by omega) (by omega),ih (n-(n+1)/2) (m-(n+1)/2) (by omega) (by omega) (by omega),ih ((n+1)/2+1) ((n+1)/2+1) (by omega) (by omega) (by omega)]
  ·have:=e.t1;rw[ih ((n+2)/3) ((n+2)/3) (by omega) (by omega) (by omega),ih (n-2*((n+2)/3)) (m-2*((n+2)/3)) (by omega) (by omega) (by omega),ih ((n+2)/3+1) ((n+2)/3+1) (by omega) (by omega) (by omega)]
def lS(B T N n m:Nat):Nat:=lH B T N (n+1) n m
def qZ(B T N n:Nat):Nat:=Mn B T N (n+1) n
theorem m6{B N:Nat}(e:AP B T N)(hm:m<=n)(hf:n<f):lH B T N f n m=lS B T N n m:=Bi e f (n+1) n m hm hf (by omega)
theorem tq{B N:Nat}(h:rt B T N n m=0):lS B T N n m=0:=by unfold lS lH;simp[h]
theorem Au{B N:Nat}(h:rt B T N n m=1):lS B T N n m=n*m:=by unfold lS lH;simp[h]
theorem O8{B N:Nat}(e:AP B T N)(_hm:m<=n)(h:rt B T N n m=2)(h1:B<=m)(h2:2*m<=n+1):lS B T N n m=n/m*lS B T N m m+lS B T N m (n%m):=by have e1:=e.b1;rw[lS];unfold lH;simp only[h,Nat.reduceEqDiff,if_true,if_false];rw[m6 e (by omega) (by omega),m6 e (by have:=aD n (show 0<m by omega);omega) (by omega)]
theorem ux{B N:Nat}(e:AP B T N)(_hm:m<=n)(h:rt B T N n m=3)(h1:B<=m)(h2:n+1<2*m):lS B T N n m=lS B T N ((n+1)/2) ((n+1)/2)+lS B T N (n-(n+1)/2) (m-(n+1)/2)+lS B T N ((n+1)/2+1) ((n+1)/2+1):=by
 have e1:=e.b1;rw[lS];unfold lH;simp only[h,Nat.reduceEqDiff,if_true,if_false];rw[m6 e (by omega) (by omega),m6 e (by omega) (by omega),m6 e (by omega) (by omega)]
theorem xk{B N:Nat}(e:AP B T N)(_hm:m<=n)(h:rt B T N n m=4)(h1:T<=m)(h2:2*((n+2)/3)<m):lS B T N n m=lS B T N ((n+2)/3) ((n+2)/3)+3*lS B T N ((n+2)/3+1) ((n+2)/3+1)+lS B T N (n-2*((n+2)/3)) (m-2*((n+2)/3)):=by
 have e1:=e.t1;rw[lS];unfold lH;simp only[h,Nat.reduceEqDiff,if_true,if_false];rw[m6 e (by omega) (by omega),m6 e (by omega) (by omega),m6 e (by omega) (by omega)]
theorem xj{B N:Nat}(h:rt B T N n m=5):lS B T N n m=tf n m 3:=by unfold lS lH;simp[h]
theorem Li{B T N:Nat}(e:AP B T N):∀f g n,n<f->n<g->Mn B T N f n=Mn B T N g n
 |0,_,_,h,_=>by omega
 |_+1,0,_,_,h=>by omega
 |f+1,g+1,n,h1,h2=>by
  have ih:=fun n (b:n<f) (c:n<g)=>Li e f g n b c;have e1:=e.b1;have e2:=e.t1;unfold Mn;rcases om n n (af _) e with⟨r,_⟩|⟨r,_,_⟩|⟨r,_,_⟩|⟨r,_,_⟩|⟨r,_,_,_⟩|⟨r,_,_,_,_⟩<;>rw[r]<;>simp only[Nat.reduceEqDiff,if_true,if_false]
  ·rw[ih ((n+1)/2) (by omega) (by omega),ih (n-(n+1)/2) (by omega) (by omega),ih ((n+1)/2+1) (by omega) (by omega)]
  ·rw[ih ((n+2)/3) (by omega) (by omega),ih (n-2*((n+2)/3)) (by omega) (by omega),ih ((n+2)/3+1) (by omega) (by omega)]
theorem zg{B N:Nat}(e:AP B T N)(hf:n<f):Mn B T N f n=qZ B T N n:=Li e f (n+1) n hf (by omega)
theorem Ll{B N:Nat}(h:rt B T N n n=0\/rt B T N n n=2):qZ B T N n=0:=by unfold qZ Mn;rcases h with h|h<;>simp[h]
theorem P9{B N:Nat}(h:rt B T N n n=1):qZ B T N n=n*(n+1)/2:=by unfold qZ Mn;simp[h]
theorem Fy{B N:Nat}(e:AP B T N)(h:rt B T N n n=3)(h1:B<=n):qZ B T N n=qZ B T N ((n+1)/2)+qZ B T N (n-(n+1)/2)+qZ B T N ((n+1)/2+1):=by have e1:=e.b1;rw[qZ];unfold Mn;simp only[h,Nat.reduceEqDiff,if_true,if_false];rw[zg e (by omega),zg e (by omega),zg e (by omega)]
theorem Lk{B N:Nat}(e:AP B T N)(h:rt B T N n n=4)(h1:T<=n):qZ B T N n=qZ B T N ((n+2)/3)+3*qZ B T N ((n+2)/3+1)+qZ B T N (n-2*((n+2)/3)):=by have e1:=e.t1;rw[qZ];unfold Mn;simp only[h,Nat.reduceEqDiff,if_true,if_false];rw[zg e (by omega),zg e (by omega),zg e (by omega)]
theorem Lj{B N:Nat}(h:rt B T N n n=5):qZ B T N n=tf n n 2:=by unfold qZ Mn;simp[h]
theorem Qc(n m:Nat)(h:64<=n+m):∃L P,6<=L/\P=2^(L-1)/\P<n+m/\n+m<=2*P/\tf n m 3=9*(P*L)+24*P:=by
 obtain⟨h1,h2⟩:=Kl (n+m) (by omega);have h3:=abm (n+m);obtain⟨k,hk⟩:∃k,lg (n+m)=k+1:=⟨lg (n+m)-1,by omega⟩;rw[hk]at h1 h2 h3;rw[dF]at h2;have h4:2^6<=2^(k+1):=by omega
 have h5:=(Nat.pow_le_pow_iff_right (a:=2) (by omega)).1 h4;refine⟨k+1,2^k,by omega,by rw[dF],h2,by rw[aE]at h3;omega,?_⟩;unfold tf tfL;rw[hk,aE,iR _ (by omega),aF 3 (2^k) (k+1)];omega
theorem PN:∀k,36*(k+7)+96<=3*2^(k+7)
 |0=>by decide
 |k+1=>by have:=PN k;rw[show k+1+7=(k+7)+1 from by omega,aE];omega
theorem KP:∀k,162*(k+7)+432<=16*2^(k+7)
 |0=>by decide
 |k+1=>by have:=KP k;rw[show k+1+7=(k+7)+1 from by omega,aE];omega
theorem aaK(i:Nat):(i+3)*(i+3)+(i+3)*(i+3)+(i+3+1)*(i+3+1)<=(2*(i+3))*(2*(i+3)):=by grind
theorem adf(i:Nat):(i+5)*(i+5)+(i+4)*(i+4)+(i+5+1)*(i+5+1)<=(2*i+9)*(2*i+9):=by grind
theorem XZ(i:Nat):(i+3)*(i+3)+3*((i+3+1)*(i+3+1))+(i+3)*(i+3)<=(3*i+9)*(3*i+9):=by grind
theorem Ya(i:Nat):(i+3)*(i+3)+3*((i+3+1)*(i+3+1))+(i+2)*(i+2)<=(3*i+8)*(3*i+8):=by grind
theorem Yb(i:Nat):(i+4)*(i+4)+3*((i+4+1)*(i+4+1))+(i+2)*(i+2)<=(3*i+10)*(3*i+10):=by grind
theorem nine(n m:Nat)(h1:m<=n)(h2:n<=2*m):2*((n+m)*(n+m))<=9*(n*m):=by
 obtain⟨i,rfl⟩:∃i,n=m+i:=⟨n-m,by omega⟩;obtain⟨j,rfl⟩:∃j,m=i+j:=⟨m-i,by omega⟩
 grind
theorem xJ(h:a<=b):a*a<=b*b:=aP h h
theorem Yq(n m:Nat)(h1:m<=n)(h2:n<=2*m)(h:64<=n+m):tf n m 3<=8*(n*m):=by
 obtain⟨L,P,hL,hP,p1,p2,e⟩:=Qc n m h;have k9:=nine n m h1 h2;rw[e];by_cases h6:L=6
 ·subst h6;have hP:P=32:=hP;subst hP;have:=xJ h;omega
 ·obtain⟨k,rfl⟩:∃k,L=k+7:=⟨L-7,by omega⟩;have hb:=KP k;have Aa:2^(k+7)=2*P:=by rw[hP,show k+7-1=k+6 from by omega,show k+7=(k+6)+1 from by omega,aE];omega
  rw[Aa]at hb;have hm:=au P hb;have hs:=xJ (show P<=n+m by omega);have r1:P*(162*(k+7)+432)=162*(P*(k+7))+432*P:=by grind
  have r2:P*(16*(2*P))=32*(P*P):=by grind
  omega
theorem adg(n:Nat)(h:32<=n):tf n n 3<=6*(n*n):=by
 obtain⟨L,P,hL,hP,p1,p2,e⟩:=Qc n n (by omega);rw[e];by_cases h6:L=6
 ·subst h6;have hP:P=32:=hP;subst hP;have:=xJ h;omega
 ·obtain⟨k,rfl⟩:∃k,L=k+7:=⟨L-7,by omega⟩;have hb:=PN k;have Aa:2^(k+7)=2*P:=by rw[hP,show k+7-1=k+6 from by omega,show k+7=(k+6)+1 from by omega,aE];omega
  rw[Aa]at hb;have hm:=au P hb;have hs:=xJ (show P<=n+n by omega);have r1:P*(36*(k+7)+96)=36*(P*(k+7))+96*P:=by grind
  have r2:P*(3*(2*P))=6*(P*P):=by grind
  have r3:(n+n)*(n+n)=4*(n*n):=by grind
  omega
theorem Vo{B T N:Nat}(e:AP B T N):∀f n,n<f->lS B T N n n<=6*(n*n)/\(n<=3->lS B T N n n<=n*n)/\(n<=5->lS B T N n n<=2*(n*n))
 |0,_,h=>by omega
 |f+1,n,hf=>by
  have ih:=fun n (h:n<f)=>Vo e f n h;have e1:=e.b1;have e2:=e.t1;have e3:=e.n1;rcases om n n (af _) e with⟨r,h0⟩|⟨r,h0,h1⟩|⟨r,h0,h1⟩|⟨r,h0,h1⟩|⟨r,h0,h1,h2⟩|⟨r,h0,h1,h2,h3⟩
  ·rw[tq r];omega
  ·rw[Au r];omega
  ·omega
  ·rw[ux e (af _) r h0 h1];obtain⟨a1,a2,a3⟩:=ih ((n+1)/2) (by omega);obtain⟨b1,b2,b3⟩:=ih (n-(n+1)/2) (by omega);obtain⟨c1,c2,c3⟩:=ih ((n+1)/2+1) (by omega);by_cases h5:n<=5
   ·have h45:n=4\/n=5:=(by omega);rcases h45 with rfl|rfl
    ·simp at a2 b2 c2 ⊢;omega
    ·simp at a2 b2 c3 ⊢;omega
   ·refine⟨?_,by omega,by omega⟩;by_cases h7:n=7
    ·subst h7;simp at a3 b2 c3 ⊢;omega
    ·by_cases hev:n%2=0
     ·obtain⟨i,rfl⟩:∃i,n=2*(i+3):=⟨n/2-3,by omega⟩;rw[show(2*(i+3)+1)/2=i+3 from by omega]at *
      rw[show 2*(i+3)-(i+3)=i+3 from by omega]at *
      have:=aaK i;omega
     ·obtain⟨i,rfl⟩:∃i,n=2*i+9:=⟨(n-9)/2,by omega⟩;rw[show(2*i+9+1)/2=i+5 from by omega]at *
      rw[show 2*i+9-(i+5)=i+4 from by omega]at *
      have:=adf i;omega
  ·rw[xk e (af _) r h0 h2];obtain⟨a1,a2,a3⟩:=ih ((n+2)/3) (by omega);obtain⟨b1,b2,b3⟩:=ih (n-2*((n+2)/3)) (by omega);obtain⟨c1,c2,c3⟩:=ih ((n+2)/3+1) (by omega);refine⟨?_,by omega,by omega⟩;have RI:n%3=0\/n%3=1\/n%3=2:=(by omega);rcases RI with hm|hm|hm
   ·obtain⟨i,rfl⟩:∃i,n=3*i+9:=⟨(n-9)/3,by omega⟩;rw[show(3*i+9+2)/3=i+3 from by omega]at *
    rw[show 3*i+9-2*(i+3)=i+3 from by omega]at *
    have:=XZ i;omega
   ·obtain⟨i,rfl⟩:∃i,n=3*i+10:=⟨(n-10)/3,by omega⟩;rw[show(3*i+10+2)/3=i+4 from by omega]at *
    rw[show 3*i+10-2*(i+4)=i+2 from by omega]at *
    have:=Yb i;omega
   ·obtain⟨i,rfl⟩:∃i,n=3*i+8:=⟨(n-8)/3,by omega⟩;rw[show(3*i+8+2)/3=i+3 from by omega]at *
    rw[show 3*i+8-2*(i+3)=i+2 from by omega]at *
    have:=Ya i;omega
  ·rw[xj r];exact⟨adg n (by omega),by omega,by omega⟩
theorem RX(h n m:Nat)(hh:4<=h)(h1:2*h-1<=n)(h2:h+1<=m)(hn:h<=n):6*(h*h)+8*((n-h)*(m-h))+6*((h+1)*(h+1))<=8*(n*m):=by
 obtain⟨i,rfl⟩:∃i,h=i+4:=⟨h-4,by omega⟩;obtain⟨x,rfl⟩:∃x,n=2*i+7+x:=⟨n-(2*i+7),by omega⟩;obtain⟨y,rfl⟩:∃y,m=i+5+y:=⟨m-(i+5),by omega⟩;rw[show 2*i+7+x-(i+4)=i+3+x from by omega,show i+5+y-(i+4)=y+1 from by omega];have h1:=aO (i*i);have h2:=aO (i*x);have h3:=aO (i*y);have h4:=aO (x*y)
 grind
theorem TE(k n m:Nat)(hk:3<=k)(h1:3*k-2<=n)(h2:2*k+1<=m)(h3:2*k<=n):6*(k*k)+3*(6*((k+1)*(k+1)))+8*((n-2*k)*(m-2*k))<=8*(n*m):=by
 obtain⟨i,rfl⟩:∃i,k=i+3:=⟨k-3,by omega⟩;obtain⟨x,rfl⟩:∃x,n=3*i+7+x:=⟨n-(3*i+7),by omega⟩;obtain⟨y,rfl⟩:∃y,m=2*i+7+y:=⟨m-(2*i+7),by omega⟩;rw[show 3*i+7+x-2*(i+3)=i+1+x from by omega,show 2*i+7+y-2*(i+3)=y+1 from by omega];have h1:=aO (i*i);have h2:=aO (i*x);have h3:=aO (i*y);have h4:=aO (x*y)
 grind
theorem Gj{B T N:Nat}(e:AP B T N):∀f n m,n<f->m<=n->lS B T N n m<=8*(n*m)
 |0,_,_,h,_=>by omega
 |f+1,n,m,hf,hm=>by
  have ih:=fun n m (h:n<f) (k:m<=n)=>Gj e f n m h k;have sq:=fun n=>(Vo e (n+1) n (by omega));have e1:=e.b1;have e2:=e.t1;have e3:=e.n1;rcases om n m hm e with⟨r,h0⟩|⟨r,h0,h1⟩|⟨r,h0,h1⟩|⟨r,h0,h1⟩|⟨r,h0,h1,h2⟩|⟨r,h0,h1,h2,h3⟩
  ·rw[tq r];omega
  ·rw[Au r];omega
  ·rw[O8 e hm r h0 h1];have a:=(sq m).1;have b:=ih m (n%m) (by omega) (by have:=aD n (show 0<m by omega);omega);have c:=au (n/m) a;have d:=aS n m;have x:n*m=m*m*(n/m)+m*(n%m):=by
    have:n*m=(m*(n/m)+n%m)*m:=(by rw[d]);rw[this];generalize n/m=q;generalize n%m=r
    grind
   have y:n/m*(6*(m*m))=6*(m*m*(n/m)):=(by grind);rw[x];omega
  ·rw[ux e hm r h0 h1];obtain⟨a1,a2,a3⟩:=sq ((n+1)/2);obtain⟨c1,c2,c3⟩:=sq ((n+1)/2+1);have b:=ih (n-(n+1)/2) (m-(n+1)/2) (by omega) (by omega);by_cases hs:4<=(n+1)/2
   ·have:=RX ((n+1)/2) n m hs (by omega) (by omega) (by omega);omega
   ·have hn:n=4\/n=5\/n=6:=(by omega);have Ae:m=4\/m=5\/m=6:=(by omega);rcases hn with rfl|rfl|rfl<;>rcases Ae with rfl|rfl|rfl<;>simp at a2 b c3 ⊢ <;>omega
  ·rw[xk e hm r h0 h2];obtain⟨a1,a2,a3⟩:=sq ((n+2)/3);obtain⟨c1,c2,c3⟩:=sq ((n+2)/3+1);have b:=ih (n-2*((n+2)/3)) (m-2*((n+2)/3)) (by omega) (by omega);have:=TE ((n+2)/3) n m (by omega) (by omega) (by omega) (by omega);omega
  ·rw[xj r];exact Yq n m hm (by omega) (by omega)
theorem MH{B N:Nat}:lS B T N n 0=0:=tq (by unfold rt;simp)
theorem Yc{B T N:Nat}(e:AP B T N):∀f n,n<f->qZ B T N n<=lS B T N n n
 |0,_,h=>by omega
 |f+1,n,hf=>by
  have ih:=fun n (h:n<f)=>Yc e f n h;have e1:=e.b1;have e2:=e.t1;rcases om n n (af _) e with⟨r,h0⟩|⟨r,h0,h1⟩|⟨r,h0,h1⟩|⟨r,h0,h1⟩|⟨r,h0,h1,h2⟩|⟨r,h0,h1,h2,h3⟩
  ·rw[Ll (Or.inl r)];omega
  ·rw[Au r,P9 r];have:n*(n+1)<=2*(n*n):=by have:=au n (show n+1<=2*n by omega);have r:n*(2*n)=2*(n*n):=(by grind);omega
   omega
  ·omega
  ·rw[ux e (af _) r h0 h1,Fy e r h0];have a:=ih ((n+1)/2) (by omega);have b:=ih (n-(n+1)/2) (by omega);have c:=ih ((n+1)/2+1) (by omega);omega
  ·rw[xk e (af _) r h0 h2,Lk e r h0];have a:=ih ((n+2)/3) (by omega);have b:=ih (n-2*((n+2)/3)) (by omega);have c:=ih ((n+2)/3+1) (by omega);omega
  ·rw[xj r,Lj r];exact aaT n n
theorem Fx{B N:Nat}(e:AP B T N)(n:Nat):qZ B T N n<=8*(n*n):=ak (Yc e (n+1) n (by omega)) (Gj e (n+1) n n (by omega) (af _))
def Cg(p:Nat)(a b:Int):Prop:=(p:Int)∣a-b
theorem Cg.refl(p:Nat)(a:Int):Cg p a a:=⟨0,by omega⟩
theorem Cg.of_eq{a b:Int}(h:a=b):Cg p a b:=h▸Cg.refl p a
theorem Cg.symm{a b:Int}(h:Cg p a b):Cg p b a:=by obtain⟨x,hx⟩:=h;exact⟨-x,by grind⟩
theorem Cg.trans{a b c:Int}(h:Cg p a b)(k:Cg p b c):Cg p a c:=by obtain⟨x,hx⟩:=h;obtain⟨y,hy⟩:=k;exact⟨x+y,by grind⟩
theorem Cg.add{a b c d:Int}(h:Cg p a b)(k:Cg p c d):Cg p (a+c) (b+d):=by obtain⟨x,hx⟩:=h;obtain⟨y,hy⟩:=k;exact⟨x+y,by grind⟩
theorem Cg.sub{a b c d:Int}(h:Cg p a b)(k:Cg p c d):Cg p (a-c) (b-d):=by obtain⟨x,hx⟩:=h;obtain⟨y,hy⟩:=k;exact⟨x-y,by grind⟩
theorem Cg.mul{a b c d:Int}(h:Cg p a b)(k:Cg p c d):Cg p (a*c) (b*d):=by obtain⟨x,hx⟩:=h;obtain⟨y,hy⟩:=k;exact⟨x*c+b*y,by grind⟩
theorem Cg.mod(p a:Nat):Cg p ((a%p:Nat):Int) (a:Int):=by
 have h:=aS a p;refine⟨-((a/p:Nat):Int),?_⟩;have h':(p:Int)*((a/p:Nat):Int)+((a%p:Nat):Int)=(a:Int):=by exact_mod_cast h
 grind
theorem Cg.same(h:Cg p (a:Int) (b:Int)):a%p=b%p:=by
 have:=Int.emod_eq_emod_iff_emod_sub_eq_zero.2 (Int.emod_eq_zero_of_dvd h)
 exact_mod_cast this
theorem Cg.eq(h:Cg p (a:Int) (b:Int))(ha:a<p)(hb:b<p):a=b:=by have:=h.same;rwa [bc ha,bc hb]at this
theorem Cg.self(p:Nat):Cg p (p:Int) 0:=⟨1,by omega⟩
theorem Cg.pow{a b:Int}(h:Cg p a b)(n:Nat):Cg p (a^n) (b^n):=by
 induction n with
 |zero=>rw[iz,iz];exact Cg.refl _ _
 |succ n ih=>rw[gU,gU];exact ih.mul h
def sb(p a b:Nat):Nat:=(a%p+(p-b%p))%p
theorem aby(h:0<p)(a b:Nat):sb p a b<p:=aD _ h
theorem Cw(h:0<p)(a b:Nat):Cg p (sb p a b:Int) ((a:Int)-(b:Int)):=by
 refine(Cg.mod p _).trans ?_;have h2:=aD b h;have e:((a%p+(p-b%p):Nat):Int)=((a%p:Nat):Int)-((b%p:Nat):Int)+(p:Int):=by omega
 rw[e];have:=((Cg.mod p a).sub (Cg.mod p b)).add (Cg.self p);rwa [fK]at this
theorem aew(_h:0<p)(h2:b%p<=a%p):sb p a b=a%p-b%p:=by unfold sb;have:=aD a _h;rw[show a%p+(p-b%p)=a%p-b%p+p by have:=aD b _h;omega,Nat.add_mod_right,bc (by omega)]
theorem aaH(h:0<p)(h2:a%p<b%p):sb p a b=a%p+p-b%p:=by unfold sb;have:=aD b h;rw[show a%p+(p-b%p)=a%p+p-b%p by omega,bc (by omega)]
def rd(p a:Nat):Nat:=a%p
def ad(p a b:Nat):Nat:=(a+b)%p
def ml(p a b:Nat):Nat:=a*b%p
theorem ZG(h:a%p+b%p<p):(a+b)%p=a%p+b%p:=by rw[Nat.add_mod,bc h]
theorem adE(hp:0<p)(h:p<=a%p+b%p):(a+b)%p=a%p+b%p-p:=by have h1:=aD a hp;have h2:=aD b hp;rw[Nat.add_mod,Nat.mod_eq_sub_mod h,bc (by omega)]
def De(p v:Nat):Nat:=v*((18446744073709551618-p*v%18446744073709551616)%18446744073709551616)%18446744073709551616
def BM(p:Nat):Nat->Nat
 |0=>p
 |k+1=>De p (BM p k)
def qI(p:Nat):Nat:=BM p 5
theorem Pv(h:p<18446744073709551616):∀k,BM p k<18446744073709551616
 |0=>h
 |_+1=>aD _ (by omega)
theorem Yi(p v:Nat):Cg 18446744073709551616 (De p v:Int) ((v:Int)*(2-(p:Int)*(v:Int))):=by
 unfold De;refine(Cg.mod _ _).trans ?_;rw[aG];refine(Cg.refl _ _).mul ((Cg.mod _ _).trans ?_);have h:=aD (p*v) (show 0<18446744073709551616 by omega);have hm:=Cg.mod 18446744073709551616 (p*v);generalize p*v%18446744073709551616=x at *;have e:((18446744073709551618-x:Nat):Int)=2-(x:Int)+((18446744073709551616:Nat):Int):=by omega
 rw[e];have:=((Cg.refl 18446744073709551616 2).sub hm).add (Cg.self 18446744073709551616);rwa [fK,aG]at this
theorem pg{v:Nat}(h:(m:Int)∣(p:Int)*v-1)(hM:(M:Int)∣(m:Int)*m)(hB:(M:Int)∣18446744073709551616):(M:Int)∣(p:Int)*(De p v:Nat)-1:=by
 obtain⟨x,hx⟩:=h;obtain⟨y,hy⟩:=hM;obtain⟨z,hz⟩:=hB;obtain⟨t,ht⟩:=Yi p v;generalize (De p v:Int)=s at *;have hz':((18446744073709551616:Nat):Int)=M*z:=hz;rw[hz']at ht;refine⟨(p:Int)*z*t-y*x*x,?_⟩;have e1:s=(v:Int)*(2-(p:Int)*v)+M*z*t:=by omega
 have e2:((p:Int)*v-1)*((p:Int)*v-1)=M*(y*x*x):=by rw[hx];grind
 rw[e1]
 grind
theorem Sx(h:p%2=1):((8:Nat):Int)∣(p:Int)*p-1:=by
 have e:p*p%8=1:=by
  rw[nU];have:p%8=1\/p%8=3\/p%8=5\/p%8=7:=by omega
  rcases this with h|h|h|h<;>rw[h]
 have:=aS (p*p) 8;refine⟨((p*p/8:Nat):Int),?_⟩;have e2:(p:Int)*p=((p*p:Nat):Int):=(aG p p).symm;rw[e2];generalize p*p=q at *;omega
theorem BK(h:p%2=1):(18446744073709551616:Int)∣(p:Int)*(qI p:Nat)-1:=by have h0:=Sx h;have h1:=pg (M:=64) h0 (by decide) (by decide);have h2:=pg (M:=4096) h1 (by decide) (by decide);have h3:=pg (M:=16777216) h2 (by decide) (by decide);have h4:=pg (M:=281474976710656) h3 (by decide) (by decide);exact pg (M:=18446744073709551616) h4 (by decide) (by decide)
def ib(p:Nat):Nat:=p-p*qI p/18446744073709551616
theorem yT(h:p%2=1)(hp:p<18446744073709551616):Cg p ((ib p:Int)*18446744073709551616) 1:=by
 obtain⟨k,hk⟩:=BK h;have hv:qI p<18446744073709551616:=Pv hp 5;have e1:p*qI p<p*18446744073709551616:=sY hv (by omega);unfold ib;have e2:(p:Int)*(qI p:Nat)=((p*qI p:Nat):Int):=(aG _ _).symm;refine⟨18446744073709551616-(qI p:Int),?_⟩;rw[Int.mul_sub,e2];rw[e2]at hk;generalize p*qI p=t at *;have:k=((t/18446744073709551616:Nat):Int):=by omega
 omega
def mm(p a b:Nat):Nat:=a*b*ib p%p
def pw(p a n:Nat):Nat:=a^n%p
theorem Fi(ha:a<p)(hb:b<p)(hp:p<=18446744073709551616):a*b/18446744073709551616<p:=by rw[aR (by omega)];exact az (eU ha hb) (au _ hp)
theorem Y_{q top hi:Nat}(h:p%2=1)(hp:p<18446744073709551616)(Ka:hi=(a%p)*(b%p)/18446744073709551616)(BH:lo=(a%p)*(b%p)%18446744073709551616)(hq:q=lo*qI p%18446744073709551616)(ht:top=q*p/18446744073709551616):sb p hi top=a*b*ib p%p:=by
 have h0:0<p:=by omega
 refine Cg.eq (p:=p) ?_ (aby h0 _ _) (aD _ h0);refine(Cw h0 _ _).trans (Cg.trans ?_ (Cg.mod p _).symm);have h1:=aS ((a%p)*(b%p)) 18446744073709551616;rw[<-Ka, <-BH]at h1;have h2:=aS (q*p) 18446744073709551616;have dh:lo<18446744073709551616:=by rw[BH];exact aD _ (by omega)
 have hl:q*p%18446744073709551616=lo:=by
  have:Cg 18446744073709551616 ((q*p:Nat):Int) (lo:Int):=by
   rw[aG];obtain⟨k,hk⟩:=BK h;have hqc:Cg 18446744073709551616 (q:Int) ((lo:Int)*(qI p:Nat)):=by rw[hq, <-aG];exact Cg.mod _ _
   obtain⟨x,hx⟩:=hqc;refine⟨x*p+lo*k,?_⟩;have e:((18446744073709551616:Nat):Int)=18446744073709551616:=rfl;rw[e]at hx ⊢;generalize (18446744073709551616:Int)=B at *
   grind
  have:=this.same;rwa [bc dh]at this
 rw[<-ht,hl]at h2;have hab:Cg p (((a%p)*(b%p):Nat):Int) ((a*b:Nat):Int):=by rw[aG,aG];exact(Cg.mod p a).mul (Cg.mod p b)
 rw[<-h1]at hab
 -- (hi - top) B = a b - q p
 have key:Cg p (((hi:Int)-(top:Int))*18446744073709551616) ((a*b:Nat):Int):=by
  refine Cg.trans ?_ hab;refine⟨-(q:Int),?_⟩;have e2:(18446744073709551616:Int)*top+lo=(q:Int)*p:=by rw[<-aG q p, <-h2];omega
  have e3:((18446744073709551616*hi+lo:Nat):Int)=18446744073709551616*(hi:Int)+lo:=by omega
  rw[e3];generalize (18446744073709551616:Int)=B at *
  grind
 have hib:=yT h hp;have k2:=key.mul (Cg.refl p (ib p:Int));rw[aG];refine Cg.trans ?_ k2;have k3:=(Cg.refl p ((hi:Int)-(top:Int))).mul hib;refine Cg.trans ?_ (k3.symm.trans (Cg.of_eq ?_))
 ·rw[gZ];exact Cg.refl _ _
 ·generalize (18446744073709551616:Int)=B at *
  grind
theorem acU(p a b:Nat):(a%p)*(b%p)%p=a*b%p:=(nU a b p).symm
theorem Z'(a:Nat)(h:p%2=1)(hp:p<18446744073709551616):a*(18446744073709551616*18446744073709551616%p)*ib p%p=a*18446744073709551616%p:=by
 refine Cg.same ?_;have hib:=yT h hp;have h1:=Cg.mod p (18446744073709551616*18446744073709551616);rw[aG,aG];refine(((Cg.refl p (a:Int)).mul h1).mul (Cg.refl p _)).trans ?_;rw[aG a];have k:=(Cg.refl p ((a:Int)*18446744073709551616)).mul hib;refine Cg.trans (Cg.of_eq ?_) (k.trans (Cg.of_eq ?_))
 ·have e:((18446744073709551616*18446744073709551616:Nat):Int)=18446744073709551616*18446744073709551616:=rfl;rw[e];generalize (18446744073709551616:Int)=B at *
  grind
 ·rw[gZ];rfl
theorem Si(a:Nat)(h:p%2=1)(hp:p<18446744073709551616):(a*18446744073709551616%p)*ib p%p=a%p:=by
 refine Cg.same ?_;have hib:=yT h hp;rw[aG];refine((Cg.mod p _).mul (Cg.refl p _)).trans ?_;have k:=(Cg.refl p (a:Int)).mul hib;rw[aG];refine Cg.trans (Cg.of_eq ?_) (k.trans (Cg.of_eq (gZ _)));have e:((18446744073709551616:Nat):Int)=18446744073709551616:=rfl;rw[e];generalize (18446744073709551616:Int)=B at *
 grind
theorem Sj(a b:Nat)(h:p%2=1)(hp:p<18446744073709551616):(a*18446744073709551616%p)*(b*18446744073709551616%p)*ib p%p=a*b*18446744073709551616%p:=by
 refine Cg.same ?_;have hib:=yT h hp;rw[aG,aG];refine(((Cg.mod p _).mul (Cg.mod p _)).mul (Cg.refl p _)).trans ?_;have k:=(Cg.refl p ((a:Int)*b*18446744073709551616)).mul hib;rw[aG,aG,aG,aG];have e:((18446744073709551616:Nat):Int)=18446744073709551616:=rfl;rw[e];refine Cg.trans (Cg.of_eq ?_) (k.trans (Cg.of_eq (gZ _)));generalize (18446744073709551616:Int)=B at *
 grind
def zr(p a N o s n:Nat):Prop:=∃X Y,o=X*18446744073709551616%p/\s=Y*18446744073709551616%p/\X*Y^n%p=a^N%p
theorem SE(p a N:Nat):zr p a N (1*18446744073709551616%p) (a*18446744073709551616%p) N:=⟨1,a,rfl,rfl,by rw[cX]⟩
theorem AE(X Y:Nat)(h:p%2=1)(hp:p<18446744073709551616):mm p (X*18446744073709551616%p) (Y*18446744073709551616%p)=X*Y*18446744073709551616%p:=Sj X Y h hp
theorem Ij(Y n:Nat):(Y*Y)^n=Y^(2*n):=by rw[dH,Nat.pow_two]
theorem aar{N:Nat}(h:p%2=1)(hp:p<18446744073709551616)(H:zr p a N o s n)(hn:n%2=1):zr p a N (mm p o s) (mm p s s) (n/2):=by
 obtain⟨X,Y,rfl,rfl,e⟩:=H;refine⟨X*Y,Y*Y,AE X Y h hp,AE Y Y h hp,?_⟩;rw[<-e,Ij,aF X Y, <-ZC];have:(2*(n/2)).succ=n:=by omega
 rw[this]
theorem XC{N:Nat}(h:p%2=1)(hp:p<18446744073709551616)(H:zr p a N o s n)(hn:¬n%2=1):zr p a N o (mm p s s) (n/2):=by
 obtain⟨X,Y,rfl,rfl,e⟩:=H;refine⟨X,Y*Y,rfl,AE Y Y h hp,?_⟩;rw[<-e,Ij];have:2*(n/2)=n:=by omega
 rw[this]
theorem aaq{N:Nat}(h:p%2=1)(hp:p<18446744073709551616)(H:zr p a N o s 0):mm p o 1=pw p a N:=by obtain⟨X,Y,rfl,rfl,e⟩:=H;unfold mm pw;rw[dG,Si X h hp, <-e,cL,dG]
def UB(p a up lo ut t:Nat):Prop:=Cg p (up:Int) ((ut:Int)*a)/\Cg p (lo:Int) ((t:Int)*a)/\Nat.gcd up lo=Nat.gcd a p/\ut<p/\t<p
theorem VK(a:Nat)(h:3<=p):UB p a p (rd p a) 0 1:=by
 refine⟨?_,?_,?_,by omega,by omega⟩
 ·rw[show((0:Nat):Int)*(a:Int)=0 by simp];exact Cg.self p
 ·rw[show((1:Nat):Int)*(a:Int)=(a:Int) by simp];exact Cg.mod p a
 ·show Nat.gcd p (a%p)=Nat.gcd a p;rw[I9 p (a%p), <-Nat.gcd_rec,I9]
theorem j_{up:Nat}(h:0<p)(H:UB p a up lo ut t):UB p a lo (up%lo) t (sb p ut (ml p (up/lo) t)):=by
 obtain⟨h1,h2,h3,h4,h5⟩:=H;refine⟨h2,?_,?_,h5,aby h _ _⟩
 ·have e:=aS up lo;have e':((up%lo:Nat):Int)=(up:Int)-(lo:Int)*((up/lo:Nat):Int):=by have:((lo*(up/lo)+up%lo:Nat):Int)=(up:Int):=(by rw[e]);rw[fL,aG]at this;omega
  rw[e'];have k1:=(Cw h ut (ml p (up/lo) t)).mul (Cg.refl p (a:Int));have k2:Cg p (ml p (up/lo) t:Int) (((up/lo:Nat):Int)*(t:Int)):=by rw[<-aG];exact Cg.mod p _
  have k3:=((Cg.refl p (ut:Int)).sub k2).mul (Cg.refl p (a:Int));refine Cg.trans ?_ (k1.trans k3).symm;refine Cg.trans (h1.sub (h2.mul (Cg.refl p ((up/lo:Nat):Int)))) (Cg.of_eq ?_);generalize ((up/lo:Nat):Int)=q;generalize (ut:Int)=u;generalize (t:Int)=v;generalize (a:Int)=b
  grind
 ·rw[<-h3,I9 up lo,Nat.gcd_rec lo up,I9]
theorem acb{up:Nat}(h:3<=p)(H:UB p a up 0 ut t):up=Nat.gcd a p/\(up=1->ut<p/\ml p a ut=1):=by
 obtain⟨h1,_,h3,h4,_⟩:=H;rw[Nat.gcd_zero_right]at h3;refine⟨h3,fun e=>⟨h4,?_⟩⟩;subst e;have:Cg p ((1:Nat):Int) ((ut*a:Nat):Int):=by rw[aG];exact h1
 have:=this.same;unfold ml;rw[aC, <-this,bc (by omega)]
def bases:List Nat:=[2,3,5,7,11,13,17,19,23,29,31,37]
def bs(k:Nat):Nat:=bases.getD k 0
theorem xh:∀k,k<12->2<=bs k/\bs k<=37:=by decide
def sp(n:Nat):Nat->Nat->Bool
 |0,_=>false
 |k+1,x=>decide (x=n-1)||sp n k (ml n x x)
def tw(n:Nat):Nat:=Lib.ctz 64 (n-1)
def od(n:Nat):Nat:=(n-1)/2^tw n
def pass(n b:Nat):Bool:=decide (pw n b (od n)=1)||sp n (tw n) (pw n b (od n))
def G7(n:Nat):Bool:=decide (2<=n)&&(match bases.find? (fun b=>decide (n%b=0))with|some b=>decide (n=b)|none=>bases.all (pass n))
theorem Br{p:Nat->Bool}:∀(l:List Nat) (k:Nat),k<l.length->(∀j,j<k->p (l.getD j 0)=false)->p (l.getD k 0)=true->l.find? p=some (l.getD k 0)
 |[],k,h,_,_=>by simp at h
 |x :: l,0,_,_,h=>by simp at h;simp[h]
 |x :: l,k+1,hk,hb,h=>by
  have h0:p x=false:=by simpa using hb 0 (by omega)
  rw[List.find?_cons,h0];have:=Br l k (by simpa using hk) (fun j hj=>by simpa using hb (j+1) (by omega)) (by simpa using h);simpa using this
theorem EM{p:Nat->Bool}(l:List Nat)(h:∀j,j<l.length->p (l.getD j 0)=false):l.find? p=none:=by rw[List.find?_eq_none];intro x hx;obtain⟨j,hj,rfl⟩:=mh hx;have:=h j hj;simp[List.getD,hj]at this;simp[this]
theorem abT{p:Nat->Bool}(l:List Nat)(h:∀j,j<l.length->p (l.getD j 0)=true):l.all p=true:=by rw[fO];intro x hx;obtain⟨j,hj,rfl⟩:=mh hx;have:=h j hj;simpa [List.getD,hj]using this
theorem ZJ{p:Nat->Bool}(l:List Nat)(k:Nat)(hk:k<l.length)(h:p (l.getD k 0)=false):l.all p=false:=by rw[List.all_eq_false];exact⟨l.getD k 0,by simp[List.getD,hk],by rw[h];exact Bool.false_ne_true⟩
theorem Q_(h:n<2):G7 n=false:=by unfold G7;rw[aM (by omega)];rfl
theorem P_(h2:2<=n)(hk:k<12)(hb:∀j,j<k->¬n%bs j=0)(h:n%bs k=0):G7 n=decide (n=bs k):=by unfold G7;rw[Br bases k hk (fun j hj=>aM (hb j hj)) (bg h),bg h2];rfl
theorem WN(hb:∀j,j<12->¬n%bs j=0)(hk:k<12)(h:pass n (bs k)=false):G7 n=false:=by unfold G7;rw[EM bases (fun j hj=>aM (hb j hj))];show(_&&bases.all (pass n))=false;rw[ZJ bases k hk h,Bool.and_false]
theorem AB(h2:2<=n)(hb:∀j,j<12->¬n%bs j=0)(h:∀j,j<12->pass n (bs j)=true):G7 n=true:=by unfold G7;rw[EM bases (fun j hj=>aM (hb j hj)),bg h2];show(true&&bases.all (pass n))=true;rw[abT bases h];rfl
theorem aaj(h2:2<=n)(hb:∀j,j<12->¬n%bs j=0):n%2=1/\37<n:=by
 have e0:¬n%2=0:=hb 0 (by omega);refine⟨by omega,eI fun hle=>?_⟩;have H:∀n,n<38->2<=n->(∀j,j<12->¬n%bs j=0)->False:=by decide
 exact H n (by omega) h2 hb
theorem Iv(h1:1<n)(h:n<18446744073709551616):tw n<64/\od n%2=1/\od n*2^tw n=n-1:=by
 obtain⟨m,hm,hk⟩:=Lib.ctzFrom_spec 64 (n-1) (by omega) (by omega);have e:tw n=Lib.ctzFrom 64 (n-1):=by unfold tw Lib.ctz;rw[aV (by omega)]
 have e2:od n=2*m+1:=by
  unfold od;rw[e]
  conv=>lhs;lhs;rw[hm]
  rw[abc _ (bR (by omega))]
 rw[e,e2];refine⟨hk,by omega,?_⟩;rw[aC];exact hm.symm
def Gb(n A K o s k:Nat):Prop:=o<n/\s<n/\o*s^k%n=A^K%n
theorem Cl(K:Nat)(h1:1<n)(hA:A<n):Gb n A K 1 A K:=⟨h1,hA,by rw[cX]⟩
theorem KS(H:Gb n A K o s k)(hk:k%2=1):Gb n A K (ml n o s) (ml n s s) (k/2):=by
 obtain⟨h1,h2,h3⟩:=H;refine⟨aD _ (by omega),aD _ (by omega),?_⟩;rw[<-h3];unfold ml;rw[nU,vC, <-Nat.pow_mod, <-nU,Ij,aF, <-ZC];have:(2*(k/2)).succ=k:=by omega
 rw[this]
theorem Ft(H:Gb n A K o s k)(hk:¬k%2=1):Gb n A K o (ml n s s) (k/2):=by
 obtain⟨h1,h2,h3⟩:=H;refine⟨h1,aD _ (by omega),?_⟩;rw[<-h3];unfold ml;rw[nU, <-Nat.pow_mod, <-nU,Ij];have:2*(k/2)=k:=by omega
 rw[this]
theorem Ck(H:Gb n A K o s 0):o=pw n A K:=by obtain⟨h1,_,h3⟩:=H;rw[cL,dG,bc h1]at h3;exact h3
def pm(n:Nat):Nat->Nat->Nat->Nat->Nat
 |0,o,_,_=>o
 |f+1,o,s,k=>if k=0 then o else if k%2=1 then pm n f (o*s%n) (s*s%n) (k/2) else pm n f o (s*s%n) (k/2)
theorem XB{n A K:Nat}:∀(f o s k:Nat),k<2^f->Gb n A K o s k->pm n f o s k=pw n A K
 |0,o,s,k,hk,H=>by
  obtain rfl:k=0:=by simpa using hk
  exact Ck H
 |f+1,o,s,k,hk,H=>by
  unfold pm;rw[aE]at hk;split
  ·rename_i h0;subst h0;exact Ck H
  ·split
   ·rename_i h1;exact XB f _ _ _ (by omega) (KS H h1)
   ·rename_i h1;exact XB f _ _ _ (by omega) (Ft H h1)
theorem xM(h1:1<n)(hA:A<n)(hf:K<2^f):pw n A K=pm n f 1 A K:=(XB f 1 A K hf (Cl K h1 hA)).symm
def UN(p:Nat):Prop:=p%2=1/\3<=p/\p<4611686018427387904
structure Et(p X:Nat):Prop where
 two:2<=X
 lt:X<18446744073709551616
 hit:pw p X ((p-1)/2)=p-1
 first:∀y,2<=y->y<X->¬pw p y ((p-1)/2)=p-1
def JQ:Nat->Nat->Nat->List Nat
 |0,_,_=>[]
 |f+1,b,n=>if n=0 then [] else n%b :: JQ f b (n/b)
theorem qC(f b:Nat):JQ f b 0=[]:=by cases f<;>simp[JQ]
theorem JR(b:Nat)(hb:2<=b):∀(f g n:Nat),n<=f->n<=g->JQ f b n=JQ g b n
 |0,g,n,h1,_=>by
  obtain rfl:n=0:=by omega
  rw[qC,qC]
 |f+1,g,n,h1,h2=>by
  by_cases h0:n=0
  ·rw[h0,qC,qC]
  ·obtain⟨k,rfl⟩:∃k,g=k+1:=⟨g-1,by omega⟩;have hd:n/b<n:=QB (by omega) hb;simp only[JQ,if_neg h0];rw[JR b hb f k _ (by omega) (by omega)]
def dg(b n:Nat):List Nat:=JQ n b n
theorem py(b:Nat):dg b 0=[]:=qC 0 b
theorem oY(hb:2<=b)(h:n≠0):dg b n=n%b :: dg b (n/b):=by obtain⟨k,rfl⟩:∃k,n=k+1:=⟨n-1,by omega⟩;have hd:(k+1)/b<k+1:=QB (by omega) hb;unfold dg;rw[JQ,aV h,JR b hb k ((k+1)/b) _ (by omega) (af _)]
def vl(b:Nat):List Nat->Nat
 |[]=>0
 |d :: l=>vl b l*b+d
theorem MJ(hb:2<=b){P:Nat->List Nat->Prop}(h0:P 0 [])(h1:∀n l,n≠0->P (n/b) l->P n (n%b :: l)):∀n,P n (dg b n):=fun n=>by
 induction n using Nat.strongRecOn with
 |ind n ih=>
  by_cases h:n=0
  ·rw[h,py];exact h0
  ·rw[oY hb h];exact h1 n _ h (ih _ (QB (by omega) hb))
theorem YK(hb:2<=b)(n:Nat):vl b (dg b n)=n:=
 MJ (P:=fun n l=>vl b l=n) hb rfl (fun n l _ h=>by rw[vl,h];exact pW n b) n
theorem Pd(hb:2<=b)(n:Nat):∀d,d ∈ dg b n->d<b:=
 MJ (P:=fun _ l=>∀d,d ∈ l->d<b) hb (fun d h=>by cases h) (fun n l _ h d hd=>by
  rcases ei.1 hd with rfl|hd
  ·exact aD _ (by omega)
  ·exact h d hd) n
theorem tz{b:Nat}(hb:2<=b):∀(L n:Nat),n<b^L->(dg b n).length<=L
 |0,n,h=>by
  obtain rfl:n=0:=by rw[cL]at h;omega
  rw[py];exact af _
 |L+1,n,h=>by
  by_cases h0:n=0
  ·rw[h0,py];exact aO _
  ·rw[oY hb h0];have:n/b<b^L:=by rw[aR (by omega), <-aE];exact h
   have:=tz hb L _ this;simp only[List.length_cons];omega
theorem Bm(hb:2<=b)(L n:Nat)(h:n<4294967296^L):(dg b n).length<=32*L:=
 tz hb (32*L) n (by
  have e:(4294967296:Nat)^L=2^(32*L):=by rw[dH]
  rw[e]at h;exact az h (di hb _))
theorem f_(hb:256<=b)(L n:Nat)(h:n<18446744073709551616^L):(dg b n).length<=8*L:=
 tz (by omega) (8*L) n (by
  have e:(18446744073709551616:Nat)^L=256^(8*L):=by rw[dH]
  rw[e]at h;exact az h (di hb _))
theorem Gl(hb:2<=b)(n:Nat):(n=0->dg b n=[])/\(n≠0->∃l d,dg b n=l++[d]/\d≠0):=
 MJ (P:=fun n l=>(n=0->l=[])/\(n≠0->∃m d,l=m++[d]/\d≠0)) hb ⟨fun _=>rfl,fun h=>absurd rfl h⟩ (fun n l hn ih=>⟨fun h=>absurd h hn,fun _=>by
  by_cases h0:n/b=0
  ·have hl:n<b:=by
    rcases fl n b with h|h
    ·exact h
    ·have:=Nat.div_pos h (by omega);omega
   rw[ih.1 h0];exact⟨[],n%b,rfl,by rw[bc hl];exact hn⟩
  ·obtain⟨m,d,h,hd⟩:=ih.2 h0;exact⟨n%b :: m,d,by rw[h];rfl,hd⟩⟩) n
theorem qT(b:Nat):∀l m:List Nat,vl b (l++m)=vl b l+b^l.length*vl b m
 |[],m=>by simp[vl]
 |d :: l,m=>by
  simp only[List.cons_append,vl,List.length_cons,qT b l m,Nat.pow_succ,Nat.add_mul];have:b^l.length*vl b m*b=b^l.length*b*vl b m:=by rw[nK]
  omega
theorem zV{b:Nat}:∀l:List Nat,(∀d,d ∈ l->d<b)->vl b l<b^l.length
 |[],_=>by simp[vl]
 |d :: l,h=>by have h1:=zV l (fun x hx=>h x (qm _ hx));have h2:=h d (sU ..);have h3:=ax b (vE h1);simp only[vl,List.length_cons,Nat.pow_succ];rw[dJ]at h3;omega
def vk(d:Nat):UInt8:=if 9<d then UInt8.ofNat (87+d) else UInt8.ofNat (48+d)
def txt(b n:Nat):List UInt8:=if n=0 then [48] else ((dg b n).map vk).reverse
def sC(b c:Nat):Nat:=min (if 97<=c/\c<=122 then c-87 else if 48<=c/\c<=57 then c-48 else b) b
theorem Av(h:d<36):(vk d).toNat=if 9<d then 87+d else 48+d:=by unfold vk;split<;>simp[UInt8.toNat_ofNat']<;>omega
theorem VE(hb:b<=36)(h:d<b):sC b (vk d).toNat=d:=by rw[Av (by omega)];unfold sC;split<;>(try split)<;>(try split)<;>omega
def pv(b:Nat):Nat->List UInt8->Option Nat
 |a,[]=>some a
 |a,c :: l=>if sC b c.toNat<b then pv b (a*b+sC b c.toNat) l else none
theorem zb{b:Nat}:∀(l m:List UInt8) (a x:Nat),pv b a l=some x->pv b a (l++m)=pv b x m
 |[],m,a,x,h=>by simp only[pv,Option.some.injEq]at h;rw[h];rfl
 |c :: l,m,a,x,h=>by
  simp only[List.cons_append,pv]at h ⊢;by_cases hc:sC b c.toNat<b
  ·rw[aW hc]at h ⊢;exact zb l m _ x h
  ·rw[aV hc]at h;cases h
theorem XF{b:Nat}(hb:b<=36):∀l:List Nat,(∀d,d ∈ l->d<b)->pv b 0 ((l.map vk).reverse)=some (vl b l)
 |[],_=>rfl
 |d :: l,h=>by have hd:=h d (sU ..);rw[Er,List.reverse_cons,zb _ _ _ _ (XF hb l (fun x hx=>h x (qm _ hx)))];simp only[pv,VE hb hd,if_pos hd,vl]
theorem KR{b:Nat}(hb:0<b):∀k,pv b 0 (List.replicate k 48)=some 0
 |0=>rfl
 |k+1=>by
  rw[ij];have e:sC b (48:UInt8).toNat=0:=by unfold sC;simp
  simp only[pv,e,if_pos hb,Nat.zero_mul,Nat.add_zero];exact KR hb k
theorem abu{b:Nat}(hb:0<b):∀(l:List UInt8) (a k n:Nat),a<b^k->pv b a l=some n->n<b^(k+l.length)
 |[],a,k,n,h,e=>by simp only[pv,Option.some.injEq]at e;rw[<-e];exact h
 |c :: l,a,k,n,h,e=>by
  simp only[pv]at e;split at e
  ·rename_i hc;have h1:=ax b (vE h);rw[dJ, <-aE]at h1;have:=abu hb l _ (k+1) n (az (Nat.add_lt_add_left hc _) h1) e;rw[wN,show k+(l.length+1)=k+1+l.length by omega];exact this
  ·cases e
theorem acZ(hb:2<=b)(jA:b<=36)(n k:Nat):pv b 0 (List.replicate k 48++txt b n)=some n:=by
 rw[zb _ _ _ _ (KR (by omega) k)];unfold txt;split
 ·rename_i h;subst h;have e:sC b (48:UInt8).toNat=0:=by unfold sC;simp
  simp only[pv,e,if_pos (show 0<b by omega),Nat.zero_mul,Nat.add_zero]
 ·rw[XF jA _ (Pd hb n),YK hb]
theorem LI(hb:2<=b)(jA:b<=36)(n:Nat):txt b n=[48]\/∃c l,txt b n=c :: l/\c≠48:=by
 unfold txt;split
 ·exact Or.inl rfl
 ·rename_i h;obtain⟨l,d,e,hd⟩:=(Gl hb n).2 h;right;refine⟨vk d,(l.map vk).reverse,by rw[e];simp,fun he=>?_⟩;have h1:=Pd hb n d (by rw[e];simp);have h2:=gi UInt8.toNat he;rw[Av (by omega)]at h2;have h3:(48:UInt8).toNat=48:=rfl;rw[h3]at h2;split at h2<;>omega
theorem aa2(hb:2<=b)(L n:Nat)(h:n<2^L):(txt b n).length<=L+1:=by
 unfold txt;split
 ·simp
 ·simp only[List.length_reverse,List.length_map];have:n<b^L:=az h (di hb L);have:=tz hb L n this;omega
theorem Qm(b n:Nat):n=0\/txt b n=((dg b n).map vk).reverse:=by
 by_cases h:n=0
 ·exact Or.inl h
 ·right;unfold txt;rw[aV h]
def vq(q:Bool)(B T N n m:Nat):Nat:=if q then qZ B T N n else lS B T N n m
def st(n:Nat):Nat:=if n<4 then 0 else n*n
def sI:Nat->(Nat->Int)->Int
 |0,_=>0
 |n+1,f=>sI n f+f n
theorem dM{f g:Nat->Int}(h:∀j,j<n->f j=g j):sI n f=sI n g:=by
 induction n with
 |zero=>rfl
 |succ n ih=>show sI n f+f n=sI n g+g n;rw[ih fun j hj=>h j (by omega),h n (by omega)]
theorem tS{f g:Nat->Int}(h:∀j,j<n->Cg p (f j) (g j)):Cg p (sI n f) (sI n g):=by
 induction n with
 |zero=>exact Cg.refl _ _
 |succ n ih=>exact(ih fun j hj=>h j (by omega)).add (h n (by omega))
theorem XR(n:Nat)(f g:Nat->Int):sI n (fun j=>f j+g j)=sI n f+sI n g:=by
 induction n with
 |zero=>rfl
 |succ n ih=>show sI n (fun j=>f j+g j)+(f n+g n)=_;rw[ih];show _=sI n f+f n+(sI n g+g n);omega
theorem o8(n:Nat)(c:Int)(f:Nat->Int):sI n (fun j=>c*f j)=c*sI n f:=by
 induction n with
 |zero=>exact(yB c).symm
 |succ n ih=>show sI n (fun j=>c*f j)+c*f n=c*(sI n f+f n);rw[ih,Int.mul_add]
theorem xR(n:Nat):sI n (fun _=>0)=0:=by
 induction n with
 |zero=>rfl
 |succ n ih=>show sI n (fun _=>0)+0=0;rw[ih];rfl
theorem ac9(n:Nat):sI n (fun _=>1)=(n:Int):=by
 induction n with
 |zero=>rfl
 |succ n ih=>show sI n (fun _=>1)+1=((n+1:Nat):Int);rw[ih];omega
theorem Hy(m n:Nat)(f:Nat->Int):sI (m+n) f=sI m f+sI n (fun j=>f (m+j)):=by
 induction n with
 |zero=>show sI m f=sI m f+0;omega
 |succ n ih=>show sI (m+n) f+f (m+n)=sI m f+(sI n (fun j=>f (m+j))+f (m+n));rw[ih];omega
theorem XT(n:Nat)(f:Nat->Int):sI (2*n) f=sI n (fun j=>f (2*j))+sI n (fun j=>f (2*j+1)):=by
 induction n with
 |zero=>rfl
 |succ n ih=>
  show sI (2*n) f+f (2*n)+f (2*n+1)=sI n (fun j=>f (2*j))+f (2*n)+(sI n (fun j=>f (2*j+1))+f (2*n+1));rw[ih];omega
theorem xQ(m n:Nat)(f:Nat->Nat->Int):sI m (fun i=>sI n (fun j=>f i j))=sI n (fun j=>sI m (fun i=>f i j)):=by
 induction m with
 |zero=>exact(xR n).symm
 |succ m ih=>
  show sI m (fun i=>sI n fun j=>f i j)+sI n (fun j=>f m j)=sI n (fun j=>sI m (fun i=>f i j)+f m j);rw[ih,XR]
theorem Hz(n i:Nat)(c:Int)(h:i<n):sI n (fun j=>if j=i then c else 0)=c:=by
 induction n with
 |zero=>omega
 |succ n ih=>
  show sI n (fun j=>if j=i then c else 0)+(if n=i then c else 0)=c;by_cases hi:n=i
  ·subst hi;rw[aW rfl,dM (g:=fun _=>0) fun j hj=>aV (by omega),xR];omega
  ·rw[aV hi,ih (by omega)];omega
theorem kO(w:Int)(m:Nat):w^(2*m)=(w*w)^m:=by rw[jW,gU,gU,iz,g8]
def px(w:Int)(n:Nat)(a:Nat->Int)(k:Nat):Int:=sI n fun j=>a j*w^(j*k)
theorem ab6{a b:Nat->Int}(hw:Cg p w v)(h:∀j,j<n->Cg p (a j) (b j)):Cg p (px w n a k) (px v n b k):=
 tS fun j hj=>(h j hj).mul (hw.pow _)
theorem EI(w:Int)(n:Nat)(a:Nat->Int)(k:Nat):px w (2*n) a k=px (w*w) n (fun j=>a (2*j)) k+w^k*px (w*w) n (fun j=>a (2*j+1)) k:=by
 unfold px;rw[XT, <-o8];congr 1
 ·exact dM fun j _=>by rw[aF,kO]
 ·refine dM fun j _=>?_;rw[aX,cX,iE,aF,kO]
  grind
theorem oU(h:Cg p (w^m) 1)(j:Nat):Cg p (w^(j*m)) 1:=by rw[aC,jW];have:=h.pow j;rwa [ady]at this
theorem EH(h:Cg p (w^n) 1)(a:Nat->Int)(k:Nat):Cg p (px w n a (k+n)) (px w n a k):=by refine tS fun j _=>(Cg.refl p (a j)).mul ?_;rw[aH,iE];have:=(Cg.refl p (w^(j*k))).mul (oU h j);rwa [gZ]at this
theorem XY(h:Cg p (w^n) (-1)):Cg p ((w*w)^n) 1:=by rw[<-kO,aC,jW];have:=h.pow 2;rwa [show(-1:Int)^2=1 from rfl]at this
theorem d_(n:Nat)(a:Nat->Int)(k:Nat):Cg p (px w (2*n) a k) (px (w*w) n (fun j=>a (2*j)) k+w^k*px (w*w) n (fun j=>a (2*j+1)) k):=Cg.of_eq (EI w n a k)
theorem Vu(h:Cg p (w^n) (-1))(a:Nat->Int)(k:Nat):Cg p (px w (2*n) a (k+n)) (px (w*w) n (fun j=>a (2*j)) k-w^k*px (w*w) n (fun j=>a (2*j+1)) k):=by
 rw[EI];have h1:=EH (XY h) (fun j=>a (2*j)) k;have h2:=EH (XY h) (fun j=>a (2*j+1)) k;have h3:Cg p (w^(k+n)) (-(w^k)):=by rw[iE];have:=(Cg.refl p (w^k)).mul h;rwa [Int.mul_neg,gZ]at this
 refine(h1.add (h3.mul h2)).trans (Cg.of_eq ?_)
 grind
def Rt(p:Nat)(w:Int):Nat->Prop
 |0=>Cg p w 1
 |l+1=>Cg p (w^2^l) (-1)
theorem Rt.sq(h:Rt p w (l+1)):Rt p (w*w) l:=by
 cases l with
 |zero=>
  have h1:Cg p (w^2^0) (-1):=h;rw[cL,gU,iz,g8]at h1;have:=h1.mul h1;exact this
 |succ l=>
  show Cg p ((w*w)^2^l) (-1);have h1:Cg p (w^2^(l+1)) (-1):=h;rw[aE,aC,kO]at h1;exact h1
theorem Rt.one{p:Nat}{w:Int}:∀ {l:Nat},Rt p w l->Cg p (w^2^l) 1
 |0,h=>by rw[cL,gU,iz,g8];exact h
 |l+1,h=>by have h1:=Rt.one h.sq;rw[aE,aC,kO];exact h1
theorem wo{p:Nat}:∀(l m:Nat) (w:Int),Rt p w l->m<2^l->0<m->Cg p (sI (2^l) fun k=>w^(k*m)) 0
 |0,m,_,_,h1,h2=>by simp at h1;omega
 |l+1,m,w,h,h1,h2=>by
  have hh:Cg p (w^2^l) (-1):=h;by_cases ho:m%2=1
  ·-- the V9 are opposite
   rw[aE,aC,Nat.two_mul,Hy, <-XR];have:∀k,k<2^l->Cg p (w^(k*m)+w^((2^l+k)*m)) 0:=fun k _=>by
    have e:w^((2^l+k)*m)=(w^2^l)^m*w^(k*m):=(by rw[aX,iE, <-jW]);have hm:(-1:Int)^m= -1:=by obtain⟨q,rfl⟩:∃q,m=2*q+1:=⟨m/2,by omega⟩;rw[gU,jW,show(-1:Int)^2=1 from rfl,ady,g8]
    have h3:=hh.pow m;rw[hm]at h3;rw[e];refine((Cg.refl p _).add (h3.mul (Cg.refl p (w^(k*m))))).trans (Cg.of_eq ?_);omega
   refine(tS this).trans (Cg.of_eq (xR _))
  ·obtain⟨q,rfl⟩:∃q,m=2*q:=⟨m/2,by omega⟩;have ih:=wo l q (w*w) h.sq (by rw[aE]at h1;omega) (by omega);rw[aE,aC,Nat.two_mul,Hy];have e1:∀k,w^(k*(2*q))=(w*w)^(k*q):=fun k=>by rw[dW,kO]
   have h4:Cg p (sI (2^l) fun k=>w^(k*(2*q))) 0:=(by refine Cg.trans (Cg.of_eq (dM fun k _=>e1 k)) ih);have h5:Cg p (sI (2^l) fun k=>w^((2^l+k)*(2*q))) 0:=by refine Cg.trans (tS fun k _=>?_) ih;rw[e1,aX,iE];have:=(oU (Rt.one h.sq) q);rw[aC]at this;have h6:=this.mul (Cg.refl p ((w*w)^(k*q)));rwa [g8]at h6
   have:=h4.add h5;rwa [fK]at this
theorem xC(h:Cg p (w*v) 1)(n:Nat):Cg p (w^n*v^n) 1:=by rw[<-Int.mul_pow];have:=h.pow n;rwa [ady]at this
theorem Vt(h:Rt p w l)(hv:Cg p (w*v) 1)(a:Nat->Int)(i:Nat)(hi:i<2^l):Cg p (px v (2^l) (px w (2^l) a) i) (((2^l:Nat):Int)*a i):=by
 -- the inner af8: j = i gives N, all else nothing
 have key:∀j,j<2^l->Cg p (sI (2^l) fun k=>w^(j*k)*v^(k*i)) (if j=i then ((2^l:Nat):Int) else 0):=fun j hj=>by
  by_cases Zh:j=i
  ·subst Zh;rw[aW rfl];refine(tS fun k _=>?_).trans (Cg.of_eq (ac9 _));rw[aC k j];exact xC hv _
  ·rw[aV Zh];by_cases dh:i<j
   ·refine Cg.trans (tS fun k _=>?_) (wo l (j-i) w h (by omega) (by omega));have e:w^(j*k)=w^(k*(j-i))*w^(k*i):=by rw[<-iE, <-aH,aC];congr 2;omega
    rw[e,Ep];have:=(Cg.refl p (w^(k*(j-i)))).mul (xC hv (k*i));rwa [gZ]at this
   ·-- by the N_
    have hr:Cg p (sI (2^l) fun k=>w^(k*(2^l-(i-j)))) 0:=wo l (2^l-(i-j)) w h (by omega) (by omega);refine Cg.trans (tS fun k _=>?_) hr;have e:v^(k*i)=v^(k*(i-j))*v^(k*j):=by rw[<-iE, <-aH];congr 2;omega
    have h1:Cg p (w^(j*k)*v^(k*i)) (v^(k*(i-j))):=by
     rw[e,aC j k];have:=(xC hv (k*j)).mul (Cg.refl p (v^(k*(i-j))));rw[g8]at this;refine Cg.trans (Cg.of_eq ?_) this
     grind
    refine h1.trans ?_;have h2:Cg p (w^(k*(2^l-(i-j)))*w^(k*(i-j))) 1:=by rw[<-iE, <-aH,show 2^l-(i-j)+(i-j)=2^l by omega];exact oU h.one k
    have h3:=h2.mul (Cg.refl p (v^(k*(i-j))));rw[g8]at h3;refine h3.symm.trans ?_;rw[Ep];have:=(Cg.refl p (w^(k*(2^l-(i-j))))).mul (xC hv (k*(i-j)));rwa [gZ]at this
 have e:px v (2^l) (px w (2^l) a) i=sI (2^l) fun j=>a j*sI (2^l) fun k=>w^(j*k)*v^(k*i):=by
  unfold px;have:∀k,(sI (2^l) fun j=>a j*w^(j*k))*v^(k*i)=sI (2^l) fun j=>a j*(w^(j*k)*v^(k*i)):=fun k=>by rw[fa, <-o8];exact dM fun j _=>by grind
  rw[dM fun k _=>this k,xQ];exact dM fun j _=>o8 _ _ _
 rw[e];refine(tS fun j hj=>(Cg.refl p (a j)).mul (key j hj)).trans (Cg.of_eq ?_);rw[dM (g:=fun j=>if j=i then a i*((2^l:Nat):Int) else 0) fun j _=>?_,Hz _ _ _ hi,fa];by_cases Zh:j=i
 ·rw[aW Zh,aW Zh,Zh]
 ·rw[aV Zh,aV Zh,yB]
def cyc(n:Nat)(a b:Nat->Int)(k:Nat):Int:=sI n fun i=>sI n fun j=>if (i+j)%n=k then a i*b j else 0
theorem d'(h:Cg p (w^n) 1)(hn:0<n)(a b:Nat->Int)(k:Nat):Cg p (px w n a k*px w n b k) (px w n (cyc n a b) k):=by
 have e:px w n (cyc n a b) k=sI n fun i=>sI n fun j=>a i*b j*w^((i+j)%n*k):=by
  unfold px cyc;have:∀m,(sI n fun i=>sI n fun j=>if (i+j)%n=m then a i*b j else 0)*w^(m*k)=sI n fun i=>sI n fun j=>if m=(i+j)%n then a i*b j*w^((i+j)%n*k) else 0:=fun m=>by
   rw[fa, <-o8];refine dM fun i _=>?_;rw[<-o8];refine dM fun j _=>?_;by_cases hm:(i+j)%n=m
   ·rw[aW hm,aW hm.symm,hm,fa]
   ·rw[aV hm,aV (fun h=>hm h.symm),yB]
  rw[dM fun m _=>this m,xQ];refine dM fun i _=>?_;rw[xQ];refine dM fun j _=>?_;exact Hz n _ _ (aD _ hn)
 rw[e];have e2:px w n a k*px w n b k=sI n fun i=>sI n fun j=>a i*b j*w^((i+j)*k):=by
  unfold px;rw[fa, <-o8];refine dM fun i _=>?_;rw[fa, <-o8];refine dM fun j _=>?_;rw[aX,iE]
  grind
 rw[e2];refine tS fun i _=>tS fun j _=>(Cg.refl p (a i*b j)).mul ?_;have hd:=aS (i+j) n;have e3:w^((i+j)*k)=w^((i+j)/n*k*n)*w^((i+j)%n*k):=by
  rw[<-iE];congr 1
  conv=>lhs;rw[<-hd]
  rw[aX];congr 1;rw[aC n,aF,aC n k, <-aF]
 rw[e3];have:=(oU h ((i+j)/n*k)).mul (Cg.refl p (w^((i+j)%n*k)));rwa [g8]at this
def pd(p:Nat):Nat->Nat->List Nat
 |0,_=>[]
 |n+1,A=>A%p :: pd p n (A/p)
theorem oV(p:Nat):∀n A,(pd p n A).length=n
 |0,_=>rfl
 |n+1,A=>by rw[pd,wN,oV p n]
theorem Hq(p:Nat):∀n,pd p n 0=List.replicate n 0
 |0=>rfl
 |n+1=>by rw[pd,Nat.zero_mod,abL,Hq p n,ij]
theorem Ch(p:Nat):∀m n A,pd p (m+n) A=pd p m A++pd p n (A/p^m)
 |0,n,A=>by rw[bh,cL,nT];rfl
 |m+1,n,A=>by rw[show m+1+n=m+n+1 by omega,pd,Ch p m n,pd,List.cons_append,cI,aE,aC p]
theorem NT(p:Nat):∀m A,pd p m (A%p^m)=pd p m A
 |0,_=>rfl
 |m+1,A=>by rw[pd,pd,Nat.mod_mod_of_dvd A ⟨p^m,by rw[aE,aC]⟩];rw[show A%p^(m+1)/p=A/p%p^m by rw[aE,aC,UK],NT p m]
theorem abt{p:Nat}(hp:0<p):∀n A d,d ∈ pd p n A->d<p
 |0,_,d,h=>by cases h
 |n+1,A,d,h=>by
  rcases ei.1 h with rfl|h
  ·exact aD _ hp
  ·exact abt hp n _ d h
theorem PK(p i A:Nat):pd p (i+1) A=pd p i A++[A/p^i%p]:=by rw[Ch];rfl
theorem abr{b:Nat}(hb:2<=b):∀n A,A<b^n->pd b n A=dg b A++List.replicate (n-(dg b A).length) 0
 |0,A,h=>by
  obtain rfl:A=0:=by rw[cL]at h;omega
  rw[py];rfl
 |n+1,A,h=>by
  rcases fh A with rfl|h0
  ·rw[Hq,py];simp
  ·rw[oY hb (by omega),pd,abr hb n _ (by rw[aR (by omega), <-aE];exact h)];simp
theorem Fm(l:List Nat)(h:l=[]\/∃m d,l=m++[d]/\d≠0):∀z,fV (l++List.replicate z 0) (l.length+z)=l.length
 |0=>by
  rw[mj,dU,dB];rcases h with rfl|⟨m,d,rfl,hd⟩
  ·rfl
  ·rw[bU,kD,fV,aV];simpa [List.getD_eq_getElem?_getD]using hd
 |z+1=>by
  rw[<-dt,fV,aW]
  ·have e:∀k,k<=l.length+z->fV (l++List.replicate (z+1) 0) k=fV (l++List.replicate z 0) k:=fun k=>by
    induction k with
    |zero=>intro _;rfl
    |succ k ih=>
     intro hk;have eg:(l++List.replicate (z+1) 0).getD k 0=(l++List.replicate z 0).getD k 0:=(by rw[adA, <-fB,aq,gK (by simp;omega), <-aq]);rw[fV,fV,eg,ih (by omega)]
   rw[e _ (af _)];exact Fm l h z
  ·simp only[List.getD_eq_getElem?_getD];rw[lC (by omega)];simp
theorem ab7(hb:2<=b)(A:Nat):dg b A=[]\/∃m d,dg b A=m++[d]/\d≠0:=by
 by_cases h:A=0
 ·exact Or.inl ((Gl hb A).1 h)
 ·exact Or.inr ((Gl hb A).2 h)
theorem PL(hb:2<=b)(n A:Nat)(h:A<b^n):fV (pd b n A) n=(dg b A).length/\(pd b n A).take (dg b A).length=dg b A:=by
 have hl:=tz hb n A h;have e:=abr hb n A h;refine⟨?_,?_⟩
 ·have:=Fm (dg b A) (ab7 hb A) (n-(dg b A).length);rw[<-e,show(dg b A).length+(n-(dg b A).length)=n by omega]at this;exact this
 ·rw[e,AR]
def ex(b k:Nat):List Nat->List Nat
 |[]=>[]
 |x :: l=>pd b k x++ex b k l
theorem Pg(b k:Nat):∀l x,ex b k (l++[x])=ex b k l++pd b k x
 |[],x=>by simp[ex]
 |y :: l,x=>by rw[List.cons_append,ex,Pg b k l x,ex,fB]
theorem VL(b k:Nat):∀l,(ex b k l).length=k*l.length
 |[]=>rfl
 |x :: l=>by rw[ex,bU,oV,VL b k l,wN,cJ,fj]
theorem VM(b k:Nat):∀n A,ex b k (pd (b^k) n A)=pd b (k*n) A
 |0,A=>rfl
 |n+1,A=>by rw[pd,ex,VM b k n,NT,cJ,fj (k*n),Ch]
theorem Qp(b:Nat)(l:List Nat)(i:Nat)(h:i<l.length):vl b (l.drop i)=vl b (l.drop (i+1))*b+l.getD i 0:=by rw[cK h,vl,aq,bj h,df]
def JA(b k:Nat)(l:List Nat)(q:Nat):List Nat:=(List.range q).map fun j=>vl b ((l.drop (k*j)).take k)
theorem Vj(b k:Nat)(l:List Nat)(q:Nat):JA b k l (q+1)=JA b k l q++[vl b ((l.drop (k*q)).take k)]:=by unfold JA;rw[Qz,rh];rfl
theorem Z3(b k:Nat)(l:List Nat)(q:Nat):(JA b k l q).length=q:=by simp[JA]
theorem Vi(b k:Nat)(l:List Nat)(q:Nat):JA b k l (q+1)=vl b (l.take k) :: JA b k (l.drop k) q:=by unfold JA;rw[List.range_succ_eq_map,Er,List.map_map,dO,dN];congr 1;refine DI (fun j _=>?_);simp only[Function.comp];rw[UF,cJ,fj]
theorem YJ(b k:Nat):∀q l,l.length<=k*q->vl (b^k) (JA b k l q)=vl b l
 |0,l,h=>by obtain rfl:l=[]:=eu (by omega);rfl
 |q+1,l,h=>by
  rw[Vi,vl,YJ b k q (l.drop k) (by rw[gP,cJ]at *;omega)];have e:=qT b (l.take k) (l.drop k);rw[eW]at e;rw[e,cF];by_cases hk:k<=l.length
  ·rw[bu hk,aC,fj]
  ·rw[aT (by omega)];simp[vl]
theorem OB(hb:0<b)(l:List Nat)(hl:∀d,d ∈ l->d<b)(k:Nat):vl b (l.take k)<b^k:=by have h:=zV (l.take k) (fun d hd=>hl d (lF hd));refine az h (aA hb ?_);rw[cF];omega
theorem ab2(hb:0<b)(k q:Nat)(l:List Nat)(hl:∀d,d ∈ l->d<b):∀d,d ∈ JA b k l q->d<b^k:=fun d hd=>by unfold JA at hd;obtain⟨j,_,rfl⟩:=abI.1 hd;exact OB hb _ (fun d h=>hl d (fQ h)) k
theorem Ix(b:Nat)(xs:List Nat)(k:Nat)(h:xs.getD k 0=0):vl b (xs.take (k+1))=vl b (xs.take k):=by
 by_cases hk:k<xs.length
 ·rw[gg hk,qT];rw[aq,bj hk,df]at h;rw[h];simp[vl]
 ·rw[bK (by omega),bK (by omega)]
theorem Qq(b:Nat)(xs:List Nat):∀k,vl b (xs.take (fV xs k))=vl b (xs.take k)
 |0=>rfl
 |k+1=>by
  unfold fV;split
  ·rename_i h;rw[Qq b xs k,Ix b xs k h]
  ·rfl
theorem adn(b:Nat)(xs:List Nat):vl b (xs.take (fV xs xs.length))=vl b xs:=by rw[Qq,cf]
def JT(c:Nat):Nat:=if 48<=c/\c<=57 then c-48 else if 97<=c/\c<=122 then c-87 else 18446744073709551615
theorem i_(hb:b<=36)(h:JT c<b):sC b c=JT c:=by
 unfold JT sC at *;split at h
 ·rw[aV (by omega),aW (by omega)];split<;>omega
 ·split at h
  ·rw[aW (by omega)];split<;>omega
  ·omega
theorem ab9(h:¬JT c<b):¬sC b c<b:=by
 unfold JT sC at *;split at h
 ·rw[aV (by omega),aW (by omega)];omega
 ·split at h
  ·rw[aW (by omega)];omega
  ·rw[aV (by omega),aV (by omega)];omega
def oL(bs:List UInt8):List Nat:=(bs.map fun c=>JT c.toNat).reverse
theorem VC(bs:List UInt8):(oL bs).length=bs.length:=by simp[oL]
theorem PV{b:Nat}(hb:b<=36):∀(bs:List UInt8) (a:Nat),(∀c,c ∈ bs->JT c.toNat<b)->pv b a bs=some (a*b^bs.length+vl b (oL bs))
 |[],a,_=>by simp[pv,oL,vl]
 |c :: bs,a,h=>by have hc:=h c (sU ..);rw[pv,i_ hb hc,aW hc,PV hb bs _ (fun x hx=>h x (qm _ hx))];unfold oL;rw[Er,List.reverse_cons,qT,jG,nF,wN,aX,aE,aF,aC b];simp only[vl,Nat.zero_mul,Nat.zero_add];rw[aC (JT c.toNat)];congr 1;omega
theorem PU{b:Nat}:∀(bs:List UInt8) (a:Nat),(∃c,c ∈ bs/\¬JT c.toNat<b)->pv b a bs=none
 |[],a,⟨c,h,_⟩=>by cases h
 |c :: bs,a,⟨x,hx,hn⟩=>by
  rw[pv];split
  ·rename_i hc;rcases ei.1 hx with rfl|hx
   ·exact absurd hc (ab9 hn)
   ·exact PU bs _ ⟨x,hx,hn⟩
  ·rfl
theorem PT(hb:b<=36)(bs:List UInt8):(∀d,d ∈ oL bs->d<b)/\pv b 0 bs=some (vl b (oL bs))\/(∃d,d ∈ oL bs/\b<=d)/\pv b 0 bs=none:=by
 by_cases h:∀c,c ∈ bs->JT c.toNat<b
 ·refine Or.inl ⟨fun d hd=>?_,?_⟩
  ·unfold oL at hd;rw[List.mem_reverse,abI]at hd;obtain⟨c,hc,rfl⟩:=hd;exact h c hc
  ·rw[PV hb bs 0 h,gX,bh]
 ·obtain⟨c,hc⟩:=adu.1 h;obtain⟨h1,h2⟩:=Classical.not_imp.1 hc;refine Or.inr ⟨⟨JT c.toNat,?_,by omega⟩,PU bs 0 ⟨c,h1,h2⟩⟩;unfold oL;rw[List.mem_reverse,abI];exact⟨c,h1,rfl⟩
theorem Z_(hA:A<2^n)(hL:2<=L)(hp:2^(L-1)<=p):A<p^((n-1)/(L-1)+1):=by refine az hA (ak ?_ (di hp _));rw[<-dH];refine aA (by decide) ?_;have:=aS (n-1) (L-1);have:=aD (n-1) (show L-1>0 by omega);rw[cJ];omega
end Go.Proofs.YtkdmippllpekfaaGreatDoor
