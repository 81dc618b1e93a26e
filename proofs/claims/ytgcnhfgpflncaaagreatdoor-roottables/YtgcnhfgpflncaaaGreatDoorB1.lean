/- Plain mathematics of naturals as rows of digits of 32 bits, the lowest first: their value, canonical rows, comparison. Nothing of any program here. -/
namespace Go.Proofs.YtgcnhfgpflncaaaGreatDoor
def val:List Nat->Nat
 |[]=>0
 |d :: ds=>d+4294967296*val ds
def js(xs:List Nat):Prop:=∀ j,xs.getD j 0<4294967296
def Can(xs:List Nat):Prop:=js xs/\(0<xs.length->0<xs.getD (xs.length-1) 0)
theorem om:js []:=fun j=>by simp
theorem sP:Can []:=⟨om,fun h=>absurd h (by simp)⟩
theorem cR(xs ys:List Nat)(j:Nat):(xs++ys).getD j 0=if j<xs.length then xs.getD j 0 else ys.getD (j-xs.length) 0:=by
 simp only[List.getD_eq_getElem?_getD,List.getElem?_append]
 split<;>rfl
theorem jA{xs:List Nat}{d:Nat}(h:js xs)(hd:d<4294967296):js (xs++[d]):=by
 intro j
 rw[cR]
 split
 ·exact h j
 ·generalize j-xs.length=k
  match k with
  |0=>simpa using hd
  |k+1=>simp
theorem Gn{xs:List Nat}(h:js xs)(k:Nat):js (xs.take k):=by
 intro j
 simp only[List.getD_eq_getElem?_getD,List.getElem?_take]
 split
 ·have:=h j;simpa [List.getD_eq_getElem?_getD]using this
 ·simp
theorem val_append(xs ys:List Nat):val (xs++ys)=val xs+4294967296^xs.length*val ys:=by
 induction xs with
 |nil=>simp[val]
 |cons d ds ih=>
  simp only[List.cons_append,val,ih,List.length_cons,Nat.pow_succ,Nat.mul_add]
  rw[Nat.mul_comm (4294967296^ds.length) 4294967296,Nat.mul_assoc]
  omega
theorem iG(xs:List Nat)(d:Nat):val (xs++[d])=val xs+4294967296^xs.length*d:=by
 rw[val_append];simp[val]
theorem getD_lt{xs:List Nat}{j:Nat}(h:j<xs.length):xs.getD j 0=xs[j]:=by simp[List.getD_eq_getElem?_getD,h]
theorem dU{xs:List Nat}{j:Nat}(h:xs.length<=j):xs.getD j 0=0:=by simp[List.getD_eq_getElem?_getD,h]
theorem take_snoc(xs:List Nat)(k:Nat)(h:k<xs.length):xs.take (k+1)=xs.take k++[xs.getD k 0]:=by
 rw[List.take_succ_eq_append_getElem h,getD_lt h]
theorem aD(xs:List Nat)(k:Nat):val (xs.take (k+1))=val (xs.take k)+4294967296^k*xs.getD k 0:=by
 by_cases h:k<xs.length
 ·rw[take_snoc xs k h,iG,List.length_take,Nat.min_eq_left (by omega)]
 ·rw[List.take_of_length_le (by omega),List.take_of_length_le (by omega),dU (by omega)];simp
theorem dM(xs:List Nat)(k:Nat)(h:xs.length<=k):val (xs.take k)=val xs:=by rw[List.take_of_length_le h]
theorem uo{xs:List Nat}(h:js xs):∀ k,val (xs.take k)<4294967296^k
 |0=>by simp[val]
 |k+1=>by
  rw[aD]
  have h1:=uo h k
  have h2:=h k
  have h3:4294967296^k*xs.getD k 0<=4294967296^k*4294967295:=Nat.mul_le_mul_left _ (by omega)
  have h4:4294967296^(k+1)=4294967296^k*4294967295+4294967296^k:=by rw[Nat.pow_succ, <-Nat.mul_succ]
  omega
theorem qi{xs:List Nat}(h:js xs):val xs<4294967296^xs.length:=by
 have:=uo h xs.length
 rwa [List.take_length]at this
theorem xW(xs:List Nat)(k:Nat):val xs=val (xs.take k)+4294967296^k*val (xs.drop k):=by
 by_cases h:k<=xs.length
 ·have:=val_append (xs.take k) (xs.drop k)
  rw[List.take_append_drop,List.length_take,Nat.min_eq_left h]at this
  exact this
 ·rw[List.take_of_length_le (by omega),List.drop_eq_nil_of_le (by omega)];simp[val]
theorem JB{xs:List Nat}(h:Can xs)(hl:0<xs.length):4294967296^(xs.length-1)<=val xs:=by
 have h1:=aD xs (xs.length-1)
 rw[show xs.length-1+1=xs.length from by omega,List.take_length]at h1
 have h2:=h.2 hl
 have h3:4294967296^(xs.length-1)*1<=4294967296^(xs.length-1)*xs.getD (xs.length-1) 0:=Nat.mul_le_mul_left _ (by omega)
 omega
theorem px{xs ys:List Nat}(hx:js xs)(hy:Can ys)(h:xs.length<ys.length):val xs<val ys:=by
 have h1:=qi hx
 have h2:=JB hy (by omega)
 have h3:4294967296^xs.length<=4294967296^(ys.length-1):=Nat.pow_le_pow_right (by omega) (by omega)
 omega
theorem kg{xs ys:List Nat}(hx:js xs)(i:Nat)(hd:xs.drop (i+1)=ys.drop (i+1))(h:xs.getD i 0<ys.getD i 0):val xs<val ys:=by
 have h1:=xW xs (i+1)
 have h2:=xW ys (i+1)
 rw[aD]at h1 h2
 have h3:=uo hx i
 have h4:4294967296^i*(xs.getD i 0+1)<=4294967296^i*ys.getD i 0:=Nat.mul_le_mul_left _ (by omega)
 rw[Nat.mul_succ]at h4
 rw[hd]at h1
 omega
theorem drop_step{xs ys:List Nat}(i:Nat)(hi:i<xs.length)(hl:xs.length=ys.length)(hd:xs.drop (i+1)=ys.drop (i+1))(h:xs.getD i 0=ys.getD i 0):xs.drop i=ys.drop i:=by
 have hj:i<ys.length:=by omega
 rw[List.drop_eq_getElem_cons hi,List.drop_eq_getElem_cons hj,hd]
 rw[getD_lt hi,getD_lt hj]at h
 rw[h]
def aV(m n:Nat):Int:=if m<n then -1 else if n<m then 1 else 0
theorem cK{m n:Nat}(h:m<n):aV m n= -1:=by unfold aV;rw[if_pos h]
theorem cJ{m n:Nat}(h:n<m):aV m n=1:=by unfold aV;rw[if_neg (by omega),if_pos h]
theorem de{m n:Nat}(h:m=n):aV m n=0:=by unfold aV;rw[if_neg (by omega),if_neg (by omega)]
theorem yn{xs ys:List Nat}(hx:Can xs)(hy:Can ys)(h:val xs=val ys):xs=ys:=by
 have hl:xs.length=ys.length:=by
  rcases Nat.lt_trichotomy xs.length ys.length with l|l|l
  ·have:=px hx.1 hy l;omega
  ·exact l
  ·have:=px hy.1 hx l;omega
 have key:∀ k,k<=xs.length->xs.drop (xs.length-k)=ys.drop (xs.length-k):=by
  intro k
  induction k with
  |zero=>intro _;rw[Nat.sub_zero,List.drop_eq_nil_of_le (Nat.le_refl _),List.drop_eq_nil_of_le (by omega)]
  |succ k ih=>
   intro hk
   have ih:=ih (by omega)
   have e:xs.length-k=xs.length-(k+1)+1:=by omega
   rw[e]at ih
   refine drop_step _ (by omega) hl ih ?_
   rcases Nat.lt_trichotomy (xs.getD (xs.length-(k+1)) 0) (ys.getD (xs.length-(k+1)) 0)with l|l|l
   ·have:=kg hx.1 _ ih l;omega
   ·exact l
   ·have:=kg hy.1 _ ih.symm l;omega
 have:=key xs.length (Nat.le_refl _)
 simpa using this
def bY(xs:List Nat):Nat->Nat
 |0=>0
 |k+1=>if xs.getD k 0=0 then bY xs k else k+1
theorem bo(xs:List Nat):∀ k,bY xs k<=k
 |0=>Nat.le_refl _
 |k+1=>by unfold bY;split;(have:=bo xs k;omega);omega
theorem wj(xs:List Nat):∀ k,val (xs.take (bY xs k))=val (xs.take k)
 |0=>rfl
 |k+1=>by
  unfold bY;split
  ·rename_i h;rw[wj xs k,aD,h];simp
  ·rfl
theorem jJ(xs:List Nat):∀ k,0<bY xs k->0<xs.getD (bY xs k-1) 0
 |0=>fun h=>absurd h (by simp[bY])
 |k+1=>by
  unfold bY;split
  ·exact jJ xs k
  ·rename_i h;intro _;simp only[Nat.add_sub_cancel];omega
def mX(xs:List Nat):List Nat:=xs.take (bY xs xs.length)
theorem aI(xs:List Nat):(mX xs).length=bY xs xs.length:=by
 have:=bo xs xs.length
 simp[mX];omega
theorem Ln(xs:List Nat):val (mX xs)=val xs:=by
 have:=wj xs xs.length
 rw[List.take_length]at this;exact this
theorem Ll{xs:List Nat}(h:js xs):Can (mX xs):=by
 refine⟨Gn h _,fun hl=>?_⟩
 rw[aI]at hl ⊢
 have h1:=jJ xs xs.length hl
 unfold mX
 rw[List.getD_eq_getElem?_getD,List.getElem?_take,if_pos (by omega)]
 rwa [List.getD_eq_getElem?_getD]at h1
theorem fX{xs:List Nat}(h:Can xs){L:Nat}(hv:val xs<4294967296^L):xs.length<=L:=by
 refine Nat.le_of_not_lt fun hl=>?_
 have h1:=JB h (by omega)
 have h2:4294967296^L<=4294967296^(xs.length-1):=Nat.pow_le_pow_right (by omega) (by omega)
 omega
end Go.Proofs.YtgcnhfgpflncaaaGreatDoor
/- Plain mathematics of doubling,comparing and subtracting rows of digits in place. -/
namespace Go.Proofs.YtgcnhfgpflncaaaGreatDoor
theorem set_mid(os rs:List Nat)(k d:Nat)(hk:os.length=k)(hr:k<rs.length):(os++rs.drop k).set k d=(os++[d])++rs.drop (k+1):=by
 rw[List.drop_eq_getElem_cons hr,List.set_append_right k d (by omega),hk,Nat.sub_self,List.set_cons_zero,List.append_assoc]
 rfl
def oM(rs ds os:List Nat)(k c:Nat):Prop:=os.length=k/\js os/\c<=1/\val os+val (ds.take k)=val (rs.take k)+4294967296^k*c
theorem EO(rs ds:List Nat):oM rs ds [] 0 0:=⟨rfl,om,by omega,by simp[val]⟩
theorem Je{rs ds os:List Nat}{k c:Nat}(h:oM rs ds os k c)(hr:rs.getD k 0<4294967296)(hs:c+ds.getD k 0<=rs.getD k 0):oM rs ds (os++[rs.getD k 0-(c+ds.getD k 0)]) (k+1) 0:=by
 obtain⟨h1,h2,h3,h4⟩:=h
 refine⟨by simp[h1],jA h2 (by omega),by omega,?_⟩
 rw[iG,h1,aD,aD]
 generalize 4294967296^k=B at *
 generalize rs.getD k 0=x at *
 generalize ds.getD k 0=d at *
 have e:B*(x-(c+d))+(B*c+B*d)=B*x:=by rw[<-Nat.mul_add, <-Nat.mul_add,Nat.sub_add_cancel hs]
 omega
theorem AN{rs ds os:List Nat}{k c:Nat}(h:oM rs ds os k c)(hd:ds.getD k 0<4294967296)(hs:¬c+ds.getD k 0<=rs.getD k 0):oM rs ds (os++[rs.getD k 0+(4294967296-(c+ds.getD k 0))]) (k+1) 1:=by
 obtain⟨h1,h2,h3,h4⟩:=h
 refine⟨by simp[h1],jA h2 (by omega),by omega,?_⟩
 rw[iG,h1,aD,aD,Nat.pow_succ]
 generalize 4294967296^k=B at *
 generalize rs.getD k 0=x at *
 generalize ds.getD k 0=d at *
 have e:B*(x+(4294967296-(c+d)))+(B*c+B*d)=B*x+B*4294967296:=by
  rw[<-Nat.mul_add, <-Nat.mul_add, <-Nat.mul_add];congr 1;omega
 omega
theorem MA{rs ds os:List Nat}{n c:Nat}(h:oM rs ds os n c)(hr:rs.length<=n)(hd:ds.length<=n)(hv:val ds<=val rs):val os=val rs-val ds:=by
 obtain⟨h1,h2,h3,h4⟩:=h
 rw[dM _ _ hr,dM _ _ hd]at h4
 have hl:=qi h2
 rw[h1]at hl
 have:c=0\/c=1:=by omega
 rcases this with rfl|rfl
 ·omega
 ·omega
end Go.Proofs.YtgcnhfgpflncaaaGreatDoor
/- Tables in plain numbers:which way a product goes,what it costs;n is the greater length. -/
namespace Go.Proofs.YtgcnhfgpflncaaaGreatDoor
def rt(B T N n m:Nat):Nat:=
 if m=0 then 0 else if m<B then 1 else if 2*m<=n+1 then 2 else if m<T then 3 else if N<=n+m then 5 else if 2*((n+2)/3)<m then 4 else 3
def lg(s:Nat):Nat:=if s<=1 then 0 else (s-1).log2+1
theorem Na(s:Nat):s<=2^lg s:=by
 unfold lg
 split
 ·simp;omega
 ·have:=@Nat.lt_log2_self (s-1)
  omega
theorem vL(s:Nat)(h:2<=s):1<=lg s/\2^(lg s-1)<s:=by
 unfold lg
 rw[if_neg (by omega)]
 have:=Nat.log2_self_le (n:=s-1) (by omega)
 exact⟨by omega,by rw[Nat.add_sub_cancel];omega⟩
theorem Df{s L:Nat}(h1:s<=2^L)(h2:L=0\/2^(L-1)<s):L=lg s:=by
 have a:=Na s
 by_cases hs:s<=1
 ·have e:lg s=0:=by unfold lg;rw[if_pos hs]
  rcases h2 with h2|h2
  ·omega
  ·have:=Nat.pow_pos (n:=L-1) (show 0<2 by omega);omega
 ·obtain⟨b,c⟩:=vL s (by omega)
  rcases h2 with h2|h2
  ·subst h2;simp at h1;omega
  ·have l1:L-1<lg s:=(Nat.pow_lt_pow_iff_right (a:=2) (by omega)).1 (by omega)
   have l2:lg s-1<L:=(Nat.pow_lt_pow_iff_right (a:=2) (by omega)).1 (by omega)
   by_cases hL:L=0
   ·subst hL;simp at h1;omega
   ·omega
def O7(L ways:Nat):Nat:=3*(ways*(2^L/2)*L+2*2^L)+6*2^L
def tf(n m ways:Nat):Nat:=O7 (lg (n+m)) ways
theorem xK{L M a b:Nat}(h:L<=M)(hw:a<=b):O7 L a<=O7 M b:=by
 have hp:2^L<=2^M:=Nat.pow_le_pow_right (by omega) h
 have h1:a*(2^L/2)*L<=b*(2^M/2)*M:=Nat.mul_le_mul (Nat.mul_le_mul hw (Nat.div_le_div_right hp)) h
 unfold O7
 omega
theorem MG(n m:Nat):tf n m 2<=tf n m 3:=xK (Nat.le_refl _) (by omega)
theorem MF(n m w:Nat):tf n m w=tf m n w:=by unfold tf;rw[Nat.add_comm]
def dR(B T N:Nat):Nat->Nat->Nat->Nat
 |0,_,_=>0
 |f+1,n,m=>
  if rt B T N n m=1 then n*m
  else if rt B T N n m=2 then n/m*dR B T N f m m+dR B T N f m (n%m)
  else if rt B T N n m=3 then dR B T N f ((n+1)/2) ((n+1)/2)+dR B T N f (n-(n+1)/2) (m-(n+1)/2)+dR B T N f ((n+1)/2+1) ((n+1)/2+1)
  else if rt B T N n m=4 then dR B T N f ((n+2)/3) ((n+2)/3)+3*dR B T N f ((n+2)/3+1) ((n+2)/3+1)+dR B T N f (n-2*((n+2)/3)) (m-2*((n+2)/3))
  else if rt B T N n m=5 then tf n m 3
  else 0
def ye(B T N:Nat):Nat->Nat->Nat
 |0,_=>0
 |f+1,n=>
  if rt B T N n n=1 then n*(n+1)/2
  else if rt B T N n n=3 then ye B T N f ((n+1)/2)+ye B T N f (n-(n+1)/2)+ye B T N f ((n+1)/2+1)
  else if rt B T N n n=4 then ye B T N f ((n+2)/3)+3*ye B T N f ((n+2)/3+1)+ye B T N f (n-2*((n+2)/3))
  else if rt B T N n n=5 then tf n n 2
  else 0
structure oG(B T N:Nat):Prop where
 b1:4<=B
 b2:B<=64
 t1:12<=T
 t2:T<=8192
 n1:64<=N
 n2:N<=16384
theorem fH{B T N:Nat}(n m:Nat)(hm:m<=n)(_e:oG B T N):
  (rt B T N n m=0/\m=0)\/(rt B T N n m=1/\0<m/\m<B)\/(rt B T N n m=2/\B<=m/\2*m<=n+1)\/(rt B T N n m=3/\B<=m/\n+1<2*m)\/
  (rt B T N n m=4/\T<=m/\B<=m/\2*((n+2)/3)<m)\/(rt B T N n m=5/\T<=m/\B<=m/\n+1<2*m/\N<=n+m):=by
 unfold rt
 repeat' split
 all_goals omega
theorem oY{B T N:Nat}(e:oG B T N):∀ f g n m,m<=n->n<f->n<g->dR B T N f n m=dR B T N g n m
 |0,_,_,_,_,h,_=>by omega
 |_+1,0,_,_,_,_,h=>by omega
 |f+1,g+1,n,m,hm,h1,h2=>by
  have ih:=fun n m (a:m<=n) (b:n<f) (c:n<g)=>oY e f g n m a b c
  have e1:=e.b1
  unfold dR
  rcases fH n m hm e with⟨r,_⟩|⟨r,_,_⟩|⟨r,_,_⟩|⟨r,_,_⟩|⟨r,_,_,_⟩|⟨r,_,_,_,_⟩<;>rw[r]<;>simp only[Nat.reduceEqDiff,if_true,if_false]
  ·rw[ih m m (by omega) (by omega) (by omega),ih m (n%m) (by have:=Nat.mod_lt n (show 0<m by omega);omega) (by omega) (by omega)]
  ·rw[ih ((n+1)/2) ((n+1)/2) (by omega) (by omega) (by omega),ih (n-(n+1)/2) (m-(n+1)/2) (by omega) (by omega) (by omega),ih ((n+1)/2+1) ((n+1)/2+1) (by omega) (by omega) (by omega)]
  ·have:=e.t1
   rw[ih ((n+2)/3) ((n+2)/3) (by omega) (by omega) (by omega),ih (n-2*((n+2)/3)) (m-2*((n+2)/3)) (by omega) (by omega) (by omega),ih ((n+2)/3+1) ((n+2)/3+1) (by omega) (by omega) (by omega)]
end Go.Proofs.YtgcnhfgpflncaaaGreatDoor
/- What a product costs at most,in plain numbers. -/
namespace Go.Proofs.YtgcnhfgpflncaaaGreatDoor
def eu(B T N n m:Nat):Nat:=dR B T N (n+1) n m
def iL(B T N n:Nat):Nat:=ye B T N (n+1) n
theorem fj{B T N f n m:Nat}(e:oG B T N)(hm:m<=n)(hf:n<f):dR B T N f n m=eu B T N n m:=oY e f (n+1) n m hm hf (by omega)
theorem jw{B T N n m:Nat}(h:rt B T N n m=0):eu B T N n m=0:=by unfold eu dR;simp[h]
theorem og{B T N n m:Nat}(h:rt B T N n m=1):eu B T N n m=n*m:=by unfold eu dR;simp[h]
theorem Aa{B T N n m:Nat}(e:oG B T N)(_hm:m<=n)(h:rt B T N n m=2)(h1:B<=m)(h2:2*m<=n+1):eu B T N n m=n/m*eu B T N m m+eu B T N m (n%m):=by
 have e1:=e.b1
 rw[eu];unfold dR;simp only[h,Nat.reduceEqDiff,if_true,if_false]
 rw[fj e (by omega) (by omega),fj e (by have:=Nat.mod_lt n (show 0<m by omega);omega) (by omega)]
theorem jZ{B T N n m:Nat}(e:oG B T N)(_hm:m<=n)(h:rt B T N n m=3)(h1:B<=m)(h2:n+1<2*m):
  eu B T N n m=eu B T N ((n+1)/2) ((n+1)/2)+eu B T N (n-(n+1)/2) (m-(n+1)/2)+eu B T N ((n+1)/2+1) ((n+1)/2+1):=by
 have e1:=e.b1
 rw[eu];unfold dR;simp only[h,Nat.reduceEqDiff,if_true,if_false]
 rw[fj e (by omega) (by omega),fj e (by omega) (by omega),fj e (by omega) (by omega)]
theorem lS{B T N n m:Nat}(e:oG B T N)(_hm:m<=n)(h:rt B T N n m=4)(h1:T<=m)(h2:2*((n+2)/3)<m):
  eu B T N n m=eu B T N ((n+2)/3) ((n+2)/3)+3*eu B T N ((n+2)/3+1) ((n+2)/3+1)+eu B T N (n-2*((n+2)/3)) (m-2*((n+2)/3)):=by
 have e1:=e.t1
 rw[eu];unfold dR;simp only[h,Nat.reduceEqDiff,if_true,if_false]
 rw[fj e (by omega) (by omega),fj e (by omega) (by omega),fj e (by omega) (by omega)]
theorem lR{B T N n m:Nat}(h:rt B T N n m=5):eu B T N n m=tf n m 3:=by unfold eu dR;simp[h]
theorem xA{B T N:Nat}(e:oG B T N):∀ f g n,n<f->n<g->ye B T N f n=ye B T N g n
 |0,_,_,h,_=>by omega
 |_+1,0,_,_,h=>by omega
 |f+1,g+1,n,h1,h2=>by
  have ih:=fun n (b:n<f) (c:n<g)=>xA e f g n b c
  have e1:=e.b1
  have e2:=e.t1
  unfold ye
  rcases fH n n (Nat.le_refl _) e with⟨r,_⟩|⟨r,_,_⟩|⟨r,_,_⟩|⟨r,_,_⟩|⟨r,_,_,_⟩|⟨r,_,_,_,_⟩<;>rw[r]<;>simp only[Nat.reduceEqDiff,if_true,if_false]
  ·rw[ih ((n+1)/2) (by omega) (by omega),ih (n-(n+1)/2) (by omega) (by omega),ih ((n+1)/2+1) (by omega) (by omega)]
  ·rw[ih ((n+2)/3) (by omega) (by omega),ih (n-2*((n+2)/3)) (by omega) (by omega),ih ((n+2)/3+1) (by omega) (by omega)]
theorem nf{B T N f n:Nat}(e:oG B T N)(hf:n<f):ye B T N f n=iL B T N n:=xA e f (n+1) n hf (by omega)
theorem xF{B T N n:Nat}(h:rt B T N n n=0\/rt B T N n n=2):iL B T N n=0:=by unfold iL ye;rcases h with h|h<;>simp[h]
theorem AL{B T N n:Nat}(h:rt B T N n n=1):iL B T N n=n*(n+1)/2:=by unfold iL ye;simp[h]
theorem rW{B T N n:Nat}(e:oG B T N)(h:rt B T N n n=3)(h1:B<=n):iL B T N n=iL B T N ((n+1)/2)+iL B T N (n-(n+1)/2)+iL B T N ((n+1)/2+1):=by
 have e1:=e.b1
 rw[iL];unfold ye;simp only[h,Nat.reduceEqDiff,if_true,if_false]
 rw[nf e (by omega),nf e (by omega),nf e (by omega)]
theorem xC{B T N n:Nat}(e:oG B T N)(h:rt B T N n n=4)(h1:T<=n):iL B T N n=iL B T N ((n+2)/3)+3*iL B T N ((n+2)/3+1)+iL B T N (n-2*((n+2)/3)):=by
 have e1:=e.t1
 rw[iL];unfold ye;simp only[h,Nat.reduceEqDiff,if_true,if_false]
 rw[nf e (by omega),nf e (by omega),nf e (by omega)]
theorem xB{B T N n:Nat}(h:rt B T N n n=5):iL B T N n=tf n n 2:=by unfold iL ye;simp[h]
theorem AQ(n m:Nat)(h:64<=n+m):∃ L P,6<=L/\P=2^(L-1)/\P<n+m/\n+m<=2*P/\tf n m 3=9*(P*L)+24*P:=by
 obtain⟨h1,h2⟩:=vL (n+m) (by omega)
 have h3:=Na (n+m)
 obtain⟨k,hk⟩:∃ k,lg (n+m)=k+1:=⟨lg (n+m)-1,by omega⟩
 rw[hk]at h1 h2 h3
 rw[Nat.add_sub_cancel]at h2
 have h4:2^6<=2^(k+1):=by omega
 have h5:=(Nat.pow_le_pow_iff_right (a:=2) (by omega)).1 h4
 refine⟨k+1,2^k,by omega,by rw[Nat.add_sub_cancel],h2,by rw[Nat.pow_succ]at h3;omega,?_⟩
 unfold tf O7
 rw[hk,Nat.pow_succ,Nat.mul_div_cancel _ (by omega),Nat.mul_assoc 3 (2^k) (k+1)]
 omega
theorem Aw:∀ k,36*(k+7)+96<=3*2^(k+7)
 |0=>by decide
 |k+1=>by have:=Aw k;rw[show k+1+7=(k+7)+1 from by omega,Nat.pow_succ];omega
theorem wE:∀ k,162*(k+7)+432<=16*2^(k+7)
 |0=>by decide
 |k+1=>by have:=wE k;rw[show k+1+7=(k+7)+1 from by omega,Nat.pow_succ];omega
theorem Mc(i:Nat):(i+3)*(i+3)+(i+3)*(i+3)+(i+3+1)*(i+3+1)<=(2*(i+3))*(2*(i+3)):=by grind
theorem OT(i:Nat):(i+5)*(i+5)+(i+4)*(i+4)+(i+5+1)*(i+5+1)<=(2*i+9)*(2*i+9):=by grind
theorem I8(i:Nat):(i+3)*(i+3)+3*((i+3+1)*(i+3+1))+(i+3)*(i+3)<=(3*i+9)*(3*i+9):=by grind
theorem I9(i:Nat):(i+3)*(i+3)+3*((i+3+1)*(i+3+1))+(i+2)*(i+2)<=(3*i+8)*(3*i+8):=by grind
theorem Ja(i:Nat):(i+4)*(i+4)+3*((i+4+1)*(i+4+1))+(i+2)*(i+2)<=(3*i+10)*(3*i+10):=by grind
theorem nine(n m:Nat)(h1:m<=n)(h2:n<=2*m):2*((n+m)*(n+m))<=9*(n*m):=by
 obtain⟨i,rfl⟩:∃ i,n=m+i:=⟨n-m,by omega⟩
 obtain⟨j,rfl⟩:∃ j,m=i+j:=⟨m-i,by omega⟩
 grind
theorem mb{a b:Nat}(h:a<=b):a*a<=b*b:=Nat.mul_le_mul h h
theorem Jj(n m:Nat)(h1:m<=n)(h2:n<=2*m)(h:64<=n+m):tf n m 3<=8*(n*m):=by
 obtain⟨L,P,hL,hP,p1,p2,e⟩:=AQ n m h
 have k9:=nine n m h1 h2
 rw[e]
 by_cases h6:L=6
 ·subst h6
  have hP:P=32:=hP
  subst hP
  have:=mb h
  omega
 ·obtain⟨k,rfl⟩:∃ k,L=k+7:=⟨L-7,by omega⟩
  have hb:=wE k
  have hP2:2^(k+7)=2*P:=by rw[hP,show k+7-1=k+6 from by omega,show k+7=(k+6)+1 from by omega,Nat.pow_succ];omega
  rw[hP2]at hb
  have hm:=Nat.mul_le_mul_left P hb
  have hs:=mb (show P<=n+m by omega)
  have r1:P*(162*(k+7)+432)=162*(P*(k+7))+432*P:=by grind
  have r2:P*(16*(2*P))=32*(P*P):=by grind
  omega
theorem OV(n:Nat)(h:32<=n):tf n n 3<=6*(n*n):=by
 obtain⟨L,P,hL,hP,p1,p2,e⟩:=AQ n n (by omega)
 rw[e]
 by_cases h6:L=6
 ·subst h6
  have hP:P=32:=hP
  subst hP
  have:=mb h
  omega
 ·obtain⟨k,rfl⟩:∃ k,L=k+7:=⟨L-7,by omega⟩
  have hb:=Aw k
  have hP2:2^(k+7)=2*P:=by rw[hP,show k+7-1=k+6 from by omega,show k+7=(k+6)+1 from by omega,Nat.pow_succ];omega
  rw[hP2]at hb
  have hm:=Nat.mul_le_mul_left P hb
  have hs:=mb (show P<=n+n by omega)
  have r1:P*(36*(k+7)+96)=36*(P*(k+7))+96*P:=by grind
  have r2:P*(3*(2*P))=6*(P*P):=by grind
  have r3:(n+n)*(n+n)=4*(n*n):=by grind
  omega
theorem F9{B T N:Nat}(e:oG B T N):∀ f n,n<f->eu B T N n n<=6*(n*n)/\(n<=3->eu B T N n n<=n*n)/\(n<=5->eu B T N n n<=2*(n*n))
 |0,_,h=>by omega
 |f+1,n,hf=>by
  have ih:=fun n (h:n<f)=>F9 e f n h
  have e1:=e.b1
  have e2:=e.t1
  have e3:=e.n1
  rcases fH n n (Nat.le_refl _) e with⟨r,h0⟩|⟨r,h0,h1⟩|⟨r,h0,h1⟩|⟨r,h0,h1⟩|⟨r,h0,h1,h2⟩|⟨r,h0,h1,h2,h3⟩
  ·rw[jw r];omega
  ·rw[og r];omega
  ·omega
  ·rw[jZ e (Nat.le_refl _) r h0 h1]
   obtain⟨a1,a2,a3⟩:=ih ((n+1)/2) (by omega)
   obtain⟨b1,b2,b3⟩:=ih (n-(n+1)/2) (by omega)
   obtain⟨c1,c2,c3⟩:=ih ((n+1)/2+1) (by omega)
   by_cases h5:n<=5
   ·have h45:n=4\/n=5:=by omega
    rcases h45 with rfl|rfl
    ·simp at a2 b2 c2 ⊢;omega
    ·simp at a2 b2 c3 ⊢;omega
   ·refine⟨?_,by omega,by omega⟩
    by_cases h7:n=7
    ·subst h7;simp at a3 b2 c3 ⊢;omega
    ·by_cases hev:n%2=0
     ·obtain⟨i,rfl⟩:∃ i,n=2*(i+3):=⟨n/2-3,by omega⟩
      rw[show(2*(i+3)+1)/2=i+3 from by omega]at *
      rw[show 2*(i+3)-(i+3)=i+3 from by omega]at *
      have:=Mc i
      omega
     ·obtain⟨i,rfl⟩:∃ i,n=2*i+9:=⟨(n-9)/2,by omega⟩
      rw[show(2*i+9+1)/2=i+5 from by omega]at *
      rw[show 2*i+9-(i+5)=i+4 from by omega]at *
      have:=OT i
      omega
  ·rw[lS e (Nat.le_refl _) r h0 h2]
   obtain⟨a1,a2,a3⟩:=ih ((n+2)/3) (by omega)
   obtain⟨b1,b2,b3⟩:=ih (n-2*((n+2)/3)) (by omega)
   obtain⟨c1,c2,c3⟩:=ih ((n+2)/3+1) (by omega)
   refine⟨?_,by omega,by omega⟩
   have hmod:n%3=0\/n%3=1\/n%3=2:=by omega
   rcases hmod with hm|hm|hm
   ·obtain⟨i,rfl⟩:∃ i,n=3*i+9:=⟨(n-9)/3,by omega⟩
    rw[show(3*i+9+2)/3=i+3 from by omega]at *
    rw[show 3*i+9-2*(i+3)=i+3 from by omega]at *
    have:=I8 i
    omega
   ·obtain⟨i,rfl⟩:∃ i,n=3*i+10:=⟨(n-10)/3,by omega⟩
    rw[show(3*i+10+2)/3=i+4 from by omega]at *
    rw[show 3*i+10-2*(i+4)=i+2 from by omega]at *
    have:=Ja i
    omega
   ·obtain⟨i,rfl⟩:∃ i,n=3*i+8:=⟨(n-8)/3,by omega⟩
    rw[show(3*i+8+2)/3=i+3 from by omega]at *
    rw[show 3*i+8-2*(i+3)=i+2 from by omega]at *
    have:=I9 i
    omega
  ·rw[lR r]
   exact⟨OV n (by omega),by omega,by omega⟩
theorem Da(h n m:Nat)(hh:4<=h)(h1:2*h-1<=n)(h2:h+1<=m)(hn:h<=n):6*(h*h)+8*((n-h)*(m-h))+6*((h+1)*(h+1))<=8*(n*m):=by
 obtain⟨i,rfl⟩:∃ i,h=i+4:=⟨h-4,by omega⟩
 obtain⟨x,rfl⟩:∃ x,n=2*i+7+x:=⟨n-(2*i+7),by omega⟩
 obtain⟨y,rfl⟩:∃ y,m=i+5+y:=⟨m-(i+5),by omega⟩
 rw[show 2*i+7+x-(i+4)=i+3+x from by omega,show i+5+y-(i+4)=y+1 from by omega]
 have h1:=Nat.zero_le (i*i)
 have h2:=Nat.zero_le (i*x)
 have h3:=Nat.zero_le (i*y)
 have h4:=Nat.zero_le (x*y)
 grind
theorem EX(k n m:Nat)(hk:3<=k)(h1:3*k-2<=n)(h2:2*k+1<=m)(h3:2*k<=n):6*(k*k)+3*(6*((k+1)*(k+1)))+8*((n-2*k)*(m-2*k))<=8*(n*m):=by
 obtain⟨i,rfl⟩:∃ i,k=i+3:=⟨k-3,by omega⟩
 obtain⟨x,rfl⟩:∃ x,n=3*i+7+x:=⟨n-(3*i+7),by omega⟩
 obtain⟨y,rfl⟩:∃ y,m=2*i+7+y:=⟨m-(2*i+7),by omega⟩
 rw[show 3*i+7+x-2*(i+3)=i+1+x from by omega,show 2*i+7+y-2*(i+3)=y+1 from by omega]
 have h1:=Nat.zero_le (i*i)
 have h2:=Nat.zero_le (i*x)
 have h3:=Nat.zero_le (i*y)
 have h4:=Nat.zero_le (x*y)
 grind
theorem sT{B T N:Nat}(e:oG B T N):∀ f n m,n<f->m<=n->eu B T N n m<=8*(n*m)
 |0,_,_,h,_=>by omega
 |f+1,n,m,hf,hm=>by
  have ih:=fun n m (h:n<f) (k:m<=n)=>sT e f n m h k
  have sq:=fun n=>(F9 e (n+1) n (by omega))
  have e1:=e.b1
  have e2:=e.t1
  have e3:=e.n1
  rcases fH n m hm e with⟨r,h0⟩|⟨r,h0,h1⟩|⟨r,h0,h1⟩|⟨r,h0,h1⟩|⟨r,h0,h1,h2⟩|⟨r,h0,h1,h2,h3⟩
  ·rw[jw r];omega
  ·rw[og r];omega
  ·rw[Aa e hm r h0 h1]
   have a:=(sq m).1
   have b:=ih m (n%m) (by omega) (by have:=Nat.mod_lt n (show 0<m by omega);omega)
   have c:=Nat.mul_le_mul_left (n/m) a
   have d:=Nat.div_add_mod n m
   have x:n*m=m*m*(n/m)+m*(n%m):=by
    have:n*m=(m*(n/m)+n%m)*m:=by rw[d]
    rw[this]
    generalize n/m=q
    generalize n%m=r
    grind
   have y:n/m*(6*(m*m))=6*(m*m*(n/m)):=by grind
   rw[x]
   omega
  ·rw[jZ e hm r h0 h1]
   obtain⟨a1,a2,a3⟩:=sq ((n+1)/2)
   obtain⟨c1,c2,c3⟩:=sq ((n+1)/2+1)
   have b:=ih (n-(n+1)/2) (m-(n+1)/2) (by omega) (by omega)
   by_cases hs:4<=(n+1)/2
   ·have:=Da ((n+1)/2) n m hs (by omega) (by omega) (by omega)
    omega
   ·have hn:n=4\/n=5\/n=6:=by omega
    have hm2:m=4\/m=5\/m=6:=by omega
    rcases hn with rfl|rfl|rfl<;>rcases hm2 with rfl|rfl|rfl<;>simp at a2 b c3 ⊢ <;>omega
  ·rw[lS e hm r h0 h2]
   obtain⟨a1,a2,a3⟩:=sq ((n+2)/3)
   obtain⟨c1,c2,c3⟩:=sq ((n+2)/3+1)
   have b:=ih (n-2*((n+2)/3)) (m-2*((n+2)/3)) (by omega) (by omega)
   have:=EX ((n+2)/3) n m (by omega) (by omega) (by omega) (by omega)
   omega
  ·rw[lR r]
   exact Jj n m hm (by omega) (by omega)
theorem yE{B T N n:Nat}:eu B T N n 0=0:=jw (by unfold rt;simp)
theorem Jb{B T N:Nat}(e:oG B T N):∀ f n,n<f->iL B T N n<=eu B T N n n
 |0,_,h=>by omega
 |f+1,n,hf=>by
  have ih:=fun n (h:n<f)=>Jb e f n h
  have e1:=e.b1
  have e2:=e.t1
  rcases fH n n (Nat.le_refl _) e with⟨r,h0⟩|⟨r,h0,h1⟩|⟨r,h0,h1⟩|⟨r,h0,h1⟩|⟨r,h0,h1,h2⟩|⟨r,h0,h1,h2,h3⟩
  ·rw[xF (Or.inl r)];omega
  ·rw[og r,AL r]
   have:n*(n+1)<=2*(n*n):=by
    have:=Nat.mul_le_mul_left n (show n+1<=2*n by omega)
    have r:n*(2*n)=2*(n*n):=by grind
    omega
   omega
  ·omega
  ·rw[jZ e (Nat.le_refl _) r h0 h1,rW e r h0]
   have a:=ih ((n+1)/2) (by omega)
   have b:=ih (n-(n+1)/2) (by omega)
   have c:=ih ((n+1)/2+1) (by omega)
   omega
  ·rw[lS e (Nat.le_refl _) r h0 h2,xC e r h0]
   have a:=ih ((n+2)/3) (by omega)
   have b:=ih (n-2*((n+2)/3)) (by omega)
   have c:=ih ((n+2)/3+1) (by omega)
   omega
  ·rw[lR r,xB r]
   exact MG n n
theorem rV{B T N:Nat}(e:oG B T N)(n:Nat):iL B T N n<=8*(n*n):=Nat.le_trans (Jb e (n+1) n (by omega)) (sT e (n+1) n n (by omega) (Nat.le_refl _))
end Go.Proofs.YtgcnhfgpflncaaaGreatDoor
/- Residues of a word:plain mathematics. Nothing of any program here. -/
namespace Go.Proofs.YtgcnhfgpflncaaaGreatDoor
def Cg(p:Nat)(a b:Int):Prop:=(p:Int)∣a-b
theorem Cg.refl(p:Nat)(a:Int):Cg p a a:=⟨0,by omega⟩
theorem Cg.of_eq{p:Nat}{a b:Int}(h:a=b):Cg p a b:=h▸Cg.refl p a
theorem Cg.symm{p:Nat}{a b:Int}(h:Cg p a b):Cg p b a:=by
 obtain⟨x,hx⟩:=h
 exact⟨-x,by grind⟩
theorem Cg.trans{p:Nat}{a b c:Int}(h:Cg p a b)(k:Cg p b c):Cg p a c:=by
 obtain⟨x,hx⟩:=h
 obtain⟨y,hy⟩:=k
 exact⟨x+y,by grind⟩
theorem Cg.add{p:Nat}{a b c d:Int}(h:Cg p a b)(k:Cg p c d):Cg p (a+c) (b+d):=by
 obtain⟨x,hx⟩:=h
 obtain⟨y,hy⟩:=k
 exact⟨x+y,by grind⟩
theorem Cg.sub{p:Nat}{a b c d:Int}(h:Cg p a b)(k:Cg p c d):Cg p (a-c) (b-d):=by
 obtain⟨x,hx⟩:=h
 obtain⟨y,hy⟩:=k
 exact⟨x-y,by grind⟩
theorem Cg.mul{p:Nat}{a b c d:Int}(h:Cg p a b)(k:Cg p c d):Cg p (a*c) (b*d):=by
 obtain⟨x,hx⟩:=h
 obtain⟨y,hy⟩:=k
 exact⟨x*c+b*y,by grind⟩
theorem Cg.mod(p a:Nat):Cg p ((a%p:Nat):Int) (a:Int):=by
 have h:=Nat.div_add_mod a p
 refine⟨-((a/p:Nat):Int),?_⟩
 have h':(p:Int)*((a/p:Nat):Int)+((a%p:Nat):Int)=(a:Int):=by exact_mod_cast h
 grind
theorem Cg.same{p a b:Nat}(h:Cg p (a:Int) (b:Int)):a%p=b%p:=by
 have:=Int.emod_eq_emod_iff_emod_sub_eq_zero.2 (Int.emod_eq_zero_of_dvd h)
 exact_mod_cast this
theorem Cg.eq{p a b:Nat}(h:Cg p (a:Int) (b:Int))(ha:a<p)(hb:b<p):a=b:=by
 have:=h.same
 rwa [Nat.mod_eq_of_lt ha,Nat.mod_eq_of_lt hb]at this
theorem Cg.self(p:Nat):Cg p (p:Int) 0:=⟨1,by omega⟩
theorem Cg.pow{p:Nat}{a b:Int}(h:Cg p a b)(n:Nat):Cg p (a^n) (b^n):=by
 induction n with
 |zero=>rw[Int.pow_zero,Int.pow_zero];exact Cg.refl _ _
 |succ n ih=>rw[Int.pow_succ,Int.pow_succ];exact ih.mul h
def sb(p a b:Nat):Nat:=(a%p+(p-b%p))%p
theorem Nu{p:Nat}(h:0<p)(a b:Nat):sb p a b<p:=Nat.mod_lt _ h
theorem pT{p:Nat}(h:0<p)(a b:Nat):Cg p (sb p a b:Int) ((a:Int)-(b:Int)):=by
 refine(Cg.mod p _).trans ?_
 have h2:=Nat.mod_lt b h
 have e:((a%p+(p-b%p):Nat):Int)=((a%p:Nat):Int)-((b%p:Nat):Int)+(p:Int):=by omega
 rw[e]
 have:=((Cg.mod p a).sub (Cg.mod p b)).add (Cg.self p)
 rwa [Int.add_zero]at this
theorem PN{p a b:Nat}(_h:0<p)(h2:b%p<=a%p):sb p a b=a%p-b%p:=by
 unfold sb
 have:=Nat.mod_lt a _h
 rw[show a%p+(p-b%p)=a%p-b%p+p by have:=Nat.mod_lt b _h;omega,Nat.add_mod_right,Nat.mod_eq_of_lt (by omega)]
theorem LV{p a b:Nat}(h:0<p)(h2:a%p<b%p):sb p a b=a%p+p-b%p:=by
 unfold sb
 have:=Nat.mod_lt b h
 rw[show a%p+(p-b%p)=a%p+p-b%p by omega,Nat.mod_eq_of_lt (by omega)]
def rd(p a:Nat):Nat:=a%p
def ad(p a b:Nat):Nat:=(a+b)%p
def ml(p a b:Nat):Nat:=a*b%p
theorem JU{p a b:Nat}(h:a%p+b%p<p):(a+b)%p=a%p+b%p:=by
 rw[Nat.add_mod,Nat.mod_eq_of_lt h]
theorem Pg{p a b:Nat}(hp:0<p)(h:p<=a%p+b%p):(a+b)%p=a%p+b%p-p:=by
 have h1:=Nat.mod_lt a hp
 have h2:=Nat.mod_lt b hp
 rw[Nat.add_mod,Nat.mod_eq_sub_mod h,Nat.mod_eq_of_lt (by omega)]
def pZ(p v:Nat):Nat:=v*((18446744073709551618-p*v%18446744073709551616)%18446744073709551616)%18446744073709551616
def pr(p:Nat):Nat->Nat
 |0=>p
 |k+1=>pZ p (pr p k)
def ig(p:Nat):Nat:=pr p 5
theorem Ai{p:Nat}(h:p<18446744073709551616):∀ k,pr p k<18446744073709551616
 |0=>h
 |_+1=>Nat.mod_lt _ (by omega)
theorem Jc(p v:Nat):Cg 18446744073709551616 (pZ p v:Int) ((v:Int)*(2-(p:Int)*(v:Int))):=by
 unfold pZ
 refine(Cg.mod _ _).trans ?_
 rw[Int.natCast_mul]
 refine(Cg.refl _ _).mul ((Cg.mod _ _).trans ?_)
 have h:=Nat.mod_lt (p*v) (show 0<18446744073709551616 by omega)
 have hm:=Cg.mod 18446744073709551616 (p*v)
 generalize p*v%18446744073709551616=x at *
 have e:((18446744073709551618-x:Nat):Int)=2-(x:Int)+((18446744073709551616:Nat):Int):=by omega
 rw[e]
 have:=((Cg.refl 18446744073709551616 2).sub hm).add (Cg.self 18446744073709551616)
 rwa [Int.add_zero,Int.natCast_mul]at this
theorem gj{p v m M:Nat}(h:(m:Int)∣(p:Int)*v-1)(hM:(M:Int)∣(m:Int)*m)(hB:(M:Int)∣18446744073709551616):(M:Int)∣(p:Int)*(pZ p v:Nat)-1:=by
 obtain⟨x,hx⟩:=h
 obtain⟨y,hy⟩:=hM
 obtain⟨z,hz⟩:=hB
 obtain⟨t,ht⟩:=Jc p v
 generalize (pZ p v:Int)=s at *
 have hz':((18446744073709551616:Nat):Int)=M*z:=hz
 rw[hz']at ht
 refine⟨(p:Int)*z*t-y*x*x,?_⟩
 have e1:s=(v:Int)*(2-(p:Int)*v)+M*z*t:=by omega
 have e2:((p:Int)*v-1)*((p:Int)*v-1)=M*(y*x*x):=by rw[hx];grind
 rw[e1]
 grind
theorem DK{p:Nat}(h:p%2=1):((8:Nat):Int)∣(p:Int)*p-1:=by
 have e:p*p%8=1:=by
  rw[Nat.mul_mod]
  have:p%8=1\/p%8=3\/p%8=5\/p%8=7:=by omega
  rcases this with h|h|h|h<;>rw[h]
 have:=Nat.div_add_mod (p*p) 8
 refine⟨((p*p/8:Nat):Int),?_⟩
 have e2:(p:Int)*p=((p*p:Nat):Int):=(Int.natCast_mul p p).symm
 rw[e2]
 generalize p*p=q at *
 omega
theorem po{p:Nat}(h:p%2=1):(18446744073709551616:Int)∣(p:Int)*(ig p:Nat)-1:=by
 have h0:=DK h
 have h1:=gj (M:=64) h0 (by decide) (by decide)
 have h2:=gj (M:=4096) h1 (by decide) (by decide)
 have h3:=gj (M:=16777216) h2 (by decide) (by decide)
 have h4:=gj (M:=281474976710656) h3 (by decide) (by decide)
 exact gj (M:=18446744073709551616) h4 (by decide) (by decide)
def ib(p:Nat):Nat:=p-p*ig p/18446744073709551616
theorem mQ{p:Nat}(h:p%2=1)(hp:p<18446744073709551616):Cg p ((ib p:Int)*18446744073709551616) 1:=by
 obtain⟨k,hk⟩:=po h
 have hv:ig p<18446744073709551616:=Ai hp 5
 have e1:p*ig p<p*18446744073709551616:=Nat.mul_lt_mul_of_pos_left hv (by omega)
 unfold ib
 have e2:(p:Int)*(ig p:Nat)=((p*ig p:Nat):Int):=(Int.natCast_mul _ _).symm
 refine⟨18446744073709551616-(ig p:Int),?_⟩
 rw[Int.mul_sub,e2]
 rw[e2]at hk
 generalize p*ig p=t at *
 have:k=((t/18446744073709551616:Nat):Int):=by omega
 omega
def mm(p a b:Nat):Nat:=a*b*ib p%p
def pw(p a n:Nat):Nat:=a^n%p
theorem rE{p a b:Nat}(ha:a<p)(hb:b<p)(hp:p<=18446744073709551616):a*b/18446744073709551616<p:=by
 rw[Nat.div_lt_iff_lt_mul (by omega)]
 exact Nat.lt_of_lt_of_le (Nat.mul_lt_mul'' ha hb) (Nat.mul_le_mul_left _ hp)
theorem K4{p a b lo q top hi:Nat}(h:p%2=1)(hp:p<18446744073709551616)(hhi:hi=(a%p)*(b%p)/18446744073709551616)(hlo:lo=(a%p)*(b%p)%18446744073709551616)
  (hq:q=lo*ig p%18446744073709551616) (ht:top=q*p/18446744073709551616):sb p hi top=a*b*ib p%p:=by
 have h0:0<p:=by omega
 refine Cg.eq (p:=p) ?_ (Nu h0 _ _) (Nat.mod_lt _ h0)
 refine(pT h0 _ _).trans (Cg.trans ?_ (Cg.mod p _).symm)
 have h1:=Nat.div_add_mod ((a%p)*(b%p)) 18446744073709551616
 rw[<-hhi, <-hlo]at h1
 have h2:=Nat.div_add_mod (q*p) 18446744073709551616
 have hlt:lo<18446744073709551616:=by rw[hlo];exact Nat.mod_lt _ (by omega)
 have hl:q*p%18446744073709551616=lo:=by
  have:Cg 18446744073709551616 ((q*p:Nat):Int) (lo:Int):=by
   rw[Int.natCast_mul]
   obtain⟨k,hk⟩:=po h
   have hqc:Cg 18446744073709551616 (q:Int) ((lo:Int)*(ig p:Nat)):=by
    rw[hq, <-Int.natCast_mul];exact Cg.mod _ _
   obtain⟨x,hx⟩:=hqc
   refine⟨x*p+lo*k,?_⟩
   have e:((18446744073709551616:Nat):Int)=18446744073709551616:=rfl
   rw[e]at hx ⊢
   generalize (18446744073709551616:Int)=B at *
   grind
  have:=this.same
  rwa [Nat.mod_eq_of_lt hlt]at this
 rw[<-ht,hl]at h2
 have hab:Cg p (((a%p)*(b%p):Nat):Int) ((a*b:Nat):Int):=by
  rw[Int.natCast_mul,Int.natCast_mul];exact(Cg.mod p a).mul (Cg.mod p b)
 rw[<-h1]at hab
 -- (hi - top) B = a b - q p
 have key:Cg p (((hi:Int)-(top:Int))*18446744073709551616) ((a*b:Nat):Int):=by
  refine Cg.trans ?_ hab
  refine⟨-(q:Int),?_⟩
  have e2:(18446744073709551616:Int)*top+lo=(q:Int)*p:=by
   rw[<-Int.natCast_mul q p, <-h2];omega
  have e3:((18446744073709551616*hi+lo:Nat):Int)=18446744073709551616*(hi:Int)+lo:=by omega
  rw[e3]
  generalize (18446744073709551616:Int)=B at *
  grind
 have hib:=mQ h hp
 have k2:=key.mul (Cg.refl p (ib p:Int))
 rw[Int.natCast_mul]
 refine Cg.trans ?_ k2
 have k3:=(Cg.refl p ((hi:Int)-(top:Int))).mul hib
 refine Cg.trans ?_ (k3.symm.trans (Cg.of_eq ?_))
 ·rw[Int.mul_one];exact Cg.refl _ _
 ·generalize (18446744073709551616:Int)=B at *
  grind
theorem Oz(p a b:Nat):(a%p)*(b%p)%p=a*b%p:=(Nat.mul_mod a b p).symm
theorem K5{p:Nat}(a:Nat)(h:p%2=1)(hp:p<18446744073709551616):a*(18446744073709551616*18446744073709551616%p)*ib p%p=a*18446744073709551616%p:=by
 refine Cg.same ?_
 have hib:=mQ h hp
 have h1:=Cg.mod p (18446744073709551616*18446744073709551616)
 rw[Int.natCast_mul,Int.natCast_mul]
 refine(((Cg.refl p (a:Int)).mul h1).mul (Cg.refl p _)).trans ?_
 rw[Int.natCast_mul a]
 have k:=(Cg.refl p ((a:Int)*18446744073709551616)).mul hib
 refine Cg.trans (Cg.of_eq ?_) (k.trans (Cg.of_eq ?_))
 ·have e:((18446744073709551616*18446744073709551616:Nat):Int)=18446744073709551616*18446744073709551616:=rfl
  rw[e]
  generalize (18446744073709551616:Int)=B at *
  grind
 ·rw[Int.mul_one];rfl
theorem Dp{p:Nat}(a:Nat)(h:p%2=1)(hp:p<18446744073709551616):(a*18446744073709551616%p)*ib p%p=a%p:=by
 refine Cg.same ?_
 have hib:=mQ h hp
 rw[Int.natCast_mul]
 refine((Cg.mod p _).mul (Cg.refl p _)).trans ?_
 have k:=(Cg.refl p (a:Int)).mul hib
 rw[Int.natCast_mul]
 refine Cg.trans (Cg.of_eq ?_) (k.trans (Cg.of_eq (Int.mul_one _)))
 have e:((18446744073709551616:Nat):Int)=18446744073709551616:=rfl
 rw[e]
 generalize (18446744073709551616:Int)=B at *
 grind
theorem Dq{p:Nat}(a b:Nat)(h:p%2=1)(hp:p<18446744073709551616):(a*18446744073709551616%p)*(b*18446744073709551616%p)*ib p%p=a*b*18446744073709551616%p:=by
 refine Cg.same ?_
 have hib:=mQ h hp
 rw[Int.natCast_mul,Int.natCast_mul]
 refine(((Cg.mod p _).mul (Cg.mod p _)).mul (Cg.refl p _)).trans ?_
 have k:=(Cg.refl p ((a:Int)*b*18446744073709551616)).mul hib
 rw[Int.natCast_mul,Int.natCast_mul,Int.natCast_mul,Int.natCast_mul]
 have e:((18446744073709551616:Nat):Int)=18446744073709551616:=rfl
 rw[e]
 refine Cg.trans (Cg.of_eq ?_) (k.trans (Cg.of_eq (Int.mul_one _)))
 generalize (18446744073709551616:Int)=B at *
 grind
def nC(p a N o s n:Nat):Prop:=∃ X Y,o=X*18446744073709551616%p/\s=Y*18446744073709551616%p/\X*Y^n%p=a^N%p
theorem pow_start(p a N:Nat):nC p a N (1*18446744073709551616%p) (a*18446744073709551616%p) N:=⟨1,a,rfl,rfl,by rw[Nat.one_mul]⟩
theorem ox{p:Nat}(X Y:Nat)(h:p%2=1)(hp:p<18446744073709551616):mm p (X*18446744073709551616%p) (Y*18446744073709551616%p)=X*Y*18446744073709551616%p:=Dq X Y h hp
theorem sq_pow(Y n:Nat):(Y*Y)^n=Y^(2*n):=by rw[Nat.pow_mul,Nat.pow_two]
theorem pow_odd{p a N o s n:Nat}(h:p%2=1)(hp:p<18446744073709551616)(H:nC p a N o s n)(hn:n%2=1):nC p a N (mm p o s) (mm p s s) (n/2):=by
 obtain⟨X,Y,rfl,rfl,e⟩:=H
 refine⟨X*Y,Y*Y,ox X Y h hp,ox Y Y h hp,?_⟩
 rw[<-e,sq_pow,Nat.mul_assoc X Y, <-Nat.pow_succ']
 have:(2*(n/2)).succ=n:=by omega
 rw[this]
theorem pow_even{p a N o s n:Nat}(h:p%2=1)(hp:p<18446744073709551616)(H:nC p a N o s n)(hn:¬n%2=1):nC p a N o (mm p s s) (n/2):=by
 obtain⟨X,Y,rfl,rfl,e⟩:=H
 refine⟨X,Y*Y,rfl,ox Y Y h hp,?_⟩
 rw[<-e,sq_pow]
 have:2*(n/2)=n:=by omega
 rw[this]
theorem pow_end{p a N o s:Nat}(h:p%2=1)(hp:p<18446744073709551616)(H:nC p a N o s 0):mm p o 1=pw p a N:=by
 obtain⟨X,Y,rfl,rfl,e⟩:=H
 unfold mm pw
 rw[Nat.mul_one,Dp X h hp, <-e,Nat.pow_zero,Nat.mul_one]
def Ft(p a up lo ut t:Nat):Prop:=Cg p (up:Int) ((ut:Int)*a)/\Cg p (lo:Int) ((t:Int)*a)/\Nat.gcd up lo=Nat.gcd a p/\ut<p/\t<p
theorem Gv{p:Nat}(a:Nat)(h:3<=p):Ft p a p (rd p a) 0 1:=by
 refine⟨?_,?_,?_,by omega,by omega⟩
 ·rw[show((0:Nat):Int)*(a:Int)=0 by simp];exact Cg.self p
 ·rw[show((1:Nat):Int)*(a:Int)=(a:Int) by simp];exact Cg.mod p a
 ·show Nat.gcd p (a%p)=Nat.gcd a p
  rw[Nat.gcd_comm p (a%p), <-Nat.gcd_rec,Nat.gcd_comm]
theorem Kw{p a up lo ut t:Nat}(h:0<p)(H:Ft p a up lo ut t):Ft p a lo (up%lo) t (sb p ut (ml p (up/lo) t)):=by
 obtain⟨h1,h2,h3,h4,h5⟩:=H
 refine⟨h2,?_,?_,h5,Nu h _ _⟩
 ·have e:=Nat.div_add_mod up lo
  have e':((up%lo:Nat):Int)=(up:Int)-(lo:Int)*((up/lo:Nat):Int):=by
   have:((lo*(up/lo)+up%lo:Nat):Int)=(up:Int):=by rw[e]
   rw[Int.natCast_add,Int.natCast_mul]at this
   omega
  rw[e']
  have k1:=(pT h ut (ml p (up/lo) t)).mul (Cg.refl p (a:Int))
  have k2:Cg p (ml p (up/lo) t:Int) (((up/lo:Nat):Int)*(t:Int)):=by
   rw[<-Int.natCast_mul];exact Cg.mod p _
  have k3:=((Cg.refl p (ut:Int)).sub k2).mul (Cg.refl p (a:Int))
  refine Cg.trans ?_ (k1.trans k3).symm
  refine Cg.trans (h1.sub (h2.mul (Cg.refl p ((up/lo:Nat):Int)))) (Cg.of_eq ?_)
  generalize ((up/lo:Nat):Int)=q
  generalize (ut:Int)=u
  generalize (t:Int)=v
  generalize (a:Int)=b
  grind
 ·rw[<-h3,Nat.gcd_comm up lo,Nat.gcd_rec lo up,Nat.gcd_comm]
theorem Oe{p a up ut t:Nat}(h:3<=p)(H:Ft p a up 0 ut t):up=Nat.gcd a p/\(up=1->ut<p/\ml p a ut=1):=by
 obtain⟨h1,_,h3,h4,_⟩:=H
 rw[Nat.gcd_zero_right]at h3
 refine⟨h3,fun e=>⟨h4,?_⟩⟩
 subst e
 have:Cg p ((1:Nat):Int) ((ut*a:Nat):Int):=by rw[Int.natCast_mul];exact h1
 have:=this.same
 unfold ml
 rw[Nat.mul_comm, <-this,Nat.mod_eq_of_lt (by omega)]
end Go.Proofs.YtgcnhfgpflncaaaGreatDoor
/- Roots:the greatest number whose power is not above another one. -/
namespace Go.Proofs.YtgcnhfgpflncaaaGreatDoor
def bU(k a s:Nat):Prop:=s^k<=a/\a<(s+1)^k
theorem ln{k a s t:Nat}(h:bU k a s)(h':bU k a t):s=t:=by
 obtain⟨h1,h2⟩:=h
 obtain⟨h3,h4⟩:=h'
 rcases Nat.lt_trichotomy s t with h|h|h
 ·have:=Nat.pow_le_pow_left (Nat.succ_le_of_lt h) k
  exfalso;exact Nat.lt_irrefl _ (Nat.lt_of_lt_of_le h2 (Nat.le_trans this h3))
 ·exact h
 ·have:=Nat.pow_le_pow_left (Nat.succ_le_of_lt h) k
  exfalso;exact Nat.lt_irrefl _ (Nat.lt_of_lt_of_le h4 (Nat.le_trans this h1))
theorem fg{k:Nat}(hk:0<k):∀ a,∃ s,bU k a s
 |0=>⟨0,by rw[Nat.zero_pow hk];exact Nat.le_refl _,by rw[Nat.zero_add,Nat.one_pow];decide⟩
 |a+1=>by
  obtain⟨s,h1,h2⟩:=fg hk a
  by_cases h:a+1<(s+1)^k
  ·exact⟨s,Nat.le_succ_of_le h1,h⟩
  ·refine⟨s+1,Nat.le_of_not_lt h,Nat.lt_of_le_of_lt (Nat.succ_le_of_lt h2) ?_⟩
   exact Nat.pow_lt_pow_left (Nat.lt_succ_self _) (by omega)
theorem pR{k a s:Nat}(hk:0<k)(h:bU k a s):s<=a:=by
 obtain⟨h1,_⟩:=h
 rcases Nat.eq_zero_or_pos s with h0|h0
 ·omega
 ·exact Nat.le_trans (Nat.le_of_eq (Nat.pow_one s).symm) (Nat.le_trans (Nat.pow_le_pow_right h0 hk) h1)
theorem AD{a s:Nat}(h:bU 2 a s):a-s*s<=s+s:=by
 have h1:=h.2
 rw[Nat.pow_two,Nat.add_mul,Nat.mul_add]at h1
 omega
theorem rR{a s:Nat}(h:bU 2 a s):s*s<=a:=by
 have h1:=h.1
 rw[Nat.pow_two]at h1
 exact h1
def oJ(k a q s:Nat):Prop:=s^k<=a/\a<(s+2^q)^k
theorem IQ{k a n:Nat}(hk:0<k)(h:a<2^n):oJ k a (n/k+1) 0:=by
 refine⟨by rw[Nat.zero_pow hk];exact Nat.zero_le _,?_⟩
 rw[Nat.zero_add, <-Nat.pow_mul]
 refine Nat.lt_of_lt_of_le h (Nat.pow_le_pow_right (by decide) ?_)
 rw[Nat.add_mul,Nat.one_mul]
 have h1:=Nat.div_add_mod n k
 have h2:=Nat.mod_lt n hk
 rw[Nat.mul_comm]at h1
 omega
theorem IU{k a q s:Nat}(h:oJ k a (q+1) s)(hy:(s+2^q)^k<=a):oJ k a q (s+2^q):=by
 refine⟨hy,?_⟩
 have h1:=h.2
 have e:s+2^q+2^q=s+2^(q+1):=by rw[Nat.pow_succ];omega
 rw[e]
 exact h1
theorem Nr{k a q s:Nat}(h:oJ k a (q+1) s)(hn:¬(s+2^q)^k<=a):oJ k a q s:=⟨h.1,Nat.lt_of_not_le hn⟩
theorem IP{k a s:Nat}(h:oJ k a 0 s):bU k a s:=by
 have:=h
 unfold oJ at this
 rw[Nat.pow_zero]at this
 exact this
theorem DU{a t i k:Nat}(ht:0<t)(hi:i<=k)(h:a<t^i):¬t^k<=a:=fun h2=>by
 have:=Nat.pow_le_pow_right ht hi
 omega
end Go.Proofs.YtgcnhfgpflncaaaGreatDoor
/- The pieces of a product,in plain numbers:what they cost together,and how many of them are remembered. -/
namespace Go.Proofs.YtgcnhfgpflncaaaGreatDoor
def vq(q:Bool)(B T N n m:Nat):Nat:=if q then iL B T N n else eu B T N n m
def st(n:Nat):Nat:=if n<4 then 0 else n*n
end Go.Proofs.YtgcnhfgpflncaaaGreatDoor
/- Transforms modulo p:plain mathematics. Nothing of any program here. -/
namespace Go.Proofs.YtgcnhfgpflncaaaGreatDoor
def sI:Nat->(Nat->Int)->Int
 |0,_=>0
 |n+1,f=>sI n f+f n
theorem aE{n:Nat}{f g:Nat->Int}(h:∀ j,j<n->f j=g j):sI n f=sI n g:=by
 induction n with
 |zero=>rfl
 |succ n ih=>show sI n f+f n=sI n g+g n;rw[ih fun j hj=>h j (by omega),h n (by omega)]
theorem jM{p n:Nat}{f g:Nat->Int}(h:∀ j,j<n->Cg p (f j) (g j)):Cg p (sI n f) (sI n g):=by
 induction n with
 |zero=>exact Cg.refl _ _
 |succ n ih=>exact(ih fun j hj=>h j (by omega)).add (h n (by omega))
theorem IV(n:Nat)(f g:Nat->Int):sI n (fun j=>f j+g j)=sI n f+sI n g:=by
 induction n with
 |zero=>rfl
 |succ n ih=>show sI n (fun j=>f j+g j)+(f n+g n)=_;rw[ih];show _=sI n f+f n+(sI n g+g n);omega
theorem gh(n:Nat)(c:Int)(f:Nat->Int):sI n (fun j=>c*f j)=c*sI n f:=by
 induction n with
 |zero=>exact(Int.mul_zero c).symm
 |succ n ih=>show sI n (fun j=>c*f j)+c*f n=c*(sI n f+f n);rw[ih,Int.mul_add]
theorem mo(n:Nat):sI n (fun _=>0)=0:=by
 induction n with
 |zero=>rfl
 |succ n ih=>show sI n (fun _=>0)+0=0;rw[ih];rfl
theorem OO(n:Nat):sI n (fun _=>1)=(n:Int):=by
 induction n with
 |zero=>rfl
 |succ n ih=>show sI n (fun _=>1)+1=((n+1:Nat):Int);rw[ih];omega
theorem tQ(m n:Nat)(f:Nat->Int):sI (m+n) f=sI m f+sI n (fun j=>f (m+j)):=by
 induction n with
 |zero=>show sI m f=sI m f+0;omega
 |succ n ih=>show sI (m+n) f+f (m+n)=sI m f+(sI n (fun j=>f (m+j))+f (m+n));rw[ih];omega
theorem IX(n:Nat)(f:Nat->Int):sI (2*n) f=sI n (fun j=>f (2*j))+sI n (fun j=>f (2*j+1)):=by
 induction n with
 |zero=>rfl
 |succ n ih=>
  show sI (2*n) f+f (2*n)+f (2*n+1)=sI n (fun j=>f (2*j))+f (2*n)+(sI n (fun j=>f (2*j+1))+f (2*n+1))
  rw[ih];omega
theorem mn(m n:Nat)(f:Nat->Nat->Int):sI m (fun i=>sI n (fun j=>f i j))=sI n (fun j=>sI m (fun i=>f i j)):=by
 induction m with
 |zero=>exact(mo n).symm
 |succ m ih=>
  show sI m (fun i=>sI n fun j=>f i j)+sI n (fun j=>f m j)=sI n (fun j=>sI m (fun i=>f i j)+f m j)
  rw[ih,IV]
theorem tR(n i:Nat)(c:Int)(h:i<n):sI n (fun j=>if j=i then c else 0)=c:=by
 induction n with
 |zero=>omega
 |succ n ih=>
  show sI n (fun j=>if j=i then c else 0)+(if n=i then c else 0)=c
  by_cases hi:n=i
  ·subst hi
   rw[if_pos rfl,aE (g:=fun _=>0) fun j hj=>if_neg (by omega),mo]
   omega
  ·rw[if_neg hi,ih (by omega)];omega
theorem dJ(w:Int)(m:Nat):w^(2*m)=(w*w)^m:=by
 rw[Int.pow_mul,Int.pow_succ,Int.pow_succ,Int.pow_zero,Int.one_mul]
def gK(w:Int)(n:Nat)(a:Nat->Int)(k:Nat):Int:=sI n fun j=>a j*w^(j*k)
theorem Oc{p n k:Nat}{w v:Int}{a b:Nat->Int}(hw:Cg p w v)(h:∀ j,j<n->Cg p (a j) (b j)):Cg p (gK w n a k) (gK v n b k):=
 jM fun j hj=>(h j hj).mul (hw.pow _)
theorem rh(w:Int)(n:Nat)(a:Nat->Int)(k:Nat):
  gK w (2*n) a k=gK (w*w) n (fun j=>a (2*j)) k+w^k*gK (w*w) n (fun j=>a (2*j+1)) k:=by
 unfold gK
 rw[IX, <-gh]
 congr 1
 ·exact aE fun j _=>by rw[Nat.mul_assoc,dJ]
 ·refine aE fun j _=>?_
  rw[Nat.add_mul,Nat.one_mul,Int.pow_add,Nat.mul_assoc,dJ]
  grind
theorem f8{p:Nat}{w:Int}{m:Nat}(h:Cg p (w^m) 1)(j:Nat):Cg p (w^(j*m)) 1:=by
 rw[Nat.mul_comm,Int.pow_mul]
 have:=h.pow j
 rwa [Int.one_pow]at this
theorem rf{p:Nat}{w:Int}{n:Nat}(h:Cg p (w^n) 1)(a:Nat->Int)(k:Nat):Cg p (gK w n a (k+n)) (gK w n a k):=by
 refine jM fun j _=>(Cg.refl p (a j)).mul ?_
 rw[Nat.mul_add,Int.pow_add]
 have:=(Cg.refl p (w^(j*k))).mul (f8 h j)
 rwa [Int.mul_one]at this
theorem I7{p:Nat}{w:Int}{n:Nat}(h:Cg p (w^n) (-1)):Cg p ((w*w)^n) 1:=by
 rw[<-dJ,Nat.mul_comm,Int.pow_mul]
 have:=h.pow 2
 rwa [show(-1:Int)^2=1 from rfl]at this
theorem Ks{p:Nat}{w:Int}(n:Nat)(a:Nat->Int)(k:Nat):Cg p (gK w (2*n) a k) (gK (w*w) n (fun j=>a (2*j)) k+w^k*gK (w*w) n (fun j=>a (2*j+1)) k):=Cg.of_eq (rh w n a k)
theorem Gj{p:Nat}{w:Int}{n:Nat}(h:Cg p (w^n) (-1))(a:Nat->Int)(k:Nat):Cg p (gK w (2*n) a (k+n)) (gK (w*w) n (fun j=>a (2*j)) k-w^k*gK (w*w) n (fun j=>a (2*j+1)) k):=by
 rw[rh]
 have h1:=rf (I7 h) (fun j=>a (2*j)) k
 have h2:=rf (I7 h) (fun j=>a (2*j+1)) k
 have h3:Cg p (w^(k+n)) (-(w^k)):=by
  rw[Int.pow_add]
  have:=(Cg.refl p (w^k)).mul h
  rwa [Int.mul_neg,Int.mul_one]at this
 refine(h1.add (h3.mul h2)).trans (Cg.of_eq ?_)
 grind
def Rt(p:Nat)(w:Int):Nat->Prop
 |0=>Cg p w 1
 |l+1=>Cg p (w^2^l) (-1)
theorem Rt.sq{p:Nat}{w:Int}{l:Nat}(h:Rt p w (l+1)):Rt p (w*w) l:=by
 cases l with
 |zero=>
  have h1:Cg p (w^2^0) (-1):=h
  rw[Nat.pow_zero,Int.pow_succ,Int.pow_zero,Int.one_mul]at h1
  have:=h1.mul h1
  exact this
 |succ l=>
  show Cg p ((w*w)^2^l) (-1)
  have h1:Cg p (w^2^(l+1)) (-1):=h
  rw[Nat.pow_succ,Nat.mul_comm,dJ]at h1
  exact h1
theorem Rt.one{p:Nat}{w:Int}:∀ {l:Nat},Rt p w l->Cg p (w^2^l) 1
 |0,h=>by rw[Nat.pow_zero,Int.pow_succ,Int.pow_zero,Int.one_mul];exact h
 |l+1,h=>by
  have h1:=Rt.one h.sq
  rw[Nat.pow_succ,Nat.mul_comm,dJ]
  exact h1
theorem lz{p:Nat}:∀(l m:Nat) (w:Int),Rt p w l->m<2^l->0<m->Cg p (sI (2^l) fun k=>w^(k*m)) 0
 |0,m,_,_,h1,h2=>by simp at h1;omega
 |l+1,m,w,h,h1,h2=>by
  have hh:Cg p (w^2^l) (-1):=h
  by_cases ho:m%2=1
  ·-- the halves are opposite
   rw[Nat.pow_succ,Nat.mul_comm,Nat.two_mul,tQ, <-IV]
   have:∀ k,k<2^l->Cg p (w^(k*m)+w^((2^l+k)*m)) 0:=fun k _=>by
    have e:w^((2^l+k)*m)=(w^2^l)^m*w^(k*m):=by rw[Nat.add_mul,Int.pow_add, <-Int.pow_mul]
    have hm:(-1:Int)^m= -1:=by
     obtain⟨q,rfl⟩:∃ q,m=2*q+1:=⟨m/2,by omega⟩
     rw[Int.pow_succ,Int.pow_mul,show(-1:Int)^2=1 from rfl,Int.one_pow,Int.one_mul]
    have h3:=hh.pow m
    rw[hm]at h3
    rw[e]
    refine((Cg.refl p _).add (h3.mul (Cg.refl p (w^(k*m))))).trans (Cg.of_eq ?_)
    omega
   refine(jM this).trans (Cg.of_eq (mo _))
  ·obtain⟨q,rfl⟩:∃ q,m=2*q:=⟨m/2,by omega⟩
   have ih:=lz l q (w*w) h.sq (by rw[Nat.pow_succ]at h1;omega) (by omega)
   rw[Nat.pow_succ,Nat.mul_comm,Nat.two_mul,tQ]
   have e1:∀ k,w^(k*(2*q))=(w*w)^(k*q):=fun k=>by rw[Nat.mul_left_comm,dJ]
   have h4:Cg p (sI (2^l) fun k=>w^(k*(2*q))) 0:=by
    refine Cg.trans (Cg.of_eq (aE fun k _=>e1 k)) ih
   have h5:Cg p (sI (2^l) fun k=>w^((2^l+k)*(2*q))) 0:=by
    refine Cg.trans (jM fun k _=>?_) ih
    rw[e1,Nat.add_mul,Int.pow_add]
    have:=(f8 (Rt.one h.sq) q)
    rw[Nat.mul_comm]at this
    have h6:=this.mul (Cg.refl p ((w*w)^(k*q)))
    rwa [Int.one_mul]at h6
   have:=h4.add h5
   rwa [Int.add_zero]at this
theorem lZ{p:Nat}{w v:Int}(h:Cg p (w*v) 1)(n:Nat):Cg p (w^n*v^n) 1:=by
 rw[<-Int.mul_pow]
 have:=h.pow n
 rwa [Int.one_pow]at this
theorem Gi{p:Nat}{w v:Int}{l:Nat}(h:Rt p w l)(hv:Cg p (w*v) 1)(a:Nat->Int)(i:Nat)(hi:i<2^l):
  Cg p (gK v (2^l) (gK w (2^l) a) i) (((2^l:Nat):Int)*a i):=by
 -- the inner sums: j = i gives N, all else nothing
 have key:∀ j,j<2^l->Cg p (sI (2^l) fun k=>w^(j*k)*v^(k*i)) (if j=i then ((2^l:Nat):Int) else 0):=fun j hj=>by
  by_cases hji:j=i
  ·subst hji
   rw[if_pos rfl]
   refine(jM fun k _=>?_).trans (Cg.of_eq (OO _))
   rw[Nat.mul_comm k j]
   exact lZ hv _
  ·rw[if_neg hji]
   by_cases hlt:i<j
   ·refine Cg.trans (jM fun k _=>?_) (lz l (j-i) w h (by omega) (by omega))
    have e:w^(j*k)=w^(k*(j-i))*w^(k*i):=by
     rw[<-Int.pow_add, <-Nat.mul_add,Nat.mul_comm]
     congr 2
     omega
    rw[e,Int.mul_assoc]
    have:=(Cg.refl p (w^(k*(j-i)))).mul (lZ hv (k*i))
    rwa [Int.mul_one]at this
   ·-- by the inverse
    have hr:Cg p (sI (2^l) fun k=>w^(k*(2^l-(i-j)))) 0:=lz l (2^l-(i-j)) w h (by omega) (by omega)
    refine Cg.trans (jM fun k _=>?_) hr
    have e:v^(k*i)=v^(k*(i-j))*v^(k*j):=by
     rw[<-Int.pow_add, <-Nat.mul_add]
     congr 2
     omega
    have h1:Cg p (w^(j*k)*v^(k*i)) (v^(k*(i-j))):=by
     rw[e,Nat.mul_comm j k]
     have:=(lZ hv (k*j)).mul (Cg.refl p (v^(k*(i-j))))
     rw[Int.one_mul]at this
     refine Cg.trans (Cg.of_eq ?_) this
     grind
    refine h1.trans ?_
    have h2:Cg p (w^(k*(2^l-(i-j)))*w^(k*(i-j))) 1:=by
     rw[<-Int.pow_add, <-Nat.mul_add,show 2^l-(i-j)+(i-j)=2^l by omega]
     exact f8 h.one k
    have h3:=h2.mul (Cg.refl p (v^(k*(i-j))))
    rw[Int.one_mul]at h3
    refine h3.symm.trans ?_
    rw[Int.mul_assoc]
    have:=(Cg.refl p (w^(k*(2^l-(i-j))))).mul (lZ hv (k*(i-j)))
    rwa [Int.mul_one]at this
 have e:gK v (2^l) (gK w (2^l) a) i=sI (2^l) fun j=>a j*sI (2^l) fun k=>w^(j*k)*v^(k*i):=by
  unfold gK
  have:∀ k,(sI (2^l) fun j=>a j*w^(j*k))*v^(k*i)=sI (2^l) fun j=>a j*(w^(j*k)*v^(k*i)):=fun k=>by
   rw[Int.mul_comm, <-gh]
   exact aE fun j _=>by grind
  rw[aE fun k _=>this k,mn]
  exact aE fun j _=>gh _ _ _
 rw[e]
 refine(jM fun j hj=>(Cg.refl p (a j)).mul (key j hj)).trans (Cg.of_eq ?_)
 rw[aE (g:=fun j=>if j=i then a i*((2^l:Nat):Int) else 0) fun j _=>?_,tR _ _ _ hi,Int.mul_comm]
 by_cases hji:j=i
 ·rw[if_pos hji,if_pos hji,hji]
 ·rw[if_neg hji,if_neg hji,Int.mul_zero]
def N9(n:Nat)(a b:Nat->Int)(k:Nat):Int:=sI n fun i=>sI n fun j=>if (i+j)%n=k then a i*b j else 0
theorem Kr{p:Nat}{w:Int}{n:Nat}(h:Cg p (w^n) 1)(hn:0<n)(a b:Nat->Int)(k:Nat):Cg p (gK w n a k*gK w n b k) (gK w n (N9 n a b) k):=by
 have e:gK w n (N9 n a b) k=sI n fun i=>sI n fun j=>a i*b j*w^((i+j)%n*k):=by
  unfold gK N9
  have:∀ m,(sI n fun i=>sI n fun j=>if (i+j)%n=m then a i*b j else 0)*w^(m*k)=sI n fun i=>sI n fun j=>if m=(i+j)%n then a i*b j*w^((i+j)%n*k) else 0:=fun m=>by
   rw[Int.mul_comm, <-gh]
   refine aE fun i _=>?_
   rw[<-gh]
   refine aE fun j _=>?_
   by_cases hm:(i+j)%n=m
   ·rw[if_pos hm,if_pos hm.symm,hm,Int.mul_comm]
   ·rw[if_neg hm,if_neg (fun h=>hm h.symm),Int.mul_zero]
  rw[aE fun m _=>this m,mn]
  refine aE fun i _=>?_
  rw[mn]
  refine aE fun j _=>?_
  exact tR n _ _ (Nat.mod_lt _ hn)
 rw[e]
 have e2:gK w n a k*gK w n b k=sI n fun i=>sI n fun j=>a i*b j*w^((i+j)*k):=by
  unfold gK
  rw[Int.mul_comm, <-gh]
  refine aE fun i _=>?_
  rw[Int.mul_comm, <-gh]
  refine aE fun j _=>?_
  rw[Nat.add_mul,Int.pow_add]
  grind
 rw[e2]
 refine jM fun i _=>jM fun j _=>(Cg.refl p (a i*b j)).mul ?_
 have hd:=Nat.div_add_mod (i+j) n
 have e3:w^((i+j)*k)=w^((i+j)/n*k*n)*w^((i+j)%n*k):=by
  rw[<-Int.pow_add]
  congr 1
  conv=>lhs;rw[<-hd]
  rw[Nat.add_mul]
  congr 1
  rw[Nat.mul_comm n,Nat.mul_assoc,Nat.mul_comm n k, <-Nat.mul_assoc]
 rw[e3]
 have:=(f8 h ((i+j)/n*k)).mul (Cg.refl p (w^((i+j)%n*k)))
 rwa [Int.one_mul]at this
end Go.Proofs.YtgcnhfgpflncaaaGreatDoor
/- Roots in plain numbers:a square root's lower half;Newton's step,from near the root. -/
namespace Go.Proofs.YtgcnhfgpflncaaaGreatDoor
theorem AO(s x:Int)(hs:0<=s)(hx:0<=x):∀ k:Nat,x^(k+1)+(k+1:Nat)*(s-x)*x^k<=s^(k+1)
 |0=>by rw[Int.pow_succ,Int.pow_succ,Int.pow_zero,Int.pow_zero];push_cast;grind
 |k+1=>by
  have ih:=AO s x hs hx k
  have h1:=Int.mul_le_mul_of_nonneg_left ih hs
  have h2:0<=x^k:=Int.pow_nonneg hx
  have h3:0<=(s-x)*(s-x):=by
   rcases Int.le_total 0 (s-x)with h|h
   ·exact Int.mul_nonneg h h
   ·have:=Int.mul_nonneg (Int.neg_nonneg_of_nonpos h) (Int.neg_nonneg_of_nonpos h)
    rwa [Int.neg_mul_neg]at this
  have h4:=Int.mul_nonneg (Int.mul_nonneg (Int.natCast_nonneg (k+1)) h3) h2
  rw[show k+1+1=k+2 from rfl]
  have e1:x^(k+2)=x*x*x^k:=by rw[Int.pow_succ,Int.pow_succ];grind
  have e2:x^(k+1)=x*x^k:=by rw[Int.pow_succ];grind
  have e3:s^(k+2)=s*s^(k+1):=by rw[Int.pow_succ _ (k+1)];grind
  rw[e1,e3,e2]
  rw[e2]at h1
  refine Int.le_trans ?_ h1
  push_cast at h4 ⊢
  generalize x^k=X at *
  generalize s^(k+1)=S at *
  generalize (k:Int)=K at *
  grind
theorem vZ(x d e:Int)(hx:0<x)(he:0<=e)(hd:d<=e)(hd': -e<=d)(hxd:0<=x+d):∀ k:Nat,(k:Int)*e<=x->(x+d)^k*(x*x)<=x^k*(x*x+k*d*x+k*k*(e*e))
 |0,_=>by simp
 |k+1,h=>by
  have hk:(k:Int)*e<=x:=by
   push_cast at h
   rw[Int.add_mul]at h
   omega
  have ih:=vZ x d e hx he hd hd' hxd k hk
  have h1:=Int.mul_le_mul_of_nonneg_right ih hxd
  have h2:0<=x^k:=Int.pow_nonneg (Int.le_of_lt hx)
  have hdd:d*d<=e*e:=by
   have a:=Int.mul_nonneg (Int.sub_nonneg.2 hd) (show 0<=e+d by omega)
   grind
  have hK:(0:Int)<=k:=Int.natCast_nonneg k
  have hee:0<=e*e:=Int.mul_nonneg he he
  have g1:(k:Int)*(d*d)*x<=k*(e*e)*x:=Int.mul_le_mul_of_nonneg_right (Int.mul_le_mul_of_nonneg_left hdd hK) (Int.le_of_lt hx)
  have g2:(k:Int)*k*(e*e)*d<=k*k*(e*e)*e:=Int.mul_le_mul_of_nonneg_left hd (Int.mul_nonneg (Int.mul_nonneg hK hK) hee)
  have g3:(k:Int)*(e*e)*(k*e)<=k*(e*e)*x:=Int.mul_le_mul_of_nonneg_left hk (Int.mul_nonneg hK hee)
  have g4:0<=(e*e)*x:=Int.mul_nonneg hee (Int.le_of_lt hx)
  have g5:((x*x+k*d*x+k*k*(e*e))*(x+d):Int)<=x*(x*x+(k+1)*d*x+(k+1)*(k+1)*(e*e)):=by
   generalize (k:Int)=K at *
   have:((x*x+K*d*x+K*K*(e*e))*(x+d):Int)=x*x*x+(K+1)*d*(x*x)+K*(d*d)*x+K*K*(e*e)*x+K*K*(e*e)*d:=by grind
   rw[this]
   have:(x*(x*x+(K+1)*d*x+(K+1)*(K+1)*(e*e)):Int)=x*x*x+(K+1)*d*(x*x)+(K*K*(e*e)*x+K*(e*e)*x+K*(e*e)*x+(e*e)*x):=by grind
   rw[this]
   have:K*(e*e)*(K*e)=K*K*(e*e)*e:=by grind
   omega
  have g6:=Int.mul_le_mul_of_nonneg_left g5 h2
  have e1:(x+d)^(k+1)*(x*x)=(x+d)^k*(x*x)*(x+d):=by rw[Int.pow_succ];grind
  have e2:x^(k+1)*(x*x+((k+1:Nat):Int)*d*x+((k+1:Nat):Int)*((k+1:Nat):Int)*(e*e))=x^k*(x*(x*x+(k+1)*d*x+(k+1)*(k+1)*(e*e))):=by
   rw[Int.pow_succ];push_cast;grind
  rw[e1,e2]
  refine Int.le_trans h1 ?_
  rw[Int.mul_assoc]
  exact g6
theorem wh{s a x j:Nat}(hx:0<x)(h:s^(j+1)<=a):s<=(j*x+a/x^j)/(j+1):=by
 rw[Nat.le_div_iff_mul_le (by omega)]
 have hp:0<x^j:=Nat.pow_pos hx
 have t:=AO (s:Int) (x:Int) (by omega) (by omega) j
 by_cases hc:s*(j+1)<=j*x
 ·exact Nat.le_trans hc (Nat.le_add_right _ _)
 ·have h1:s*(j+1)-j*x<=a/x^j:=by
   rw[Nat.le_div_iff_mul_le hp]
   refine Nat.le_trans ?_ h
   obtain⟨u,hu⟩:∃ u,s*(j+1)=j*x+u:=⟨s*(j+1)-j*x,by omega⟩
   rw[hu,Nat.add_sub_cancel_left]
   have e:((u*x^j:Nat):Int)<=((s^(j+1):Nat):Int):=by
    push_cast
    refine Int.le_trans (Int.le_of_eq ?_) t
    have hu2:((s*(j+1):Nat):Int)=((j*x+u:Nat):Int):=by rw[hu]
    push_cast at hu2 ⊢
    rw[Int.pow_succ]
    generalize (x:Int)^j=X at *
    grind
   omega
  omega
theorem DF{J X Y T E P:Int}(np:P*(Y*Y)<=X*Y*(Y*Y+(J+1)*(T-Y)*Y+(J+1)*(J+1)*(E*E)))(g2:Y*X*((J+1)*((J+1)*(E*E)))<=Y*X*((J+1)*Y)):(J*Y*X+P)*(Y*Y)<=(T+1)*(J+1)*X*(Y*Y):=by
 have e1:X*Y*(Y*Y+(J+1)*(T-Y)*Y+(J+1)*(J+1)*(E*E))=X*Y*(Y*Y+(J+1)*(T-Y)*Y)+Y*X*((J+1)*((J+1)*(E*E))):=by grind
 have e2:(T+1)*(J+1)*X*(Y*Y)=J*Y*X*(Y*Y)+X*Y*(Y*Y+(J+1)*(T-Y)*Y)+Y*X*((J+1)*Y):=by grind
 have e3:(J*Y*X+P)*(Y*Y)=J*Y*X*(Y*Y)+P*(Y*Y):=by grind
 rw[e1]at np
 rw[e2,e3]
 omega
theorem DC{t a x e j:Nat}(hx:0<x)(h:a<t^(j+1))(h1:t<=x+e)(h2:x<=t+e)(he:0<e)(hk:(j+1)*(e*e)<=x):(j*x+a/x^j)/(j+1)<=t:=by
 have hp:0<x^j:=Nat.pow_pos hx
 refine Nat.le_of_lt_succ ((Nat.div_lt_iff_lt_mul (by omega)).2 (Nat.lt_of_not_le fun hc=>?_))
 have hq:a/x^j*x^j<=a:=Nat.div_mul_le_self a _
 generalize a/x^j=q at *
 -- (t + 1) (j + 1) <= j x + q
 have hke:(j+1)*e<=x:=Nat.le_trans (Nat.mul_le_mul_left _ (Nat.le_mul_of_pos_left e he)) hk
 have np:=vZ (x:Int) ((t:Int)-x) e (by omega) (by omega) (by omega) (by omega) (by omega) (j+1) (by exact_mod_cast hke)
 have ex:(x:Int)+((t:Int)-x)=t:=by omega
 rw[ex]at np
 have c1:=Nat.mul_le_mul_right (x^j) hc
 have c2:(t+1)*(j+1)*x^j<j*x*x^j+t^(j+1):=by
  rw[Nat.add_mul (j*x)]at c1
  rw[Nat.succ_eq_add_one]at c1
  omega
 have c3:=Nat.mul_lt_mul_of_pos_right c2 (Nat.mul_pos hx hx)
 have c4:((j*x*x^j+t^(j+1))*(x*x):Nat)<=(t+1)*(j+1)*x^j*(x*x):=by
  have g:(((j*x*x^j+t^(j+1))*(x*x):Nat):Int)<=(((t+1)*(j+1)*x^j*(x*x):Nat):Int):=by
   have hX:(0:Int)<=(x:Int)^j:=Int.pow_nonneg (by omega)
   have hk':(((j+1)*(e*e):Nat):Int)<=x:=by exact_mod_cast hk
   have g1:((j+1:Int))*(((j+1)*(e*e):Nat):Int)<=(j+1)*x:=Int.mul_le_mul_of_nonneg_left hk' (by omega)
   have g2:=Int.mul_le_mul_of_nonneg_left g1 (Int.mul_nonneg (Int.natCast_nonneg x) hX)
   rw[Int.pow_succ (x:Int) j]at np
   push_cast at np g2 ⊢
   exact DF np g2
  exact_mod_cast g
 omega
theorem GQ{A a1 P s r mid low q rem:Nat}(hA:A=a1*(P*P)+mid*P+low)(ha:s*s+r=a1)(hX:r*P+mid=q*(2*s)+rem):
  A+q*q=(s*P+q)*(s*P+q)+(rem*P+low):=by
 have:(r*P+mid)*P=(q*(2*s)+rem)*P:=by rw[hX]
 subst hA ha
 grind
theorem vy{P s r mid low q rem:Nat}(hr:r<=s+s)(hm:mid<P)(hl:low<P)(hP:P<=s)(hX:r*P+mid=q*(2*s)+rem)(hrem:rem<2*s):
  rem*P+low<=2*(s*P+q)/\q*q<=rem*P+low+2*(s*P+q-1)+1/\0<s*P+q/\q<=P:=by
 have hs:0<s:=by omega
 have h1:rem*P+P<=2*s*P:=by rw[<-Nat.succ_mul];exact Nat.mul_le_mul_right P hrem
 have hqP:q<=P:=by
  refine Nat.le_of_not_lt fun h=>?_
  have a1:(P+1)*(2*s)<=q*(2*s):=Nat.mul_le_mul_right _ h
  have a2:r*P<=(s+s)*P:=Nat.mul_le_mul_right P hr
  have a3:(P+1)*(2*s)=(s+s)*P+2*s:=by grind
  omega
 have h2:q*q<=s*P:=by
  rw[Nat.mul_comm s P]
  exact Nat.mul_le_mul hqP (Nat.le_trans hqP hP)
 have h3:0<s*P:=Nat.mul_pos hs (by omega)
 have h4:2*s*P=2*(s*P):=Nat.mul_assoc _ _ _
 omega
theorem ub(t:Nat):(t+1)*(t+1)=t*t+2*t+1:=by grind
theorem xj{A t:Nat}(h1:t*t<=A)(h2:A<=t*t+2*t):bU 2 A t:=by
 refine⟨by rw[Nat.pow_two];exact h1,?_⟩
 rw[Nat.pow_two,ub]
 omega
theorem GU{A R rest less:Nat}(h:A+less=R*R+rest)(hr:rest<=2*R)(hl:less<=rest):bU 2 A R/\rest-less=A-R*R:=
 ⟨xj (by omega) (by omega),by omega⟩
theorem KH{A R rest less:Nat}(h:A+less=R*R+rest)(h0:0<R)(hq:less<=rest+2*(R-1)+1)(hl:rest<less):bU 2 A (R-1)/\rest+(R-1)+(R-1)+1-less=A-(R-1)*(R-1):=by
 obtain⟨t,rfl⟩:∃ t,R=t+1:=⟨R-1,by omega⟩
 rw[Nat.add_sub_cancel]at *
 rw[ub]at h
 exact⟨xj (by omega) (by omega),by omega⟩
theorem BD(A n:Nat):A=A/2^(2*n)*(2^n*2^n)+A/2^n%2^n*2^n+A%2^n:=by
 have e:2^(2*n)=2^n*2^n:=by rw[<-Nat.pow_add,Nat.two_mul]
 rw[e, <-Nat.div_div_eq_div_mul]
 have h1:=Nat.div_add_mod A (2^n)
 have h2:=Nat.div_add_mod (A/2^n) (2^n)
 generalize 2^n=P at *
 generalize A/P/P=u at *
 generalize A/P%P=v at *
 generalize A/P=x at *
 generalize A%P=y at *
 grind
theorem xi{k a s t:Nat}(h:bU k a s)(ht:t^k<=a):t<=s:=by
 refine Nat.le_of_lt_succ (Nat.lt_of_not_le fun hc=>?_)
 have h3:(s+1)^k<=t^k:=Nat.pow_le_pow_left hc k
 have:=h.2
 omega
theorem Nq{k a s t:Nat}(h:bU k a s)(ht:a<t^k):s<t:=by
 refine Nat.lt_of_not_le fun hc=>?_
 have:=Nat.pow_le_pow_left hc k
 have:=h.1
 omega
theorem yJ{A b n s:Nat}(h0:2^b<=A)(hn:4*n<=b)(hs:bU 2 (A/2^(2*n)) s):2^n<=s:=by
 refine xi hs ?_
 rw[<-Nat.pow_mul,Nat.le_div_iff_mul_le (Nat.two_pow_pos _), <-Nat.pow_add]
 exact Nat.le_trans (Nat.pow_le_pow_right (by decide) (by omega)) h0
theorem MQ{k A S R h:Nat}(hS:bU k A S)(hR:bU k (A/2^(h*k)) R):R*2^h<=S/\S<(R+1)*2^h:=by
 refine⟨xi hS ?_,Nq hS ?_⟩
 ·rw[Nat.mul_pow, <-Nat.pow_mul]
  exact(Nat.le_div_iff_mul_le (Nat.two_pow_pos _)).1 hR.1
 ·rw[Nat.mul_pow, <-Nat.pow_mul]
  exact(Nat.div_lt_iff_lt_mul (Nat.two_pow_pos _)).1 hR.2
theorem EM{j A S R b d h c y:Nat}(hS:bU (j+1) A S)(hR:bU (j+1) (A/2^(h*(j+1))) R)(hb:2^b<=A)(hd:d*(j+1)<=b)(hk:j+1<=2^c)(hh:c+2*h<=d)(hy:y=R\/y=R+1):
  (fun X=>X=S\/X=S+1) ((y*2^h*j+A/2^(h*j)/y^j)/(j+1)):=by
 obtain⟨u1,u2⟩:=MQ hS hR
 have hdS:2^d<=S:=by
  refine xi hS ?_
  rw[<-Nat.pow_mul]
  exact Nat.le_trans (Nat.pow_le_pow_right (by decide) hd) hb
 have hp:0<2^h:=Nat.two_pow_pos h
 have hdh:2^d=2^(d-h)*2^h:=by rw[<-Nat.pow_add];congr 1;omega
 have hRd:2^(d-h)<=R:=by
  refine Nat.le_of_lt_succ ?_
  rw[hdh]at hdS
  exact Nat.lt_of_mul_lt_mul_right (a:=2^h) (Nat.lt_of_le_of_lt hdS u2)
 have hxd:2^d<=y*2^h:=by
  rw[hdh]
  exact Nat.mul_le_mul_right _ (by omega)
 have e1:A/2^(h*j)/y^j=A/(y*2^h)^j:=by rw[Nat.div_div_eq_div_mul,Nat.mul_pow, <-Nat.pow_mul,Nat.mul_comm (2^(h*j))]
 have e2:(R+1)*2^h=R*2^h+2^h:=by rw[Nat.add_mul,Nat.one_mul]
 have hxy:y*2^h=R*2^h\/y*2^h=R*2^h+2^h:=by
  rcases hy with rfl|rfl
  ·exact .inl rfl
  ·exact .inr e2
 have hkx:(j+1)*(2^h*2^h)<=y*2^h:=by
  refine Nat.le_trans ?_ hxd
  refine Nat.le_trans (Nat.mul_le_mul_right _ hk) ?_
  rw[<-Nat.pow_add, <-Nat.pow_add]
  exact Nat.pow_le_pow_right (by decide) (by omega)
 have hx0:0<y*2^h:=Nat.lt_of_lt_of_le (Nat.two_pow_pos d) hxd
 show _\/_
 rw[e1,Nat.mul_comm (y*2^h) j]
 rw[e2]at u2
 generalize y*2^h=x at *
 have l:=wh (j:=j) hx0 hS.1
 have g:=DC (j:=j) hx0 hS.2 (e:=2^h) (by omega) (by omega) hp hkx
 generalize (j*x+A/x^j)/(j+1)=X at *
 omega
theorem IM{k a d:Nat}(hk:0<k)(h:a<2^(d*k)):oJ k a d 0:=by
 refine⟨by rw[Nat.zero_pow hk];exact Nat.zero_le _,?_⟩
 rw[Nat.zero_add, <-Nat.pow_mul]
 exact h
theorem Ax(x k i:Nat):x^(k/2^i)=x^(k/2^(i+1))*x^(k/2^(i+1))*x^(k/2^i%2):=by
 rw[<-Nat.pow_add, <-Nat.pow_add]
 congr 1
 rw[Nat.pow_succ, <-Nat.div_div_eq_div_mul]
 omega
theorem Ix{x e k:Nat}(h:e<=k):x^e<=x^k+1:=by
 rcases Nat.eq_zero_or_pos x with rfl|hx
 ·rcases Nat.eq_zero_or_pos e with rfl|he
  ·rw[Nat.pow_zero];exact Nat.le_add_left _ _
  ·rw[Nat.zero_pow he];exact Nat.zero_le _
 ·exact Nat.le_succ_of_le (Nat.pow_le_pow_right hx h)
theorem JH{W x:Nat}(hx:0<x){r:Nat}(h:bU 2 W r):r<=(x+W/x)/2:=by
 have:=wh (j:=1) hx h.1
 rw[Nat.pow_one,Nat.one_mul]at this
 exact this
theorem JG{W x r:Nat}(hx:0<x)(hr:r<=x)(h:bU 2 W r)(hy:x<=(x+W/x)/2):x=r:=by
 have h1:x<=W/x:=by omega
 have h2:x*x<=W:=(Nat.le_div_iff_mul_le hx).1 h1
 have h3:=xi h (t:=x) (by rw[Nat.pow_two];exact h2)
 omega
theorem zK{W r b:Nat}(hb:W<2^b)(h:bU 2 W r):r<=2^((b+1)/2):=by
 refine Nat.le_of_lt (Nq h (Nat.lt_of_lt_of_le hb ?_))
 rw[<-Nat.pow_mul]
 exact Nat.pow_le_pow_right (by decide) (by omega)
end Go.Proofs.YtgcnhfgpflncaaaGreatDoor
