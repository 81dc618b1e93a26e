/- Plain mathematics of naturals as rows of digits of 32 bits, the lowest first: their value, canonical rows, comparison. Nothing of any program here. -/
namespace Go.Proofs.YtpdpnomocbehkaaGreatDoor
def val:List Nat->Nat
 |[]=>0
 |d :: ds=>d+4294967296*val ds
def gZ(xs:List Nat):Prop:=∀ j,xs.getD j 0<4294967296
def Can(xs:List Nat):Prop:=gZ xs/\(0<xs.length->0<xs.getD (xs.length-1) 0)
theorem mg:gZ []:=fun j=>by simp
theorem Aw:Can []:=⟨mg,fun h=>absurd h (by simp)⟩
theorem cF(xs ys:List Nat)(j:Nat):(xs++ys).getD j 0=if j<xs.length then xs.getD j 0 else ys.getD (j-xs.length) 0:=by
 simp only[List.getD_eq_getElem?_getD,List.getElem?_append]
 split<;>rfl
theorem mh{xs:List Nat}{d:Nat}(h:gZ xs)(hd:d<4294967296):gZ (xs++[d]):=by
 intro j
 rw[cF]
 split
 ·exact h j
 ·generalize j-xs.length=k
  match k with
  |0=>simpa using hd
  |k+1=>simp
theorem GH{xs:List Nat}(h:gZ xs)(k:Nat):gZ (xs.take k):=by
 intro j
 simp only[List.getD_eq_getElem?_getD,List.getElem?_take]
 split
 ·have:=h j;simpa [List.getD_eq_getElem?_getD]using this
 ·simp
theorem val_append(xs ys:List Nat):val (xs++ys)=val xs+4294967296^xs.length*val ys:=by
 induction xs with
 |nil=>simp[val]
 |cons d ds ih=>
  simp only[List.cons_append,val,ih,List.length_cons,Nat.pow_succ,Nat.mul_add]
  rw[Nat.mul_comm (4294967296^ds.length) 4294967296,Nat.mul_assoc]
  omega
theorem jZ(xs:List Nat)(d:Nat):val (xs++[d])=val xs+4294967296^xs.length*d:=by
 rw[val_append];simp[val]
theorem getD_lt{xs:List Nat}{j:Nat}(h:j<xs.length):xs.getD j 0=xs[j]:=by simp[List.getD_eq_getElem?_getD,h]
theorem dJ{xs:List Nat}{j:Nat}(h:xs.length<=j):xs.getD j 0=0:=by simp[List.getD_eq_getElem?_getD,h]
theorem take_snoc(xs:List Nat)(k:Nat)(h:k<xs.length):xs.take (k+1)=xs.take k++[xs.getD k 0]:=by
 rw[List.take_succ_eq_append_getElem h,getD_lt h]
theorem aA(xs:List Nat)(k:Nat):val (xs.take (k+1))=val (xs.take k)+4294967296^k*xs.getD k 0:=by
 by_cases h:k<xs.length
 ·rw[take_snoc xs k h,jZ,List.length_take,Nat.min_eq_left (by omega)]
 ·rw[List.take_of_length_le (by omega),List.take_of_length_le (by omega),dJ (by omega)];simp
theorem cH(xs:List Nat)(k:Nat)(h:xs.length<=k):val (xs.take k)=val xs:=by rw[List.take_of_length_le h]
theorem qJ{xs:List Nat}(h:gZ xs):∀ k,val (xs.take k)<4294967296^k
 |0=>by simp[val]
 |k+1=>by
  rw[aA]
  have h1:=qJ h k
  have h2:=h k
  have h3:4294967296^k*xs.getD k 0<=4294967296^k*4294967295:=Nat.mul_le_mul_left _ (by omega)
  have h4:4294967296^(k+1)=4294967296^k*4294967295+4294967296^k:=by rw[Nat.pow_succ, <-Nat.mul_succ]
  omega
theorem gW{xs:List Nat}(h:gZ xs):val xs<4294967296^xs.length:=by
 have:=qJ h xs.length
 rwa [List.take_length]at this
theorem mQ(xs:List Nat)(k:Nat):val xs=val (xs.take k)+4294967296^k*val (xs.drop k):=by
 by_cases h:k<=xs.length
 ·have:=val_append (xs.take k) (xs.drop k)
  rw[List.take_append_drop,List.length_take,Nat.min_eq_left h]at this
  exact this
 ·rw[List.take_of_length_le (by omega),List.drop_eq_nil_of_le (by omega)];simp[val]
theorem JC{xs:List Nat}(h:Can xs)(hl:0<xs.length):4294967296^(xs.length-1)<=val xs:=by
 have h1:=aA xs (xs.length-1)
 rw[show xs.length-1+1=xs.length from by omega,List.take_length]at h1
 have h2:=h.2 hl
 have h3:4294967296^(xs.length-1)*1<=4294967296^(xs.length-1)*xs.getD (xs.length-1) 0:=Nat.mul_le_mul_left _ (by omega)
 omega
theorem ug{xs ys:List Nat}(hx:gZ xs)(hy:Can ys)(h:xs.length<ys.length):val xs<val ys:=by
 have h1:=gW hx
 have h2:=JC hy (by omega)
 have h3:4294967296^xs.length<=4294967296^(ys.length-1):=Nat.pow_le_pow_right (by omega) (by omega)
 omega
theorem ku{xs ys:List Nat}(hx:gZ xs)(i:Nat)(hd:xs.drop (i+1)=ys.drop (i+1))(h:xs.getD i 0<ys.getD i 0):val xs<val ys:=by
 have h1:=mQ xs (i+1)
 have h2:=mQ ys (i+1)
 rw[aA]at h1 h2
 have h3:=qJ hx i
 have h4:4294967296^i*(xs.getD i 0+1)<=4294967296^i*ys.getD i 0:=Nat.mul_le_mul_left _ (by omega)
 rw[Nat.mul_succ]at h4
 rw[hd]at h1
 omega
theorem drop_step{xs ys:List Nat}(i:Nat)(hi:i<xs.length)(hl:xs.length=ys.length)(hd:xs.drop (i+1)=ys.drop (i+1))(h:xs.getD i 0=ys.getD i 0):xs.drop i=ys.drop i:=by
 have hj:i<ys.length:=by omega
 rw[List.drop_eq_getElem_cons hi,List.drop_eq_getElem_cons hj,hd]
 rw[getD_lt hi,getD_lt hj]at h
 rw[h]
def cO(m n:Nat):Int:=if m<n then -1 else if n<m then 1 else 0
theorem dF{m n:Nat}(h:m<n):cO m n= -1:=by unfold cO;rw[if_pos h]
theorem ez{m n:Nat}(h:n<m):cO m n=1:=by unfold cO;rw[if_neg (by omega),if_pos h]
theorem fq{m n:Nat}(h:m=n):cO m n=0:=by unfold cO;rw[if_neg (by omega),if_neg (by omega)]
theorem yW{xs ys:List Nat}(hx:Can xs)(hy:Can ys)(h:val xs=val ys):xs=ys:=by
 have hl:xs.length=ys.length:=by
  rcases Nat.lt_trichotomy xs.length ys.length with l|l|l
  ·have:=ug hx.1 hy l;omega
  ·exact l
  ·have:=ug hy.1 hx l;omega
 have key:∀ k,k<=xs.length->xs.drop (xs.length-k)=ys.drop (xs.length-k):=by
  intro k
  induction k with
  |zero=>intro _;rw[Nat.sub_zero,List.drop_eq_nil_of_le (Nat.le_refl _),List.drop_eq_nil_of_le (by omega)]
  |succ k ih=>
   intro hk
   have ih:=ih (by omega)
   have e:xs.length-k=xs.length-(k+1)+1:=by omega
   rw[e]at ih
   refine drop_step _ (by omega) hl ih ?_
   rcases Nat.lt_trichotomy (xs.getD (xs.length-(k+1)) 0) (ys.getD (xs.length-(k+1)) 0)with l|l|l
   ·have:=ku hx.1 _ ih l;omega
   ·exact l
   ·have:=ku hy.1 _ ih.symm l;omega
 have:=key xs.length (Nat.le_refl _)
 simpa using this
def bY(xs:List Nat):Nat->Nat
 |0=>0
 |k+1=>if xs.getD k 0=0 then bY xs k else k+1
theorem bK(xs:List Nat):∀ k,bY xs k<=k
 |0=>Nat.le_refl _
 |k+1=>by unfold bY;split;(have:=bK xs k;omega);omega
theorem xt(xs:List Nat):∀ k,val (xs.take (bY xs k))=val (xs.take k)
 |0=>rfl
 |k+1=>by
  unfold bY;split
  ·rename_i h;rw[xt xs k,aA,h];simp
  ·rfl
theorem jS(xs:List Nat):∀ k,0<bY xs k->0<xs.getD (bY xs k-1) 0
 |0=>fun h=>absurd h (by simp[bY])
 |k+1=>by
  unfold bY;split
  ·exact jS xs k
  ·rename_i h;intro _;simp only[Nat.add_sub_cancel];omega
def nJ(xs:List Nat):List Nat:=xs.take (bY xs xs.length)
theorem aJ(xs:List Nat):(nJ xs).length=bY xs xs.length:=by
 have:=bK xs xs.length
 simp[nJ];omega
theorem LC(xs:List Nat):val (nJ xs)=val xs:=by
 have:=xt xs xs.length
 rw[List.take_length]at this;exact this
theorem Ly{xs:List Nat}(h:gZ xs):Can (nJ xs):=by
 refine⟨GH h _,fun hl=>?_⟩
 rw[aJ]at hl ⊢
 have h1:=jS xs xs.length hl
 unfold nJ
 rw[List.getD_eq_getElem?_getD,List.getElem?_take,if_pos (by omega)]
 rwa [List.getD_eq_getElem?_getD]at h1
theorem gC{xs:List Nat}(h:Can xs){L:Nat}(hv:val xs<4294967296^L):xs.length<=L:=by
 refine Nat.le_of_not_lt fun hl=>?_
 have h1:=JC h (by omega)
 have h2:4294967296^L<=4294967296^(xs.length-1):=Nat.pow_le_pow_right (by omega) (by omega)
 omega
end Go.Proofs.YtpdpnomocbehkaaGreatDoor
/- Plain mathematics of doubling,comparing and subtracting rows of digits in place. -/
namespace Go.Proofs.YtpdpnomocbehkaaGreatDoor
theorem set_mid(os rs:List Nat)(k d:Nat)(hk:os.length=k)(hr:k<rs.length):(os++rs.drop k).set k d=(os++[d])++rs.drop (k+1):=by
 rw[List.drop_eq_getElem_cons hr,List.set_append_right k d (by omega),hk,Nat.sub_self,List.set_cons_zero,List.append_assoc]
 rfl
theorem wo(os rs:List Nat)(k:Nat)(hk:os.length=k):(os++rs.drop k).getD k 0=rs.getD k 0:=by
 rw[cF,if_neg (by omega),hk,Nat.sub_self]
 simp[List.getD_eq_getElem?_getD]
theorem mid_end(os rs:List Nat)(n:Nat)(hr:rs.length=n):os++rs.drop n=os:=by rw[List.drop_eq_nil_of_le (by omega),List.append_nil]
theorem getD_drop(xs:List Nat)(k t:Nat):(xs.drop k).getD t 0=xs.getD (k+t) 0:=by
 simp[List.getD_eq_getElem?_getD]
theorem BC{xs ys:List Nat}(h:∀ t,xs.getD t 0=ys.getD t 0):val xs=val ys:=by
 have key:∀ N,val (xs.take N)=val (ys.take N):=by
  intro N
  induction N with
  |zero=>simp
  |succ N ih=>rw[aA,aA,ih,h N]
 have:=key (xs.length+ys.length)
 rwa [cH _ _ (by omega),cH _ _ (by omega)]at this
theorem vf{xs ys:List Nat}{k:Nat}(h:∀ t,k<=t->xs.getD t 0=ys.getD t 0):val (xs.drop k)=val (ys.drop k):=
 BC fun t=>by rw[getD_drop,getD_drop];exact h _ (by omega)
theorem pN{xs ys:List Nat}(hx:gZ xs)(i:Nat)(hd:∀ t,i+1<=t->xs.getD t 0=ys.getD t 0)(h:xs.getD i 0<ys.getD i 0):val xs<val ys:=by
 have h1:=mQ xs (i+1)
 have h2:=mQ ys (i+1)
 rw[aA]at h1 h2
 have h3:=qJ hx i
 have h4:4294967296^i*(xs.getD i 0+1)<=4294967296^i*ys.getD i 0:=Nat.mul_le_mul_left _ (by omega)
 rw[Nat.mul_succ]at h4
 rw[vf hd]at h1
 omega
def vt(rs os:List Nat)(k b c:Nat):Prop:=os.length=k/\gZ os/\c<=1/\val os+4294967296^k*c=2*val (rs.take k)+b
theorem Ci(rs:List Nat)(b:Nat)(hb:b<=1):vt rs [] 0 b b:=⟨rfl,mg,hb,by simp[val]⟩
theorem Gx{rs os:List Nat}{k b c:Nat}(h:vt rs os k b c)(hr:rs.getD k 0<4294967296):vt rs (os++[(2*rs.getD k 0+c)%4294967296]) (k+1) b ((2*rs.getD k 0+c)/4294967296):=by
 obtain⟨h1,h2,h3,h4⟩:=h
 refine⟨by simp[h1],mh h2 (by omega),by omega,?_⟩
 rw[jZ,h1,aA,Nat.pow_succ,Nat.mul_assoc]
 generalize 4294967296^k=B at *
 generalize rs.getD k 0=x at *
 have e:B*((2*x+c)%4294967296)+B*(4294967296*((2*x+c)/4294967296))=B*(2*x)+B*c:=by
  rw[<-Nat.mul_add,Nat.mod_add_div,Nat.mul_add]
 have e2:B*(2*x)=2*(B*x):=Nat.mul_left_comm _ _ _
 omega
theorem Ks{rs os:List Nat}{n b c:Nat}(h:vt rs os n b c)(hr:rs.length=n)(hv:2*val rs+b<4294967296^n):val os=2*val rs+b:=by
 obtain⟨h1,h2,h3,h4⟩:=h
 rw[cH _ _ (by omega)]at h4
 have:c=0\/c=1:=by omega
 rcases this with rfl|rfl
 ·simpa using h4
 ·omega
def pz(rs ds os:List Nat)(k c:Nat):Prop:=os.length=k/\gZ os/\c<=1/\val os+val (ds.take k)=val (rs.take k)+4294967296^k*c
theorem Fa(rs ds:List Nat):pz rs ds [] 0 0:=⟨rfl,mg,by omega,by simp[val]⟩
theorem Ji{rs ds os:List Nat}{k c:Nat}(h:pz rs ds os k c)(hr:rs.getD k 0<4294967296)(hs:c+ds.getD k 0<=rs.getD k 0):pz rs ds (os++[rs.getD k 0-(c+ds.getD k 0)]) (k+1) 0:=by
 obtain⟨h1,h2,h3,h4⟩:=h
 refine⟨by simp[h1],mh h2 (by omega),by omega,?_⟩
 rw[jZ,h1,aA,aA]
 generalize 4294967296^k=B at *
 generalize rs.getD k 0=x at *
 generalize ds.getD k 0=d at *
 have e:B*(x-(c+d))+(B*c+B*d)=B*x:=by rw[<-Nat.mul_add, <-Nat.mul_add,Nat.sub_add_cancel hs]
 omega
theorem Bj{rs ds os:List Nat}{k c:Nat}(h:pz rs ds os k c)(hd:ds.getD k 0<4294967296)(hs:¬c+ds.getD k 0<=rs.getD k 0):pz rs ds (os++[rs.getD k 0+(4294967296-(c+ds.getD k 0))]) (k+1) 1:=by
 obtain⟨h1,h2,h3,h4⟩:=h
 refine⟨by simp[h1],mh h2 (by omega),by omega,?_⟩
 rw[jZ,h1,aA,aA,Nat.pow_succ]
 generalize 4294967296^k=B at *
 generalize rs.getD k 0=x at *
 generalize ds.getD k 0=d at *
 have e:B*(x+(4294967296-(c+d)))+(B*c+B*d)=B*x+B*4294967296:=by
  rw[<-Nat.mul_add, <-Nat.mul_add, <-Nat.mul_add];congr 1;omega
 omega
theorem MD{rs ds os:List Nat}{n c:Nat}(h:pz rs ds os n c)(hr:rs.length<=n)(hd:ds.length<=n)(hv:val ds<=val rs):val os=val rs-val ds:=by
 obtain⟨h1,h2,h3,h4⟩:=h
 rw[cH _ _ hr,cH _ _ hd]at h4
 have hl:=gW h2
 rw[h1]at hl
 have:c=0\/c=1:=by omega
 rcases this with rfl|rfl
 ·omega
 ·omega
end Go.Proofs.YtpdpnomocbehkaaGreatDoor
/- Tables in plain numbers:which way a product goes,what it costs;n is the greater length. -/
namespace Go.Proofs.YtpdpnomocbehkaaGreatDoor
def rt(B T N n m:Nat):Nat:=
 if m=0 then 0 else if m<B then 1 else if 2*m<=n+1 then 2 else if m<T then 3 else if N<=n+m then 5 else if 2*((n+2)/3)<m then 4 else 3
def lg(s:Nat):Nat:=if s<=1 then 0 else (s-1).log2+1
theorem Ni(s:Nat):s<=2^lg s:=by
 unfold lg
 split
 ·simp;omega
 ·have:=@Nat.lt_log2_self (s-1)
  omega
theorem xe(s:Nat)(h:2<=s):1<=lg s/\2^(lg s-1)<s:=by
 unfold lg
 rw[if_neg (by omega)]
 have:=Nat.log2_self_le (n:=s-1) (by omega)
 exact⟨by omega,by rw[Nat.add_sub_cancel];omega⟩
theorem DG{s L:Nat}(h1:s<=2^L)(h2:L=0\/2^(L-1)<s):L=lg s:=by
 have a:=Ni s
 by_cases hs:s<=1
 ·have e:lg s=0:=by unfold lg;rw[if_pos hs]
  rcases h2 with h2|h2
  ·omega
  ·have:=Nat.pow_pos (n:=L-1) (show 0<2 by omega);omega
 ·obtain⟨b,c⟩:=xe s (by omega)
  rcases h2 with h2|h2
  ·subst h2;simp at h1;omega
  ·have l1:L-1<lg s:=(Nat.pow_lt_pow_iff_right (a:=2) (by omega)).1 (by omega)
   have l2:lg s-1<L:=(Nat.pow_lt_pow_iff_right (a:=2) (by omega)).1 (by omega)
   by_cases hL:L=0
   ·subst hL;simp at h1;omega
   ·omega
def OV(L ways:Nat):Nat:=3*(ways*(2^L/2)*L+2*2^L)+6*2^L
def tf(n m ways:Nat):Nat:=OV (lg (n+m)) ways
theorem Jl{L M a b:Nat}(h:L<=M)(hw:a<=b):OV L a<=OV M b:=by
 have hp:2^L<=2^M:=Nat.pow_le_pow_right (by omega) h
 have h1:a*(2^L/2)*L<=b*(2^M/2)*M:=Nat.mul_le_mul (Nat.mul_le_mul hw (Nat.div_le_div_right hp)) h
 unfold OV
 omega
theorem MH(n m w:Nat):tf n m w=tf m n w:=by unfold tf;rw[Nat.add_comm]
def eB(B T N:Nat):Nat->Nat->Nat->Nat
 |0,_,_=>0
 |f+1,n,m=>
  if rt B T N n m=1 then n*m
  else if rt B T N n m=2 then n/m*eB B T N f m m+eB B T N f m (n%m)
  else if rt B T N n m=3 then eB B T N f ((n+1)/2) ((n+1)/2)+eB B T N f (n-(n+1)/2) (m-(n+1)/2)+eB B T N f ((n+1)/2+1) ((n+1)/2+1)
  else if rt B T N n m=4 then eB B T N f ((n+2)/3) ((n+2)/3)+3*eB B T N f ((n+2)/3+1) ((n+2)/3+1)+eB B T N f (n-2*((n+2)/3)) (m-2*((n+2)/3))
  else if rt B T N n m=5 then tf n m 3
  else 0
def OL(B T N:Nat):Nat->Nat->Nat
 |0,_=>0
 |f+1,n=>
  if rt B T N n n=1 then n*(n+1)/2
  else if rt B T N n n=3 then OL B T N f ((n+1)/2)+OL B T N f (n-(n+1)/2)+OL B T N f ((n+1)/2+1)
  else if rt B T N n n=4 then OL B T N f ((n+2)/3)+3*OL B T N f ((n+2)/3+1)+OL B T N f (n-2*((n+2)/3))
  else if rt B T N n n=5 then tf n n 2
  else 0
structure BF(B T N:Nat):Prop where
 b1:4<=B
 b2:B<=64
 t1:12<=T
 t2:T<=8192
 n1:64<=N
 n2:N<=16384
theorem mJ{B T N:Nat}(n m:Nat)(hm:m<=n)(_e:BF B T N):
  (rt B T N n m=0/\m=0)\/(rt B T N n m=1/\0<m/\m<B)\/(rt B T N n m=2/\B<=m/\2*m<=n+1)\/(rt B T N n m=3/\B<=m/\n+1<2*m)\/
  (rt B T N n m=4/\T<=m/\B<=m/\2*((n+2)/3)<m)\/(rt B T N n m=5/\T<=m/\B<=m/\n+1<2*m/\N<=n+m):=by
 unfold rt
 repeat' split
 all_goals omega
theorem pG{B T N:Nat}(e:BF B T N):∀ f g n m,m<=n->n<f->n<g->eB B T N f n m=eB B T N g n m
 |0,_,_,_,_,h,_=>by omega
 |_+1,0,_,_,_,_,h=>by omega
 |f+1,g+1,n,m,hm,h1,h2=>by
  have ih:=fun n m (a:m<=n) (b:n<f) (c:n<g)=>pG e f g n m a b c
  have e1:=e.b1
  unfold eB
  rcases mJ n m hm e with⟨r,_⟩|⟨r,_,_⟩|⟨r,_,_⟩|⟨r,_,_⟩|⟨r,_,_,_⟩|⟨r,_,_,_,_⟩<;>rw[r]<;>simp only[Nat.reduceEqDiff,if_true,if_false]
  ·rw[ih m m (by omega) (by omega) (by omega),ih m (n%m) (by have:=Nat.mod_lt n (show 0<m by omega);omega) (by omega) (by omega)]
  ·rw[ih ((n+1)/2) ((n+1)/2) (by omega) (by omega) (by omega),ih (n-(n+1)/2) (m-(n+1)/2) (by omega) (by omega) (by omega),ih ((n+1)/2+1) ((n+1)/2+1) (by omega) (by omega) (by omega)]
  ·have:=e.t1
   rw[ih ((n+2)/3) ((n+2)/3) (by omega) (by omega) (by omega),ih (n-2*((n+2)/3)) (m-2*((n+2)/3)) (by omega) (by omega) (by omega),ih ((n+2)/3+1) ((n+2)/3+1) (by omega) (by omega) (by omega)]
end Go.Proofs.YtpdpnomocbehkaaGreatDoor
/- What a product costs at most,in plain numbers. -/
namespace Go.Proofs.YtpdpnomocbehkaaGreatDoor
def eQ(B T N n m:Nat):Nat:=eB B T N (n+1) n m
def P9(B T N n:Nat):Nat:=OL B T N (n+1) n
theorem fA{B T N f n m:Nat}(e:BF B T N)(hm:m<=n)(hf:n<f):eB B T N f n m=eQ B T N n m:=pG e f (n+1) n m hm hf (by omega)
theorem mf{B T N n m:Nat}(h:rt B T N n m=0):eQ B T N n m=0:=by unfold eQ eB;simp[h]
theorem tN{B T N n m:Nat}(h:rt B T N n m=1):eQ B T N n m=n*m:=by unfold eQ eB;simp[h]
theorem Az{B T N n m:Nat}(e:BF B T N)(_hm:m<=n)(h:rt B T N n m=2)(h1:B<=m)(h2:2*m<=n+1):eQ B T N n m=n/m*eQ B T N m m+eQ B T N m (n%m):=by
 have e1:=e.b1
 rw[eQ];unfold eB;simp only[h,Nat.reduceEqDiff,if_true,if_false]
 rw[fA e (by omega) (by omega),fA e (by have:=Nat.mod_lt n (show 0<m by omega);omega) (by omega)]
theorem nj{B T N n m:Nat}(e:BF B T N)(_hm:m<=n)(h:rt B T N n m=3)(h1:B<=m)(h2:n+1<2*m):
  eQ B T N n m=eQ B T N ((n+1)/2) ((n+1)/2)+eQ B T N (n-(n+1)/2) (m-(n+1)/2)+eQ B T N ((n+1)/2+1) ((n+1)/2+1):=by
 have e1:=e.b1
 rw[eQ];unfold eB;simp only[h,Nat.reduceEqDiff,if_true,if_false]
 rw[fA e (by omega) (by omega),fA e (by omega) (by omega),fA e (by omega) (by omega)]
theorem pJ{B T N n m:Nat}(e:BF B T N)(_hm:m<=n)(h:rt B T N n m=4)(h1:T<=m)(h2:2*((n+2)/3)<m):
  eQ B T N n m=eQ B T N ((n+2)/3) ((n+2)/3)+3*eQ B T N ((n+2)/3+1) ((n+2)/3+1)+eQ B T N (n-2*((n+2)/3)) (m-2*((n+2)/3)):=by
 have e1:=e.t1
 rw[eQ];unfold eB;simp only[h,Nat.reduceEqDiff,if_true,if_false]
 rw[fA e (by omega) (by omega),fA e (by omega) (by omega),fA e (by omega) (by omega)]
theorem pI{B T N n m:Nat}(h:rt B T N n m=5):eQ B T N n m=tf n m 3:=by unfold eQ eB;simp[h]
theorem Bm(n m:Nat)(h:64<=n+m):∃ L P,6<=L/\P=2^(L-1)/\P<n+m/\n+m<=2*P/\tf n m 3=9*(P*L)+24*P:=by
 obtain⟨h1,h2⟩:=xe (n+m) (by omega)
 have h3:=Ni (n+m)
 obtain⟨k,hk⟩:∃ k,lg (n+m)=k+1:=⟨lg (n+m)-1,by omega⟩
 rw[hk]at h1 h2 h3
 rw[Nat.add_sub_cancel]at h2
 have h4:2^6<=2^(k+1):=by omega
 have h5:=(Nat.pow_le_pow_iff_right (a:=2) (by omega)).1 h4
 refine⟨k+1,2^k,by omega,by rw[Nat.add_sub_cancel],h2,by rw[Nat.pow_succ]at h3;omega,?_⟩
 unfold tf OV
 rw[hk,Nat.pow_succ,Nat.mul_div_cancel _ (by omega),Nat.mul_assoc 3 (2^k) (k+1)]
 omega
theorem Ba:∀ k,36*(k+7)+96<=3*2^(k+7)
 |0=>by decide
 |k+1=>by have:=Ba k;rw[show k+1+7=(k+7)+1 from by omega,Nat.pow_succ];omega
theorem xy:∀ k,162*(k+7)+432<=16*2^(k+7)
 |0=>by decide
 |k+1=>by have:=xy k;rw[show k+1+7=(k+7)+1 from by omega,Nat.pow_succ];omega
theorem MC(i:Nat):(i+3)*(i+3)+(i+3)*(i+3)+(i+3+1)*(i+3+1)<=(2*(i+3))*(2*(i+3)):=by grind
theorem OM(i:Nat):(i+5)*(i+5)+(i+4)*(i+4)+(i+5+1)*(i+5+1)<=(2*i+9)*(2*i+9):=by grind
theorem Jd(i:Nat):(i+3)*(i+3)+3*((i+3+1)*(i+3+1))+(i+3)*(i+3)<=(3*i+9)*(3*i+9):=by grind
theorem Je(i:Nat):(i+3)*(i+3)+3*((i+3+1)*(i+3+1))+(i+2)*(i+2)<=(3*i+8)*(3*i+8):=by grind
theorem Jf(i:Nat):(i+4)*(i+4)+3*((i+4+1)*(i+4+1))+(i+2)*(i+2)<=(3*i+10)*(3*i+10):=by grind
theorem nine(n m:Nat)(h1:m<=n)(h2:n<=2*m):2*((n+m)*(n+m))<=9*(n*m):=by
 obtain⟨i,rfl⟩:∃ i,n=m+i:=⟨n-m,by omega⟩
 obtain⟨j,rfl⟩:∃ j,m=i+j:=⟨m-i,by omega⟩
 grind
theorem mE{a b:Nat}(h:a<=b):a*a<=b*b:=Nat.mul_le_mul h h
theorem Jm(n m:Nat)(h1:m<=n)(h2:n<=2*m)(h:64<=n+m):tf n m 3<=8*(n*m):=by
 obtain⟨L,P,hL,hP,p1,p2,e⟩:=Bm n m h
 have k9:=nine n m h1 h2
 rw[e]
 by_cases h6:L=6
 ·subst h6
  have hP:P=32:=hP
  subst hP
  have:=mE h
  omega
 ·obtain⟨k,rfl⟩:∃ k,L=k+7:=⟨L-7,by omega⟩
  have hb:=xy k
  have hP2:2^(k+7)=2*P:=by rw[hP,show k+7-1=k+6 from by omega,show k+7=(k+6)+1 from by omega,Nat.pow_succ];omega
  rw[hP2]at hb
  have hm:=Nat.mul_le_mul_left P hb
  have hs:=mE (show P<=n+m by omega)
  have r1:P*(162*(k+7)+432)=162*(P*(k+7))+432*P:=by grind
  have r2:P*(16*(2*P))=32*(P*P):=by grind
  omega
theorem ON(n:Nat)(h:32<=n):tf n n 3<=6*(n*n):=by
 obtain⟨L,P,hL,hP,p1,p2,e⟩:=Bm n n (by omega)
 rw[e]
 by_cases h6:L=6
 ·subst h6
  have hP:P=32:=hP
  subst hP
  have:=mE h
  omega
 ·obtain⟨k,rfl⟩:∃ k,L=k+7:=⟨L-7,by omega⟩
  have hb:=Ba k
  have hP2:2^(k+7)=2*P:=by rw[hP,show k+7-1=k+6 from by omega,show k+7=(k+6)+1 from by omega,Nat.pow_succ];omega
  rw[hP2]at hb
  have hm:=Nat.mul_le_mul_left P hb
  have hs:=mE (show P<=n+n by omega)
  have r1:P*(36*(k+7)+96)=36*(P*(k+7))+96*P:=by grind
  have r2:P*(3*(2*P))=6*(P*P):=by grind
  have r3:(n+n)*(n+n)=4*(n*n):=by grind
  omega
theorem Gp{B T N:Nat}(e:BF B T N):∀ f n,n<f->eQ B T N n n<=6*(n*n)/\(n<=3->eQ B T N n n<=n*n)/\(n<=5->eQ B T N n n<=2*(n*n))
 |0,_,h=>by omega
 |f+1,n,hf=>by
  have ih:=fun n (h:n<f)=>Gp e f n h
  have e1:=e.b1
  have e2:=e.t1
  have e3:=e.n1
  rcases mJ n n (Nat.le_refl _) e with⟨r,h0⟩|⟨r,h0,h1⟩|⟨r,h0,h1⟩|⟨r,h0,h1⟩|⟨r,h0,h1,h2⟩|⟨r,h0,h1,h2,h3⟩
  ·rw[mf r];omega
  ·rw[tN r];omega
  ·omega
  ·rw[nj e (Nat.le_refl _) r h0 h1]
   obtain⟨a1,a2,a3⟩:=ih ((n+1)/2) (by omega)
   obtain⟨b1,b2,b3⟩:=ih (n-(n+1)/2) (by omega)
   obtain⟨c1,c2,c3⟩:=ih ((n+1)/2+1) (by omega)
   by_cases h5:n<=5
   ·have h45:n=4\/n=5:=by omega
    rcases h45 with rfl|rfl
    ·simp at a2 b2 c2 ⊢;omega
    ·simp at a2 b2 c3 ⊢;omega
   ·refine⟨?_,by omega,by omega⟩
    by_cases h7:n=7
    ·subst h7;simp at a3 b2 c3 ⊢;omega
    ·by_cases hev:n%2=0
     ·obtain⟨i,rfl⟩:∃ i,n=2*(i+3):=⟨n/2-3,by omega⟩
      rw[show(2*(i+3)+1)/2=i+3 from by omega]at *
      rw[show 2*(i+3)-(i+3)=i+3 from by omega]at *
      have:=MC i
      omega
     ·obtain⟨i,rfl⟩:∃ i,n=2*i+9:=⟨(n-9)/2,by omega⟩
      rw[show(2*i+9+1)/2=i+5 from by omega]at *
      rw[show 2*i+9-(i+5)=i+4 from by omega]at *
      have:=OM i
      omega
  ·rw[pJ e (Nat.le_refl _) r h0 h2]
   obtain⟨a1,a2,a3⟩:=ih ((n+2)/3) (by omega)
   obtain⟨b1,b2,b3⟩:=ih (n-2*((n+2)/3)) (by omega)
   obtain⟨c1,c2,c3⟩:=ih ((n+2)/3+1) (by omega)
   refine⟨?_,by omega,by omega⟩
   have hmod:n%3=0\/n%3=1\/n%3=2:=by omega
   rcases hmod with hm|hm|hm
   ·obtain⟨i,rfl⟩:∃ i,n=3*i+9:=⟨(n-9)/3,by omega⟩
    rw[show(3*i+9+2)/3=i+3 from by omega]at *
    rw[show 3*i+9-2*(i+3)=i+3 from by omega]at *
    have:=Jd i
    omega
   ·obtain⟨i,rfl⟩:∃ i,n=3*i+10:=⟨(n-10)/3,by omega⟩
    rw[show(3*i+10+2)/3=i+4 from by omega]at *
    rw[show 3*i+10-2*(i+4)=i+2 from by omega]at *
    have:=Jf i
    omega
   ·obtain⟨i,rfl⟩:∃ i,n=3*i+8:=⟨(n-8)/3,by omega⟩
    rw[show(3*i+8+2)/3=i+3 from by omega]at *
    rw[show 3*i+8-2*(i+3)=i+2 from by omega]at *
    have:=Je i
    omega
  ·rw[pI r]
   exact⟨ON n (by omega),by omega,by omega⟩
theorem Dz(h n m:Nat)(hh:4<=h)(h1:2*h-1<=n)(h2:h+1<=m)(hn:h<=n):6*(h*h)+8*((n-h)*(m-h))+6*((h+1)*(h+1))<=8*(n*m):=by
 obtain⟨i,rfl⟩:∃ i,h=i+4:=⟨h-4,by omega⟩
 obtain⟨x,rfl⟩:∃ x,n=2*i+7+x:=⟨n-(2*i+7),by omega⟩
 obtain⟨y,rfl⟩:∃ y,m=i+5+y:=⟨m-(i+5),by omega⟩
 rw[show 2*i+7+x-(i+4)=i+3+x from by omega,show i+5+y-(i+4)=y+1 from by omega]
 have h1:=Nat.zero_le (i*i)
 have h2:=Nat.zero_le (i*x)
 have h3:=Nat.zero_le (i*y)
 have h4:=Nat.zero_le (x*y)
 grind
theorem Fo(k n m:Nat)(hk:3<=k)(h1:3*k-2<=n)(h2:2*k+1<=m)(h3:2*k<=n):6*(k*k)+3*(6*((k+1)*(k+1)))+8*((n-2*k)*(m-2*k))<=8*(n*m):=by
 obtain⟨i,rfl⟩:∃ i,k=i+3:=⟨k-3,by omega⟩
 obtain⟨x,rfl⟩:∃ x,n=3*i+7+x:=⟨n-(3*i+7),by omega⟩
 obtain⟨y,rfl⟩:∃ y,m=2*i+7+y:=⟨m-(2*i+7),by omega⟩
 rw[show 3*i+7+x-2*(i+3)=i+1+x from by omega,show 2*i+7+y-2*(i+3)=y+1 from by omega]
 have h1:=Nat.zero_le (i*i)
 have h2:=Nat.zero_le (i*x)
 have h3:=Nat.zero_le (i*y)
 have h4:=Nat.zero_le (x*y)
 grind
theorem za{B T N:Nat}(e:BF B T N):∀ f n m,n<f->m<=n->eQ B T N n m<=8*(n*m)
 |0,_,_,h,_=>by omega
 |f+1,n,m,hf,hm=>by
  have ih:=fun n m (h:n<f) (k:m<=n)=>za e f n m h k
  have sq:=fun n=>(Gp e (n+1) n (by omega))
  have e1:=e.b1
  have e2:=e.t1
  have e3:=e.n1
  rcases mJ n m hm e with⟨r,h0⟩|⟨r,h0,h1⟩|⟨r,h0,h1⟩|⟨r,h0,h1⟩|⟨r,h0,h1,h2⟩|⟨r,h0,h1,h2,h3⟩
  ·rw[mf r];omega
  ·rw[tN r];omega
  ·rw[Az e hm r h0 h1]
   have a:=(sq m).1
   have b:=ih m (n%m) (by omega) (by have:=Nat.mod_lt n (show 0<m by omega);omega)
   have c:=Nat.mul_le_mul_left (n/m) a
   have d:=Nat.div_add_mod n m
   have x:n*m=m*m*(n/m)+m*(n%m):=by
    have:n*m=(m*(n/m)+n%m)*m:=by rw[d]
    rw[this]
    generalize n/m=q
    generalize n%m=r
    grind
   have y:n/m*(6*(m*m))=6*(m*m*(n/m)):=by grind
   rw[x]
   omega
  ·rw[nj e hm r h0 h1]
   obtain⟨a1,a2,a3⟩:=sq ((n+1)/2)
   obtain⟨c1,c2,c3⟩:=sq ((n+1)/2+1)
   have b:=ih (n-(n+1)/2) (m-(n+1)/2) (by omega) (by omega)
   by_cases hs:4<=(n+1)/2
   ·have:=Dz ((n+1)/2) n m hs (by omega) (by omega) (by omega)
    omega
   ·have hn:n=4\/n=5\/n=6:=by omega
    have hm2:m=4\/m=5\/m=6:=by omega
    rcases hn with rfl|rfl|rfl<;>rcases hm2 with rfl|rfl|rfl<;>simp at a2 b c3 ⊢ <;>omega
  ·rw[pJ e hm r h0 h2]
   obtain⟨a1,a2,a3⟩:=sq ((n+2)/3)
   obtain⟨c1,c2,c3⟩:=sq ((n+2)/3+1)
   have b:=ih (n-2*((n+2)/3)) (m-2*((n+2)/3)) (by omega) (by omega)
   have:=Fo ((n+2)/3) n m (by omega) (by omega) (by omega) (by omega)
   omega
  ·rw[pI r]
   exact Jm n m hm (by omega) (by omega)
theorem zb{B T N n:Nat}:eQ B T N n 0=0:=mf (by unfold rt;simp)
end Go.Proofs.YtpdpnomocbehkaaGreatDoor
/- Residues of a word:plain mathematics. Nothing of any program here. -/
namespace Go.Proofs.YtpdpnomocbehkaaGreatDoor
def Cg(p:Nat)(a b:Int):Prop:=(p:Int)∣a-b
theorem Cg.refl(p:Nat)(a:Int):Cg p a a:=⟨0,by omega⟩
theorem Cg.of_eq{p:Nat}{a b:Int}(h:a=b):Cg p a b:=h▸Cg.refl p a
theorem Cg.symm{p:Nat}{a b:Int}(h:Cg p a b):Cg p b a:=by
 obtain⟨x,hx⟩:=h
 exact⟨-x,by grind⟩
theorem Cg.trans{p:Nat}{a b c:Int}(h:Cg p a b)(k:Cg p b c):Cg p a c:=by
 obtain⟨x,hx⟩:=h
 obtain⟨y,hy⟩:=k
 exact⟨x+y,by grind⟩
theorem Cg.add{p:Nat}{a b c d:Int}(h:Cg p a b)(k:Cg p c d):Cg p (a+c) (b+d):=by
 obtain⟨x,hx⟩:=h
 obtain⟨y,hy⟩:=k
 exact⟨x+y,by grind⟩
theorem Cg.sub{p:Nat}{a b c d:Int}(h:Cg p a b)(k:Cg p c d):Cg p (a-c) (b-d):=by
 obtain⟨x,hx⟩:=h
 obtain⟨y,hy⟩:=k
 exact⟨x-y,by grind⟩
theorem Cg.mul{p:Nat}{a b c d:Int}(h:Cg p a b)(k:Cg p c d):Cg p (a*c) (b*d):=by
 obtain⟨x,hx⟩:=h
 obtain⟨y,hy⟩:=k
 exact⟨x*c+b*y,by grind⟩
theorem Cg.mod(p a:Nat):Cg p ((a%p:Nat):Int) (a:Int):=by
 have h:=Nat.div_add_mod a p
 refine⟨-((a/p:Nat):Int),?_⟩
 have h':(p:Int)*((a/p:Nat):Int)+((a%p:Nat):Int)=(a:Int):=by exact_mod_cast h
 grind
theorem Cg.same{p a b:Nat}(h:Cg p (a:Int) (b:Int)):a%p=b%p:=by
 have:=Int.emod_eq_emod_iff_emod_sub_eq_zero.2 (Int.emod_eq_zero_of_dvd h)
 exact_mod_cast this
theorem Cg.eq{p a b:Nat}(h:Cg p (a:Int) (b:Int))(ha:a<p)(hb:b<p):a=b:=by
 have:=h.same
 rwa [Nat.mod_eq_of_lt ha,Nat.mod_eq_of_lt hb]at this
theorem Cg.self(p:Nat):Cg p (p:Int) 0:=⟨1,by omega⟩
theorem Cg.pow{p:Nat}{a b:Int}(h:Cg p a b)(n:Nat):Cg p (a^n) (b^n):=by
 induction n with
 |zero=>rw[Int.pow_zero,Int.pow_zero];exact Cg.refl _ _
 |succ n ih=>rw[Int.pow_succ,Int.pow_succ];exact ih.mul h
def sb(p a b:Nat):Nat:=(a%p+(p-b%p))%p
theorem Nr{p:Nat}(h:0<p)(a b:Nat):sb p a b<p:=Nat.mod_lt _ h
theorem qx{p:Nat}(h:0<p)(a b:Nat):Cg p (sb p a b:Int) ((a:Int)-(b:Int)):=by
 refine(Cg.mod p _).trans ?_
 have h2:=Nat.mod_lt b h
 have e:((a%p+(p-b%p):Nat):Int)=((a%p:Nat):Int)-((b%p:Nat):Int)+(p:Int):=by omega
 rw[e]
 have:=((Cg.mod p a).sub (Cg.mod p b)).add (Cg.self p)
 rwa [Int.add_zero]at this
theorem PD{p a b:Nat}(_h:0<p)(h2:b%p<=a%p):sb p a b=a%p-b%p:=by
 unfold sb
 have:=Nat.mod_lt a _h
 rw[show a%p+(p-b%p)=a%p-b%p+p by have:=Nat.mod_lt b _h;omega,Nat.add_mod_right,Nat.mod_eq_of_lt (by omega)]
theorem MA{p a b:Nat}(h:0<p)(h2:a%p<b%p):sb p a b=a%p+p-b%p:=by
 unfold sb
 have:=Nat.mod_lt b h
 rw[show a%p+(p-b%p)=a%p+p-b%p by omega,Nat.mod_eq_of_lt (by omega)]
def rd(p a:Nat):Nat:=a%p
def ad(p a b:Nat):Nat:=(a+b)%p
def ml(p a b:Nat):Nat:=a*b%p
theorem JV{p a b:Nat}(h:a%p+b%p<p):(a+b)%p=a%p+b%p:=by
 rw[Nat.add_mod,Nat.mod_eq_of_lt h]
theorem OY{p a b:Nat}(hp:0<p)(h:p<=a%p+b%p):(a+b)%p=a%p+b%p-p:=by
 have h1:=Nat.mod_lt a hp
 have h2:=Nat.mod_lt b hp
 rw[Nat.add_mod,Nat.mod_eq_sub_mod h,Nat.mod_eq_of_lt (by omega)]
def qC(p v:Nat):Nat:=v*((18446744073709551618-p*v%18446744073709551616)%18446744073709551616)%18446744073709551616
def pT(p:Nat):Nat->Nat
 |0=>p
 |k+1=>qC p (pT p k)
def iO(p:Nat):Nat:=pT p 5
theorem AL{p:Nat}(h:p<18446744073709551616):∀ k,pT p k<18446744073709551616
 |0=>h
 |_+1=>Nat.mod_lt _ (by omega)
theorem Jg(p v:Nat):Cg 18446744073709551616 (qC p v:Int) ((v:Int)*(2-(p:Int)*(v:Int))):=by
 unfold qC
 refine(Cg.mod _ _).trans ?_
 rw[Int.natCast_mul]
 refine(Cg.refl _ _).mul ((Cg.mod _ _).trans ?_)
 have h:=Nat.mod_lt (p*v) (show 0<18446744073709551616 by omega)
 have hm:=Cg.mod 18446744073709551616 (p*v)
 generalize p*v%18446744073709551616=x at *
 have e:((18446744073709551618-x:Nat):Int)=2-(x:Int)+((18446744073709551616:Nat):Int):=by omega
 rw[e]
 have:=((Cg.refl 18446744073709551616 2).sub hm).add (Cg.self 18446744073709551616)
 rwa [Int.add_zero,Int.natCast_mul]at this
theorem gU{p v m M:Nat}(h:(m:Int)∣(p:Int)*v-1)(hM:(M:Int)∣(m:Int)*m)(hB:(M:Int)∣18446744073709551616):(M:Int)∣(p:Int)*(qC p v:Nat)-1:=by
 obtain⟨x,hx⟩:=h
 obtain⟨y,hy⟩:=hM
 obtain⟨z,hz⟩:=hB
 obtain⟨t,ht⟩:=Jg p v
 generalize (qC p v:Int)=s at *
 have hz':((18446744073709551616:Nat):Int)=M*z:=hz
 rw[hz']at ht
 refine⟨(p:Int)*z*t-y*x*x,?_⟩
 have e1:s=(v:Int)*(2-(p:Int)*v)+M*z*t:=by omega
 have e2:((p:Int)*v-1)*((p:Int)*v-1)=M*(y*x*x):=by rw[hx];grind
 rw[e1]
 grind
theorem Ec{p:Nat}(h:p%2=1):((8:Nat):Int)∣(p:Int)*p-1:=by
 have e:p*p%8=1:=by
  rw[Nat.mul_mod]
  have:p%8=1\/p%8=3\/p%8=5\/p%8=7:=by omega
  rcases this with h|h|h|h<;>rw[h]
 have:=Nat.div_add_mod (p*p) 8
 refine⟨((p*p/8:Nat):Int),?_⟩
 have e2:(p:Int)*p=((p*p:Nat):Int):=(Int.natCast_mul p p).symm
 rw[e2]
 generalize p*p=q at *
 omega
theorem pS{p:Nat}(h:p%2=1):(18446744073709551616:Int)∣(p:Int)*(iO p:Nat)-1:=by
 have h0:=Ec h
 have h1:=gU (M:=64) h0 (by decide) (by decide)
 have h2:=gU (M:=4096) h1 (by decide) (by decide)
 have h3:=gU (M:=16777216) h2 (by decide) (by decide)
 have h4:=gU (M:=281474976710656) h3 (by decide) (by decide)
 exact gU (M:=18446744073709551616) h4 (by decide) (by decide)
def ib(p:Nat):Nat:=p-p*iO p/18446744073709551616
theorem nB{p:Nat}(h:p%2=1)(hp:p<18446744073709551616):Cg p ((ib p:Int)*18446744073709551616) 1:=by
 obtain⟨k,hk⟩:=pS h
 have hv:iO p<18446744073709551616:=AL hp 5
 have e1:p*iO p<p*18446744073709551616:=Nat.mul_lt_mul_of_pos_left hv (by omega)
 unfold ib
 have e2:(p:Int)*(iO p:Nat)=((p*iO p:Nat):Int):=(Int.natCast_mul _ _).symm
 refine⟨18446744073709551616-(iO p:Int),?_⟩
 rw[Int.mul_sub,e2]
 rw[e2]at hk
 generalize p*iO p=t at *
 have:k=((t/18446744073709551616:Nat):Int):=by omega
 omega
def mm(p a b:Nat):Nat:=a*b*ib p%p
def pw(p a n:Nat):Nat:=a^n%p
theorem su{p a b:Nat}(ha:a<p)(hb:b<p)(hp:p<=18446744073709551616):a*b/18446744073709551616<p:=by
 rw[Nat.div_lt_iff_lt_mul (by omega)]
 exact Nat.lt_of_lt_of_le (Nat.mul_lt_mul'' ha hb) (Nat.mul_le_mul_left _ hp)
theorem Lh{p a b lo q top hi:Nat}(h:p%2=1)(hp:p<18446744073709551616)(hhi:hi=(a%p)*(b%p)/18446744073709551616)(hlo:lo=(a%p)*(b%p)%18446744073709551616)
  (hq:q=lo*iO p%18446744073709551616) (ht:top=q*p/18446744073709551616):sb p hi top=a*b*ib p%p:=by
 have h0:0<p:=by omega
 refine Cg.eq (p:=p) ?_ (Nr h0 _ _) (Nat.mod_lt _ h0)
 refine(qx h0 _ _).trans (Cg.trans ?_ (Cg.mod p _).symm)
 have h1:=Nat.div_add_mod ((a%p)*(b%p)) 18446744073709551616
 rw[<-hhi, <-hlo]at h1
 have h2:=Nat.div_add_mod (q*p) 18446744073709551616
 have hlt:lo<18446744073709551616:=by rw[hlo];exact Nat.mod_lt _ (by omega)
 have hl:q*p%18446744073709551616=lo:=by
  have:Cg 18446744073709551616 ((q*p:Nat):Int) (lo:Int):=by
   rw[Int.natCast_mul]
   obtain⟨k,hk⟩:=pS h
   have hqc:Cg 18446744073709551616 (q:Int) ((lo:Int)*(iO p:Nat)):=by
    rw[hq, <-Int.natCast_mul];exact Cg.mod _ _
   obtain⟨x,hx⟩:=hqc
   refine⟨x*p+lo*k,?_⟩
   have e:((18446744073709551616:Nat):Int)=18446744073709551616:=rfl
   rw[e]at hx ⊢
   generalize (18446744073709551616:Int)=B at *
   grind
  have:=this.same
  rwa [Nat.mod_eq_of_lt hlt]at this
 rw[<-ht,hl]at h2
 have hab:Cg p (((a%p)*(b%p):Nat):Int) ((a*b:Nat):Int):=by
  rw[Int.natCast_mul,Int.natCast_mul];exact(Cg.mod p a).mul (Cg.mod p b)
 rw[<-h1]at hab
 -- (hi - top) B = a b - q p
 have key:Cg p (((hi:Int)-(top:Int))*18446744073709551616) ((a*b:Nat):Int):=by
  refine Cg.trans ?_ hab
  refine⟨-(q:Int),?_⟩
  have e2:(18446744073709551616:Int)*top+lo=(q:Int)*p:=by
   rw[<-Int.natCast_mul q p, <-h2];omega
  have e3:((18446744073709551616*hi+lo:Nat):Int)=18446744073709551616*(hi:Int)+lo:=by omega
  rw[e3]
  generalize (18446744073709551616:Int)=B at *
  grind
 have hib:=nB h hp
 have k2:=key.mul (Cg.refl p (ib p:Int))
 rw[Int.natCast_mul]
 refine Cg.trans ?_ k2
 have k3:=(Cg.refl p ((hi:Int)-(top:Int))).mul hib
 refine Cg.trans ?_ (k3.symm.trans (Cg.of_eq ?_))
 ·rw[Int.mul_one];exact Cg.refl _ _
 ·generalize (18446744073709551616:Int)=B at *
  grind
theorem Oq(p a b:Nat):(a%p)*(b%p)%p=a*b%p:=(Nat.mul_mod a b p).symm
theorem Lj{p:Nat}(a:Nat)(h:p%2=1)(hp:p<18446744073709551616):a*(18446744073709551616*18446744073709551616%p)*ib p%p=a*18446744073709551616%p:=by
 refine Cg.same ?_
 have hib:=nB h hp
 have h1:=Cg.mod p (18446744073709551616*18446744073709551616)
 rw[Int.natCast_mul,Int.natCast_mul]
 refine(((Cg.refl p (a:Int)).mul h1).mul (Cg.refl p _)).trans ?_
 rw[Int.natCast_mul a]
 have k:=(Cg.refl p ((a:Int)*18446744073709551616)).mul hib
 refine Cg.trans (Cg.of_eq ?_) (k.trans (Cg.of_eq ?_))
 ·have e:((18446744073709551616*18446744073709551616:Nat):Int)=18446744073709551616*18446744073709551616:=rfl
  rw[e]
  generalize (18446744073709551616:Int)=B at *
  grind
 ·rw[Int.mul_one];rfl
theorem DR{p:Nat}(a:Nat)(h:p%2=1)(hp:p<18446744073709551616):(a*18446744073709551616%p)*ib p%p=a%p:=by
 refine Cg.same ?_
 have hib:=nB h hp
 rw[Int.natCast_mul]
 refine((Cg.mod p _).mul (Cg.refl p _)).trans ?_
 have k:=(Cg.refl p (a:Int)).mul hib
 rw[Int.natCast_mul]
 refine Cg.trans (Cg.of_eq ?_) (k.trans (Cg.of_eq (Int.mul_one _)))
 have e:((18446744073709551616:Nat):Int)=18446744073709551616:=rfl
 rw[e]
 generalize (18446744073709551616:Int)=B at *
 grind
theorem DT{p:Nat}(a b:Nat)(h:p%2=1)(hp:p<18446744073709551616):(a*18446744073709551616%p)*(b*18446744073709551616%p)*ib p%p=a*b*18446744073709551616%p:=by
 refine Cg.same ?_
 have hib:=nB h hp
 rw[Int.natCast_mul,Int.natCast_mul]
 refine(((Cg.mod p _).mul (Cg.mod p _)).mul (Cg.refl p _)).trans ?_
 have k:=(Cg.refl p ((a:Int)*b*18446744073709551616)).mul hib
 rw[Int.natCast_mul,Int.natCast_mul,Int.natCast_mul,Int.natCast_mul]
 have e:((18446744073709551616:Nat):Int)=18446744073709551616:=rfl
 rw[e]
 refine Cg.trans (Cg.of_eq ?_) (k.trans (Cg.of_eq (Int.mul_one _)))
 generalize (18446744073709551616:Int)=B at *
 grind
def nX(p a N o s n:Nat):Prop:=∃ X Y,o=X*18446744073709551616%p/\s=Y*18446744073709551616%p/\X*Y^n%p=a^N%p
theorem pow_start(p a N:Nat):nX p a N (1*18446744073709551616%p) (a*18446744073709551616%p) N:=⟨1,a,rfl,rfl,by rw[Nat.one_mul]⟩
theorem oS{p:Nat}(X Y:Nat)(h:p%2=1)(hp:p<18446744073709551616):mm p (X*18446744073709551616%p) (Y*18446744073709551616%p)=X*Y*18446744073709551616%p:=DT X Y h hp
theorem sq_pow(Y n:Nat):(Y*Y)^n=Y^(2*n):=by rw[Nat.pow_mul,Nat.pow_two]
theorem pow_odd{p a N o s n:Nat}(h:p%2=1)(hp:p<18446744073709551616)(H:nX p a N o s n)(hn:n%2=1):nX p a N (mm p o s) (mm p s s) (n/2):=by
 obtain⟨X,Y,rfl,rfl,e⟩:=H
 refine⟨X*Y,Y*Y,oS X Y h hp,oS Y Y h hp,?_⟩
 rw[<-e,sq_pow,Nat.mul_assoc X Y, <-Nat.pow_succ']
 have:(2*(n/2)).succ=n:=by omega
 rw[this]
theorem pow_even{p a N o s n:Nat}(h:p%2=1)(hp:p<18446744073709551616)(H:nX p a N o s n)(hn:¬n%2=1):nX p a N o (mm p s s) (n/2):=by
 obtain⟨X,Y,rfl,rfl,e⟩:=H
 refine⟨X,Y*Y,rfl,oS Y Y h hp,?_⟩
 rw[<-e,sq_pow]
 have:2*(n/2)=n:=by omega
 rw[this]
theorem pow_end{p a N o s:Nat}(h:p%2=1)(hp:p<18446744073709551616)(H:nX p a N o s 0):mm p o 1=pw p a N:=by
 obtain⟨X,Y,rfl,rfl,e⟩:=H
 unfold mm pw
 rw[Nat.mul_one,DR X h hp, <-e,Nat.pow_zero,Nat.mul_one]
def FO(p a up lo ut t:Nat):Prop:=Cg p (up:Int) ((ut:Int)*a)/\Cg p (lo:Int) ((t:Int)*a)/\Nat.gcd up lo=Nat.gcd a p/\ut<p/\t<p
theorem GU{p:Nat}(a:Nat)(h:3<=p):FO p a p (rd p a) 0 1:=by
 refine⟨?_,?_,?_,by omega,by omega⟩
 ·rw[show((0:Nat):Int)*(a:Int)=0 by simp];exact Cg.self p
 ·rw[show((1:Nat):Int)*(a:Int)=(a:Int) by simp];exact Cg.mod p a
 ·show Nat.gcd p (a%p)=Nat.gcd a p
  rw[Nat.gcd_comm p (a%p), <-Nat.gcd_rec,Nat.gcd_comm]
theorem KB{p a up lo ut t:Nat}(h:0<p)(H:FO p a up lo ut t):FO p a lo (up%lo) t (sb p ut (ml p (up/lo) t)):=by
 obtain⟨h1,h2,h3,h4,h5⟩:=H
 refine⟨h2,?_,?_,h5,Nr h _ _⟩
 ·have e:=Nat.div_add_mod up lo
  have e':((up%lo:Nat):Int)=(up:Int)-(lo:Int)*((up/lo:Nat):Int):=by
   have:((lo*(up/lo)+up%lo:Nat):Int)=(up:Int):=by rw[e]
   rw[Int.natCast_add,Int.natCast_mul]at this
   omega
  rw[e']
  have k1:=(qx h ut (ml p (up/lo) t)).mul (Cg.refl p (a:Int))
  have k2:Cg p (ml p (up/lo) t:Int) (((up/lo:Nat):Int)*(t:Int)):=by
   rw[<-Int.natCast_mul];exact Cg.mod p _
  have k3:=((Cg.refl p (ut:Int)).sub k2).mul (Cg.refl p (a:Int))
  refine Cg.trans ?_ (k1.trans k3).symm
  refine Cg.trans (h1.sub (h2.mul (Cg.refl p ((up/lo:Nat):Int)))) (Cg.of_eq ?_)
  generalize ((up/lo:Nat):Int)=q
  generalize (ut:Int)=u
  generalize (t:Int)=v
  generalize (a:Int)=b
  grind
 ·rw[<-h3,Nat.gcd_comm up lo,Nat.gcd_rec lo up,Nat.gcd_comm]
theorem NZ{p a up ut t:Nat}(h:3<=p)(H:FO p a up 0 ut t):up=Nat.gcd a p/\(up=1->ut<p/\ml p a ut=1):=by
 obtain⟨h1,_,h3,h4,_⟩:=H
 rw[Nat.gcd_zero_right]at h3
 refine⟨h3,fun e=>⟨h4,?_⟩⟩
 subst e
 have:Cg p ((1:Nat):Int) ((ut*a:Nat):Int):=by rw[Int.natCast_mul];exact h1
 have:=this.same
 unfold ml
 rw[Nat.mul_comm, <-this,Nat.mod_eq_of_lt (by omega)]
end Go.Proofs.YtpdpnomocbehkaaGreatDoor
/- The pieces of a product,in plain numbers:what they cost together,and how many of them are remembered. -/
namespace Go.Proofs.YtpdpnomocbehkaaGreatDoor
def vq(q:Bool)(B T N n m:Nat):Nat:=if q then P9 B T N n else eQ B T N n m
def st(n:Nat):Nat:=if n<4 then 0 else n*n
end Go.Proofs.YtpdpnomocbehkaaGreatDoor
/- Transforms modulo p:plain mathematics. Nothing of any program here. -/
namespace Go.Proofs.YtpdpnomocbehkaaGreatDoor
def sI:Nat->(Nat->Int)->Int
 |0,_=>0
 |n+1,f=>sI n f+f n
theorem aC{n:Nat}{f g:Nat->Int}(h:∀ j,j<n->f j=g j):sI n f=sI n g:=by
 induction n with
 |zero=>rfl
 |succ n ih=>show sI n f+f n=sI n g+g n;rw[ih fun j hj=>h j (by omega),h n (by omega)]
theorem jV{p n:Nat}{f g:Nat->Int}(h:∀ j,j<n->Cg p (f j) (g j)):Cg p (sI n f) (sI n g):=by
 induction n with
 |zero=>exact Cg.refl _ _
 |succ n ih=>exact(ih fun j hj=>h j (by omega)).add (h n (by omega))
theorem I7(n:Nat)(f g:Nat->Int):sI n (fun j=>f j+g j)=sI n f+sI n g:=by
 induction n with
 |zero=>rfl
 |succ n ih=>show sI n (fun j=>f j+g j)+(f n+g n)=_;rw[ih];show _=sI n f+f n+(sI n g+g n);omega
theorem gQ(n:Nat)(c:Int)(f:Nat->Int):sI n (fun j=>c*f j)=c*sI n f:=by
 induction n with
 |zero=>exact(Int.mul_zero c).symm
 |succ n ih=>show sI n (fun j=>c*f j)+c*f n=c*(sI n f+f n);rw[ih,Int.mul_add]
theorem mL(n:Nat):sI n (fun _=>0)=0:=by
 induction n with
 |zero=>rfl
 |succ n ih=>show sI n (fun _=>0)+0=0;rw[ih];rfl
theorem OI(n:Nat):sI n (fun _=>1)=(n:Int):=by
 induction n with
 |zero=>rfl
 |succ n ih=>show sI n (fun _=>1)+1=((n+1:Nat):Int);rw[ih];omega
theorem uK(m n:Nat)(f:Nat->Int):sI (m+n) f=sI m f+sI n (fun j=>f (m+j)):=by
 induction n with
 |zero=>show sI m f=sI m f+0;omega
 |succ n ih=>show sI (m+n) f+f (m+n)=sI m f+(sI n (fun j=>f (m+j))+f (m+n));rw[ih];omega
theorem I9(n:Nat)(f:Nat->Int):sI (2*n) f=sI n (fun j=>f (2*j))+sI n (fun j=>f (2*j+1)):=by
 induction n with
 |zero=>rfl
 |succ n ih=>
  show sI (2*n) f+f (2*n)+f (2*n+1)=sI n (fun j=>f (2*j))+f (2*n)+(sI n (fun j=>f (2*j+1))+f (2*n+1))
  rw[ih];omega
theorem mK(m n:Nat)(f:Nat->Nat->Int):sI m (fun i=>sI n (fun j=>f i j))=sI n (fun j=>sI m (fun i=>f i j)):=by
 induction m with
 |zero=>exact(mL n).symm
 |succ m ih=>
  show sI m (fun i=>sI n fun j=>f i j)+sI n (fun j=>f m j)=sI n (fun j=>sI m (fun i=>f i j)+f m j)
  rw[ih,I7]
theorem uL(n i:Nat)(c:Int)(h:i<n):sI n (fun j=>if j=i then c else 0)=c:=by
 induction n with
 |zero=>omega
 |succ n ih=>
  show sI n (fun j=>if j=i then c else 0)+(if n=i then c else 0)=c
  by_cases hi:n=i
  ·subst hi
   rw[if_pos rfl,aC (g:=fun _=>0) fun j hj=>if_neg (by omega),mL]
   omega
  ·rw[if_neg hi,ih (by omega)];omega
theorem ep(w:Int)(m:Nat):w^(2*m)=(w*w)^m:=by
 rw[Int.pow_mul,Int.pow_succ,Int.pow_succ,Int.pow_zero,Int.one_mul]
def ic(w:Int)(n:Nat)(a:Nat->Int)(k:Nat):Int:=sI n fun j=>a j*w^(j*k)
theorem NW{p n k:Nat}{w v:Int}{a b:Nat->Int}(hw:Cg p w v)(h:∀ j,j<n->Cg p (a j) (b j)):Cg p (ic w n a k) (ic v n b k):=
 jV fun j hj=>(h j hj).mul (hw.pow _)
theorem rP(w:Int)(n:Nat)(a:Nat->Int)(k:Nat):
  ic w (2*n) a k=ic (w*w) n (fun j=>a (2*j)) k+w^k*ic (w*w) n (fun j=>a (2*j+1)) k:=by
 unfold ic
 rw[I9, <-gQ]
 congr 1
 ·exact aC fun j _=>by rw[Nat.mul_assoc,ep]
 ·refine aC fun j _=>?_
  rw[Nat.add_mul,Nat.one_mul,Int.pow_add,Nat.mul_assoc,ep]
  grind
theorem gK{p:Nat}{w:Int}{m:Nat}(h:Cg p (w^m) 1)(j:Nat):Cg p (w^(j*m)) 1:=by
 rw[Nat.mul_comm,Int.pow_mul]
 have:=h.pow j
 rwa [Int.one_pow]at this
theorem rO{p:Nat}{w:Int}{n:Nat}(h:Cg p (w^n) 1)(a:Nat->Int)(k:Nat):Cg p (ic w n a (k+n)) (ic w n a k):=by
 refine jV fun j _=>(Cg.refl p (a j)).mul ?_
 rw[Nat.mul_add,Int.pow_add]
 have:=(Cg.refl p (w^(j*k))).mul (gK h j)
 rwa [Int.mul_one]at this
theorem Jc{p:Nat}{w:Int}{n:Nat}(h:Cg p (w^n) (-1)):Cg p ((w*w)^n) 1:=by
 rw[<-ep,Nat.mul_comm,Int.pow_mul]
 have:=h.pow 2
 rwa [show(-1:Int)^2=1 from rfl]at this
theorem Ku{p:Nat}{w:Int}(n:Nat)(a:Nat->Int)(k:Nat):Cg p (ic w (2*n) a k) (ic (w*w) n (fun j=>a (2*j)) k+w^k*ic (w*w) n (fun j=>a (2*j+1)) k):=Cg.of_eq (rP w n a k)
theorem GA{p:Nat}{w:Int}{n:Nat}(h:Cg p (w^n) (-1))(a:Nat->Int)(k:Nat):Cg p (ic w (2*n) a (k+n)) (ic (w*w) n (fun j=>a (2*j)) k-w^k*ic (w*w) n (fun j=>a (2*j+1)) k):=by
 rw[rP]
 have h1:=rO (Jc h) (fun j=>a (2*j)) k
 have h2:=rO (Jc h) (fun j=>a (2*j+1)) k
 have h3:Cg p (w^(k+n)) (-(w^k)):=by
  rw[Int.pow_add]
  have:=(Cg.refl p (w^k)).mul h
  rwa [Int.mul_neg,Int.mul_one]at this
 refine(h1.add (h3.mul h2)).trans (Cg.of_eq ?_)
 grind
def Rt(p:Nat)(w:Int):Nat->Prop
 |0=>Cg p w 1
 |l+1=>Cg p (w^2^l) (-1)
theorem Rt.sq{p:Nat}{w:Int}{l:Nat}(h:Rt p w (l+1)):Rt p (w*w) l:=by
 cases l with
 |zero=>
  have h1:Cg p (w^2^0) (-1):=h
  rw[Nat.pow_zero,Int.pow_succ,Int.pow_zero,Int.one_mul]at h1
  have:=h1.mul h1
  exact this
 |succ l=>
  show Cg p ((w*w)^2^l) (-1)
  have h1:Cg p (w^2^(l+1)) (-1):=h
  rw[Nat.pow_succ,Nat.mul_comm,ep]at h1
  exact h1
theorem Rt.one{p:Nat}{w:Int}:∀ {l:Nat},Rt p w l->Cg p (w^2^l) 1
 |0,h=>by rw[Nat.pow_zero,Int.pow_succ,Int.pow_zero,Int.one_mul];exact h
 |l+1,h=>by
  have h1:=Rt.one h.sq
  rw[Nat.pow_succ,Nat.mul_comm,ep]
  exact h1
theorem lN{p:Nat}:∀(l m:Nat) (w:Int),Rt p w l->m<2^l->0<m->Cg p (sI (2^l) fun k=>w^(k*m)) 0
 |0,m,_,_,h1,h2=>by simp at h1;omega
 |l+1,m,w,h,h1,h2=>by
  have hh:Cg p (w^2^l) (-1):=h
  by_cases ho:m%2=1
  ·-- the halves are opposite
   rw[Nat.pow_succ,Nat.mul_comm,Nat.two_mul,uK, <-I7]
   have:∀ k,k<2^l->Cg p (w^(k*m)+w^((2^l+k)*m)) 0:=fun k _=>by
    have e:w^((2^l+k)*m)=(w^2^l)^m*w^(k*m):=by rw[Nat.add_mul,Int.pow_add, <-Int.pow_mul]
    have hm:(-1:Int)^m= -1:=by
     obtain⟨q,rfl⟩:∃ q,m=2*q+1:=⟨m/2,by omega⟩
     rw[Int.pow_succ,Int.pow_mul,show(-1:Int)^2=1 from rfl,Int.one_pow,Int.one_mul]
    have h3:=hh.pow m
    rw[hm]at h3
    rw[e]
    refine((Cg.refl p _).add (h3.mul (Cg.refl p (w^(k*m))))).trans (Cg.of_eq ?_)
    omega
   refine(jV this).trans (Cg.of_eq (mL _))
  ·obtain⟨q,rfl⟩:∃ q,m=2*q:=⟨m/2,by omega⟩
   have ih:=lN l q (w*w) h.sq (by rw[Nat.pow_succ]at h1;omega) (by omega)
   rw[Nat.pow_succ,Nat.mul_comm,Nat.two_mul,uK]
   have e1:∀ k,w^(k*(2*q))=(w*w)^(k*q):=fun k=>by rw[Nat.mul_left_comm,ep]
   have h4:Cg p (sI (2^l) fun k=>w^(k*(2*q))) 0:=by
    refine Cg.trans (Cg.of_eq (aC fun k _=>e1 k)) ih
   have h5:Cg p (sI (2^l) fun k=>w^((2^l+k)*(2*q))) 0:=by
    refine Cg.trans (jV fun k _=>?_) ih
    rw[e1,Nat.add_mul,Int.pow_add]
    have:=(gK (Rt.one h.sq) q)
    rw[Nat.mul_comm]at this
    have h6:=this.mul (Cg.refl p ((w*w)^(k*q)))
    rwa [Int.one_mul]at h6
   have:=h4.add h5
   rwa [Int.add_zero]at this
theorem mj{p:Nat}{w v:Int}(h:Cg p (w*v) 1)(n:Nat):Cg p (w^n*v^n) 1:=by
 rw[<-Int.mul_pow]
 have:=h.pow n
 rwa [Int.one_pow]at this
theorem Gz{p:Nat}{w v:Int}{l:Nat}(h:Rt p w l)(hv:Cg p (w*v) 1)(a:Nat->Int)(i:Nat)(hi:i<2^l):
  Cg p (ic v (2^l) (ic w (2^l) a) i) (((2^l:Nat):Int)*a i):=by
 -- the inner sums: j = i gives N, all else nothing
 have key:∀ j,j<2^l->Cg p (sI (2^l) fun k=>w^(j*k)*v^(k*i)) (if j=i then ((2^l:Nat):Int) else 0):=fun j hj=>by
  by_cases hji:j=i
  ·subst hji
   rw[if_pos rfl]
   refine(jV fun k _=>?_).trans (Cg.of_eq (OI _))
   rw[Nat.mul_comm k j]
   exact mj hv _
  ·rw[if_neg hji]
   by_cases hlt:i<j
   ·refine Cg.trans (jV fun k _=>?_) (lN l (j-i) w h (by omega) (by omega))
    have e:w^(j*k)=w^(k*(j-i))*w^(k*i):=by
     rw[<-Int.pow_add, <-Nat.mul_add,Nat.mul_comm]
     congr 2
     omega
    rw[e,Int.mul_assoc]
    have:=(Cg.refl p (w^(k*(j-i)))).mul (mj hv (k*i))
    rwa [Int.mul_one]at this
   ·-- by the inverse
    have hr:Cg p (sI (2^l) fun k=>w^(k*(2^l-(i-j)))) 0:=lN l (2^l-(i-j)) w h (by omega) (by omega)
    refine Cg.trans (jV fun k _=>?_) hr
    have e:v^(k*i)=v^(k*(i-j))*v^(k*j):=by
     rw[<-Int.pow_add, <-Nat.mul_add]
     congr 2
     omega
    have h1:Cg p (w^(j*k)*v^(k*i)) (v^(k*(i-j))):=by
     rw[e,Nat.mul_comm j k]
     have:=(mj hv (k*j)).mul (Cg.refl p (v^(k*(i-j))))
     rw[Int.one_mul]at this
     refine Cg.trans (Cg.of_eq ?_) this
     grind
    refine h1.trans ?_
    have h2:Cg p (w^(k*(2^l-(i-j)))*w^(k*(i-j))) 1:=by
     rw[<-Int.pow_add, <-Nat.mul_add,show 2^l-(i-j)+(i-j)=2^l by omega]
     exact gK h.one k
    have h3:=h2.mul (Cg.refl p (v^(k*(i-j))))
    rw[Int.one_mul]at h3
    refine h3.symm.trans ?_
    rw[Int.mul_assoc]
    have:=(Cg.refl p (w^(k*(2^l-(i-j))))).mul (mj hv (k*(i-j)))
    rwa [Int.mul_one]at this
 have e:ic v (2^l) (ic w (2^l) a) i=sI (2^l) fun j=>a j*sI (2^l) fun k=>w^(j*k)*v^(k*i):=by
  unfold ic
  have:∀ k,(sI (2^l) fun j=>a j*w^(j*k))*v^(k*i)=sI (2^l) fun j=>a j*(w^(j*k)*v^(k*i)):=fun k=>by
   rw[Int.mul_comm, <-gQ]
   exact aC fun j _=>by grind
  rw[aC fun k _=>this k,mK]
  exact aC fun j _=>gQ _ _ _
 rw[e]
 refine(jV fun j hj=>(Cg.refl p (a j)).mul (key j hj)).trans (Cg.of_eq ?_)
 rw[aC (g:=fun j=>if j=i then a i*((2^l:Nat):Int) else 0) fun j _=>?_,uL _ _ _ hi,Int.mul_comm]
 by_cases hji:j=i
 ·rw[if_pos hji,if_pos hji,hji]
 ·rw[if_neg hji,if_neg hji,Int.mul_zero]
def NT(n:Nat)(a b:Nat->Int)(k:Nat):Int:=sI n fun i=>sI n fun j=>if (i+j)%n=k then a i*b j else 0
theorem Kt{p:Nat}{w:Int}{n:Nat}(h:Cg p (w^n) 1)(hn:0<n)(a b:Nat->Int)(k:Nat):Cg p (ic w n a k*ic w n b k) (ic w n (NT n a b) k):=by
 have e:ic w n (NT n a b) k=sI n fun i=>sI n fun j=>a i*b j*w^((i+j)%n*k):=by
  unfold ic NT
  have:∀ m,(sI n fun i=>sI n fun j=>if (i+j)%n=m then a i*b j else 0)*w^(m*k)=sI n fun i=>sI n fun j=>if m=(i+j)%n then a i*b j*w^((i+j)%n*k) else 0:=fun m=>by
   rw[Int.mul_comm, <-gQ]
   refine aC fun i _=>?_
   rw[<-gQ]
   refine aC fun j _=>?_
   by_cases hm:(i+j)%n=m
   ·rw[if_pos hm,if_pos hm.symm,hm,Int.mul_comm]
   ·rw[if_neg hm,if_neg (fun h=>hm h.symm),Int.mul_zero]
  rw[aC fun m _=>this m,mK]
  refine aC fun i _=>?_
  rw[mK]
  refine aC fun j _=>?_
  exact uL n _ _ (Nat.mod_lt _ hn)
 rw[e]
 have e2:ic w n a k*ic w n b k=sI n fun i=>sI n fun j=>a i*b j*w^((i+j)*k):=by
  unfold ic
  rw[Int.mul_comm, <-gQ]
  refine aC fun i _=>?_
  rw[Int.mul_comm, <-gQ]
  refine aC fun j _=>?_
  rw[Nat.add_mul,Int.pow_add]
  grind
 rw[e2]
 refine jV fun i _=>jV fun j _=>(Cg.refl p (a i*b j)).mul ?_
 have hd:=Nat.div_add_mod (i+j) n
 have e3:w^((i+j)*k)=w^((i+j)/n*k*n)*w^((i+j)%n*k):=by
  rw[<-Int.pow_add]
  congr 1
  conv=>lhs;rw[<-hd]
  rw[Nat.add_mul]
  congr 1
  rw[Nat.mul_comm n,Nat.mul_assoc,Nat.mul_comm n k, <-Nat.mul_assoc]
 rw[e3]
 have:=(gK h ((i+j)/n*k)).mul (Cg.refl p (w^((i+j)%n*k)))
 rwa [Int.one_mul]at this
end Go.Proofs.YtpdpnomocbehkaaGreatDoor
