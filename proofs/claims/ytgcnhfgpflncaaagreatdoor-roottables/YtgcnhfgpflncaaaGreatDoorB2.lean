/- Primes of a word: plain mathematics. Nothing of any program here. -/
import Derived.Test.YtgcnhfgpflncaaaGreatDoorB1
import Derived.Lib.TrailingZeros
namespace Go.Proofs.YtgcnhfgpflncaaaGreatDoor
def bases:List Nat:=[2,3,5,7,11,13,17,19,23,29,31,37]
def bs(k:Nat):Nat:=bases.getD k 0
theorem lO:∀ k,k<12->2<=bs k/\bs k<=37:=by decide
def sp(n:Nat):Nat->Nat->Bool
 |0,_=>false
 |k+1,x=>decide (x=n-1)||sp n k (ml n x x)
def tw(n:Nat):Nat:=Lib.ctz 64 (n-1)
def od(n:Nat):Nat:=(n-1)/2^tw n
def pass(n b:Nat):Bool:=decide (pw n b (od n)=1)||sp n (tw n) (pw n b (od n))
def isP(n:Nat):Bool:=decide (2<=n)&&(match bases.find? (fun b=>decide (n%b=0))with|some b=>decide (n=b)|none=>bases.all (pass n))
theorem pe{p:Nat->Bool}:∀(l:List Nat) (k:Nat),k<l.length->(∀ j,j<k->p (l.getD j 0)=false)->p (l.getD k 0)=true->l.find? p=some (l.getD k 0)
 |[],k,h,_,_=>by simp at h
 |x :: l,0,_,_,h=>by simp at h;simp[h]
 |x :: l,k+1,hk,hb,h=>by
  have h0:p x=false:=by simpa using hb 0 (by omega)
  rw[List.find?_cons,h0]
  have:=pe l k (by simpa using hk) (fun j hj=>by simpa using hb (j+1) (by omega)) (by simpa using h)
  simpa using this
theorem rj{p:Nat->Bool}(l:List Nat)(h:∀ j,j<l.length->p (l.getD j 0)=false):l.find? p=none:=by
 rw[List.find?_eq_none]
 intro x hx
 obtain⟨j,hj,rfl⟩:=List.getElem_of_mem hx
 have:=h j hj
 simp[List.getD,hj]at this
 simp[this]
theorem NN{p:Nat->Bool}(l:List Nat)(h:∀ j,j<l.length->p (l.getD j 0)=true):l.all p=true:=by
 rw[List.all_eq_true]
 intro x hx
 obtain⟨j,hj,rfl⟩:=List.getElem_of_mem hx
 have:=h j hj
 simpa [List.getD,hj]using this
theorem JX{p:Nat->Bool}(l:List Nat)(k:Nat)(hk:k<l.length)(h:p (l.getD k 0)=false):l.all p=false:=by
 rw[List.all_eq_false]
 exact⟨l.getD k 0,by simp[List.getD,hk],by rw[h];exact Bool.false_ne_true⟩
theorem KR{n:Nat}(h:n<2):isP n=false:=by
 unfold isP
 rw[decide_eq_false (by omega)];rfl
theorem KQ{n k:Nat}(h2:2<=n)(hk:k<12)(hb:∀ j,j<k->¬n%bs j=0)(h:n%bs k=0):isP n=decide (n=bs k):=by
 unfold isP
 rw[pe bases k hk (fun j hj=>decide_eq_false (hb j hj)) (decide_eq_true h),decide_eq_true h2]
 rfl
theorem G8{n k:Nat}(hb:∀ j,j<12->¬n%bs j=0)(hk:k<12)(h:pass n (bs k)=false):isP n=false:=by
 unfold isP
 rw[rj bases (fun j hj=>decide_eq_false (hb j hj))]
 show(_&&bases.all (pass n))=false
 rw[JX bases k hk h,Bool.and_false]
theorem oq{n:Nat}(h2:2<=n)(hb:∀ j,j<12->¬n%bs j=0)(h:∀ j,j<12->pass n (bs j)=true):isP n=true:=by
 unfold isP
 rw[rj bases (fun j hj=>decide_eq_false (hb j hj)),decide_eq_true h2]
 show(true&&bases.all (pass n))=true
 rw[NN bases h];rfl
theorem Lj{n:Nat}(h2:2<=n)(hb:∀ j,j<12->¬n%bs j=0):n%2=1/\37<n:=by
 have e0:¬n%2=0:=hb 0 (by omega)
 refine⟨by omega,Nat.lt_of_not_le fun hle=>?_⟩
 have H:∀ n,n<38->2<=n->(∀ j,j<12->¬n%bs j=0)->False:=by decide
 exact H n (by omega) h2 hb
theorem uj{n:Nat}(h1:1<n)(h:n<18446744073709551616):tw n<64/\od n%2=1/\od n*2^tw n=n-1:=by
 obtain⟨m,hm,hk⟩:=Lib.ctzFrom_spec 64 (n-1) (by omega) (by omega)
 have e:tw n=Lib.ctzFrom 64 (n-1):=by unfold tw Lib.ctz;rw[if_neg (by omega)]
 have e2:od n=2*m+1:=by
  unfold od
  rw[e]
  conv=>lhs;lhs;rw[hm]
  rw[Nat.mul_div_cancel_left _ (Nat.pow_pos (by omega))]
 rw[e,e2]
 refine⟨hk,by omega,?_⟩
 rw[Nat.mul_comm];exact hm.symm
def sJ(n A K o s k:Nat):Prop:=o<n/\s<n/\o*s^k%n=A^K%n
theorem pL{n A:Nat}(K:Nat)(h1:1<n)(hA:A<n):sJ n A K 1 A K:=⟨h1,hA,by rw[Nat.one_mul]⟩
theorem wI{n A K o s k:Nat}(H:sJ n A K o s k)(hk:k%2=1):sJ n A K (ml n o s) (ml n s s) (k/2):=by
 obtain⟨h1,h2,h3⟩:=H
 refine⟨Nat.mod_lt _ (by omega),Nat.mod_lt _ (by omega),?_⟩
 rw[<-h3]
 unfold ml
 rw[Nat.mul_mod,Nat.mod_mod, <-Nat.pow_mod, <-Nat.mul_mod,sq_pow,Nat.mul_assoc, <-Nat.pow_succ']
 have:(2*(k/2)).succ=k:=by omega
 rw[this]
theorem rP{n A K o s k:Nat}(H:sJ n A K o s k)(hk:¬k%2=1):sJ n A K o (ml n s s) (k/2):=by
 obtain⟨h1,h2,h3⟩:=H
 refine⟨h1,Nat.mod_lt _ (by omega),?_⟩
 rw[<-h3]
 unfold ml
 rw[Nat.mul_mod, <-Nat.pow_mod, <-Nat.mul_mod,sq_pow]
 have:2*(k/2)=k:=by omega
 rw[this]
theorem pK{n A K o s:Nat}(H:sJ n A K o s 0):o=pw n A K:=by
 obtain⟨h1,_,h3⟩:=H
 rw[Nat.pow_zero,Nat.mul_one,Nat.mod_eq_of_lt h1]at h3
 exact h3
def pm(n:Nat):Nat->Nat->Nat->Nat->Nat
 |0,o,_,_=>o
 |f+1,o,s,k=>if k=0 then o else if k%2=1 then pm n f (o*s%n) (s*s%n) (k/2) else pm n f o (s*s%n) (k/2)
theorem Iu{n A K:Nat}:∀(f o s k:Nat),k<2^f->sJ n A K o s k->pm n f o s k=pw n A K
 |0,o,s,k,hk,H=>by
  obtain rfl:k=0:=by simpa using hk
  exact pK H
 |f+1,o,s,k,hk,H=>by
  unfold pm
  rw[Nat.pow_succ]at hk
  split
  ·rename_i h0
   subst h0
   exact pK H
  ·split
   ·rename_i h1
    exact Iu f _ _ _ (by omega) (wI H h1)
   ·rename_i h1
    exact Iu f _ _ _ (by omega) (rP H h1)
theorem mg{n A K f:Nat}(h1:1<n)(hA:A<n)(hf:K<2^f):pw n A K=pm n f 1 A K:=(Iu f 1 A K hf (pL K h1 hA)).symm
def Fv(p:Nat):Prop:=p%2=1/\3<=p/\p<4611686018427387904
structure qS(p X:Nat):Prop where
 two:2<=X
 lt:X<18446744073709551616
 hit:pw p X ((p-1)/2)=p-1
 first:∀ y,2<=y->y<X->¬pw p y ((p-1)/2)=p-1
end Go.Proofs.YtgcnhfgpflncaaaGreatDoor
