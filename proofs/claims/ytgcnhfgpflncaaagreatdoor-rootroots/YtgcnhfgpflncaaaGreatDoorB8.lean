/- A region that draws its order, whose calls make memory and leave what was: one walk, in the order of the text. -/
import Derived.Test.YtgcnhfgpflncaaaGreatDoorB7
import Derived.Deep.QuietTactic
import Derived.BigQuiet
import Derived.StillTail
namespace Go.Proofs.YtgcnhfgpflncaaaGreatDoor
open Go.RowKit
structure cH(W:World) where
 val:World
 old:Below W.heap.size W val
theorem bD(W:World):Nonempty (cH W):=⟨⟨W,Below.refl _ _⟩⟩
theorem bn{P:Program}{id:Nat}{Q:Exit->Act->World->Prop}{a:Act}{W:World}{l:List Oper}(hm:P.follows .mixedOrders=true)(hB:Region.lexB .any l.toArray=true)
  (h:wpQuiet P l.toArray (fun w'=>∃ u:cH W,w'=u.val) (fun a'=>∀ w',(∃ u:cH W,w'=u.val)->Q .normal a' w') l a):(Code.region id l.toArray true).wp P Q a W:=
 wp_region_quiet (C:=fun w'=>∃ u:cH W,w'=u.val) hm hB ⟨⟨W.drew,(Below.refl _ _).drew⟩,rfl⟩ (by simpa using h)
theorem Calls.old{P:Program}{f:FuncId}{args:Array Value}{W:World}{u:cH W}{v:Value}(h:Calls P f args u.val fun e w'=>e=.returned v/\Below u.val.heap.size u.val w'):
  Calls P f args u.val fun e w''=>e=.returned v/\∃ u':cH W,w''=u'.val:=
 h.mono fun _ w' ⟨he,hb⟩=>⟨he,⟨w',ag u.old hb⟩,rfl⟩
theorem Calls.old_same{P:Program}{f:FuncId}{args:Array Value}{W:World}{u:cH W}{v:Value}(h:Calls P f args u.val fun e w'=>e=.returned v/\w'=u.val):
  Calls P f args u.val fun e w''=>e=.returned v/\∃ u':cH W,w''=u'.val:=
 h.mono fun _ _ ⟨he,hb⟩=>⟨he,u,hb⟩
theorem cH.cell{W:World}{p:Addr}{v:Value}(h:W.cell? p=some v)(u:cH W):u.val.cell? p=some v:=(u.old.cell (World.block_lt_of_cell? _ _ h)).trans h
end Go.Proofs.YtgcnhfgpflncaaaGreatDoor
/- A region that draws its order,whose first n operations come up ahead of all others:one walk of the first,in the order of the text;then whatever order of the rest. -/
namespace Go.Proofs.YtgcnhfgpflncaaaGreatDoor
open Go.RowKit
def canon(n g:Nat):Array Bool:=(List.replicate n true++List.replicate g false).toArray
structure nQ(ops:Array Oper)(n:Nat)(lh lf:Array Bool):Prop where
 sh:lh.size=n
 sf:lf.size=ops.size
 low:∀ i,i<n->lf[i]?=lh[i]?
 high:∀ t,n<=t->t<ops.size->lf[t]?=some false
def Shut(md:Region.Mode)(ops:Array Oper)(lh:Array Bool):Prop:=∀(j:Nat) (oj:Oper),ops[j]?=some oj->lh[j]?=some true->∀ e ∈ oj.after,Region.binds md e=true->lh[e.on]?=some true
theorem ic{l:Array Bool}{i:Nat}:l.getD i true=false↔l[i]?=some false:=by
 rw[Array.getD_eq_getD_getElem?]
 cases h:l[i]? with
 |none=>simp
 |some b=>simp
theorem fl{l:Array Bool}{i:Nat}:l.getD i false=true↔l[i]?=some true:=by
 rw[Array.getD_eq_getD_getElem?]
 cases h:l[i]? with
 |none=>simp
 |some b=>simp
theorem Eo{l:Array Bool}{i:Nat}(h:i<l.size):l[i]?=some true\/l[i]?=some false:=by
 cases hb:l[i]'h
 ·exact .inr (by rw[Array.getElem?_eq_getElem h,hb])
 ·exact .inl (by rw[Array.getElem?_eq_getElem h,hb])
structure nB(md:Region.Mode)(ops:Array Oper)(n:Nat):Prop where
 le:n<=ops.size
 back:∀ i,i<n->∀ o,ops[i]?=some o->∀ e ∈ o.after,Region.binds md e=true->e.on<i
 guard:∀ i,i<n->∀ o,ops[i]?=some o->∀ g b,o.guard=some (g,b)->g<n
 bar:∀ lh lf,nQ ops n lh lf->Shut md ops lh->∀ i,i ∈ Region.ready md ops lf->n<=i->∀ k,k<n->lh[k]?=some true
theorem nQ.up_lt{ops:Array Oper}{n:Nat}{lh lf:Array Bool}(B:nQ ops n lh lf){j:Nat}(h:lf[j]?=some true):j<n:=by
 apply Nat.lt_of_not_le
 intro hle
 have hjs:j<ops.size:=by rw[<-B.sf];exact(Array.getElem?_eq_some_iff.1 h).1
 rw[B.high j hle hjs]at h
 cases h
theorem O2{md:Region.Mode}{ops:Array Oper}{n:Nat}{lh:Array Bool}(S:Shut md ops lh)(hs:∀ i,i<n->lh[i]?=some true\/∃ j,i<j/\j<n/\Region.waitsFor md ops j i=true):
  ∀ d i,n-1-i=d->i<n->lh[i]?=some true:=by
 intro d
 induction d using Nat.strongRecOn with
 |_ d ih=>
  intro i hd hi
  rcases hs i hi with h|⟨j,h1,h2,h3⟩
  ·exact h
  ·obtain⟨oj,hoj,e,he,hb,hon⟩:=Region.waitsFor_spec h3
   rw[<-hon]
   exact S j oj hoj (ih (n-1-j) (by omega) j rfl h2) e he hb
theorem Ah{md:Region.Mode}{ops:Array Oper}{n:Nat}(h3:((List.range n).all fun i=>((ops[i]?).map fun o=>(o.after.all fun e=> !Region.binds md e||decide (e.on<i))&&(match o.guard with|some (g,_)=>decide (g<n)|none=>true)).getD false)=true)
  (i:Nat) (hi:i<n) (o:Oper) (ho:ops[i]?=some o):(∀ e ∈ o.after,Region.binds md e=true->e.on<i)/\∀ g b,o.guard=some (g,b)->g<n:=by
 have:=List.all_eq_true.1 h3 i (List.mem_range.2 hi)
 simp only[ho,Option.map_some,Option.getD_some,Bool.and_eq_true]at this
 refine⟨fun e he hb=>?_,fun g b hg=>?_⟩
 ·have h6:=Array.all_eq_true'.1 this.1 e he
  simpa [hb]using h6
 ·have h6:=this.2
  rw[hg]at h6
  simpa using h6
def Ge(md:Region.Mode)(ops:Array Oper)(n:Nat):Bool:=
 decide (n<ops.size)&&
 ((List.range n).all fun i=>((ops[i]?).map fun o=>(o.after.all fun e=> !Region.binds md e||decide (e.on<i))&&(match o.guard with|some (g,_)=>decide (g<n)|none=>true)).getD false)&&
 ((List.range n).all fun i=>(List.range (n+1)).any fun j=>decide (i<j)&&Region.waitsFor md ops j i)&&
 ((List.range ops.size).all fun t=>decide (t<=n)||(List.range ops.size).any fun j=>decide (n<=j)&&Region.waitsFor md ops t j)
theorem BC{md:Region.Mode}{ops:Array Oper}{n:Nat}(h:Ge md ops n=true):nB md ops n:=by
 unfold Ge at h
 simp only[Bool.and_eq_true,decide_eq_true_eq]at h
 obtain⟨⟨⟨h2,h3⟩,h4⟩,h5⟩:=h
 refine⟨Nat.le_of_lt h2,fun i hi o ho e he hb=>(Ah h3 i hi o ho).1 e he hb,fun i hi o ho g b hg=>(Ah h3 i hi o ho).2 g b hg,fun lh lf B S i hi hle=>?_⟩
 obtain⟨g1,o,ho,g2⟩:=mem_ready.1 hi
 have hsz:i<ops.size:=(Array.getElem?_eq_some_iff.1 ho).1
 have hin:i=n:=by
  have:=List.all_eq_true.1 h5 i (List.mem_range.2 hsz)
  rw[Bool.or_eq_true_iff]at this
  rcases this with h6|h6
  ·simp only[decide_eq_true_eq]at h6;omega
  ·exfalso
   obtain⟨j,hj,hj2⟩:=List.any_eq_true.1 h6
   simp only[Bool.and_eq_true,decide_eq_true_eq]at hj2
   obtain⟨o',ho',e,he,hb,hon⟩:=Region.waitsFor_spec hj2.2
   obtain rfl:=Option.some.inj (ho'.symm.trans ho)
   have g3:=fl.1 (g2 e he hb)
   rw[hon]at g3
   have:=B.up_lt g3
   omega
 subst hin
 intro k hk
 refine O2 S (fun k hk=>?_) (i-1-k) k rfl hk
 have:=List.all_eq_true.1 h4 k (List.mem_range.2 hk)
 obtain⟨j,hj,hj2⟩:=List.any_eq_true.1 this
 simp only[Bool.and_eq_true,decide_eq_true_eq]at hj2
 by_cases hji:j=i
 ·subst hji
  obtain⟨o',ho',e,he,hb,hon⟩:=Region.waitsFor_spec hj2.2
  obtain rfl:=Option.some.inj (ho'.symm.trans ho)
  have g3:=fl.1 (g2 e he hb)
  rw[hon,B.low k hk]at g3
  exact .inl g3
 ·exact .inr ⟨j,hj2.1,by have:=List.mem_range.1 hj;omega,hj2.2⟩
section
variable {P : Program} {md : Region.Mode} {ops oh : Array Oper} {n : Nat} {C : World -> Prop}
theorem FM(K:nB md ops n)(hop:∀ i,i<n->oh[i]?=ops[i]?){lh lf:Array Bool}(B:nQ ops n lh lf)(hr:Region.ready md oh lh=[]):∀ i,i<n->lh[i]?=some true:=by
 intro i
 induction i using Nat.strongRecOn with
 |_ i ih=>
  intro hi
  rcases Eo (l:=lh) (i:=i) (by rw[B.sh];exact hi)with h|h
  ·exact h
  ·exfalso
   have hi2:i<ops.size:=Nat.lt_of_lt_of_le hi K.le
   have ho:ops[i]?=some ops[i]:=Array.getElem?_eq_getElem hi2
   have:i ∈ Region.ready md oh lh:=mem_ready.2 ⟨ic.2 h,ops[i],by rw[hop i hi,ho],fun e he hb=>fl.2 (ih e.on (K.back i hi _ ho e he hb) (Nat.lt_trans (K.back i hi _ ho e he hb) hi))⟩
   rw[hr]at this
   cases this
theorem Eb(K:nB md ops n)(hop:∀ i,i<n->oh[i]?=ops[i]?){lh lf:Array Bool}(B:nQ ops n lh lf)(S:Shut md ops lh)(hne:Region.ready md oh lh≠[]){i:Nat}(hi:i ∈ Region.ready md ops lf):
  i<n/\i ∈ Region.ready md oh lh:=by
 obtain⟨h1,o,ho,h2⟩:=mem_ready.1 hi
 have hin:i<n:=by
  apply Nat.lt_of_not_le
  intro hle
  have hall:=K.bar lh lf B S i hi hle
  obtain⟨k,hk⟩:=List.exists_mem_of_ne_nil _ hne
  obtain⟨g1,o2,g2,_⟩:=mem_ready.1 hk
  have g3:=ic.1 g1
  have hk2:k<n:=by rw[<-B.sh];exact(Array.getElem?_eq_some_iff.1 g3).1
  rw[hall k hk2]at g3
  cases g3
 refine⟨hin,mem_ready.2 ⟨ic.2 (by rw[<-B.low i hin];exact ic.1 h1),o,by rw[hop i hin,ho],fun e he hb=>fl.2 ?_⟩⟩
 have:=K.back i hin o ho e he hb
 rw[<-B.low e.on (by omega)]
 exact fl.1 (h2 e he hb)
theorem IF(K:nB md ops n)(hop:∀ i,i<n->oh[i]?=ops[i]?){lh lf:Array Bool}(B:nQ ops n lh lf){i:Nat}(hi:i ∈ Region.ready md oh lh):i ∈ Region.ready md ops lf:=by
 obtain⟨h1,o,ho,h2⟩:=mem_ready.1 hi
 have h3:=ic.1 h1
 have hin:i<n:=by rw[<-B.sh];exact(Array.getElem?_eq_some_iff.1 h3).1
 rw[hop i hin]at ho
 refine mem_ready.2 ⟨ic.2 (by rw[B.low i hin];exact h3),o,ho,fun e he hb=>fl.2 ?_⟩
 have:=K.back i hin o ho e he hb
 rw[B.low e.on (by omega)]
 exact fl.1 (h2 e he hb)
theorem nQ.set{lh lf:Array Bool}(B:nQ ops n lh lf){i:Nat}(hi:i<n):nQ ops n (lh.setIfInBounds i true) (lf.setIfInBounds i true):=by
 refine⟨by simp[B.sh],by simp[B.sf],fun j hj=>?_,fun t ht ht2=>?_⟩
 ·have hs:i<lf.size↔i<lh.size:=by
   have h1:=B.low i hi
   constructor
   ·intro _;rw[B.sh];exact hi
   ·intro h2
    have:lh[i]?=some lh[i]:=Array.getElem?_eq_getElem h2
    rw[this]at h1
    exact(Array.getElem?_eq_some_iff.1 h1).1
  rw[Array.getElem?_setIfInBounds,Array.getElem?_setIfInBounds,B.low j hj]
  by_cases hij:i=j
  ·subst hij
   by_cases h2:i<lh.size
   ·rw[if_pos (hs.2 h2),if_pos h2]
   ·rw[if_neg (fun h=>h2 (hs.1 h)),if_neg h2]
  ·rw[if_neg hij,if_neg hij]
 ·rw[Array.getElem?_setIfInBounds_ne (by omega)]
  exact B.high t ht ht2
theorem Shut.set{lh:Array Bool}(S:Shut md ops lh){i:Nat}(hi:∀ o,ops[i]?=some o->∀ e ∈ o.after,Region.binds md e=true->lh[e.on]?=some true):Shut md ops (lh.setIfInBounds i true):=by
 have keep:∀ k,lh[k]?=some true->(lh.setIfInBounds i true)[k]?=some true:=fun k hk=>by
  by_cases h:i=k
  ·subst h
   rw[Array.getElem?_setIfInBounds,if_pos rfl,if_pos (Array.getElem?_eq_some_iff.1 hk).1]
  ·rw[Array.getElem?_setIfInBounds_ne h];exact hk
 intro j oj hoj hj e he hb
 apply keep
 by_cases h:i=j
 ·subst h
  exact hi oj hoj e he hb
 ·rw[Array.getElem?_setIfInBounds_ne h]at hj
  exact S j oj hoj hj e he hb
theorem uU{lh lf:Array Bool}(K:nB md ops n)(B:nQ ops n lh lf)(h:∀ i,i<n->lh[i]?=some true):lf=canon n (ops.size-n):=by
 have:=K.le
 apply Array.ext_getElem?
 intro i
 unfold canon
 by_cases hi:i<n
 ·rw[B.low i hi,h i hi]
  simp[List.getElem?_append,hi]
 ·by_cases hi2:i<ops.size
  ·rw[B.high i (by omega) hi2]
   have hg:i-n<ops.size-n:=by omega
   simp[List.getElem?_append,hi,hg]
  ·rw[Array.getElem?_eq_none (by rw[B.sf];omega)]
   symm
   apply Array.getElem?_eq_none
   simp
   omega
theorem qq{Q:Exit->Act->World->Prop}:∀(k:Nat) (l:Array Bool) (a:Act) (w:World),wpAny P md ops Q k l a w->wpAny P md ops Q (k+1) l a w
 |0,l,a,w,h=>⟨fun _=>h.2,fun i hi=>by rw[h.1]at hi;cases hi⟩
 |k+1,l,a,w,h=>⟨h.1,fun i hi=>wpOp_mono (fun a' w' h'=>qq k _ a' w' h') (h.2 i hi)⟩
theorem qt{Q:Exit->Act->World->Prop}{k:Nat}{l:Array Bool}{a:Act}{w:World}(h:wpAny P md ops Q k l a w):∀ m,wpAny P md ops Q (m+k) l a w
 |0=>by rw[Nat.zero_add];exact h
 |m+1=>by rw[Nat.add_right_comm];exact qq _ _ _ _ (qt h m)
theorem OG(K:nB md ops n)(hop:∀ i,i<n->oh[i]?=ops[i]?){i:Nat}(hi:i<n){k:Act->Prop}{a:Act}(h:qOp P oh C i k a):qOp P ops C i k a:=by
 have hi2:i<ops.size:=Nat.lt_of_lt_of_le hi K.le
 have ho:ops[i]?=some ops[i]:=Array.getElem?_eq_getElem hi2
 have hy:Region.wanted ops[i] (yielded oh a.tmps)=Region.wanted ops[i] (yielded ops a.tmps):=by
  unfold Region.wanted
  cases hg:(ops[i]).guard with
  |none=>rfl
  |some x=>
   obtain⟨g,b⟩:=x
   have:=K.guard i hi _ ho g b hg
   simp only[yielded,hop g this]
 unfold qOp at *
 rw[hop i hi,ho]at h
 rw[ho]
 simp only[hy]at h
 exact h
theorem vi(K:nB md ops n)(hop:∀ i,i<n->oh[i]?=ops[i]?){Q:Exit->Act->World->Prop}:
  ∀(f:Nat) (lh lf:Array Bool) (a:Act) (w:World),nQ ops n lh lf->Shut md ops lh->C w->
   wpAnyQ P md oh C (fun a'=>∀ w',C w'->wpAny P md ops Q (ops.size-n) (canon n (ops.size-n)) a' w') f lh a->wpAny P md ops Q (f+(ops.size-n)) lf a w
 |0,lh,lf,a,w,B,S,hw,h=>by
  rw[uU K B (FM K hop B h.1),Nat.zero_add]
  exact h.2 w hw
 |f+1,lh,lf,a,w,B,S,hw,h=>by
  by_cases hr:Region.ready md oh lh=[]
  ·rw[uU K B (FM K hop B hr)]
   exact qt (h.1 hr w hw) (f+1)
  ·rw[Nat.add_right_comm]
   refine⟨fun h0=>?_,fun i hi=>?_⟩
   ·obtain⟨k,hk⟩:=List.exists_mem_of_ne_nil _ hr
    have:=IF K hop B hk
    rw[h0]at this
    cases this
   ·obtain⟨hin,hih⟩:=Eb K hop B S hr hi
    have hq:=OG K hop hin (h.2 i hih)
    refine wpOp_of_qOp hw (fun a' w' hw' h'=>vi K hop f _ _ a' w' (B.set hin) (S.set fun o ho e he hb=>?_) hw' h') hq
    obtain⟨_,o2,ho2,h2⟩:=mem_ready.1 hih
    rw[hop i hin,ho]at ho2
    obtain rfl:=Option.some.inj ho2
    exact fl.1 (h2 e he hb)
end
section
variable {P : Program} {md : Region.Mode} {ops : Array Oper} {Q : Exit -> Act -> World -> Prop} {L : Array Bool} {a : Act} {w : World}
end
theorem tL{P:Program}{id:Nat}{Q:Exit->Act->World->Prop}{a:Act}{W:World}{l:List Oper}(n:Nat)(hm:P.follows .mixedOrders=true)(hB:Region.lexB .any (l.take n).toArray=true)(K:nB .any l.toArray n)
  (h:wpQuiet P (l.take n).toArray (fun w'=>∃ u:cH W,w'=u.val) (fun a'=>∀ w',(∃ u:cH W,w'=u.val)->wpAny P .any l.toArray Q (l.toArray.size-n) (canon n (l.toArray.size-n)) a' w') (l.take n) a):
  (Code.region id l.toArray true).wp P Q a W:=by
 have hle:n<=l.length:=by simpa using K.le
 simp only[Region.lexB,Bool.and_eq_true]at hB
 have hlen:(l.take n).length=n:=by simp;omega
 have H:=wpAnyQ_lex (P:=P) (C:=fun w'=>∃ u:cH W,w'=u.val) (md:=.any) hB.1 (l.take n) 0 (Array.replicate (l.take n).toArray.size false) a (by simp) (by simpa using hB.2) h
 refine wp_region_any hm ?_
 have hop:∀ i,i<n->(l.take n).toArray[i]?=l.toArray[i]?:=fun i hi=>by simp[hi]
 have B:nQ l.toArray n (Array.replicate (l.take n).toArray.size false) (Array.replicate l.toArray.size false):=by
  refine⟨by simp;omega,by simp,fun i hi=>?_,fun t _ ht=>?_⟩
  ·have h1:i<l.length:=by omega
   simp[Array.getElem?_replicate,h1]
   omega
  ·have h1:t<l.length:=by simpa using ht
   simp[h1]
 have S:Shut .any l.toArray (Array.replicate (l.take n).toArray.size false):=fun j oj _ hj=>by
  rw[Array.getElem?_replicate]at hj
  split at hj<;>cases hj
 have:=vi K hop _ _ _ a (W.drew) B S ⟨⟨W.drew,(Below.refl _ _).drew⟩,rfl⟩ H
 rw[hlen]at this
 rw[show n+(l.toArray.size-n)=l.toArray.size by have:=K.le;omega]at this
 exact this
theorem jj{P:Program}{ops:Array Oper}{C:World->Prop}{Q Q':Act->Prop}(h:∀ a,Q a->Q' a):∀(l:List Oper) (a:Act),wpQuiet P ops C Q l a->wpQuiet P ops C Q' l a
 |[],_,H=>h _ H
 |o :: l,a,H=>by
  unfold wpQuiet at *
  split
  ·rename_i hw
   rw[if_pos hw]at H
   exact Oper.quiet_mono (fun a' H'=>jj h l a' H') H
  ·rename_i hw
   rw[if_neg hw]at H
   exact jj h l _ H
theorem gW{P:Program}{id:Nat}{Q:Exit->Act->World->Prop}{a:Act}{W:World}{l:List Oper}(n:Nat)(hm:P.follows .mixedOrders=true)(hB:Region.lexB .any (l.take n).toArray=true)(hC:Ge .any l.toArray n=true)(hn:l.length=n+1)(hr:Region.ready .any l.toArray (canon n 1)=[n])(hr2:Region.ready .any l.toArray ((canon n 1).setIfInBounds n true)=[])
  (h:wpQuiet P (l.take n).toArray (fun w'=>∃ u:cH W,w'=u.val) (fun a'=>∀ w',(∃ u:cH W,w'=u.val)->wpList P l.toArray Q (l.drop n) a' w') (l.take n) a):
  (Code.region id l.toArray true).wp P Q a W:=by
 refine tL n hm hB (BC hC) ?_
 have e:l.toArray.size-n=1:=by simp;omega
 rw[e]
 obtain⟨o,ho⟩:∃ o,l.drop n=[o]:=List.length_eq_one_iff.1 (by simp;omega)
 have ho2:l.toArray[n]?=some o:=by
  have:(l.drop n)[0]?=some o:=by rw[ho];rfl
  simpa using this
 refine jj (fun a' H w' hw=>?_) _ _ h
 have H2:=H w' hw
 rw[ho]at H2
 refine wpAny_all hr (by simp) fun j hj=>?_
 obtain rfl:j=n:=by simpa using hj
 have:wpOp P l.toArray Q j (fun a w=>Q .normal a w) a' w':=by
  unfold wpOp
  rw[ho2]
  exact H2
 exact wpOp_mono (fun a w hq=>⟨hr2,hq⟩) this
end Go.Proofs.YtgcnhfgpflncaaaGreatDoor
