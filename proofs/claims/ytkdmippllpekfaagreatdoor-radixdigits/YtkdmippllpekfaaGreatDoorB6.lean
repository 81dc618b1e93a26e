import Derived.Test.YtkdmippllpekfaaGreatDoorB5
import Derived.BigQuiet
import Derived.StillTail
namespace Go.Proofs.YtkdmippllpekfaaGreatDoor
variable{args:Array Value}{i id n:Nat}{v:Value}{W:World}
section
open Go.RowKit
structure Old(W:World) where
 val:World
 jD:Below W.heap.size W val
theorem gM(W:World):Nonempty (Old W):=⟨⟨W,aj _ _⟩⟩
theorem fo{P:Program}{Q:Exit->Act->World->Prop}{a:Act}{l:List Oper}(hm:P.follows .mixedOrders=true)(hB:Region.lexB .any l.toArray=true)(h:wpQuiet P l.toArray (fun w'=>∃u:Old W,w'=u.val) (fun a'=>∀w',(∃u:Old W,w'=u.val)->Q .normal a' w') l a):(Code.region id l.toArray true).wp P Q a W:=
 wp_region_quiet (C:=fun w'=>∃u:Old W,w'=u.val) hm hB ⟨⟨W.drew,(aj _ _).drew⟩,rfl⟩ (by simpa using h)
theorem Calls.jD{P:Program}{f:FuncId}{u:Old W}(h:Calls P f args u.val fun e w'=>e=.returned v/\Below u.val.heap.size u.val w'):Calls P f args u.val fun e sP=>e=.returned v/\∃u':Old W,sP=u'.val:=
 h.mono fun _ w' ⟨he,hb⟩=>⟨he,⟨w',aJ u.jD hb⟩,rfl⟩
theorem Calls.gj{P:Program}{f:FuncId}{u:Old W}(h:Calls P f args u.val fun e w'=>e=.returned v/\w'=u.val):Calls P f args u.val fun e sP=>e=.returned v/\∃u':Old W,sP=u'.val:=
 h.mono fun _ _ ⟨he,hb⟩=>⟨he,u,hb⟩
theorem Old.cell{p:Addr}(h:W.cell? p=some v)(u:Old W):u.val.cell? p=some v:=(u.jD.cell (aw _ _ h)).trans h
end
section
open Go.RowKit
def canon(n g:Nat):Array Bool:=(List.replicate n true++List.replicate g false).toArray
structure wI(ops:Array Oper)(n:Nat)(lh lf:Array Bool):Prop where
 sh:lh.size=n
 sf:lf.size=ops.size
 low:∀i,i<n->lf[i]?=lh[i]?
 high:∀t,n<=t->t<ops.size->lf[t]?=some false
def Shut(md:Region.Mode)(ops:Array Oper)(lh:Array Bool):Prop:=∀(j:Nat) (oj:Oper),ops[j]?=some oj->lh[j]?=some true->∀e ∈ oj.after,Region.binds md e=true->lh[e.on]?=some true
theorem qE{l:Array Bool}:l.getD i true=false↔l[i]?=some false:=by
 rw[TX];cases h:l[i]? with
 |none=>simp
 |some b=>simp
theorem lI{l:Array Bool}:l.getD i false=true↔l[i]?=some true:=by
 rw[TX];cases h:l[i]? with
 |none=>simp
 |some b=>simp
theorem Td{l:Array Bool}(h:i<l.size):l[i]?=some true\/l[i]?=some false:=by
 cases hb:l[i]'h
 ·exact .inr (by rw[fp h,hb])
 ·exact .inl (by rw[fp h,hb])
structure vy(md:Region.Mode)(ops:Array Oper)(n:Nat):Prop where
 le:n<=ops.size
 back:∀i,i<n->∀o,ops[i]?=some o->∀e ∈ o.after,Region.binds md e=true->e.on<i
 guard:∀i,i<n->∀o,ops[i]?=some o->∀g b,o.guard=some (g,b)->g<n
 bar:∀lh lf,wI ops n lh lf->Shut md ops lh->∀i,i ∈ Region.ready md ops lf->n<=i->∀k,k<n->lh[k]?=some true
theorem wI.aeC{ops:Array Oper}{lh lf:Array Bool}(B:wI ops n lh lf){j:Nat}(h:lf[j]?=some true):j<n:=by
 apply eI;intro hle;have hjs:j<ops.size:=by rw[<-B.sf];exact(ah.1 h).1
 rw[B.high j hle hjs]at h;cases h
theorem adl{md:Region.Mode}{ops:Array Oper}{lh:Array Bool}(S:Shut md ops lh)(hs:∀i,i<n->lh[i]?=some true\/∃j,i<j/\j<n/\Region.waitsFor md ops j i=true):∀d i,n-1-i=d->i<n->lh[i]?=some true:=by
 intro d;induction d using Nat.strongRecOn with
 |_ d ih=>
  intro i hd hi;rcases hs i hi with h|⟨j,h1,h2,h3⟩
  ·exact h
  ·obtain⟨oj,hoj,e,he,hb,hon⟩:=Region.waitsFor_spec h3;rw[<-hon];exact S j oj hoj (ih (n-1-j) (by omega) j rfl h2) e he hb
theorem Pn{md:Region.Mode}{ops:Array Oper}(h3:((List.range n).all fun i=>((ops[i]?).map fun o=>(o.after.all fun e=> !Region.binds md e||decide (e.on<i))&&(match o.guard with|some (g,_)=>decide (g<n)|none=>true)).getD false)=true)(i:Nat)(hi:i<n)(o:Oper)(ho:ops[i]?=some o):(∀e ∈ o.after,Region.binds md e=true->e.on<i)/\∀g b,o.guard=some (g,b)->g<n:=by
 have:=fO.1 h3 i (oJ.2 hi);simp only[ho,Option.map_some,Option.getD_some,Bool.and_eq_true]at this;refine⟨fun e he hb=>?_,fun g b hg=>?_⟩
 ·have h6:=Array.all_eq_true'.1 this.1 e he;simpa [hb]using h6
 ·have h6:=this.2;rw[hg]at h6;simpa using h6
def EG(md:Region.Mode)(ops:Array Oper)(n:Nat):Bool:=
 decide (n<ops.size)&&
 ((List.range n).all fun i=>((ops[i]?).map fun o=>(o.after.all fun e=> !Region.binds md e||decide (e.on<i))&&(match o.guard with|some (g,_)=>decide (g<n)|none=>true)).getD false)&&
 ((List.range n).all fun i=>(List.range (n+1)).any fun j=>decide (i<j)&&Region.waitsFor md ops j i)&&
 ((List.range ops.size).all fun t=>decide (t<=n)||(List.range ops.size).any fun j=>decide (n<=j)&&Region.waitsFor md ops t j)
theorem EF{md:Region.Mode}{ops:Array Oper}(h:EG md ops n=true):vy md ops n:=by
 unfold EG at h;simp only[Bool.and_eq_true,decide_eq_true_eq]at h;obtain⟨⟨⟨h2,h3⟩,h4⟩,h5⟩:=h;refine⟨fk h2,fun i hi o ho e he hb=>(Pn h3 i hi o ho).1 e he hb,fun i hi o ho g b hg=>(Pn h3 i hi o ho).2 g b hg,fun lh lf B S i hi hle=>?_⟩;obtain⟨g1,o,ho,g2⟩:=qY.1 hi;have kF:i<ops.size:=(ah.1 ho).1;have qF:i=n:=by
  have:=fO.1 h5 i (oJ.2 kF);rw[Bool.or_eq_true_iff]at this;rcases this with h6|h6
  ·simp only[decide_eq_true_eq]at h6;omega
  ·exfalso;obtain⟨j,hj,xz⟩:=List.any_eq_true.1 h6;simp only[Bool.and_eq_true,decide_eq_true_eq]at xz;obtain⟨o',Um,e,he,hb,hon⟩:=Region.waitsFor_spec xz.2;obtain rfl:=aZ (Um.symm.trans ho);have g3:=lI.1 (g2 e he hb);rw[hon]at g3;have:=B.aeC g3;omega
 subst qF;intro k hk;refine adl S (fun k hk=>?_) (i-1-k) k rfl hk;have:=fO.1 h4 k (oJ.2 hk);obtain⟨j,hj,xz⟩:=List.any_eq_true.1 this;simp only[Bool.and_eq_true,decide_eq_true_eq]at xz;by_cases Zh:j=i
 ·subst Zh;obtain⟨o',Um,e,he,hb,hon⟩:=Region.waitsFor_spec xz.2;obtain rfl:=aZ (Um.symm.trans ho);have g3:=lI.1 (g2 e he hb);rw[hon,B.low k hk]at g3;exact .inl g3
 ·exact .inr ⟨j,xz.1,by have:=oJ.1 hj;omega,xz.2⟩
section
variable {P : Program} {md : Region.Mode} {ops oh : Array Oper} {n : Nat} {C : World -> Prop}
theorem Gd(K:vy md ops n)(rE:∀i,i<n->oh[i]?=ops[i]?){lh lf:Array Bool}(B:wI ops n lh lf)(hr:Region.ready md oh lh=[]):∀i,i<n->lh[i]?=some true:=by
 intro i;induction i using Nat.strongRecOn with
 |_ i ih=>
  intro hi;rcases Td (l:=lh) (i:=i) (by rw[B.sh];exact hi)with h|h
  ·exact h
  ·exfalso;have zI:i<ops.size:=az hi K.le;have ho:ops[i]?=some ops[i]:=fp zI;have:i ∈ Region.ready md oh lh:=qY.2 ⟨qE.2 h,ops[i],by rw[rE i hi,ho],fun e he hb=>lI.2 (ih e.on (K.back i hi _ ho e he hb) (jY (K.back i hi _ ho e he hb) hi))⟩;rw[hr]at this;cases this
theorem Fu(K:vy md ops n)(rE:∀i,i<n->oh[i]?=ops[i]?){lh lf:Array Bool}(B:wI ops n lh lf)(S:Shut md ops lh)(hne:Region.ready md oh lh≠[])(hi:i ∈ Region.ready md ops lf):i<n/\i ∈ Region.ready md oh lh:=by
 obtain⟨h1,o,ho,h2⟩:=qY.1 hi;have qF:i<n:=by
  apply eI;intro hle;have lJ:=K.bar lh lf B S i hi hle;obtain⟨k,hk⟩:=ve _ hne;obtain⟨g1,o2,g2,_⟩:=qY.1 hk;have g3:=qE.1 g1;have sK:k<n:=by rw[<-B.sh];exact(ah.1 g3).1
  rw[lJ k sK]at g3;cases g3
 refine⟨qF,qY.2 ⟨qE.2 (by rw[<-B.low i qF];exact qE.1 h1),o,by rw[rE i qF,ho],fun e he hb=>lI.2 ?_⟩⟩;have:=K.back i qF o ho e he hb;rw[<-B.low e.on (by omega)];exact lI.1 (h2 e he hb)
theorem KX(K:vy md ops n)(rE:∀i,i<n->oh[i]?=ops[i]?){lh lf:Array Bool}(B:wI ops n lh lf)(hi:i ∈ Region.ready md oh lh):i ∈ Region.ready md ops lf:=by
 obtain⟨h1,o,ho,h2⟩:=qY.1 hi;have h3:=qE.1 h1;have qF:i<n:=by rw[<-B.sh];exact(ah.1 h3).1
 rw[rE i qF]at ho;refine qY.2 ⟨qE.2 (by rw[B.low i qF];exact h3),o,ho,fun e he hb=>lI.2 ?_⟩;have:=K.back i qF o ho e he hb;rw[B.low e.on (by omega)];exact lI.1 (h2 e he hb)
theorem wI.set{lh lf:Array Bool}(B:wI ops n lh lf)(hi:i<n):wI ops n (lh.setIfInBounds i true) (lf.setIfInBounds i true):=by
 refine⟨by simp[B.sh],by simp[B.sf],fun j hj=>?_,fun t ht E8=>?_⟩
 ·have hs:i<lf.size↔i<lh.size:=by
   have h1:=B.low i hi;constructor
   ·intro _;rw[B.sh];exact hi
   ·intro h2;have:lh[i]?=some lh[i]:=fp h2;rw[this]at h1;exact(ah.1 h1).1
  rw[re,re,B.low j hj];by_cases hij:i=j
  ·subst hij;by_cases h2:i<lh.size
   ·rw[aW (hs.2 h2),aW h2]
   ·rw[aV (fun h=>h2 (hs.1 h)),aV h2]
  ·rw[aV hij,aV hij]
 ·rw[pj (by omega)];exact B.high t ht E8
theorem Shut.set{lh:Array Bool}(S:Shut md ops lh)(hi:∀o,ops[i]?=some o->∀e ∈ o.after,Region.binds md e=true->lh[e.on]?=some true):Shut md ops (lh.setIfInBounds i true):=by
 have keep:∀k,lh[k]?=some true->(lh.setIfInBounds i true)[k]?=some true:=fun k hk=>by
  by_cases h:i=k
  ·subst h;rw[re,aW rfl,aW (ah.1 hk).1]
  ·rw[pj h];exact hk
 intro j oj hoj hj e he hb;apply keep;by_cases h:i=j
 ·subst h;exact hi oj hoj e he hb
 ·rw[pj h]at hj;exact S j oj hoj hj e he hb
theorem xi{lh lf:Array Bool}(K:vy md ops n)(B:wI ops n lh lf)(h:∀i,i<n->lh[i]?=some true):lf=canon n (ops.size-n):=by
 have:=K.le;apply Array.ext_getElem?;intro i;unfold canon;by_cases hi:i<n
 ·rw[B.low i hi,h i hi];simp[List.getElem?_append,hi]
 ·by_cases zI:i<ops.size
  ·rw[B.high i (by omega) zI];have hg:i-n<ops.size-n:=(by omega);simp[List.getElem?_append,hi,hg]
  ·rw[abB (by rw[B.sf];omega)];symm;apply abB;simp;omega
theorem Dw{Q:Exit->Act->World->Prop}:∀(k:Nat) (l:Array Bool) (a:Act) (w:World),wpAny P md ops Q k l a w->wpAny P md ops Q (k+1) l a w
 |0,l,a,w,h=>⟨fun _=>h.2,fun i hi=>by rw[h.1]at hi;cases hi⟩
 |k+1,l,a,w,h=>⟨h.1,fun i hi=>Uv (fun a' w' h'=>Dw k _ a' w' h') (h.2 i hi)⟩
theorem wB{Q:Exit->Act->World->Prop}{k:Nat}{l:Array Bool}{a:Act}{w:World}(h:wpAny P md ops Q k l a w):∀m,wpAny P md ops Q (m+k) l a w
 |0=>by rw[bh];exact h
 |m+1=>by rw[F9];exact Dw _ _ _ _ (wB h m)
theorem ac2(K:vy md ops n)(rE:∀i,i<n->oh[i]?=ops[i]?)(hi:i<n){k:Act->Prop}{a:Act}(h:qOp P oh C i k a):qOp P ops C i k a:=by
 have zI:i<ops.size:=az hi K.le;have ho:ops[i]?=some ops[i]:=fp zI;have hy:Region.wanted ops[i] (yielded oh a.tmps)=Region.wanted ops[i] (yielded ops a.tmps):=by
  unfold Region.wanted;cases hg:(ops[i]).guard with
  |none=>rfl
  |some x=>
   obtain⟨g,b⟩:=x;have:=K.guard i hi _ ho g b hg;simp only[yielded,rE g this]
 unfold qOp at *;rw[rE i hi,ho]at h;rw[ho];simp only[hy]at h;exact h
theorem JJ(K:vy md ops n)(rE:∀i,i<n->oh[i]?=ops[i]?){Q:Exit->Act->World->Prop}:∀(f:Nat) (lh lf:Array Bool) (a:Act) (w:World),wI ops n lh lf->Shut md ops lh->C w->wpAnyQ P md oh C (fun a'=>∀w',C w'->wpAny P md ops Q (ops.size-n) (canon n (ops.size-n)) a' w') f lh a->wpAny P md ops Q (f+(ops.size-n)) lf a w
 |0,lh,lf,a,w,B,S,hw,h=>by rw[xi K B (Gd K rE B h.1),bh];exact h.2 w hw
 |f+1,lh,lf,a,w,B,S,hw,h=>by
  by_cases hr:Region.ready md oh lh=[]
  ·rw[xi K B (Gd K rE B hr)];exact wB (h.1 hr w hw) (f+1)
  ·rw[F9];refine⟨fun h0=>?_,fun i hi=>?_⟩
   ·obtain⟨k,hk⟩:=ve _ hr;have:=KX K rE B hk;rw[h0]at this;cases this
   ·obtain⟨qF,hih⟩:=Fu K rE B S hr hi;have hq:=ac2 K rE qF (h.2 i hih);refine wpOp_of_qOp hw (fun a' w' hw' h'=>JJ K rE f _ _ a' w' (B.set qF) (S.set fun o ho e he hb=>?_) hw' h') hq;obtain⟨_,o2,qX,h2⟩:=qY.1 hih;rw[rE i qF,ho]at qX;obtain rfl:=aZ qX;exact lI.1 (h2 e he hb)
end
section
variable {P : Program} {md : Region.Mode} {ops : Array Oper} {Q : Exit -> Act -> World -> Prop} {L : Array Bool} {a : Act} {w : World}
end
theorem Hu{P:Program}{Q:Exit->Act->World->Prop}{a:Act}{l:List Oper}(n:Nat)(hm:P.follows .mixedOrders=true)(hB:Region.lexB .any (l.take n).toArray=true)(K:vy .any l.toArray n)(h:wpQuiet P (l.take n).toArray (fun w'=>∃u:Old W,w'=u.val) (fun a'=>∀w',(∃u:Old W,w'=u.val)->wpAny P .any l.toArray Q (l.toArray.size-n) (canon n (l.toArray.size-n)) a' w') (l.take n) a):(Code.region id l.toArray true).wp P Q a W:=by
 have hle:n<=l.length:=by simpa using K.le
 simp only[Region.lexB,Bool.and_eq_true]at hB;have hlen:(l.take n).length=n:=by simp;omega
 have H:=wpAnyQ_lex (P:=P) (C:=fun w'=>∃u:Old W,w'=u.val) (md:=.any) hB.1 (l.take n) 0 (Array.replicate (l.take n).toArray.size false) a (by simp) (by simpa using hB.2) h;refine wp_region_any hm ?_;have rE:∀i,i<n->(l.take n).toArray[i]?=l.toArray[i]?:=fun i hi=>by simp[hi]
 have B:wI l.toArray n (Array.replicate (l.take n).toArray.size false) (Array.replicate l.toArray.size false):=by
  refine⟨by simp;omega,by simp,fun i hi=>?_,fun t _ ht=>?_⟩
  ·have h1:i<l.length:=(by omega);simp[Array.getElem?_replicate,h1];omega
  ·have h1:t<l.length:=(by simpa using ht);simp[h1]
 have S:Shut .any l.toArray (Array.replicate (l.take n).toArray.size false):=fun j oj _ hj=>by rw[Zn]at hj;split at hj<;>cases hj
 have:=JJ K rE _ _ _ a (W.drew) B S ⟨⟨W.drew,(aj _ _).drew⟩,rfl⟩ H;rw[hlen]at this;rw[show n+(l.toArray.size-n)=l.toArray.size by have:=K.le;omega]at this;exact this
theorem rZ{P:Program}{ops:Array Oper}{C:World->Prop}{Q Q':Act->Prop}(h:∀a,Q a->Q' a):∀(l:List Oper) (a:Act),wpQuiet P ops C Q l a->wpQuiet P ops C Q' l a
 |[],_,H=>h _ H
 |o :: l,a,H=>by
  unfold wpQuiet at *;split
  ·rename_i hw;rw[aW hw]at H;exact Oper.quiet_mono (fun a' H'=>rZ h l a' H') H
  ·rename_i hw;rw[aV hw]at H;exact rZ h l _ H
theorem pJ{P:Program}{Q:Exit->Act->World->Prop}{a:Act}{l:List Oper}(n:Nat)(hm:P.follows .mixedOrders=true)(hB:Region.lexB .any (l.take n).toArray=true)(hC:EG .any l.toArray n=true)(hn:l.length=n+1)(hr:Region.ready .any l.toArray (canon n 1)=[n])(Uo:Region.ready .any l.toArray ((canon n 1).setIfInBounds n true)=[])(h:wpQuiet P (l.take n).toArray (fun w'=>∃u:Old W,w'=u.val) (fun a'=>∀w',(∃u:Old W,w'=u.val)->wpList P l.toArray Q (l.drop n) a' w') (l.take n) a):(Code.region id l.toArray true).wp P Q a W:=by
 refine Hu n hm hB (EF hC) ?_;have e:l.toArray.size-n=1:=by simp;omega
 rw[e];obtain⟨o,ho⟩:∃o,l.drop n=[o]:=abH.1 (by simp;omega);have qX:l.toArray[n]?=some o:=by
  have:(l.drop n)[0]?=some o:=by rw[ho];rfl
  simpa using this
 refine rZ (fun a' H w' hw=>?_) _ _ h;have H2:=H w' hw;rw[ho]at H2;refine wpAny_all hr (by simp) fun j hj=>?_;obtain rfl:j=n:=by simpa using hj
 have:wpOp P l.toArray Q j (fun a w=>Q .normal a w) a' w':=by unfold wpOp;rw[qX];exact H2
 exact Uv (fun a w hq=>⟨Uo,hq⟩) this
end
end Go.Proofs.YtkdmippllpekfaaGreatDoor
