import Derived.Deep.RegionHeld
import Derived.Test.YtkdmippllpekfaaGreatDoorB6
namespace Go.Proofs.YtkdmippllpekfaaGreatDoor
open Go.RowKit
variable{f i:Nat}{v:Value}{W w:World}
def tg(R:Act->World->Prop)(Q:Exit->Act->World->Prop):Exit->Act->World->Prop
 | .normal,a,w=>R a w
 |e,a,w=>Q e a w
theorem FI{P:Program}{o:Oper}{a:Act}{R:Act->World->Prop}{Q:Exit->Act->World->Prop}{K:Act->World->Prop}(r:Result Next)(h:o.upon P a K (tg R Q) r):o.upon P a K Q r:=by
 cases r with
 |ok x w'=>
  cases x
  case value v=>exact h
  case skip=>exact h
  case defer d=>exact h
  case enter f args=>
   refine Calls.mono h fun e w' he=>?_;cases e with
   |returned v=>exact he
   |panicked c=>exact he
   |outgrown=>exact he
  case row row args=>exact h
  all_goals exact(h:False).elim
 |halt x w'=>
  cases x
  case panic v=>exact h
  all_goals exact(h:False).elim
theorem TK{P:Program}{o:Oper}{a:Act}{R:Act->World->Prop}{Q:Exit->Act->World->Prop}{K:Act->World->Prop}(r:Result Next)(h:o.upon P a K Q r):o.upon P a K (tg R Q) r:=by
 cases r with
 |ok x w'=>
  cases x
  case value v=>exact h
  case skip=>exact h
  case defer d=>exact h
  case enter f args=>
   refine Calls.mono h fun e w' he=>?_;cases e with
   |returned v=>exact he
   |panicked c=>exact he
   |outgrown=>exact he
  case row row args=>exact h
  all_goals exact(h:False).elim
 |halt x w'=>
  cases x
  case panic v=>exact h
  all_goals exact(h:False).elim
section
variable {P : Program} {md : Region.Mode} {ops oh : Array Oper} {n : Nat}
theorem aa9{R:Act->World->Prop}{Q:Exit->Act->World->Prop}(K:vy md ops n)(rE:∀i,i<n->oh[i]?=ops[i]?)(hi:i<n){k:Act->World->Prop}{a:Act}(h:wpOp P oh (tg R Q) i k a w):wpOp P ops Q i k a w:=by
 have zI:i<ops.size:=az hi K.le;have ho:ops[i]?=some ops[i]:=fp zI;have hy:Region.wanted ops[i] (yielded oh a.tmps)=Region.wanted ops[i] (yielded ops a.tmps):=by
  unfold Region.wanted;cases hg:(ops[i]).guard with
  |none=>rfl
  |some x=>
   obtain⟨g,b⟩:=x;have:=K.guard i hi _ ho g b hg;simp only[yielded,rE g this]
 unfold wpOp at *;rw[rE i hi,ho]at h;rw[ho];simp only[hy]at h ⊢;split
 ·rename_i hw;rw[aW hw]at h;rcases h with h|⟨h1,a',w',h2⟩
  ·exact .inl (FI _ h)
  ·exact .inr ⟨h1,a',w',h2⟩
 ·rename_i hw;rw[aV hw]at h;exact h
theorem Bj(K:vy md ops n)(rE:∀i,i<n->oh[i]?=ops[i]?){Q:Exit->Act->World->Prop}:∀(f:Nat) (lh lf:Array Bool) (a:Act) (w:World),wI ops n lh lf->Shut md ops lh->wpAny P md oh (tg (wpAny P md ops Q (ops.size-n) (canon n (ops.size-n))) Q) f lh a w->wpAny P md ops Q (f+(ops.size-n)) lf a w
 |0,lh,lf,a,w,B,S,h=>by rw[xi K B (Gd K rE B h.1),bh];exact h.2
 |f+1,lh,lf,a,w,B,S,h=>by
  by_cases hr:Region.ready md oh lh=[]
  ·rw[xi K B (Gd K rE B hr)];exact wB (h.1 hr) (f+1)
  ·rw[F9];refine⟨fun h0=>?_,fun i hi=>?_⟩
   ·obtain⟨k,hk⟩:=ve _ hr;have:=KX K rE B hk;rw[h0]at this;cases this
   ·obtain⟨qF,hih⟩:=Fu K rE B S hr hi;refine Uv (fun a' w' h'=>Bj K rE f _ _ a' w' (B.set qF) (S.set fun o ho e he hb=>?_) h') (aa9 K rE qF (h.2 i hih));obtain⟨_,o2,qX,h2⟩:=qY.1 hih;rw[rE i qF,ho]at qX;obtain rfl:=aZ qX;exact lI.1 (h2 e he hb)
end
theorem YT{P:Program}{ops:Array Oper}{R R':Act->World->Prop}{Q:Exit->Act->World->Prop}{k:Act->World->Prop}{a:Act}(h:wpOp P ops (tg R Q) i k a w):wpOp P ops (tg R' Q) i k a w:=by
 unfold wpOp at *;split
 ·rename_i he;rw[he]at h;exact h
 ·rename_i o he;rw[he]at h;simp only at h;split
  ·rename_i hw;rw[aW hw]at h;rcases h with h|⟨h1,a',w',h2⟩
   ·refine .inl ?_;have h3:o.upon P a k Q _:=FI _ h;exact TK _ h3
   ·exact .inr ⟨h1,a',w',h2⟩
  ·rename_i hw;rw[aV hw]at h;exact h
theorem FO{P:Program}{md:Region.Mode}{ops:Array Oper}{R R':Act->World->Prop}{Q:Exit->Act->World->Prop}(hR:∀a w,R a w->R' a w):∀(f:Nat) (l:Array Bool) (a:Act) (w:World),wpAny P md ops (tg R Q) f l a w->wpAny P md ops (tg R' Q) f l a w
 |0,_,_,_,h=>⟨h.1,hR _ _ h.2⟩
 |f+1,_,_,_,h=>⟨fun h0=>hR _ _ (h.1 h0),fun i hi=>YT (Uv (fun a' w' h'=>FO hR f _ a' w' h') (h.2 i hi))⟩
theorem Ew{P:Program}{Q:Exit->Act->World->Prop}{a:Act}{l:List Oper}(n:Nat)(S:World->Prop)(hC:EG .any l.toArray n=true)(hn:l.length=n+1)(hr:Region.ready .any l.toArray (canon n 1)=[n])(Uo:Region.ready .any l.toArray ((canon n 1).setIfInBounds n true)=[])(hS:S W.drew)(h:S W.drew->wpAnyH P .any (l.take n).toArray (tg (wpList P l.toArray Q (l.drop n)) Q) S n (Array.replicate n false) a W.drew):wpAny P .any l.toArray Q l.toArray.size (Array.replicate l.toArray.size false) a W.drew:=by
 replace h:=h hS;have K:=EF hC;have hlen:(l.take n).length=n:=by simp;omega
 have rE:∀i,i<n->(l.take n).toArray[i]?=l.toArray[i]?:=fun i hi=>by simp[hi]
 have B:wI l.toArray n (Array.replicate n false) (Array.replicate l.toArray.size false):=by
  refine⟨by simp,by simp,fun i hi=>?_,fun t _ ht=>?_⟩
  ·have h1:i<l.length:=(by omega);simp[h1,hi]
  ·have h1:t<l.length:=(by simpa using ht);simp[h1]
 have Sh:Shut .any l.toArray (Array.replicate n false):=fun j oj _ hj=>by rw[Zn]at hj;split at hj<;>cases hj
 have e:l.toArray.size-n=1:=by simp;omega
 obtain⟨o,ho⟩:∃o,l.drop n=[o]:=abH.1 (by simp;omega);have qX:l.toArray[n]?=some o:=by
  have:(l.drop n)[0]?=some o:=by rw[ho];rfl
  simpa using this
 have:=Bj (P:=P) (Q:=Q) K rE n _ _ a W.drew B Sh (by
  have H:=wpAny_of_held _ _ _ _ h;have up:∀(a':Act) (w':World),wpList P l.toArray Q (l.drop n) a' w'->wpAny P .any l.toArray Q 1 (canon n 1) a' w':=fun a' w' h2=>by
   rw[ho]at h2;refine wpAny_all hr (by simp) fun j hj=>?_;obtain rfl:j=n:=(by simpa using hj);have:wpOp P l.toArray Q j (fun a w=>Q .normal a w) a' w':=by unfold wpOp;rw[qX];exact h2
   exact Uv (fun a w hq=>⟨Uo,hq⟩) this
  rw[e];exact FO up n _ a W.drew H)
 rw[show n+(l.toArray.size-n)=l.toArray.size by have:=K.le;omega]at this;exact this
theorem Hv{P:Program}{id:Nat}{Q:Exit->Act->World->Prop}{a:Act}{l:List Oper}(n:Nat)(S:World->Prop)(hm:P.follows .mixedOrders=true)(hC:EG .any l.toArray n=true)(hn:l.length=n+1)(hr:Region.ready .any l.toArray (canon n 1)=[n])(Uo:Region.ready .any l.toArray ((canon n 1).setIfInBounds n true)=[])(hS:S W.drew)(h:S W.drew->wpAnyH P .any (l.take n).toArray (tg (wpList P l.toArray Q (l.drop n)) Q) S n (Array.replicate n false) a W.drew):(Code.region id l.toArray true).wp P Q a W:=wp_region_any hm (Ew n S hC hn hr Uo hS h)
theorem tk{P:Program}{md:Region.Mode}{ops:Array Oper}{Q:Exit->Act->World->Prop}{S:World->Prop}(i:Nat){oi:Oper}{listed:Array Bool}{a:Act}(hi:ops[i]?=some oi)(hw:Region.wanted oi (yielded ops a.tmps)=true)(hy:∀w,S w->(execOp a.eval oi).run P w=.ok (.value v) w)(hS:S w)(h:wpAnyH P md ops Q S f (listed.setIfInBounds i true) (a.put oi.dst v) w)(hs:Region.noSelect ops=true:=by decide+kernel)(hf:Region.free md ops listed i=true:=by decide+kernel)(hr:(Region.ready md ops listed).contains i=true:=by decide+kernel)
  (hQ:∀c a w,Q (.panic c) (a.put oi.dst v) w->Q (.panic c) a w:=by exact fun _ _ _ h=>h):wpAnyH P md ops Q S (f+1) listed a w:=
 wpAnyH_take hi hs hf hr hQ (.inl ⟨hw,hy⟩) hS h
theorem kH{P:Program}{md:Region.Mode}{ops:Array Oper}{Q:Exit->Act->World->Prop}{S:World->Prop}(i:Nat){oi:Oper}{listed:Array Bool}{a:Act}(hS:S w)(h:wpAnyH P md ops Q S f (listed.setIfInBounds i true) (a.put oi.dst v) w)(hi:ops[i]?=some oi:=by rfl)(hw:Region.wanted oi (yielded ops a.tmps)=true:=by rfl)(hy:∀w,S w->(execOp a.eval oi).run P w=.ok (.value v) w:=by (intro w hSw;(try dsimp only at hSw);(go_simp<;>with_reducible rfl)))
  (hs:Region.noSelect ops=true:=by decide+kernel) (hf:Region.free md ops listed i=true:=by decide+kernel) (hr:(Region.ready md ops listed).contains i=true:=by decide+kernel)
  (hQ:∀c a w,Q (.panic c) (a.put oi.dst v) w->Q (.panic c) a w:=by exact fun _ _ _ h=>h):wpAnyH P md ops Q S (f+1) listed a w:=
 wpAnyH_take hi hs hf hr hQ (.inl ⟨hw,hy⟩) hS h
end Go.Proofs.YtkdmippllpekfaaGreatDoor
