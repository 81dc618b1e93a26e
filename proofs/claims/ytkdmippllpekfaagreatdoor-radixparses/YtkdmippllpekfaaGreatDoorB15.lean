import Derived.RangeFuncNested
import Derived.RangeFuncBound
import Derived.Test.YtkdmippllpekfaaGreatDoorB12
namespace Go.Proofs.YtkdmippllpekfaaGreatDoor
open Go.RowKit
variable{lb:Array Value}{gf n:Nat}{w w0:World}
def ri(n gf:Nat)(lb:Array Value)(args:Nat->Array Value)(N:Nat)(Kp:World->World->Prop)(w0:World):Prop:=
 ∀(l:Nat) (J:Nat->World->Prop) (W:World),Below w0.heap.size w0 W->(∀k W,J k W->J k W.drew)->
  (∀k W1,k<N->J k W1->YieldAt Fence.wide (n-1) Tryz.prog l (args k) W1 fun e W'=>e=.returned (.bool true)/\J (k+1) W'/\Kp W1 W')->J 0 W->
  CallsIn Fence.wide n Tryz.prog gf (#[.func (.yield l) #[] #[]]++lb) W fun e W'=>(∃v,e=.returned v)/\J N W'
def B9(B:Nat)(Kp:World->World->Prop)(I:World->Prop)(W:World):Exit->Act->World->Prop
 | .normal,_,W'=>KeepsFrom B W W'/\Kp W W'/\I W'
 |_,_,_=>False
theorem Bp{β:Type}{B:Nat}{I:β->World->Prop}(h:OwnFrom B I){s:β}{W:World}(hs:I s W):I s W.drew:=
 h s W W.drew none hs ⟨rfl,rfl,rfl,af _,fun _ _ _=>rfl⟩ (fun r e=>by cases e)
theorem wh{g:Operand}{ps:Array Tmp}{assign body:Code}{Q:Exit->Act->World->Prop}{a:Act}(h1:1<=n)(hg:a.eval g=.func (.func gf) #[] lb)(eg:∀args w,(callFunc gf args).run Tryz.prog w=.ok (.enter gf args) w){args:Nat->Array Value}{N:Nat}{Kp:World->World->Prop}(Ws:ri (n-1) gf lb args N Kp w0)(Ab:Below w0.heap.size w0 w)(hKt:∀ {A B C:World},Kp A B->Kp B C->Kp A C)(Ue:∀(W:World) (l:Nat) (o o':Obj),w.heap.size<=l->W.heap[l]?=some o->o.isCells=false->o.isWalk=false->Kp W (W.putObj l o'))(hps:∀k,(args k).size=ps.size)(I:Nat->World->Prop)(hI:OwnFrom w.heap.size I)(h0:I 0 w)(a₁:Nat->Act)(xy:∀(l k:Nat) (W:World) (K:Act->World->Prop),K (a₁ k) W->assign.wpIn (Fence.wide.inRound l) (n-1-1) Tryz.prog (Exit.then K (fun _ _ _=>False)) { tmps:=(ps.zip (args k)).foldl (fun t (p,v)=>t.setIfInBounds p v) a.tmps,defers:=[] } W)
  (J6:∀(l k:Nat) (W:World),k<N->I k W->body.wpIn (Fence.wide.inRound l) (n-1-1) Tryz.prog (B9 w.heap.size Kp (I (k+1)) W) (a₁ k) W)
  (J8:∀(D:Nat) (W:World),w.heap.size<=D->I N W->W.heap[D]?=some (.deferred (some []))->Q .normal { a with defers:={ target:=.collected D,args:=#[] } :: a.defers } W):
  (Code.rangeFunc g ps assign body).wpIn Fence.wide n Tryz.prog Q a w:=by
 refine wpIn_rangeFunc fun fn J9=>?_;obtain⟨D,hD⟩:∃D,w.heap.size=D:=⟨_,rfl⟩;obtain⟨R,hR⟩:∃R:LoopState->Loop,R=fun st=>{ state:=st,pending:=none,fn,tmps:=a.tmps,params:=ps,assign,body,defers:=D }:=⟨_,rfl⟩;obtain⟨V,hV⟩:∃V,(w.alloc (.deferred (some []))).alloc (.loop (R .ready))=V:=⟨_,rfl⟩
 -- what is known of the record and of the block of deferred calls between two rounds
 let oH:LoopState->World->Prop:=fun st W=>W.heap[D+1]?=some (.loop (R st))/\W.heap[D]?=some (.deferred (some []));have bV:oH .ready V:=by
  refine⟨?_,?_⟩
  ·have:=World.alloc_heap_new (w.alloc (.deferred (some []))) (.loop (R .ready));rw[aL,hD,hV]at this;exact this
  ·rw[<-hV, <-hD];exact(FY _ _ _ (by simp)).trans (World.alloc_heap_new w _)
 have put:∀ {st:LoopState} (kg:LoopState) {W:World},oH st W->oH kg (W.putObj (D+1) (.loop (R kg))):=fun kg W h=>
  ⟨World.putObj_heap_same (ah.1 h.1).1,(World.putObj_heap_other (by omega)).trans h.2⟩
 have BJ:∀ {k:Nat} {st:LoopState} {W:World} (o':Obj),oH st W->I k W->I k (W.putObj (D+1) o'):=fun o' h hi=>hI.putObj o' hi (by omega) h.1 rfl;have Kg:∀ {st:LoopState} {W:World} (o':Obj),oH st W->Kp W (W.putObj (D+1) o'):=fun o' h=>Ue _ _ _ o' (by omega) h.1 rfl rfl;refine⟨D+1,[{ target:=.collected D,args:=#[] }],V,{ target:=.fn (.func gf) lb,args:=#[.func (.yield (D+1)) #[] #[]] },V,gf,#[.func (.yield (D+1)) #[] #[]]++lb,V,?_,?_,fun f' _=>trivial,?_,fun _=>h1,?_⟩
 ·rw[<-hV,hR, <-hD];exact run_enterLoop_outer _ _ _ _ _
 ·simp only[resolve,hg];simp[go_sem]
 ·simp[invoke,go_sem,eg]
 have bw:Below w0.heap.size w0 V:=by rw[<-hV];exact Ab.trans ((((aj _ w).alloc (af _) _).alloc (by simp) _).mono Ab.size)
 have i0:I 0 V:=by rw[<-hV];exact hI.alloc _ (hI.alloc _ h0)
 refine(Ws (D+1) (fun k W=>I k W/\oH .ready W) V bw (fun k W h=>⟨Bp hI h.1,h.2⟩) (fun k W hk h=>?_) ⟨i0,bV⟩).mono ?_
 ·obtain⟨hi,hb⟩:=h;have hy:=run_yield (P:=Tryz.prog) (args:=args k) hb.1 (by rw[hR];exact hps k);rw[hR]at hy;refine⟨fn,_,assign,body,hy,roundIn_of_wpIn J9 (xy _ k W _ ⟨_,run_beginRound hb.1 (by rw[hR]),?_⟩)⟩;have e1:({ R .ready with state:=.busy }:Loop)=R .busy:=by rw[hR]
  rw[e1];have b2:=put .busy hb;refine wpIn_mono (J6 _ k _ hk (BJ _ hb hi)) ?_;rintro e a3 W3 hp;cases e with
  |normal=>
   obtain⟨k3,q3,i3⟩:=hp;have b3:oH .busy W3:=⟨k3.same _ _ (by omega) b2.1 rfl,k3.same _ _ (by omega) b2.2 rfl⟩;have hr:=run_endRound (P:=Tryz.prog) none b3.1;have e2:({ R .busy with state:=if (none:Option Code).isNone then .ready else .done,pending:=none }:Loop)=R .ready:=by rw[hR];rfl
   refine⟨_,_,hr,rfl,⟨?_,?_⟩,?_⟩
   ·exact BJ _ b3 i3
   ·have:=put .ready b3;rw[hR]at this ⊢;exact this
   ·exact hKt (hKt (Kg _ hb) q3) (Kg _ b3)
  |ret=>exact hp.elim
  |exit id=>exact hp.elim
  |goto t=>exact hp.elim
  |panic c=>exact hp.elim
  |outgrown=>exact hp.elim
 ·rintro e W2 ⟨⟨v,rfl⟩,hi,hb⟩;have hr:=run_endLoop (P:=Tryz.prog) hb.1 (by rw[hR];simp);rw[hR]at hr;exact⟨none,_,hr,J8 D _ (by omega) (BJ _ hb hi) ((World.putObj_heap_other (by omega)).trans hb.2)⟩
theorem KV{g:Operand}{ps:Array Tmp}{assign body:Code}{Q:Exit->Act->World->Prop}{a:Act}(h1:1<=n)(hg:a.eval g=.func (.func gf) #[] lb)(eg:∀args w,(callFunc gf args).run Tryz.prog w=.ok (.enter gf args) w){args:Nat->Array Value}{N:Nat}{Kp:World->World->Prop}(Ws:ri (n-1) gf lb args N Kp w0)(Ab:Below w0.heap.size w0 w)(hKt:∀ {A B C:World},Kp A B->Kp B C->Kp A C)(Ue:∀(W:World) (l:Nat) (o o':Obj),w.heap.size<=l->W.heap[l]?=some o->o.isCells=false->o.isWalk=false->Kp W (W.putObj l o'))(hps:∀k,(args k).size=ps.size)(I:Nat->World->Prop)(hI:OwnFrom w.heap.size I)(h0:I 0 w)(a₁:Nat->Act)(xy:∀(l k:Nat) (W:World) (K:Act->World->Prop),K (a₁ k) W->assign.wpIn (Fence.wide.inRound l) (n-1-1) Tryz.prog (Exit.then K (fun _ _ _=>False)) { tmps:=(ps.zip (args k)).foldl (fun t (p,v)=>t.setIfInBounds p v) a.tmps,defers:=[] } W)
  (J6:∀(l k:Nat) (W:World),w.heap.size<=l->(∃r,W.heap[l]?=some (.loop r))->k<N->I k W->body.wpIn (Fence.wide.inRound l) (n-1-1) Tryz.prog (B9 w.heap.size Kp (I (k+1)) W) (a₁ k) W)
  (J8:∀(D:Nat) (W:World),w.heap.size<=D->I N W->W.heap[D]?=some (.deferred (some []))->Q .normal { a with defers:={ target:=.collected D,args:=#[] } :: a.defers } W):
  (Code.rangeFunc g ps assign body).wpIn Fence.wide n Tryz.prog Q a w:=by
 refine wpIn_rangeFunc fun fn J9=>?_;obtain⟨D,hD⟩:∃D,w.heap.size=D:=⟨_,rfl⟩;obtain⟨R,hR⟩:∃R:LoopState->Loop,R=fun st=>{ state:=st,pending:=none,fn,tmps:=a.tmps,params:=ps,assign,body,defers:=D }:=⟨_,rfl⟩;obtain⟨V,hV⟩:∃V,(w.alloc (.deferred (some []))).alloc (.loop (R .ready))=V:=⟨_,rfl⟩
 -- what is known of the record and of the block of deferred calls between two rounds
 let oH:LoopState->World->Prop:=fun st W=>W.heap[D+1]?=some (.loop (R st))/\W.heap[D]?=some (.deferred (some []));have bV:oH .ready V:=by
  refine⟨?_,?_⟩
  ·have:=World.alloc_heap_new (w.alloc (.deferred (some []))) (.loop (R .ready));rw[aL,hD,hV]at this;exact this
  ·rw[<-hV, <-hD];exact(FY _ _ _ (by simp)).trans (World.alloc_heap_new w _)
 have put:∀ {st:LoopState} (kg:LoopState) {W:World},oH st W->oH kg (W.putObj (D+1) (.loop (R kg))):=fun kg W h=>
  ⟨World.putObj_heap_same (ah.1 h.1).1,(World.putObj_heap_other (by omega)).trans h.2⟩
 have BJ:∀ {k:Nat} {st:LoopState} {W:World} (o':Obj),oH st W->I k W->I k (W.putObj (D+1) o'):=fun o' h hi=>hI.putObj o' hi (by omega) h.1 rfl;have Kg:∀ {st:LoopState} {W:World} (o':Obj),oH st W->Kp W (W.putObj (D+1) o'):=fun o' h=>Ue _ _ _ o' (by omega) h.1 rfl rfl;refine⟨D+1,[{ target:=.collected D,args:=#[] }],V,{ target:=.fn (.func gf) lb,args:=#[.func (.yield (D+1)) #[] #[]] },V,gf,#[.func (.yield (D+1)) #[] #[]]++lb,V,?_,?_,fun f' _=>trivial,?_,fun _=>h1,?_⟩
 ·rw[<-hV,hR, <-hD];exact run_enterLoop_outer _ _ _ _ _
 ·simp only[resolve,hg];simp[go_sem]
 ·simp[invoke,go_sem,eg]
 have bw:Below w0.heap.size w0 V:=by rw[<-hV];exact Ab.trans ((((aj _ w).alloc (af _) _).alloc (by simp) _).mono Ab.size)
 have i0:I 0 V:=by rw[<-hV];exact hI.alloc _ (hI.alloc _ h0)
 refine(Ws (D+1) (fun k W=>I k W/\oH .ready W) V bw (fun k W h=>⟨Bp hI h.1,h.2⟩) (fun k W hk h=>?_) ⟨i0,bV⟩).mono ?_
 ·obtain⟨hi,hb⟩:=h;have hy:=run_yield (P:=Tryz.prog) (args:=args k) hb.1 (by rw[hR];exact hps k);rw[hR]at hy;refine⟨fn,_,assign,body,hy,roundIn_of_wpIn J9 (xy _ k W _ ⟨_,run_beginRound hb.1 (by rw[hR]),?_⟩)⟩;have e1:({ R .ready with state:=.busy }:Loop)=R .busy:=by rw[hR]
  rw[e1];have b2:=put .busy hb;refine wpIn_mono (J6 _ k _ (by omega) ⟨_,b2.1⟩ hk (BJ _ hb hi)) ?_;rintro e a3 W3 hp;cases e with
  |normal=>
   obtain⟨k3,q3,i3⟩:=hp;have b3:oH .busy W3:=⟨k3.same _ _ (by omega) b2.1 rfl,k3.same _ _ (by omega) b2.2 rfl⟩;have hr:=run_endRound (P:=Tryz.prog) none b3.1;have e2:({ R .busy with state:=if (none:Option Code).isNone then .ready else .done,pending:=none }:Loop)=R .ready:=by rw[hR];rfl
   refine⟨_,_,hr,rfl,⟨?_,?_⟩,?_⟩
   ·exact BJ _ b3 i3
   ·have:=put .ready b3;rw[hR]at this ⊢;exact this
   ·exact hKt (hKt (Kg _ hb) q3) (Kg _ b3)
  |ret=>exact hp.elim
  |exit id=>exact hp.elim
  |goto t=>exact hp.elim
  |panic c=>exact hp.elim
  |outgrown=>exact hp.elim
 ·rintro e W2 ⟨⟨v,rfl⟩,hi,hb⟩;have hr:=run_endLoop (P:=Tryz.prog) hb.1 (by rw[hR];simp);rw[hR]at hr;exact⟨none,_,hr,J8 D _ (by omega) (BJ _ hb hi) ((World.putObj_heap_other (by omega)).trans hb.2)⟩
theorem KW{g:Operand}{ps:Array Tmp}{assign body:Code}{Q:Exit->Act->World->Prop}{a:Act}{l0:Nat}(vn:∃r,w.heap[l0]?=some (.loop r))(h1:1<=n)(hg:a.eval g=.func (.func gf) #[] lb)(eg:∀args w,(callFunc gf args).run Tryz.prog w=.ok (.enter gf args) w){args:Nat->Array Value}{N:Nat}{Kp:World->World->Prop}(Ws:ri (n-1) gf lb args N Kp w0)(Ab:Below w0.heap.size w0 w)(hKt:∀ {A B C:World},Kp A B->Kp B C->Kp A C)(Ue:∀(W:World) (l:Nat) (o o':Obj),w.heap.size<=l->W.heap[l]?=some o->o.isCells=false->o.isWalk=false->Kp W (W.putObj l o'))(hps:∀k,(args k).size=ps.size)(I:Nat->World->Prop)(hI:OwnFrom w.heap.size I)(h0:I 0 w)(a₁:Nat->Act)(xy:∀(l k:Nat) (W:World) (K:Act->World->Prop),K (a₁ k) W->assign.wpIn (Fence.wide.inRound l) (n-1-1) Tryz.prog (Exit.then K (fun _ _ _=>False)) { tmps:=(ps.zip (args k)).foldl (fun t (p,v)=>t.setIfInBounds p v) a.tmps,defers:=[] } W)
  (J6:∀(l k:Nat) (W:World),k<N->I k W->body.wpIn (Fence.wide.inRound l) (n-1-1) Tryz.prog (B9 w.heap.size Kp (I (k+1)) W) (a₁ k) W)
  (J8:∀(W:World),I N W->Q .normal a W):
  (Code.rangeFunc g ps assign body).wpIn (Fence.wide.inRound l0) n Tryz.prog Q a w:=by
 obtain⟨r0,Ps⟩:=vn;refine wpIn_rangeFunc fun fn J9=>?_;obtain⟨D,hD⟩:∃D,w.heap.size=D:=⟨_,rfl⟩;obtain⟨R,hR⟩:∃R:LoopState->Loop,R=fun st=>{ state:=st,pending:=none,fn,tmps:=a.tmps,params:=ps,assign,body,defers:=r0.defers }:=⟨_,rfl⟩;obtain⟨V,hV⟩:∃V,w.alloc (.loop (R .ready))=V:=⟨_,rfl⟩;let oH:LoopState->World->Prop:=fun st W=>W.heap[D]?=some (.loop (R st));have bV:oH .ready V:=by have:=World.alloc_heap_new w (.loop (R .ready));rw[hD,hV]at this;exact this
 have put:∀ {st:LoopState} (kg:LoopState) {W:World},oH st W->oH kg (W.putObj D (.loop (R kg))):=fun kg W h=>World.putObj_heap_same (ah.1 h).1;have BJ:∀ {k:Nat} {st:LoopState} {W:World} (o':Obj),oH st W->I k W->I k (W.putObj D o'):=fun o' h hi=>hI.putObj o' hi (by omega) h rfl;have Kg:∀ {st:LoopState} {W:World} (o':Obj),oH st W->Kp W (W.putObj D o'):=fun o' h=>Ue _ _ _ o' (by omega) h rfl rfl;refine⟨D,[],V,{ target:=.fn (.func gf) lb,args:=#[.func (.yield D) #[] #[]] },V,gf,#[.func (.yield D) #[] #[]]++lb,V,?_,?_,fun f' _=>trivial,?_,fun _=>h1,?_⟩
 ·rw[<-hV,hR, <-hD];exact run_enterLoop_inner Ps _ _ _ _ _
 ·simp only[resolve,hg];simp[go_sem]
 ·simp[invoke,go_sem,eg]
 have bw:Below w0.heap.size w0 V:=by rw[<-hV];exact Ab.trans (((aj _ w).alloc (af _) _).mono Ab.size)
 have i0:I 0 V:=by rw[<-hV];exact hI.alloc _ h0
 refine(CallsIn.inRound l0 (Ws D (fun k W=>I k W/\oH .ready W) V bw (fun k W h=>⟨Bp hI h.1,h.2⟩) (fun k W hk h=>?_) ⟨i0,bV⟩)).mono ?_
 ·obtain⟨hi,hb⟩:=h;have hy:=run_yield (P:=Tryz.prog) (args:=args k) hb (by rw[hR];exact hps k);rw[hR]at hy;refine⟨fn,_,assign,body,hy,roundIn_of_wpIn J9 (xy _ k W _ ⟨_,run_beginRound hb (by rw[hR]),?_⟩)⟩;have e1:({ R .ready with state:=.busy }:Loop)=R .busy:=by rw[hR]
  rw[e1];have b2:=put .busy hb;refine wpIn_mono (J6 _ k _ hk (BJ _ hb hi)) ?_;rintro e a3 W3 hp;cases e with
  |normal=>
   obtain⟨k3,q3,i3⟩:=hp;have b3:oH .busy W3:=k3.same _ _ (by omega) b2 rfl;have hr:=run_endRound (P:=Tryz.prog) none b3;have e2:({ R .busy with state:=if (none:Option Code).isNone then .ready else .done,pending:=none }:Loop)=R .ready:=by rw[hR];rfl
   refine⟨_,_,hr,rfl,⟨?_,?_⟩,?_⟩
   ·exact BJ _ b3 i3
   ·have:=put .ready b3;rw[hR]at this ⊢;exact this
   ·exact hKt (hKt (Kg _ hb) q3) (Kg _ b3)
  |ret=>exact hp.elim
  |exit id=>exact hp.elim
  |goto t=>exact hp.elim
  |panic c=>exact hp.elim
  |outgrown=>exact hp.elim
 ·rintro e W2 ⟨⟨v,rfl⟩,hi,hb⟩;have hr:=run_endLoop (P:=Tryz.prog) hb (by rw[hR];simp);rw[hR]at hr;exact⟨none,_,hr,J8 _ (BJ _ hb hi)⟩
end Go.Proofs.YtkdmippllpekfaaGreatDoor
