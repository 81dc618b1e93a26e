import Derived.RangeFuncCalls
import Derived.OrdersIn
import Derived.Deep.RegionHeld
import Derived.Test.YtkdmippllpekfaaGreatDoorB3
namespace Go.Proofs.YtkdmippllpekfaaGreatDoor
open Go.RowKit
variable{l n:Nat}{v:Value}{w:World}
theorem fF{p:Addr}(h:w.cell? p=some v)(ob:Obj):(w.alloc ob).cell? p=some v:=(((aj w.heap.size w).alloc (af _) ob).cell (aw _ _ h)).trans h
theorem Oc{P:Program}{row:String}{args:Array Value}{R:Value->World->Prop}(h:Rows P row args w R)(l n:Nat):RowsIn (Fence.wide.inRound l) n P row args w R:=
 fun c cs _=>let ⟨v,w',r,s⟩:=h c cs;⟨v,w',r,stepsIn_wide.2 s⟩
theorem Oy{P:Program}{o:Oper}{a:Act}{Q:Exit->Act->World->Prop}{K K':Act->World->Prop}(hK:∀a w,K a w->K' a w)(r:Result Next)(h:o.upon P a K Q r):o.uponIn (Fence.wide.inRound l) n P a K' Q r:=by
 cases r with
 |ok x w'=>
  cases x
  case value v=>exact hK _ _ h
  case skip=>exact hK _ _ h
  case defer d=>exact hK _ _ h
  case enter f args=>
   refine⟨fun e=>by simp[Fence.wide]at e,CallsIn.inRound l (du.2 (Calls.mono h fun e w' he=>?_))⟩;cases e with
   |returned v=>exact hK _ _ he
   |panicked c=>exact he
   |outgrown=>exact he
  case row row args=>exact⟨fun e=>by simp[Fence.wide]at e,RowsIn.mono (Oc h l _) fun v w' he=>hK _ _ he⟩
  all_goals exact(h:False).elim
 |halt x w'=>
  cases x
  case panic v=>exact h
  all_goals exact(h:False).elim
theorem qu{P:Program}{md:Region.Mode}{ops:Array Oper}{Q:Exit->Act->World->Prop}{l n:Nat}(hd:∀(i:Nat) (o:Oper),ops[i]?=some o->∀c,o.op≠ .defer c)(hL:¬LetsOut Q):∀(fuel:Nat) (listed:Array Bool) (a:Act) (w:World),wpAny P md ops Q fuel listed a w->wpAnyIn (Fence.wide.inRound l) n P md ops Q fuel listed a w
 |0,_,_,_,h=>h
 |fuel+1,listed,a,w,h=>by
  refine⟨h.1,fun i hi=>?_⟩;have h2:=h.2 i hi;unfold wpOp at h2;unfold wpOpIn;cases ho:ops[i]? with
  |none=>
   rw[ho]at h2;exact qu hd hL fuel _ _ _ h2
  |some o=>
   rw[ho]at h2;simp only at h2 ⊢;by_cases hw:Region.wanted o (yielded ops a.tmps)=true
   ·rw[aW hw]at h2 ⊢;rcases h2 with h2|h2
    ·refine⟨fun f _=>trivial,?_⟩;rw[Oper.semAt_eq _ _ _ (hd i o ho)];exact Oy (fun a' w' h'=>qu hd hL fuel _ a' w' h') _ h2
    ·exact absurd h2.2 hL
   ·rw[aV hw]at h2 ⊢;exact⟨fun f _=>trivial,qu hd hL fuel _ _ _ h2⟩
def Hk(ops:Array Oper):Bool:=ops.all fun o=>match o.op with | .defer _=>false|_=>true
theorem xK{ops:Array Oper}(h:Hk ops=true)(i:Nat)(o:Oper)(ho:ops[i]?=some o)(c:_):o.op≠ .defer c:=by intro e;have:=Array.all_eq_true'.1 h o (fD ho);simp[e]at this
theorem rS{P:Program}{id:Nat}{ops:Array Oper}{Q:Exit->Act->World->Prop}{a:Act}(S:World->Prop)(hm:P.follows .mixedOrders=true)(hd:Hk ops=true)(hL:¬LetsOut Q)(hS:S w.drew)(h:S w.drew->wpAnyH P .any ops Q S ops.size (Array.replicate ops.size false) a w.drew):(Code.region id ops true).wpIn (Fence.wide.inRound l) n P Q a w:=
 wpIn_region_any hm (qu (xK hd) hL _ _ _ _ (wpAny_of_held _ _ _ _ (h hS)))
theorem fH{P:Program}{ops:Array Oper}{o:Oper}{a:Act}{w':World}{K:Act->World->Prop}{Q:Exit->Act->World->Prop}{E:Prop}{u v':Value}(hg:o.guard=none)(s x:Operand)(t:TypeId)(rE:o.op=Op.call { callee:=Callee.builtin Builtin.append,args:=#[s,x],argTypes:=#[t,t] })(hs:a.eval s=u)(hx:a.eval x=v)(ir:(Builtin.append_ #[t,t] o.type #[u,v]).run P w=.ok v' w')(hK:K (a.put o.dst v') w'):if Region.wanted o (yielded ops a.tmps)=true then Oper.wp P o a w K Q else E:=by
 have hw:Region.wanted o (yielded ops a.tmps)=true:=by simp[Region.wanted,hg]
 rw[aW hw];unfold Oper.wp;simp[execOp,rE,resolve,invoke,builtin,hs,hx,ir,Result.andThen];exact hK
end Go.Proofs.YtkdmippllpekfaaGreatDoor
