import Derived.RangeFuncNested
import Derived.RangeFuncBound
import Derived.Shelf.RegionOpen
import Derived.OwnWalkIn
import Derived.LoopNIn
import Derived.LoopIn
import Derived.Test.YtkdmippllpekfaaGreatDoorB12
namespace Go.Proofs.YtkdmippllpekfaaGreatDoor
set_option maxRecDepth 100000
set_option maxHeartbeats 3200000
open Go.RowKit Go.Shelf
attribute [local go_sem] Oper.semAt_some
def Down(N:Nat)(xs:List (Fin N×Nat)):Prop:=∀(j:Nat) (h:j<xs.length),(xs[j]).1.1+j+1=N
theorem VD(N:Nat):Down N []:=fun j h=>absurd h (by simp)
theorem Rj{N:Nat}{xs:List (Fin N×Nat)}{x:Fin N×Nat}(h:Down N xs)(hx:x.1.1+xs.length+1=N):Down N (xs++[x]):=fun j hj=>by
 rw[List.getElem_append];split
 ·exact h j _
 ·rename_i hl;simp at hj;obtain rfl:j=xs.length:=by omega
  simpa using hx
theorem Ri{N:Nat}{xs:List (Fin N×Nat)}{x:Fin N×Nat}(h:Down N (xs++[x])):Down N xs/\x.1.1+xs.length+1=N:=by
 refine⟨fun j hj=>?_,?_⟩
 ·have:=h j (by simp;omega);rwa [List.getElem_append_left hj]at this
 ·have:=h xs.length (by simp);simpa using this
def wJ(Bs gq N:Nat)(W W':World):Prop:=W'.cell? ⟨Bs,0,none⟩=W.cell? ⟨Bs,0,none⟩/\((∃qs,qs.length=N/\cW W gq qs)->∃qs,qs.length=N/\cW W' gq qs)
theorem Py{Bs gq N:Nat}{A B C:World}(h:wJ Bs gq N A B)(k:wJ Bs gq N B C):wJ Bs gq N A C:=⟨k.1.trans h.1,fun x=>k.2 (h.2 x)⟩
theorem U'{Bs gq N:Nat}{w:World}(hs:Bs<w.heap.size)(hn:gq<w.heap.size)(W:World)(l:Nat)(o o':Obj)(hl:w.heap.size<=l)(_:W.heap[l]?=some o)(_:o.isCells=false)(_:o.isWalk=false):wJ Bs gq N W (W.putObj l o'):=
 ⟨cZ (a:=⟨Bs,0,none⟩) (World.putObj_heap_other (by show Bs≠l;omega)),fun⟨qs,h1,h2⟩=>⟨qs,h1,(World.putObj_heap_other (by show gq≠l;omega)).trans h2⟩⟩
theorem QU(n:Nat)(ga:Option Addr)(L cap:Nat)(w:World):CallsIn Fence.wide n Tryz.prog 47 #[.slice ga L cap] w fun e w'=>e=.returned (.func (.func 64) #[] #[.pointer (some ⟨w.heap.size,0,none⟩)])/\w'=w.alloc (.cells #[.slice ga L cap] 38):=by
 refine ic Tryz.func47 rfl trivial ?_ rfl;simp only[Tryz.ntmps47,List.size_toArray,List.length_cons,List.length_nil,Nat.reduceAdd,Nat.reduceSub,Array.replicate_succ,Array.replicate_zero,List.push_toArray,List.append_toArray,List.nil_append,List.cons_append]
 gi_wp2
 go_ret;exact⟨rfl,rfl⟩
theorem U4(n:Nat)(hn:1<=n)(l Bs gq N cap:Nat)(hN:N<=1073741824)(J Jx:List (Fin N×Nat)->World->Prop)(hY:∀pre x W,J pre W->pre.length<N->YieldAt Fence.wide (n-1) Tryz.prog l #[.int .i64 (x.1.1:Int),.int .u64 (x.2:Int)] W fun e W'=>(e=.returned (.bool true)/\J (pre++[x]) W'/\wJ Bs gq N W W')\/(e=.returned (.bool false)/\Jx (pre++[x]) W'))(W:World) (sO:W.cell? ⟨Bs,0,none⟩=some (.slice (some ⟨gq,0,none⟩) N cap)) (hQ:∃qs,qs.length=N/\cW W gq qs) (h0:J [] W):CallsIn Fence.wide n Tryz.prog 64 #[.func (.yield l) #[] #[],.pointer (some ⟨Bs,0,none⟩)] W fun e W'=>(∃v,e=.returned v)/\((∃ys,(ys.length=N/\Down N ys)/\J ys W')\/(∃pre,True/\Jx pre W')):=by
 refine ic Tryz.func64 rfl trivial ?_ rfl;simp only[Tryz.ntmps64,List.size_toArray,List.length_cons,List.length_nil,Nat.reduceAdd,Nat.reduceSub,Array.replicate_succ,Array.replicate_zero,List.push_toArray,List.append_toArray,List.nil_append,List.cons_append];have iN:IntKind.i64.wrap ((N:Int)-1)=(N:Int)-1:=by rw[ao];omega
 gi_wp2
 gi_loopw [3] (fun i wr=>∃(q:Nat) (z:Int) (pre:List (Fin N×Nat)),q<=N/\z+1=(q:Int)/\i=.int .i64 z/\Hid (pre.length+q=N/\Down N pre)/\J pre wr/\wJ Bs gq N W wr)
  (fun i _=>(intOf i+1).toNat)
 case atStart=>exact⟨N,(N:Int)-1,[],af _,by omega,rfl,⟨by simp,VD N⟩,h0,rfl,fun h=>h⟩
 case round=>
  obtain⟨q,z,pre,hq,hz,rfl,hD,DE,kp⟩:=hrel;have c1:=kp.1.trans sO;obtain⟨qs,hl,hB⟩:=kp.2 hQ;by_cases dh:0<q
  ·obtain⟨k,rfl⟩:∃k,q=k+1:=⟨q-1,by omega⟩;obtain rfl:z=(k:Int):=(by omega);have hk:k<N:=(by omega);have c2:=hB.cell k (by omega);obtain⟨d,hd⟩:∃d,d=qs.getD k 0:=⟨_,rfl⟩;rw[<-hd]at c2;obtain⟨fn,tmps,assign,body,hy,hR⟩:=hY pre (⟨k,hk⟩,d) wr DE (by have:=hD.out.1;omega);dsimp only at hy;have HK:=ag kp;have Zi:0<=(k:Int):=(by omega);have i2:IntKind.i64.wrap ((k:Int)-1)=(k:Int)-1:=by rw[ao];omega
   clear kp hd hl hB hz
   gi_wp2
   refine hR.mono ?_;rintro e W3 (⟨rfl,Rs,RE⟩|⟨rfl,aci⟩)
   ·have Hc:wJ Bs gq N W W3:=Py (ae HK) RE;have c1:=Hc.1.trans sO
    gi_wp2
    go_roundw
    case rel=>exact⟨k,(k:Int)-1,_,by omega,by omega,rfl,⟨by have:=hD.out.1;simp;omega,Rj hD.out.2 (by have:=hD.out.1;show k+_+1=N;omega)⟩,Rs,Hc⟩
    case measure=>simp[intOf]
   ·gi_wp2
    refine dR (results_none rfl _ _ _) rfl ?_;exact⟨⟨_,rfl⟩,.inr ⟨_,trivial,aci⟩⟩
  ·obtain rfl:q=0:=(by omega);obtain rfl:z= -1:=(by omega);clear kp hB
   gi_wp2
   go_end0
   first|exact⟨⟨_,rfl⟩,.inl ⟨_,⟨by have:=hD.out.1;omega,hD.out.2⟩,DE⟩⟩
theorem Mv(n:Nat)(hn:1<=n)(Bs gq N cap:Nat)(hN:N<=1073741824)(w:World)(sO:Bs<w.heap.size)(c1:w.cell? ⟨Bs,0,none⟩=some (.slice (some ⟨gq,0,none⟩) N cap)) (qs:List Nat) (hl:qs.length=N) (hB:cW w gq qs):SeqStopsK Fence.wide n Tryz.prog 64 #[.pointer (some ⟨Bs,0,none⟩)] (fun x:Fin N×Nat=>#[.int .i64 (x.1.1:Int),.int .u64 (x.2:Int)]) (wJ Bs gq N) (fun ys=>ys.length=N/\Down N ys) (fun _=>True) N w:=fun l J Jx W hW _ _ hY h0=>
 U4 n hn l Bs gq N cap hN J Jx hY W ((hW.cell (p:=⟨Bs,0,none⟩) sO).trans c1) ⟨qs,hl,hB.next hW⟩ h0
end Go.Proofs.YtkdmippllpekfaaGreatDoor
