/- slices.Backward: the places of a row, from the last to the first. -/
import Derived.RangeFuncNested
import Derived.RangeFuncBound
import Derived.RangeFuncCalls
import Derived.RangeFuncLeaves
import Derived.RangeFuncBox
import Derived.Shelf.Abstract
import Derived.Shelf.RegionOpen
import Derived.WalkKit
import Derived.OwnWalkIn
import Derived.TacticsInMore
import Derived.LoopNIn
import Derived.LoopIn
import Derived.BigRegionIn
import Derived.Test.YtgcnhfgpflncaaaGreatDoorB14
namespace Go.Proofs.YtgcnhfgpflncaaaGreatDoor
open Go.RowKit Go.Shelf
attribute [local go_sem] Oper.semAt_some
def Down(N:Nat)(xs:List (Fin N×Nat)):Prop:=∀(j:Nat) (h:j<xs.length),(xs[j]).1.1+j+1=N
theorem Gq(N:Nat):Down N []:=fun j h=>absurd h (by simp)
theorem BJ{N:Nat}{xs:List (Fin N×Nat)}{x:Fin N×Nat}(h:Down N xs)(hx:x.1.1+xs.length+1=N):Down N (xs++[x]):=fun j hj=>by
 rw[List.getElem_append]
 split
 ·exact h j _
 ·rename_i hl
  simp at hj
  obtain rfl:j=xs.length:=by omega
  simpa using hx
theorem BH{N:Nat}{xs:List (Fin N×Nat)}{x:Fin N×Nat}(h:Down N (xs++[x])):Down N xs/\x.1.1+xs.length+1=N:=by
 refine⟨fun j hj=>?_,?_⟩
 ·have:=h j (by simp;omega)
  rwa [List.getElem_append_left hj]at this
 ·have:=h xs.length (by simp)
  simpa using this
def lG(Bs gq N:Nat)(W W':World):Prop:=W'.cell? ⟨Bs,0,none⟩=W.cell? ⟨Bs,0,none⟩/\((∃ qs,qs.length=N/\aB W gq qs)->∃ qs,qs.length=N/\aB W' gq qs)
theorem Ap{Bs gq N:Nat}{A B C:World}(h:lG Bs gq N A B)(k:lG Bs gq N B C):lG Bs gq N A C:=⟨k.1.trans h.1,fun x=>k.2 (h.2 x)⟩
theorem KW{Bs gq N:Nat}{w:World}(hs:Bs<w.heap.size)(hn:gq<w.heap.size)(W:World)(l:Nat)(o o':Obj)(hl:w.heap.size<=l)(_:W.heap[l]?=some o)(_:o.isCells=false)(_:o.isWalk=false):lG Bs gq N W (W.putObj l o'):=
 ⟨World.cell?_of_block (a:=⟨Bs,0,none⟩) (World.putObj_heap_other (by show Bs≠l;omega)),fun⟨qs,h1,h2⟩=>⟨qs,h1,(World.putObj_heap_other (by show gq≠l;omega)).trans h2⟩⟩
set_option maxRecDepth 100000 in
set_option maxHeartbeats 1600000 in
theorem Bm(n:Nat)(ga:Option Addr)(L cap:Nat)(w:World):
  CallsIn Fence.wide n Tryz.prog 113 #[.slice ga L cap] w fun e w'=>e=.returned (.func (.func 151) #[] #[.pointer (some ⟨w.heap.size,0,none⟩)])/\w'=w.alloc (.cells #[.slice ga L cap] 29):=by
 refine callsIn_of_wp Tryz.func113 rfl trivial ?_ rfl
 simp only[Tryz.ntmps113,List.size_toArray,List.length_cons,List.length_nil,Nat.reduceAdd,Nat.reduceSub,Array.replicate_succ,Array.replicate_zero,List.push_toArray,List.append_toArray,List.nil_append,List.cons_append]
 gi_wp2
 go_ret
 exact⟨rfl,rfl⟩
set_option maxRecDepth 100000 in
set_option maxHeartbeats 3200000 in
theorem FO(n:Nat)(hn:1<=n)(l Bs gq N cap:Nat)(hN:N<=1073741824)(J Jx:List (Fin N×Nat)->World->Prop)
  (hY:∀ pre x W,J pre W->pre.length<N->YieldAt Fence.wide (n-1) Tryz.prog l #[.int .i64 (x.1.1:Int),.int .u64 (x.2:Int)] W fun e W'=>
   (e=.returned (.bool true)/\J (pre++[x]) W'/\lG Bs gq N W W')\/(e=.returned (.bool false)/\Jx (pre++[x]) W'))
  (W:World) (hBs:W.cell? ⟨Bs,0,none⟩=some (.slice (some ⟨gq,0,none⟩) N cap)) (hQ:∃ qs,qs.length=N/\aB W gq qs) (h0:J [] W):
  CallsIn Fence.wide n Tryz.prog 151 #[.func (.yield l) #[] #[],.pointer (some ⟨Bs,0,none⟩)] W fun e W'=>(∃ v,e=.returned v)/\
   ((∃ ys,(ys.length=N/\Down N ys)/\J ys W')\/(∃ pre,True/\Jx pre W')):=by
 refine callsIn_of_wp Tryz.func151 rfl trivial ?_ rfl
 simp only[Tryz.ntmps151,List.size_toArray,List.length_cons,List.length_nil,Nat.reduceAdd,Nat.reduceSub,Array.replicate_succ,Array.replicate_zero,List.push_toArray,List.append_toArray,List.nil_append,List.cons_append]
 have iN:IntKind.i64.wrap ((N:Int)-1)=(N:Int)-1:=by rw[IntKind.wrap_i64];omega
 gi_wp2
 gi_loopw [3] (fun i wr=>∃(q:Nat) (z:Int) (pre:List (Fin N×Nat)),q<=N/\z+1=(q:Int)/\i=.int .i64 z/\Hid (pre.length+q=N/\Down N pre)/\J pre wr/\lG Bs gq N W wr)
  (fun i _=>(intOf i+1).toNat)
 case atStart=>exact⟨N,(N:Int)-1,[],Nat.le_refl _,by omega,rfl,⟨by simp,Gq N⟩,h0,rfl,fun h=>h⟩
 case round=>
  obtain⟨q,z,pre,hq,hz,rfl,hD,hJs,kp⟩:=hrel
  have c1:=kp.1.trans hBs
  obtain⟨qs,hl,hB⟩:=kp.2 hQ
  by_cases hlt:0<q
  ·obtain⟨k,rfl⟩:∃ k,q=k+1:=⟨q-1,by omega⟩
   obtain rfl:z=(k:Int):=by omega
   have hk:k<N:=by omega
   have c2:=hB.cell k (by omega)
   obtain⟨d,hd⟩:∃ d,d=qs.getD k 0:=⟨_,rfl⟩
   rw[<-hd]at c2
   obtain⟨fn,tmps,assign,body,hy,hR⟩:=hY pre (⟨k,hk⟩,d) wr hJs (by have:=hD.out.1;omega)
   dsimp only at hy
   have HK:=hide kp
   have hki:0<=(k:Int):=by omega
   have i2:IntKind.i64.wrap ((k:Int)-1)=(k:Int)-1:=by rw[IntKind.wrap_i64];omega
   clear kp hd hl hB hz
   gi_wp2
   refine hR.mono ?_
   rintro e W3 (⟨rfl,hJ3,hk3⟩|⟨rfl,hJx3⟩)
   ·have kp3:lG Bs gq N W W3:=Ap (ae HK) hk3
    have c1:=kp3.1.trans hBs
    gi_wp2
    go_roundw
    case rel=>exact⟨k,(k:Int)-1,_,by omega,by omega,rfl,⟨by have:=hD.out.1;simp;omega,BJ hD.out.2 (by have:=hD.out.1;show k+_+1=N;omega)⟩,hJ3,kp3⟩
    case measure=>simp[intOf]
   ·gi_wp2
    refine bodyPost_ret (results_none rfl _ _ _) rfl ?_
    exact⟨⟨_,rfl⟩,.inr ⟨_,trivial,hJx3⟩⟩
  ·obtain rfl:q=0:=by omega
   obtain rfl:z= -1:=by omega
   clear kp hB
   gi_wp2
   go_end0
   first|exact⟨⟨_,rfl⟩,.inl ⟨_,⟨by have:=hD.out.1;omega,hD.out.2⟩,hJs⟩⟩
theorem yj(n:Nat)(hn:1<=n)(Bs gq N cap:Nat)(hN:N<=1073741824)(w:World)(hBs:Bs<w.heap.size)
  (c1:w.cell? ⟨Bs,0,none⟩=some (.slice (some ⟨gq,0,none⟩) N cap)) (qs:List Nat) (hl:qs.length=N) (hB:aB w gq qs):
  SeqStopsK Fence.wide n Tryz.prog 151 #[.pointer (some ⟨Bs,0,none⟩)] (fun x:Fin N×Nat=>#[.int .i64 (x.1.1:Int),.int .u64 (x.2:Int)]) (lG Bs gq N) (fun ys=>ys.length=N/\Down N ys) (fun _=>True) N w:=fun l J Jx W hW _ _ hY h0=>
 FO n hn l Bs gq N cap hN J Jx hY W ((hW.cell (p:=⟨Bs,0,none⟩) hBs).trans c1) ⟨qs,hl,hB.next hW⟩ h0
end Go.Proofs.YtgcnhfgpflncaaaGreatDoor
