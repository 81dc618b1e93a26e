/- slices.Chunk: a row in pieces of k words. -/
import Derived.RangeFuncNested
import Derived.RangeFuncBound
import Derived.RangeFuncCalls
import Derived.RangeFuncLeaves
import Derived.RangeFuncBox
import Derived.Shelf.Abstract
import Derived.Shelf.RegionOpen
import Derived.WalkKit
import Derived.OwnWalkIn
import Derived.TacticsInMore
import Derived.LoopNIn
import Derived.LoopIn
import Derived.Maps.AppendAt
import Derived.BigRegionIn
import Derived.Test.YtgcnhfgpflncaaaGreatDoorB36
import Derived.Test.YtgcnhfgpflncaaaGreatDoorB12
namespace Go.Proofs.YtgcnhfgpflncaaaGreatDoor
open Go.RowKit Go.Shelf
attribute [local go_sem] Oper.semAt_some
def f9(b o L k j:Nat):Value:=.slice (some ⟨b,o+k*j,none⟩) (min k (L-k*j)) (min k (L-k*j))
def kH(Bs Bn:Nat)(W W':World):Prop:=W'.cell? ⟨Bs,0,none⟩=W.cell? ⟨Bs,0,none⟩/\W'.cell? ⟨Bn,0,none⟩=W.cell? ⟨Bn,0,none⟩
set_option maxRecDepth 100000 in
set_option maxHeartbeats 1600000 in
theorem qZ(n:Nat)(ga:Option Addr)(L cap k:Nat)(w:World)(hk:0<k):
  CallsIn Fence.wide n Tryz.prog 144 #[.slice ga L cap,.int .i64 (k:Int)] w fun e w'=>e=.returned (.func (.func 175) #[] #[.pointer (some ⟨w.heap.size,0,none⟩),.pointer (some ⟨w.heap.size+1,0,none⟩)])/\w'=(w.alloc (.cells #[.slice ga L cap] 29)).alloc (.cells #[.int .i64 (k:Int)] 3):=by
 have h1:¬(k:Int)<1:=by omega
 refine callsIn_of_wp Tryz.func144 rfl trivial ?_ rfl
 simp only[Tryz.ntmps144,List.size_toArray,List.length_cons,List.length_nil,Nat.reduceAdd,Nat.reduceSub,Array.replicate_succ,Array.replicate_zero,List.push_toArray,List.append_toArray,List.nil_append,List.cons_append]
 gi_wp2
 go_ret
 exact⟨rfl,rfl⟩
set_option maxRecDepth 100000 in
set_option maxHeartbeats 3200000 in
theorem Bv(n:Nat)(hn:1<=n)(l Bs Bn b o L cap k q:Nat)(hk:0<k)(hk2:k<=16384)(hL:L<=16384)(hcap:L<=cap)(hq1:L<=k*q)(hq2:k*q<L+k)(J Jx:List Nat->World->Prop)
  (hY:∀ pre x W,J pre W->pre.length<q->YieldAt Fence.wide (n-1) Tryz.prog l #[f9 b o L k x] W fun e W'=>
   (e=.returned (.bool true)/\J (pre++[x]) W'/\kH Bs Bn W W')\/(e=.returned (.bool false)/\Jx (pre++[x]) W'))
  (hJd:∀ pre W,J pre W->J pre W.drew) (W:World) (hBs:W.cell? ⟨Bs,0,none⟩=some (.slice (some ⟨b,o,none⟩) L cap)) (hBn:W.cell? ⟨Bn,0,none⟩=some (.int .i64 (k:Int))) (h0:J [] W):
  CallsIn Fence.wide n Tryz.prog 175 #[.func (.yield l) #[] #[],.pointer (some ⟨Bs,0,none⟩),.pointer (some ⟨Bn,0,none⟩)] W fun e W'=>(∃ v,e=.returned v)/\
   ((∃ ys,ys=List.range q/\J ys W')\/(∃ pre,True/\Jx pre W')):=by
 refine callsIn_of_wp Tryz.func175 rfl trivial ?_ rfl
 simp only[Tryz.ntmps175,List.size_toArray,List.length_cons,List.length_nil,Nat.reduceAdd,Nat.reduceSub,Array.replicate_succ,Array.replicate_zero,List.push_toArray,List.append_toArray,List.nil_append,List.cons_append]
 gi_wp2
 gi_loopw [4] (fun i wr=>∃(j t:Nat),Hid (t=k*j)/\j<=q/\t<L+k/\i=.int .i64 (t:Int)/\J (List.range j) wr/\kH Bs Bn W wr)
  (fun i _=>L+k-(intOf i).toNat)
 case atStart=>exact⟨0,0,by show _=_;omega,Nat.zero_le _,by omega,rfl,h0,rfl,rfl⟩
 case round=>
  obtain⟨j,t,ht,hj,htL,rfl,hJs,kp⟩:=hrel
  have c1:=kp.1.trans hBs
  have c2:=kp.2.trans hBn
  by_cases hlt:t<L
  ·have hjq:j<q:=by
    have:=ht.out
    refine Classical.byContradiction fun h=>?_
    have:q=j:=by omega
    subst this
    omega
   obtain⟨fn,tmps,assign,body,hy,hR⟩:=hY _ j wr.drew (hJd _ _ hJs) (by rw[List.length_range];exact hjq)
   obtain⟨R,hRd⟩:∃ R,L-t=R:=⟨_,rfl⟩
   obtain⟨E,hEd⟩:∃ E,min k R=E:=⟨_,rfl⟩
   obtain⟨cc,hcc⟩:∃ cc,cap-t=cc:=⟨_,rfl⟩
   obtain⟨H,hHd⟩:∃ H,t+E=H:=⟨_,rfl⟩
   obtain⟨t2,ht2⟩:∃ t2,t+k=t2:=⟨_,rfl⟩
   have hp:f9 b o L k j=.slice (some ⟨b,o+t,none⟩) E E:=by
    unfold f9
    rw[<-ht.out,hRd,hEd]
   rw[hp]at hy
   have hmin:min (k:Int) (R:Int)=(E:Int):=by omega
   have i1:(t:Int)+(E:Int)=(H:Int):=by omega
   have i2:IntKind.i64.wrap (H:Int)=(H:Int):=by rw[IntKind.wrap_i64];omega
   have i3:(t:Int)+(k:Int)=(t2:Int):=by omega
   have i4:IntKind.i64.wrap (t2:Int)=(t2:Int):=by rw[IntKind.wrap_i64];omega
   have j1:t<=L/\t<=cap/\¬cap=t/\H<=cap/\t<=H/\¬H=t/\H-t=E/\L<=cap:=by omega
   obtain⟨j1,j2,j3,j4,j5,j6,j7,j8⟩:=j1
   have hti:(t:Int)<(L:Int):=by omega
   have HT:=ht
   have HK:=hide kp
   clear ht hp kp hEd
   gi_wp2
   gi_region
   all_goals gi_wp2
   refine hR.mono ?_
   rintro e W3 (⟨rfl,hJ3,hk3⟩|⟨rfl,hJx3⟩)
   ·have kp3:kH Bs Bn W W3:=⟨hk3.1.trans (ae HK).1,hk3.2.trans (ae HK).2⟩
    have c1:=kp3.1.trans hBs
    have c2:=kp3.2.trans hBn
    gi_wp2
    go_roundw
    case rel=>exact⟨j+1,t2,by show _=_;rw[<-ht2,HT.out,Nat.mul_succ],by omega,by omega,rfl,by rw[List.range_succ];exact hJ3,kp3⟩
    case measure=>simp[intOf];omega
   ·gi_wp2
    refine bodyPost_ret (results_none rfl _ _ _) rfl ?_
    exact⟨⟨_,rfl⟩,.inr ⟨_,trivial,hJx3⟩⟩
  ·have hti:¬(t:Int)<(L:Int):=by omega
   have hjq:j=q:=by
    have:=ht.out
    refine Classical.byContradiction fun h=>?_
    have h2:j+1<=q:=by omega
    have:=Nat.mul_le_mul_left k h2
    rw[Nat.mul_succ]at this
    omega
   subst hjq
   clear ht kp
   gi_wp2
   go_end0
   first|exact⟨⟨_,rfl⟩,.inl hJs⟩|exact⟨⟨_,rfl⟩,.inl ⟨_,rfl,hJs⟩⟩
theorem grown_drew(w:World):w.grownBy w.drew none:=⟨rfl,rfl,rfl,Nat.le_refl _,fun _ _ _=>rfl⟩
theorem nF(n:Nat)(hn:1<=n)(Bs Bn b o L cap k q:Nat)(hk:0<k)(hk2:k<=16384)(hL:L<=16384)(hcap:L<=cap)(hq1:L<=k*q)(hq2:k*q<L+k)(w:World)(hBs:Bs<w.heap.size)(hBn:Bn<w.heap.size)
  (c1:w.cell? ⟨Bs,0,none⟩=some (.slice (some ⟨b,o,none⟩) L cap)) (c2:w.cell? ⟨Bn,0,none⟩=some (.int .i64 (k:Int))):
  SeqStopsK Fence.wide n Tryz.prog 175 #[.pointer (some ⟨Bs,0,none⟩),.pointer (some ⟨Bn,0,none⟩)] (fun x:Nat=>#[f9 b o L k x]) (kH Bs Bn) (fun ys=>ys=List.range q) (fun _=>True) q w:=fun l J Jx W hW hJ _ hY h0=>
 Bv n hn l Bs Bn b o L cap k q hk hk2 hL hcap hq1 hq2 J Jx hY (fun pre W h=>hJ pre W W.drew none h (grown_drew W) (fun r e=>by cases e)) W ((hW.cell (p:=⟨Bs,0,none⟩) hBs).trans c1) ((hW.cell (p:=⟨Bn,0,none⟩) hBn).trans c2) h0
theorem Ao{Bs Bn:Nat}{A B C:World}(h:kH Bs Bn A B)(k:kH Bs Bn B C):kH Bs Bn A C:=⟨k.1.trans h.1,k.2.trans h.2⟩
theorem Am{Bs Bn:Nat}{w:World}(hs:Bs<w.heap.size)(hn:Bn<w.heap.size)(W:World)(l:Nat)(o o':Obj)(hl:w.heap.size<=l)(_:W.heap[l]?=some o)(_:o.isCells=false)(_:o.isWalk=false):kH Bs Bn W (W.putObj l o'):=
 ⟨World.cell?_of_block (a:=⟨Bs,0,none⟩) (World.putObj_heap_other (by show Bs≠l;omega)),World.cell?_of_block (a:=⟨Bn,0,none⟩) (World.putObj_heap_other (by show Bn≠l;omega))⟩
end Go.Proofs.YtgcnhfgpflncaaaGreatDoor
