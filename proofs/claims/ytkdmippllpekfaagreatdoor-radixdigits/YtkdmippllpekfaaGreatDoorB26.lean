import Derived.Shelf.RegionOpen
import Derived.OwnWalkIn
import Derived.LoopNIn
import Derived.LoopIn
import Derived.Maps.AppendAt
import Derived.Test.YtkdmippllpekfaaGreatDoorB24
import Derived.Test.YtkdmippllpekfaaGreatDoorB15
namespace Go.Proofs.YtkdmippllpekfaaGreatDoor
set_option maxRecDepth 100000
set_option maxHeartbeats 3200000
open Go.RowKit Go.Shelf
variable{Bn Bs b o:Nat}{A C w:World}
attribute [local go_sem] Oper.semAt_some
def jq(b o L k j:Nat):Value:=.slice (some ⟨b,o+k*j,none⟩) (min k (L-k*j)) (min k (L-k*j))
def pn(Bs Bn:Nat)(W W':World):Prop:=W'.cell? ⟨Bs,0,none⟩=W.cell? ⟨Bs,0,none⟩/\W'.cell? ⟨Bn,0,none⟩=W.cell? ⟨Bn,0,none⟩
theorem yN(n:Nat)(ga:Option Addr)(L cap k:Nat)(w:World)(hk:0<k):CallsIn Fence.wide n Tryz.prog 46 #[.slice ga L cap,.int .i64 (k:Int)] w fun e w'=>e=.returned (.func (.func 63) #[] #[.pointer (some ⟨w.heap.size,0,none⟩),.pointer (some ⟨w.heap.size+1,0,none⟩)])/\w'=(w.alloc (.cells #[.slice ga L cap] 38)).alloc (.cells #[.int .i64 (k:Int)] 3):=by
 have h1:¬(k:Int)<1:=by omega
 refine ic Tryz.func46 rfl trivial ?_ rfl;simp only[Tryz.ntmps46,List.size_toArray,List.length_cons,List.length_nil,Nat.reduceAdd,Nat.reduceSub,Array.replicate_succ,Array.replicate_zero,List.push_toArray,List.append_toArray,List.nil_append,List.cons_append]
 gi_wp2
 go_ret;exact⟨rfl,rfl⟩
theorem Q8(n:Nat)(hn:1<=n)(l Bs Bn b o L cap k q:Nat)(hk:0<k)(sK:k<=16384)(hL:L<=16384)(ks:L<=cap)(sL:L<=k*q)(AA:k*q<L+k)(J Jx:List Nat->World->Prop)(hY:∀pre x W,J pre W->pre.length<q->YieldAt Fence.wide (n-1) Tryz.prog l #[jq b o L k x] W fun e W'=>(e=.returned (.bool true)/\J (pre++[x]) W'/\pn Bs Bn W W')\/(e=.returned (.bool false)/\Jx (pre++[x]) W'))(hJd:∀pre W,J pre W->J pre W.drew)(W:World)(sO:W.cell? ⟨Bs,0,none⟩=some (.slice (some ⟨b,o,none⟩) L cap))(s_:W.cell? ⟨Bn,0,none⟩=some (.int .i64 (k:Int)))(h0:J [] W):CallsIn Fence.wide n Tryz.prog 63 #[.func (.yield l) #[] #[],.pointer (some ⟨Bs,0,none⟩),.pointer (some ⟨Bn,0,none⟩)] W fun e W'=>(∃v,e=.returned v)/\((∃ys,ys=List.range q/\J ys W')\/(∃pre,True/\Jx pre W')):=by
 refine ic QM rfl trivial ?_ rfl;simp only[Tryz.ntmps63,List.size_toArray,List.length_cons,List.length_nil,Nat.reduceAdd,Nat.reduceSub,Array.replicate_succ,Array.replicate_zero,List.push_toArray,List.append_toArray,List.nil_append,List.cons_append]
 gi_wp2
 gi_loopw [4] (fun i wr=>∃(j t:Nat),Hid (t=k*j)/\j<=q/\t<L+k/\i=.int .i64 (t:Int)/\J (List.range j) wr/\pn Bs Bn W wr)
  (fun i _=>L+k-(intOf i).toNat)
 case atStart=>exact⟨0,0,by show _=_;omega,aO _,by omega,rfl,h0,rfl,rfl⟩
 case round=>
  obtain⟨j,t,ht,hj,htL,rfl,DE,kp⟩:=hrel;have c1:=kp.1.trans sO;have c2:=kp.2.trans s_;by_cases dh:t<L
  ·have hjq:j<q:=by
    have:=ht.out;refine ey fun h=>?_;have:q=j:=(by omega);subst this;omega
   obtain⟨fn,tmps,assign,body,hy,hR⟩:=hY _ j wr.drew (hJd _ _ DE) (by rw[List.length_range];exact hjq);obtain⟨R,Zd⟩:∃R,L-t=R:=⟨_,rfl⟩;obtain⟨E,t_⟩:∃E,min k R=E:=⟨_,rfl⟩;obtain⟨cc,qW⟩:∃cc,cap-t=cc:=⟨_,rfl⟩;obtain⟨H,hHd⟩:∃H,t+E=H:=⟨_,rfl⟩;obtain⟨t2,E8⟩:∃t2,t+k=t2:=⟨_,rfl⟩;have hp:jq b o L k j=.slice (some ⟨b,o+t,none⟩) E E:=by unfold jq;rw[<-ht.out,Zd,t_]
   rw[hp]at hy;have Wn:min (k:Int) (R:Int)=(E:Int):=(by omega);have i1:(t:Int)+(E:Int)=(H:Int):=(by omega);have i2:IntKind.i64.wrap (H:Int)=(H:Int):=by rw[ao];omega
   have i3:(t:Int)+(k:Int)=(t2:Int):=(by omega);have i4:IntKind.i64.wrap (t2:Int)=(t2:Int):=by rw[ao];omega
   have j1:t<=L/\t<=cap/\¬cap=t/\H<=cap/\t<=H/\¬H=t/\H-t=E/\L<=cap:=(by omega);obtain⟨j1,j2,j3,j4,j5,j6,j7,j8⟩:=j1;have hti:(t:Int)<(L:Int):=(by omega);have HT:=ht;have HK:=ag kp;clear ht hp kp t_
   gi_wp2
   gi_region
   all_goals gi_wp2
   refine hR.mono ?_;rintro e W3 (⟨rfl,Rs,RE⟩|⟨rfl,aci⟩)
   ·have Hc:pn Bs Bn W W3:=⟨RE.1.trans (ae HK).1,RE.2.trans (ae HK).2⟩;have c1:=Hc.1.trans sO;have c2:=Hc.2.trans s_
    gi_wp2
    go_roundw
    case rel=>exact⟨j+1,t2,by show _=_;rw[<-E8,HT.out,cJ],by omega,by omega,rfl,by rw[Qz];exact Rs,Hc⟩
    case measure=>simp[intOf];omega
   ·gi_wp2
    refine dR (results_none rfl _ _ _) rfl ?_;exact⟨⟨_,rfl⟩,.inr ⟨_,trivial,aci⟩⟩
  ·have hti:¬(t:Int)<(L:Int):=(by omega);have hjq:j=q:=by have:=ht.out;refine ey fun h=>?_;have h2:j+1<=q:=(by omega);have:=au k h2;rw[cJ]at this;omega
   subst hjq;clear ht kp
   gi_wp2
   go_end0
   first|exact⟨⟨_,rfl⟩,.inl DE⟩|exact⟨⟨_,rfl⟩,.inl ⟨_,rfl,DE⟩⟩
theorem vW(w:World):w.grownBy w.drew none:=⟨rfl,rfl,rfl,af _,fun _ _ _=>rfl⟩
theorem zA(n:Nat)(hn:1<=n)(Bs Bn b o L cap k q:Nat)(hk:0<k)(sK:k<=16384)(hL:L<=16384)(ks:L<=cap)(sL:L<=k*q)(AA:k*q<L+k)(w:World)(sO:Bs<w.heap.size)(s_:Bn<w.heap.size)(c1:w.cell? ⟨Bs,0,none⟩=some (.slice (some ⟨b,o,none⟩) L cap))(c2:w.cell? ⟨Bn,0,none⟩=some (.int .i64 (k:Int))):SeqStopsK Fence.wide n Tryz.prog 63 #[.pointer (some ⟨Bs,0,none⟩),.pointer (some ⟨Bn,0,none⟩)] (fun x:Nat=>#[jq b o L k x]) (pn Bs Bn) (fun ys=>ys=List.range q) (fun _=>True) q w:=fun l J Jx W hW hJ _ hY h0=>
 Q8 n hn l Bs Bn b o L cap k q hk sK hL ks sL AA J Jx hY (fun pre W h=>hJ pre W W.drew none h (vW W) (fun r e=>by cases e)) W ((hW.cell (p:=⟨Bs,0,none⟩) sO).trans c1) ((hW.cell (p:=⟨Bn,0,none⟩) s_).trans c2) h0
theorem Ha{B:World}(h:pn Bs Bn A B)(k:pn Bs Bn B C):pn Bs Bn A C:=⟨k.1.trans h.1,k.2.trans h.2⟩
theorem G9(hs:Bs<w.heap.size)(hn:Bn<w.heap.size)(W:World)(l:Nat)(o o':Obj)(hl:w.heap.size<=l)(_:W.heap[l]?=some o)(_:o.isCells=false)(_:o.isWalk=false):pn Bs Bn W (W.putObj l o'):=
 ⟨cZ (a:=⟨Bs,0,none⟩) (World.putObj_heap_other (by show Bs≠l;omega)),cZ (a:=⟨Bn,0,none⟩) (World.putObj_heap_other (by show Bn≠l;omega))⟩
def mV(Bs b o N:Nat)(W W':World):Prop:=W'.cell? ⟨Bs,0,none⟩=W.cell? ⟨Bs,0,none⟩/\∀j,j<N->W'.cell? ⟨b,o+j,none⟩=W.cell? ⟨b,o+j,none⟩
theorem rI{N:Nat}{B:World}(h:mV Bs b o N A B)(k:mV Bs b o N B C):mV Bs b o N A C:=⟨k.1.trans h.1,fun j hj=>(k.2 j hj).trans (h.2 j hj)⟩
theorem AD{N:Nat}(hs:Bs<w.heap.size)(hn:b<w.heap.size)(W:World)(l:Nat)(ob o':Obj)(hl:w.heap.size<=l)(_:W.heap[l]?=some ob)(_:ob.isCells=false)(_:ob.isWalk=false):mV Bs b o N W (W.putObj l o'):=
 ⟨cZ (a:=⟨Bs,0,none⟩) (World.putObj_heap_other (by show Bs≠l;omega)),fun j _=>cZ (a:=⟨b,o+j,none⟩) (World.putObj_heap_other (by show b≠l;omega))⟩
theorem Ex(n:Nat)(ga:Option Addr)(L cap:Nat)(w:World):CallsIn Fence.wide n Tryz.prog 29 #[.slice ga L cap] w fun e w'=>e=.returned (.func (.func 50) #[] #[.pointer (some ⟨w.heap.size,0,none⟩)])/\w'=w.alloc (.cells #[.slice ga L cap] 24):=by
 refine ic Tryz.func29 rfl trivial ?_ rfl;simp only[Tryz.ntmps29,List.size_toArray,List.length_cons,List.length_nil,Nat.reduceAdd,Nat.reduceSub,Array.replicate_succ,Array.replicate_zero,List.push_toArray,List.append_toArray,List.nil_append,List.cons_append]
 gi_wp2
 go_ret;exact⟨rfl,rfl⟩
theorem Be(n:Nat)(hn:1<=n)(Bs b o N cap:Nat)(ga:Option Addr)(GG:0<N->ga=some ⟨b,o,none⟩)(hN:N<=1073741824)(ds:List Nat)(Uh:ds.length=N)(w:World)(sO:Bs<w.heap.size)(d1:w.cell? ⟨Bs,0,none⟩=some (.slice ga N cap))(d2:∀j,j<N->w.cell? ⟨b,o+j,none⟩=some (.int .u64 ((ds.getD j 0:Nat):Int))):ri n 50 #[.pointer (some ⟨Bs,0,none⟩)] (fun k=>#[.int .i64 ((N-1-k:Nat):Int),(.int .u64 ((ds.getD (N-1-k) 0:Nat):Int))]) N (mV Bs b o N) w:=by
 intro l J W bW _ hY h0;have sO:=(bW.cell (p:=⟨Bs,0,none⟩) sO).trans d1;have hC:Hid (∀j,j<N->W.cell? ⟨b,o+j,none⟩=some (.int .u64 ((ds.getD j 0:Nat):Int))):=fun j hj=>(bW.cell (p:=⟨b,o+j,none⟩) (aw _ _ (d2 j hj))).trans (d2 j hj);clear d1 d2 bW;show CallsIn Fence.wide n Tryz.prog 50 #[.func (.yield l) #[] #[],.pointer (some ⟨Bs,0,none⟩)] W _;refine ic Tryz.func50 rfl trivial ?_ rfl;simp only[Tryz.ntmps50,List.size_toArray,List.length_cons,List.length_nil,Nat.reduceAdd,Nat.reduceSub,Array.replicate_succ,Array.replicate_zero,List.push_toArray,List.append_toArray,List.nil_append,List.cons_append];have iN:IntKind.i64.wrap ((N:Int)-1)=(N:Int)-1:=by rw[ao];omega
 gi_wp2
 gi_loopw [3] (fun i wr=>∃(q r:Nat) (z:Int),q<=N/\z+1=(q:Int)/\i=.int .i64 z/\Hid (r+q=N)/\J r wr/\mV Bs b o N W wr)
  (fun i _=>(intOf i+1).toNat)
 case atStart=>exact⟨N,0,(N:Int)-1,af _,by omega,rfl,by show _=_;omega,h0,rfl,fun _ _=>rfl⟩
 case round=>
  obtain⟨q,r,z,hq,hz,rfl,hD,DE,kp⟩:=hrel;have c1:=kp.1.trans sO;by_cases dh:0<q
  ·obtain⟨k,rfl⟩:∃k,q=k+1:=⟨q-1,by omega⟩;obtain rfl:z=(k:Int):=(by omega);have hk:k<N:=(by omega);obtain rfl:=GG (by omega);have c2:=(kp.2 k hk).trans (ae hC k hk);obtain⟨fn,tmps,assign,body,hy,hR⟩:=hY r wr (by have:=hD.out;omega) DE;have e1:N-1-r=k:=by have:=hD.out;omega
   rw[e1]at hy;obtain⟨dv,Ui⟩:∃dv,dv=ds.getD k 0:=⟨_,rfl⟩;rw[<-Ui]at c2 hy;clear Ui;have HK:=ag kp;have Zi:0<=(k:Int):=(by omega);have i2:IntKind.i64.wrap ((k:Int)-1)=(k:Int)-1:=by rw[ao];omega
   clear kp hz e1
   gi_wp2
   refine hR.mono ?_;rintro e W3 ⟨rfl,Rs,RE⟩;have Hc:mV Bs b o N W W3:=rI (ae HK) RE;have c1:=Hc.1.trans sO
   gi_wp2
   go_roundw
   case rel=>exact⟨k,r+1,(k:Int)-1,by omega,by omega,rfl,by have:=hD.out;show _=_;omega,Rs,Hc⟩
   case measure=>simp[intOf]
  ·obtain rfl:q=0:=(by omega);obtain rfl:z= -1:=(by omega);have:r=N:=by have:=hD.out;omega
   subst this;clear kp
   gi_wp2
   go_end0
   first|exact⟨⟨_,rfl⟩,DE⟩|exact DE
theorem QT(n:Nat)(ga:Option Addr)(L cap:Nat)(w:World):CallsIn Fence.wide n Tryz.prog 47 #[.slice ga L cap] w fun e w'=>e=.returned (.func (.func 64) #[] #[.pointer (some ⟨w.heap.size,0,none⟩)])/\w'=w.alloc (.cells #[.slice ga L cap] 38):=by
 refine ic Tryz.func47 rfl trivial ?_ rfl;simp only[Tryz.ntmps47,List.size_toArray,List.length_cons,List.length_nil,Nat.reduceAdd,Nat.reduceSub,Array.replicate_succ,Array.replicate_zero,List.push_toArray,List.append_toArray,List.nil_append,List.cons_append]
 gi_wp2
 go_ret;exact⟨rfl,rfl⟩
theorem Mu(n:Nat)(hn:1<=n)(Bs b o N cap:Nat)(hN:N<=1073741824)(ds:List Nat)(Uh:ds.length=N)(w:World)(sO:Bs<w.heap.size)(d1:w.cell? ⟨Bs,0,none⟩=some (.slice (some ⟨b,o,none⟩) N cap))(d2:∀j,j<N->w.cell? ⟨b,o+j,none⟩=some (.int .u64 ((ds.getD j 0:Nat):Int))):ri n 64 #[.pointer (some ⟨Bs,0,none⟩)] (fun k=>#[.int .i64 ((N-1-k:Nat):Int),(.int .u64 ((ds.getD (N-1-k) 0:Nat):Int))]) N (mV Bs b o N) w:=by
 intro l J W bW _ hY h0;have sO:=(bW.cell (p:=⟨Bs,0,none⟩) sO).trans d1;have hC:Hid (∀j,j<N->W.cell? ⟨b,o+j,none⟩=some (.int .u64 ((ds.getD j 0:Nat):Int))):=fun j hj=>(bW.cell (p:=⟨b,o+j,none⟩) (aw _ _ (d2 j hj))).trans (d2 j hj);clear d1 d2 bW;show CallsIn Fence.wide n Tryz.prog 64 #[.func (.yield l) #[] #[],.pointer (some ⟨Bs,0,none⟩)] W _;refine ic Tryz.func64 rfl trivial ?_ rfl;simp only[Tryz.ntmps64,List.size_toArray,List.length_cons,List.length_nil,Nat.reduceAdd,Nat.reduceSub,Array.replicate_succ,Array.replicate_zero,List.push_toArray,List.append_toArray,List.nil_append,List.cons_append];have iN:IntKind.i64.wrap ((N:Int)-1)=(N:Int)-1:=by rw[ao];omega
 gi_wp2
 gi_loopw [3] (fun i wr=>∃(q r:Nat) (z:Int),q<=N/\z+1=(q:Int)/\i=.int .i64 z/\Hid (r+q=N)/\J r wr/\mV Bs b o N W wr)
  (fun i _=>(intOf i+1).toNat)
 case atStart=>exact⟨N,0,(N:Int)-1,af _,by omega,rfl,by show _=_;omega,h0,rfl,fun _ _=>rfl⟩
 case round=>
  obtain⟨q,r,z,hq,hz,rfl,hD,DE,kp⟩:=hrel;have c1:=kp.1.trans sO;by_cases dh:0<q
  ·obtain⟨k,rfl⟩:∃k,q=k+1:=⟨q-1,by omega⟩;obtain rfl:z=(k:Int):=(by omega);have hk:k<N:=(by omega);have c2:=(kp.2 k hk).trans (ae hC k hk);obtain⟨fn,tmps,assign,body,hy,hR⟩:=hY r wr (by have:=hD.out;omega) DE;have e1:N-1-r=k:=by have:=hD.out;omega
   rw[e1]at hy;obtain⟨dv,Ui⟩:∃dv,dv=ds.getD k 0:=⟨_,rfl⟩;rw[<-Ui]at c2 hy;clear Ui;have HK:=ag kp;have Zi:0<=(k:Int):=(by omega);have i2:IntKind.i64.wrap ((k:Int)-1)=(k:Int)-1:=by rw[ao];omega
   clear kp hz e1
   gi_wp2
   refine hR.mono ?_;rintro e W3 ⟨rfl,Rs,RE⟩;have Hc:mV Bs b o N W W3:=rI (ae HK) RE;have c1:=Hc.1.trans sO
   gi_wp2
   go_roundw
   case rel=>exact⟨k,r+1,(k:Int)-1,by omega,by omega,rfl,by have:=hD.out;show _=_;omega,Rs,Hc⟩
   case measure=>simp[intOf]
  ·obtain rfl:q=0:=(by omega);obtain rfl:z= -1:=(by omega);have:r=N:=by have:=hD.out;omega
   subst this;clear kp
   gi_wp2
   go_end0
   first|exact⟨⟨_,rfl⟩,DE⟩|exact DE
theorem QS(n:Nat)(ga:Option Addr)(L cap:Nat)(w:World):CallsIn Fence.wide n Tryz.prog 33 #[.slice ga L cap] w fun e w'=>e=.returned (.func (.func 52) #[] #[.pointer (some ⟨w.heap.size,0,none⟩)])/\w'=w.alloc (.cells #[.slice ga L cap] 61):=by
 refine ic Tryz.func33 rfl trivial ?_ rfl;simp only[Tryz.ntmps33,List.size_toArray,List.length_cons,List.length_nil,Nat.reduceAdd,Nat.reduceSub,Array.replicate_succ,Array.replicate_zero,List.push_toArray,List.append_toArray,List.nil_append,List.cons_append]
 gi_wp2
 go_ret;exact⟨rfl,rfl⟩
theorem Mt(n:Nat)(hn:1<=n)(Bs b o N cap:Nat)(hN:N<=1073741824)(ds:List UInt8)(Uh:ds.length=N)(w:World)(sO:Bs<w.heap.size)(d1:w.cell? ⟨Bs,0,none⟩=some (.slice (some ⟨b,o,none⟩) N cap))(d2:∀j,j<N->w.cell? ⟨b,o+j,none⟩=some (.int .u8 (((ds.getD j 0).toNat:Nat):Int))):ri n 52 #[.pointer (some ⟨Bs,0,none⟩)] (fun k=>#[.int .i64 ((N-1-k:Nat):Int),(.int .u8 (((ds.getD (N-1-k) 0).toNat:Nat):Int))]) N (mV Bs b o N) w:=by
 intro l J W bW _ hY h0;have sO:=(bW.cell (p:=⟨Bs,0,none⟩) sO).trans d1;have hC:Hid (∀j,j<N->W.cell? ⟨b,o+j,none⟩=some (.int .u8 (((ds.getD j 0).toNat:Nat):Int))):=fun j hj=>(bW.cell (p:=⟨b,o+j,none⟩) (aw _ _ (d2 j hj))).trans (d2 j hj);clear d1 d2 bW;show CallsIn Fence.wide n Tryz.prog 52 #[.func (.yield l) #[] #[],.pointer (some ⟨Bs,0,none⟩)] W _;refine ic Tryz.func52 rfl trivial ?_ rfl;simp only[Tryz.ntmps52,List.size_toArray,List.length_cons,List.length_nil,Nat.reduceAdd,Nat.reduceSub,Array.replicate_succ,Array.replicate_zero,List.push_toArray,List.append_toArray,List.nil_append,List.cons_append];have iN:IntKind.i64.wrap ((N:Int)-1)=(N:Int)-1:=by rw[ao];omega
 gi_wp2
 gi_loopw [3] (fun i wr=>∃(q r:Nat) (z:Int),q<=N/\z+1=(q:Int)/\i=.int .i64 z/\Hid (r+q=N)/\J r wr/\mV Bs b o N W wr)
  (fun i _=>(intOf i+1).toNat)
 case atStart=>exact⟨N,0,(N:Int)-1,af _,by omega,rfl,by show _=_;omega,h0,rfl,fun _ _=>rfl⟩
 case round=>
  obtain⟨q,r,z,hq,hz,rfl,hD,DE,kp⟩:=hrel;have c1:=kp.1.trans sO;by_cases dh:0<q
  ·obtain⟨k,rfl⟩:∃k,q=k+1:=⟨q-1,by omega⟩;obtain rfl:z=(k:Int):=(by omega);have hk:k<N:=(by omega);have c2:=(kp.2 k hk).trans (ae hC k hk);obtain⟨fn,tmps,assign,body,hy,hR⟩:=hY r wr (by have:=hD.out;omega) DE;have e1:N-1-r=k:=by have:=hD.out;omega
   rw[e1]at hy;obtain⟨dv,Ui⟩:∃dv,dv=(ds.getD k 0).toNat:=⟨_,rfl⟩;rw[<-Ui]at c2 hy;clear Ui;have HK:=ag kp;have Zi:0<=(k:Int):=(by omega);have i2:IntKind.i64.wrap ((k:Int)-1)=(k:Int)-1:=by rw[ao];omega
   clear kp hz e1
   gi_wp2
   refine hR.mono ?_;rintro e W3 ⟨rfl,Rs,RE⟩;have Hc:mV Bs b o N W W3:=rI (ae HK) RE;have c1:=Hc.1.trans sO
   gi_wp2
   go_roundw
   case rel=>exact⟨k,r+1,(k:Int)-1,by omega,by omega,rfl,by have:=hD.out;show _=_;omega,Rs,Hc⟩
   case measure=>simp[intOf]
  ·obtain rfl:q=0:=(by omega);obtain rfl:z= -1:=(by omega);have:r=N:=by have:=hD.out;omega
   subst this;clear kp
   gi_wp2
   go_end0
   first|exact⟨⟨_,rfl⟩,DE⟩|exact DE
theorem Jz(n:Nat)(hn:1<=n)(Bs Bn b o L cap k q:Nat)(ga:Option Addr)(GG:0<L->ga=some ⟨b,o,none⟩)(hk:0<k)(sK:k<=16384)(hL:L<=16384)(ks:L<=cap)(sL:L<=k*q)(AA:k*q<L+k)(w:World)(sO:Bs<w.heap.size)(s_:Bn<w.heap.size)(d1:w.cell? ⟨Bs,0,none⟩=some (.slice ga L cap))(d2:w.cell? ⟨Bn,0,none⟩=some (.int .i64 (k:Int))):ri n 63 #[.pointer (some ⟨Bs,0,none⟩),.pointer (some ⟨Bn,0,none⟩)] (fun x=>#[jq b o L k x]) q (pn Bs Bn) w:=by
 intro l J W bW hJd hY h0;have sO:=(bW.cell (p:=⟨Bs,0,none⟩) sO).trans d1;have s_:=(bW.cell (p:=⟨Bn,0,none⟩) s_).trans d2;clear d1 d2 bW;show CallsIn Fence.wide n Tryz.prog 63 #[.func (.yield l) #[] #[],.pointer (some ⟨Bs,0,none⟩),.pointer (some ⟨Bn,0,none⟩)] W _;refine ic QM rfl trivial ?_ rfl;simp only[Tryz.ntmps63,List.size_toArray,List.length_cons,List.length_nil,Nat.reduceAdd,Nat.reduceSub,Array.replicate_succ,Array.replicate_zero,List.push_toArray,List.append_toArray,List.nil_append,List.cons_append]
 gi_wp2
 gi_loopw [4] (fun i wr=>∃(j t:Nat),Hid (t=k*j)/\j<=q/\t<L+k/\i=.int .i64 (t:Int)/\J j wr/\pn Bs Bn W wr)
  (fun i _=>L+k-(intOf i).toNat)
 case atStart=>exact⟨0,0,by show _=_;omega,aO _,by omega,rfl,h0,rfl,rfl⟩
 case round=>
  obtain⟨j,t,ht,hj,htL,rfl,DE,kp⟩:=hrel;have c1:=kp.1.trans sO;have c2:=kp.2.trans s_;by_cases dh:t<L
  ·obtain rfl:=GG (by omega);have hjq:j<q:=by have:=ht.out;refine ey fun h=>?_;have:q=j:=(by omega);subst this;omega
   obtain⟨fn,tmps,assign,body,hy,hR⟩:=hY j wr.drew hjq (hJd _ _ DE);obtain⟨R,Zd⟩:∃R,L-t=R:=⟨_,rfl⟩;obtain⟨E,t_⟩:∃E,min k R=E:=⟨_,rfl⟩;obtain⟨cc,qW⟩:∃cc,cap-t=cc:=⟨_,rfl⟩;obtain⟨H,hHd⟩:∃H,t+E=H:=⟨_,rfl⟩;obtain⟨t2,E8⟩:∃t2,t+k=t2:=⟨_,rfl⟩;have hp:jq b o L k j=.slice (some ⟨b,o+t,none⟩) E E:=by unfold jq;rw[<-ht.out,Zd,t_]
   rw[hp]at hy;have Wn:min (k:Int) (R:Int)=(E:Int):=(by omega);have i1:(t:Int)+(E:Int)=(H:Int):=(by omega);have i2:IntKind.i64.wrap (H:Int)=(H:Int):=by rw[ao];omega
   have i3:(t:Int)+(k:Int)=(t2:Int):=(by omega);have i4:IntKind.i64.wrap (t2:Int)=(t2:Int):=by rw[ao];omega
   have j1:t<=L/\t<=cap/\¬cap=t/\H<=cap/\t<=H/\¬H=t/\H-t=E/\L<=cap:=(by omega);obtain⟨j1,j2,j3,j4,j5,j6,j7,j8⟩:=j1;have hti:(t:Int)<(L:Int):=(by omega);have HT:=ht;have HK:=ag kp;clear ht hp kp t_
   gi_wp2
   gi_region
   all_goals gi_wp2
   refine hR.mono ?_;rintro e W3 ⟨rfl,Rs,RE⟩;have Hc:pn Bs Bn W W3:=⟨RE.1.trans (ae HK).1,RE.2.trans (ae HK).2⟩;have c1:=Hc.1.trans sO;have c2:=Hc.2.trans s_
   gi_wp2
   go_roundw
   case rel=>exact⟨j+1,t2,by show _=_;rw[<-E8,HT.out,cJ],by omega,by omega,rfl,Rs,Hc⟩
   case measure=>simp[intOf];omega
  ·have hti:¬(t:Int)<(L:Int):=(by omega);have hjq:j=q:=by have:=ht.out;refine ey fun h=>?_;have h2:j+1<=q:=(by omega);have:=au k h2;rw[cJ]at this;omega
   subst hjq;clear ht kp
   gi_wp2
   go_end0
   first|exact⟨⟨_,rfl⟩,DE⟩|exact DE
end Go.Proofs.YtkdmippllpekfaaGreatDoor
