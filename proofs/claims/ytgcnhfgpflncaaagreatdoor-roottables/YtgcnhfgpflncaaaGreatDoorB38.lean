/- slices.Grow and slices.Concat, of two rows of words. -/
import Derived.Test.YtgcnhfgpflncaaaGreatDoorB20
import Derived.Test.YtgcnhfgpflncaaaGreatDoorB14
import Derived.Test.YtgcnhfgpflncaaaGreatDoorB36
namespace Go.Proofs.YtgcnhfgpflncaaaGreatDoor
open Go.RowKit
set_option maxRecDepth 100000 in
set_option maxHeartbeats 1600000 in
theorem GI(w:World)(n:Nat)(hn:n<=100000):
  Calls Tryz.prog 121 #[.slice none 0 0,.int .i64 (n:Int)] w fun e w'=>∃ v,e=.returned v/\w'.ownsRow w.heap.size 41 1 v 0 []/\Below w.heap.size w w':=by
 have h0:¬(n:Int)<0:=by omega
 have hw:IntKind.i64.wrap (n:Int)=(n:Int):=by rw[IntKind.wrap_i64];omega
 by_cases hp:0<n
 ·have hp':0<(n:Int):=by omega
  obtain⟨i,hi,hz,hsz,hby⟩:=info_parts Tryz.infoU
  have hr:=Lib.run_append_nil_zeros (P:=Tryz.prog) w 29 3 29 41 i (.int .u64 0) .i64 .i64 Tryz.underlying29 Tryz.underlying3 hi hz n hp (by omega) (by omega) (by rw[hby];omega)
  have hge:=grownCap_ge w n 0 41
  have hcm:grownCap w n 0 41<=maxLen:=grownCap_le_maxLen w n 0 41 (by unfold maxLen;omega)
  have hb:Below w.heap.size w (w.drew.alloc (.cells (Builtin.zeroCells (Value.int .u64 0).cells n++Builtin.zeroCells (Value.int .u64 0).cells (grownCap w n 0 41-n)) 41)):=((Below.refl _ w).drew).alloc (Nat.le_refl _) _
  have ho:(w.drew.alloc (.cells (Builtin.zeroCells (Value.int .u64 0).cells n++Builtin.zeroCells (Value.int .u64 0).cells (grownCap w n 0 41-n)) 41)).ownsRow w.heap.size 41 1 (.slice (some ⟨w.heap.size,0,none⟩) 0 (grownCap w n 0 41)) 0 []:=
   ⟨rfl,.inr ⟨w.heap.size,_,_,rfl,Nat.le_refl _,heap_alloc_new w.drew _,Nat.zero_le _,hcm,by simp[Builtin.zeroCells,Value.cells];omega,by simp⟩⟩
  generalize grownCap w n 0 41=gc at *
  generalize w.drew.alloc (.cells (Builtin.zeroCells (Value.int .u64 0).cells n++Builtin.zeroCells (Value.int .u64 0).cells (gc-n)) 41)=W1 at *
  have HB:=hide hb
  have HO:=hide ho
  clear hb ho hcm
  go_enter Tryz.func121,Tryz.ntmps121
  go_wp2_with (at_builtin;refine Lib.wpList_append_run _ rfl _ _ _ _ rfl _ _ rfl rfl _ _ hr ?_;clear hr)
  go_ret
  exact⟨_,rfl,ae HO,ae HB⟩
 ·have:n=0:=by omega
  subst this
  go_enter Tryz.func121,Tryz.ntmps121
  go_wp2
  go_ret
  exact⟨_,rfl,World.ownsRow_nil _ _ _ _,Below.refl _ _⟩
theorem AE(w:World)(base:Nat)(v:Value)(n m cap:Nat)(xs ys:List Nat)(ga:Option Addr)(b o:Nat)(hown:w.ownsRow base 41 1 v n (cellsOf xs))(hR:Rep w ga b o cap ys)(hl:ys.length=m)(hn:n+m<=100000)(hb:base<=w.heap.size):
  ∃ v' w',(Builtin.append_ #[29,29] 29 #[v,.slice ga m cap]).run Tryz.prog w=.ok v' w'/\w'.ownsRow base 41 1 v' (n+m) (cellsOf (xs++ys))/\w.grownBy w' v.ownBlock:=by
 obtain⟨i,hi,hz,hsz,hby⟩:=info_parts Tryz.infoU
 have ht:=Tryz.underlying29
 cases ga with
 |none=>
  have h0:ys.length=0:=by
   refine Classical.byContradiction fun h=>?_
   have:=hR.head (by omega)
   cases this
  have:ys=[]:=List.eq_nil_of_length_eq_zero h0
  subst this
  obtain rfl:m=0:=by omega
  refine⟨v,w,?_,by simpa using hown,⟨rfl,rfl,rfl,Nat.le_refl _,fun _ _ _=>rfl⟩⟩
  rcases hown.2 with⟨rfl,rfl⟩|⟨g,cap,cur,rfl,_,_,hnc,_⟩
  ·simp[Builtin.append_,run_underlying ht,sizeOf,typeInfo,hi,Builtin.lenOf,Builtin.firstCells]
  ·simp[Builtin.append_,run_underlying ht,sizeOf,typeInfo,hi,Builtin.lenOf,Builtin.firstCells,hnc,storeCells]
 |some ad=>
  have hap:cellsOf (xs++ys)=cellsOf xs++cellsOf ys:=by simp[cellsOf]
  obtain⟨v',w',h1,h2,h3,_⟩:=run_append_own (P:=Tryz.prog) w base 29 29 41 i (.int .u64 0) 1 8 ht hi hz hsz hby rfl (by omega) v n (cellsOf xs) hown ad m cap (cellsOf ys) (by simp[cellsOf];exact hl) (fun j u hu=>by
   have hj:j<ys.length:=by
    have:=(List.getElem?_eq_some_iff.1 hu).1
    simpa [cellsOf]using this
   obtain rfl:=Option.some.inj (hR.head (by omega))
   have hc:=hR.cell j hj
   have e:(⟨b,o,none⟩:Addr).add j=⟨b,o+j,none⟩:=Addr.add_lit b o j
   rw[e,hc]
   rw[<-hu]
   simp[cellsOf,List.getElem?_eq_getElem hj,List.getD_eq_getElem?_getD]) (cells_one _) (by unfold maxLen;omega) (by omega) hb
  exact⟨v',w',h1,by rw[hap];exact h2,h3⟩
set_option maxRecDepth 100000 in
set_option maxHeartbeats 1600000 in
theorem oV(w:World)(bp:Nat)(ga gb:Option Addr)(b o cap la b' o' cap' lb:Nat)(xs ys:List Nat)(hxl:xs.length=la)(hyl:ys.length=lb)(hR:Rep w ga b o cap xs)(hR':Rep w gb b' o' cap' ys)(hla:la<=32768)(hlb:lb<=32768)
  (c0:w.cell? ⟨bp,0,none⟩=some (.slice ga la cap)) (c1:w.cell? ⟨bp,1,none⟩=some (.slice gb lb cap')):
  Calls Tryz.prog 95 #[.slice (some ⟨bp,0,none⟩) 2 2] w fun e w'=>∃ v,e=.returned v/\w'.ownsRow w.heap.size 41 1 v (la+lb) (cellsOf (xs++ys))/\Below w.heap.size w w':=by
 obtain⟨N,hN⟩:∃ N,la+lb=N:=⟨_,rfl⟩
 have CG:=hide (GI w N (by omega))
 have hbp:=World.block_lt_of_cell? _ _ c0
 have hi0:(0:Int)+(la:Int)=(la:Int):=by omega
 have hi1:(la:Int)+(lb:Int)=(N:Int):=by omega
 have hw0:IntKind.i64.wrap (la:Int)=(la:Int):=by rw[IntKind.wrap_i64];omega
 have hw1:IntKind.i64.wrap (N:Int)=(N:Int):=by rw[IntKind.wrap_i64];omega
 have hp0:¬(la:Int)<0:=by omega
 have hp1:¬(N:Int)<0:=by omega
 go_enter Tryz.func95,Tryz.ntmps95
 go_wp2
 go_loopw [3,11] (fun sv iv wr=>∃(k t:Nat),k<=2/\iv=.int .i64 (k:Int)/\sv=.int .i64 (t:Int)/\((k=0/\t=0)\/(k=1/\t=la)\/(k=2/\t=N))/\wr=w) (fun _ iv _=>2-(intOf iv).toNat)
 case atStart=>exact⟨0,0,by omega,rfl,rfl,Or.inl ⟨rfl,rfl⟩,rfl⟩
 case round=>
  obtain⟨k,t,hk,rfl,rfl,hkt,hwr⟩:=hrel
  obtain rfl:=hwr.symm
  clear hwr
  rcases hkt with⟨rfl,rfl⟩|⟨rfl,ht⟩|⟨rfl,ht⟩
  ·clear CG
   go_wp2
   go_roundw
   case rel=>exact⟨1,la,by omega,rfl,rfl,Or.inr (Or.inl ⟨rfl,rfl⟩),by trivial⟩
   case measure=>simp[intOf]
  ·obtain rfl:=ht.symm
   clear CG ht
   go_wp2
   go_roundw
   case rel=>exact⟨2,N,by omega,rfl,rfl,Or.inr (Or.inr ⟨rfl,rfl⟩),by trivial⟩
   case measure=>simp[intOf]
  ·obtain rfl:=ht.symm
   clear ht
   go_wp2_with fail
   with_reducible refine(ae CG).mono ?_
   rintro e w1 ⟨v1,rfl,ho1,hb1⟩
   clear CG
   have c0w:=c0
   have c1w:=c1
   have c0:=(hb1.cell (p:=⟨bp,0,none⟩) hbp).trans c0w
   have c1:=(hb1.cell (p:=⟨bp,1,none⟩) hbp).trans c1w
   obtain⟨v2,w2,hr1,ho2,hg2⟩:=AE w1 w.heap.size v1 0 la cap [] xs ga b o ho1 (hR.next hb1) hxl (by omega) hb1.size
   rw[Nat.zero_add,List.nil_append]at ho2
   have hb2:=fD hb1 ho1 hg2 hb1.size
   obtain⟨v3,w3,hr2,ho3,hg3⟩:=AE w2 w.heap.size v2 la lb cap' xs ys gb b' o' ho2 (hR'.next hb2) hyl (by omega) hb2.size
   rw[hN]at ho3
   have hb3:=fD hb2 ho2 hg3 hb2.size
   have c0':=(hb2.cell (p:=⟨bp,0,none⟩) hbp).trans c0w
   have c1':=(hb2.cell (p:=⟨bp,1,none⟩) hbp).trans c1w
   have HO1:=hide ho1
   have HO2:=hide ho2
   have HO3:=hide ho3
   have HB3:=hide hb3
   obtain⟨g1,b1,cp1,rfl,_,_,_⟩:=fp (xs:=[]) ho1
   obtain⟨g2,b2,cp2,rfl,_,_,_⟩:=fp ho2
   obtain⟨g3,b3,cp3,rfl,_,_,_⟩:=fp ho3
   clear ho1 ho2 ho3 hb3 hg2 hg3 hR hR' hb1 hb2 c0w c1w
   go_wp2
   go_loopw [6,27] (fun nv iv wr=>∃ k:Nat,k<=2/\iv=.int .i64 (k:Int)/\((k=0/\nv=.slice g1 0 cp1/\wr=w1)\/(k=1/\nv=.slice g2 la cp2/\wr=w2)\/(k=2/\nv=.slice g3 N cp3/\wr=w3))) (fun _ iv _=>2-(intOf iv).toNat)
   case atStart=>exact⟨0,by omega,rfl,Or.inl ⟨rfl,rfl,rfl⟩⟩
   case round=>
    obtain⟨k,hk,rfl,hkt⟩:=hrel
    rcases hkt with⟨rfl,rfl,hwr⟩|⟨rfl,rfl,hwr⟩|⟨rfl,rfl,hwr⟩
    ·obtain rfl:=hwr.symm
     clear hwr
     go_wp2_with (at_builtin;refine Lib.wpList_append_run _ rfl _ _ _ _ rfl _ _ rfl rfl _ _ hr1 ?_)
     go_roundw
     case rel=>exact⟨1,by omega,rfl,Or.inr (Or.inl ⟨rfl,rfl,by trivial⟩)⟩
     case measure=>simp[intOf]
    ·obtain rfl:=hwr.symm
     clear hwr
     go_wp2_with (at_builtin;refine Lib.wpList_append_run _ rfl _ _ _ _ rfl _ _ rfl rfl _ _ hr2 ?_)
     go_roundw
     case rel=>exact⟨2,by omega,rfl,Or.inr (Or.inr ⟨rfl,rfl,by trivial⟩)⟩
     case measure=>simp[intOf]
    ·obtain rfl:=hwr.symm
     clear hwr
     go_wp2
     go_ret
     refine⟨_,rfl,?_,ae HB3⟩
     first|exact ae HO3|(rw[hN];exact ae HO3)
theorem yA(w:World)(u v:Value)(A C k:Nat)(ga:Option Addr)(b o cap:Nat)(xs:List Nat)(hu:u=.slice ga k cap)(hl:xs.length=k)(hR:Rep w ga b o cap xs)(hd:ao xs)(hA:af xs=A)(hv:aL w v C)(hk:k<=16384)(hc:∀ ys,(∃ gb b' o' cap',v=.slice gb ys.length cap'/\Rep w gb b' o' cap' ys)->ao ys->af ys=C->ys.length<=16385):
  Calls Tryz.prog 95 #[.slice (some ⟨w.heap.size,0,none⟩) 2 2] (w.alloc (.cells #[u,v] 29)) fun e w'=>∃ r,e=.returned r/\aO w.heap.size w' r (A+18446744073709551616^k*C)/\Below w.heap.size w w':=by
 obtain⟨gb,b',o',cap',ys,rfl,hR',hd',hC',hl'⟩:=hv
 subst hu
 have hyl:=hc ys ⟨gb,b',o',cap',rfl,hR'⟩ hd' hC'
 have bl:Below w.heap.size w (w.alloc (.cells #[.slice ga k cap,.slice gb ys.length cap'] 29)):=(Below.refl _ _).alloc (Nat.le_refl _) _
 have kk:=heap_alloc_new w (.cells #[.slice ga k cap,.slice gb ys.length cap'] 29)
 have hs:w.heap.size<=(w.alloc (.cells #[.slice ga k cap,.slice gb ys.length cap'] 29)).heap.size:=bl.size
 refine(oV (w.alloc (.cells #[.slice ga k cap,.slice gb ys.length cap'] 29)) w.heap.size ga gb b o cap k b' o' cap' ys.length xs ys hl rfl (hR.next bl) (hR'.next bl) (by omega) (by omega) (cell_of_row _ w.heap.size 0 _ _ (0,0) kk) (cell_of_row _ w.heap.size 1 _ _ (0,0) kk)).mono ?_
 rintro e w' ⟨r,rfl,ho,hb⟩
 obtain⟨gr,br,cr,rfl,hrl,hRr,hbr⟩:=fp ho
 refine⟨_,rfl,⟨gr,br,0,cr,xs++ys,by rw[hrl],hRr,fu hd hd',by rw[ck,hl,hA,hC'],by omega,fun h=>Nat.le_trans hs (hbr (by omega))⟩,ag bl hb⟩
end Go.Proofs.YtgcnhfgpflncaaaGreatDoor
