/- Small things of the laws over engines: tables in memory, rows of one word. -/
import Derived.Test.YtgcnhfgpflncaaaGreatDoorB36
import Derived.Test.YtgcnhfgpflncaaaGreatDoorB26
import Derived.Test.YtgcnhfgpflncaaaGreatDoorB14
import Derived.Test.YtgcnhfgpflncaaaGreatDoorB33
import Derived.Deep.RegionHeld3
import Derived.Test.YtgcnhfgpflncaaaGreatDoorB9
import Derived.Test.YtgcnhfgpflncaaaGreatDoorB7
import Derived.Test.YtgcnhfgpflncaaaGreatDoorB15
import Derived.Laws.CopyOwn
namespace Go.Proofs.YtgcnhfgpflncaaaGreatDoor
open Go.RowKit
theorem TabAt.lt{w:World}{g:Nat}{T:Tab}(h:TabAt w g T):g<w.heap.size:=World.block_lt_of_cell? _ _ h.c0
theorem ah.shape{B:Nat}{w:World}{v:Value}{n:Nat}(h:ah B w v n):∃ ga l cap,v=.slice ga l cap:=by
 obtain⟨ga,b,cap,xs,rfl,_⟩:=h.rep
 exact⟨ga,_,cap,rfl⟩
theorem zS(w:World)(a:Nat):aB (w.alloc (.cells #[.int .u64 (a:Int)] 41)) w.heap.size [a]:=heap_alloc_new w _
theorem Ad{a:Nat}(h:a<18446744073709551616):ao [a]:=fun j=>by
 match j with
 |0=>exact h
 |j+1=>exact Nat.zero_lt_succ _
theorem J5{a:Nat}(h:a<18446744073709551616)(h0:0<a):cn [a]:=⟨Ad h,fun _=>h0⟩
theorem KI(w:World)(a:Nat)(h:a<18446744073709551616):bh (w.alloc (.cells #[.int .u64 (a:Int)] 41)) (.slice (some ⟨w.heap.size,0,none⟩) 1 1) a:=
 ⟨_,_,_,_,[a],rfl,aB.whole (zS w a) (n:=1) rfl,Ad h,by simp[af],by simp⟩
theorem xk(w:World)(B a:Nat)(r:Value)(h:a<18446744073709551616)(h0:0<a)(nr:ah B w r a):
  Calls Tryz.prog 30 #[r,.slice (some ⟨w.heap.size,0,none⟩) 1 1] (w.alloc (.cells #[.int .u64 (a:Int)] 41)) fun e w'=>e=.returned (.bool true)/\Below w.heap.size w w':=by
 have hb:Below w.heap.size w (w.alloc (.cells #[.int .u64 (a:Int)] 41)):=(Below.refl _ _).alloc (Nat.le_refl _) _
 obtain⟨ga,b,cap,rfl,rr⟩:=rJ nr (J5 h h0) (by simp[af])
 refine(l8 _ ga _ b 0 cap _ 0 1 1 [a] rfl (by omega) (rr.next hb) (aB.whole (zS w a) (n:=1) rfl)).mono ?_
 rintro e w' ⟨rfl,b2⟩
 exact⟨rfl,ag hb b2⟩
end Go.Proofs.YtgcnhfgpflncaaaGreatDoor
/- Sums and products of whole numbers of the reference. Written by gen_rint.py. -/
namespace Go.Proofs.YtgcnhfgpflncaaaGreatDoor
open Go.RowKit
end Go.Proofs.YtgcnhfgpflncaaaGreatDoor
/- Sums and differences of whole numbers of the reference. Written by gen_rint3.py. -/
namespace Go.Proofs.YtgcnhfgpflncaaaGreatDoor
open Go.RowKit
end Go.Proofs.YtgcnhfgpflncaaaGreatDoor
/- Differences,small ones,and back:whole numbers of the reference. Written by gen_rint4.py. -/
namespace Go.Proofs.YtgcnhfgpflncaaaGreatDoor
open Go.RowKit
end Go.Proofs.YtgcnhfgpflncaaaGreatDoor
/- A whole number of the reference as api has it. -/
namespace Go.Proofs.YtgcnhfgpflncaaaGreatDoor
open Go.RowKit
end Go.Proofs.YtgcnhfgpflncaaaGreatDoor
/- Whole numbers in boxes,and what the document's own answers are held against:for the statement on Points. -/
namespace Go.Proofs.YtgcnhfgpflncaaaGreatDoor
open Go.RowKit
def Bx(w:World)(q t:Nat)(x y:Value):Prop:=w.heap[q]?=some (.cells #[x,y] t (0,0))
theorem Bx.lt{w:World}{q t:Nat}{x y:Value}(h:Bx w q t x y):q<w.heap.size:=(Array.getElem?_eq_some_iff.1 h).1
theorem Bx.next{w w':World}{q t:Nat}{x y:Value}(h:Bx w q t x y)(b:Below w.heap.size w w'):Bx w' q t x y:=(b.block q h.lt).trans h
theorem Bx.c0{w:World}{q t:Nat}{x y:Value}(h:Bx w q t x y):w.cell? ⟨q,0,none⟩=some x:=cell_of_row _ q 0 _ _ (0,0) h
theorem Bx.c1{w:World}{q t:Nat}{x y:Value}(h:Bx w q t x y):w.cell? ⟨q,1,none⟩=some y:=cell_of_row _ q 1 _ _ (0,0) h
theorem NS(w:World)(t:Nat)(x y:Value):Bx (w.alloc (.cells #[x,y] t)) w.heap.size t x y:=heap_alloc_new w _
theorem ah.form{B:Nat}{w:World}{v:Value}{n:Nat}(h:ah B w v n):∃ ga l cap,v=.slice ga l cap:=by
 obtain⟨ga,b,cap,xs,rfl,_⟩:=h.rep
 exact⟨ga,_,cap,rfl⟩
theorem Bx.f0{w:World}{q t:Nat}{x y:Value}(h:Bx w q t x y):w.frozen? ⟨q,0,none⟩=false:=frozen_of_row _ q 0 _ _ h
theorem Bx.f1{w:World}{q t:Nat}{x y:Value}(h:Bx w q t x y):w.frozen? ⟨q,1,none⟩=false:=frozen_of_row _ q 1 _ _ h
theorem Bx.set{w:World}{q t:Nat}{x y:Value}(h:Bx w q t x y)(u v:Value):Bx ((w.setCell ⟨q,0,none⟩ u).setCell ⟨q,1,none⟩ v) q t u v:=by
 have h1:=heap_setCell_same w q 0 _ _ u h
 have h2:=heap_setCell_same (w.setCell ⟨q,0,none⟩ u) q 1 _ _ v h1
 exact h2
theorem Bx.other{w:World}{q t p:Nat}{x y:Value}(h:Bx w q t x y)(hp:q≠p)(u v:Value):Bx ((w.setCell ⟨p,0,none⟩ u).setCell ⟨p,1,none⟩ v) q t x y:=by
 show _=_
 rw[heap_setCell_other _ ⟨p,1,none⟩ q v hp,heap_setCell_other _ ⟨p,0,none⟩ q u hp]
 exact h
theorem FX(w:World)(o1 o2 o3 o4 o5:Obj):(((((w.alloc o1).alloc o2).alloc o3).alloc o4).alloc o5).heap[w.heap.size]?=some o1/\(((((w.alloc o1).alloc o2).alloc o3).alloc o4).alloc o5).heap[w.heap.size+1]?=some o2/\(((((w.alloc o1).alloc o2).alloc o3).alloc o4).alloc o5).heap[w.heap.size+1+1]?=some o3/\(((((w.alloc o1).alloc o2).alloc o3).alloc o4).alloc o5).heap[w.heap.size+1+1+1]?=some o4/\(((((w.alloc o1).alloc o2).alloc o3).alloc o4).alloc o5).heap[w.heap.size+1+1+1+1]?=some o5:=by
 obtain⟨h1,h2,h3⟩:=yk w o1 o2 o3
 have s3:(((w.alloc o1).alloc o2).alloc o3).heap.size=w.heap.size+1+1+1:=by simp
 have s4:((((w.alloc o1).alloc o2).alloc o3).alloc o4).heap.size=w.heap.size+1+1+1+1:=by simp
 generalize ((w.alloc o1).alloc o2).alloc o3=v at *
 have b1:Below v.heap.size v (v.alloc o4):=(Below.refl _ _).alloc (Nat.le_refl _) _
 have b2:Below (v.alloc o4).heap.size (v.alloc o4) ((v.alloc o4).alloc o5):=(Below.refl _ _).alloc (Nat.le_refl _) _
 refine⟨(b2.block _ (by omega)).trans ((b1.block _ (by omega)).trans h1),(b2.block _ (by omega)).trans ((b1.block _ (by omega)).trans h2),(b2.block _ (by omega)).trans ((b1.block _ (by omega)).trans h3),?_,?_⟩
 ·rw[<-s3]
  exact(b2.block _ (by omega)).trans (heap_alloc_new v o4)
 ·rw[<-s4]
  exact heap_alloc_new (v.alloc o4) o5
theorem FR(w:World)(o1 o2 o3 o4 o5:Obj):Below w.heap.size w (((((w.alloc o1).alloc o2).alloc o3).alloc o4).alloc o5):=
 (((((Below.refl _ _).alloc (Nat.le_refl _) _).alloc (by simp) _).alloc (by simp;omega) _).alloc (by simp;omega) _).alloc (by simp;omega) _
end Go.Proofs.YtgcnhfgpflncaaaGreatDoor
/- Package toom:a difference of either sign,and Points. Written by gen_opts.py. -/
namespace Go.Proofs.YtgcnhfgpflncaaaGreatDoor
open Go.RowKit
theorem au{W:World}{P B n:Nat}{r:Value}(x y:Value)(h:ah B W r n)(hP:P<B):ah B ((W.setCell ⟨P,0,none⟩ x).setCell ⟨P,1,none⟩ y) r n:=
 (Out.of_grown (az (aj W P 0 x) (aj _ P 1 y))).newW h (fun k e=>by rw[e];exact hP)
theorem bc{w W:World}{P:Nat}(x y:Value)(h:Below w.heap.size w W)(hP:w.heap.size<=P):Below w.heap.size w ((W.setCell ⟨P,0,none⟩ x).setCell ⟨P,1,none⟩ y):=
 (h.setCell (p:=⟨P,0,none⟩) hP x).setCell (p:=⟨P,1,none⟩) hP y
theorem m6(W:World)(P:Nat)(x y:Value):((W.setCell ⟨P,0,none⟩ x).setCell ⟨P,1,none⟩ y).heap.size=W.heap.size:=by simp
set_option maxRecDepth 100000 in
set_option maxHeartbeats 1600000 in
theorem Gl(w:World)(u v:Value)(m n:Nat)(hu:aL w u m)(hv:aL w v n):
  Calls Tryz.prog 186 #[u,v] w fun e w'=>∃ r,e=.returned (.agg #[r,.bool (decide (m<n))])/\ah w.heap.size w' r (nd m n)/\Below w.heap.size w w':=by
 have HV:=hide (fun W (b:Below w.heap.size w W) (h:m<=n)=>eW W v u n m h (hv.next b) (hu.next b))
 have CS:=hide (fun W (b:Below w.heap.size w W)=>gA W u v m n (hu.next b) (hv.next b))
 have hX:Bx (w.alloc (.cells #[.slice none 0 0,.bool false] 182)) w.heap.size 182 (.slice none 0 0) (.bool false):=NS _ _ _ _
 have b0:Below w.heap.size w (w.alloc (.cells #[.slice none 0 0,.bool false] 182)):=(Below.refl _ _).alloc (Nat.le_refl _) _
 have s0:w.heap.size<(w.alloc (.cells #[.slice none 0 0,.bool false] 182)).heap.size:=by simp
 clear hu hv
 go_enter Tryz.func186,Tryz.ntmps186
 go_wp2_with fail
 refine(ae CS _ b0).mono ?_
 generalize (w.alloc (.cells #[.slice none 0 0,.bool false] 182))=W1 at *
 rintro e w2 ⟨b2,⟨hle,r2,rfl,h2⟩|⟨hlt,rfl⟩⟩
 ·obtain⟨ga,l,cap,rfl⟩:=h2.form
  have X2:=hX.next b2
  have c0:=X2.c0
  have c1:=X2.c1
  have f0:=X2.f0
  have f1:=X2.f1
  have N:=hide (au (.slice ga l cap) (.bool false) h2 s0)
  have BB:=hide (bc (.slice ga l cap) (.bool false) (ag b0 b2) (Nat.le_refl _))
  have E:Hid (m-n=nd m n):=by show _=_;unfold nd;omega
  have E2:Hid (decide (m<n)=false):=decide_eq_false (by omega)
  have S0:=hide (Nat.le_of_lt s0)
  clear h2 X2 hX HV CS b0 b2 s0 hle
  go_wp2
  refine bodyPost_ret (v:=.agg #[.slice ga l cap,.bool false]) (by simp[results,Tryz.results186,go_sem,c0,c1]) rfl ?_
  refine⟨_,by rw[ae E2],?_,ae BB⟩
  rw[<-ae E]
  exact(ae N).mono (ae S0)
 ·have b02:=ag b0 b2
  have CM:=hide (ae HV _ b02 (Nat.le_of_lt hlt))
  have S2:=b2.size
  clear HV CS
  go_wp2_with fail
  refine(ae CM).mono ?_
  rintro e w3 ⟨r3,rfl,h3,b3⟩
  obtain⟨ga,l,cap,rfl⟩:=h3.form
  have X2:=(hX.next b2).next b3
  have c0:=X2.c0
  have c1:=X2.c1
  have f0:=X2.f0
  have f1:=X2.f1
  have N:=hide (au (.slice ga l cap) (.bool true) h3 (Nat.lt_of_lt_of_le s0 S2))
  have BB:=hide (bc (.slice ga l cap) (.bool true) (ag b02 b3) (Nat.le_refl _))
  have E:Hid (n-m=nd m n):=by show _=_;unfold nd;omega
  have E2:Hid (decide (m<n)=true):=decide_eq_true hlt
  have S0:=hide (b02.size)
  clear h3 X2 hX CM b0 b2 s0 hlt b3 b02 S2
  go_wp2
  refine bodyPost_ret (v:=.agg #[.slice ga l cap,.bool true]) (by simp[results,Tryz.results186,go_sem,c0,c1]) rfl ?_
  refine⟨_,by rw[ae E2],?_,ae BB⟩
  rw[<-ae E]
  exact(ae N).mono (ae S0)
structure PB(w:World)(P:Nat)(x0 y0 x1 y1 x2 y2 x3 y3 x4 y4:Value):Prop where
 b0:Bx w P 182 x0 y0
 b1:Bx w (P+1) 182 x1 y1
 b2:Bx w (P+1+1) 182 x2 y2
 b3:Bx w (P+1+1+1) 182 x3 y3
 b4:Bx w (P+1+1+1+1) 182 x4 y4
theorem PB.next{w w':World}{P:Nat}{x0 y0 x1 y1 x2 y2 x3 y3 x4 y4:Value}(h:PB w P x0 y0 x1 y1 x2 y2 x3 y3 x4 y4)(b:Below w.heap.size w w'):PB w' P x0 y0 x1 y1 x2 y2 x3 y3 x4 y4:=⟨h.b0.next b,h.b1.next b,h.b2.next b,h.b3.next b,h.b4.next b⟩
theorem PB.set0{w:World}{P:Nat}{x0 y0 x1 y1 x2 y2 x3 y3 x4 y4:Value}(h:PB w P x0 y0 x1 y1 x2 y2 x3 y3 x4 y4)(u v:Value):PB ((w.setCell ⟨P,0,none⟩ u).setCell ⟨P,1,none⟩ v) P u v x1 y1 x2 y2 x3 y3 x4 y4:=⟨h.b0.set u v,h.b1.other (by omega) u v,h.b2.other (by omega) u v,h.b3.other (by omega) u v,h.b4.other (by omega) u v⟩
theorem PB.set1{w:World}{P:Nat}{x0 y0 x1 y1 x2 y2 x3 y3 x4 y4:Value}(h:PB w P x0 y0 x1 y1 x2 y2 x3 y3 x4 y4)(u v:Value):PB ((w.setCell ⟨P+1,0,none⟩ u).setCell ⟨P+1,1,none⟩ v) P x0 y0 u v x2 y2 x3 y3 x4 y4:=⟨h.b0.other (by omega) u v,h.b1.set u v,h.b2.other (by omega) u v,h.b3.other (by omega) u v,h.b4.other (by omega) u v⟩
theorem PB.set2{w:World}{P:Nat}{x0 y0 x1 y1 x2 y2 x3 y3 x4 y4:Value}(h:PB w P x0 y0 x1 y1 x2 y2 x3 y3 x4 y4)(u v:Value):PB ((w.setCell ⟨P+1+1,0,none⟩ u).setCell ⟨P+1+1,1,none⟩ v) P x0 y0 x1 y1 u v x3 y3 x4 y4:=⟨h.b0.other (by omega) u v,h.b1.other (by omega) u v,h.b2.set u v,h.b3.other (by omega) u v,h.b4.other (by omega) u v⟩
theorem PB.set3{w:World}{P:Nat}{x0 y0 x1 y1 x2 y2 x3 y3 x4 y4:Value}(h:PB w P x0 y0 x1 y1 x2 y2 x3 y3 x4 y4)(u v:Value):PB ((w.setCell ⟨P+1+1+1,0,none⟩ u).setCell ⟨P+1+1+1,1,none⟩ v) P x0 y0 x1 y1 x2 y2 u v x4 y4:=⟨h.b0.other (by omega) u v,h.b1.other (by omega) u v,h.b2.other (by omega) u v,h.b3.set u v,h.b4.other (by omega) u v⟩
theorem PB.set4{w:World}{P:Nat}{x0 y0 x1 y1 x2 y2 x3 y3 x4 y4:Value}(h:PB w P x0 y0 x1 y1 x2 y2 x3 y3 x4 y4)(u v:Value):PB ((w.setCell ⟨P+1+1+1+1,0,none⟩ u).setCell ⟨P+1+1+1+1,1,none⟩ v) P x0 y0 x1 y1 x2 y2 x3 y3 u v:=⟨h.b0.other (by omega) u v,h.b1.other (by omega) u v,h.b2.other (by omega) u v,h.b3.other (by omega) u v,h.b4.set u v⟩
set_option maxRecDepth 100000 in
set_option maxHeartbeats 6400000 in
theorem zf(w:World)(u:Value)(m K L:Nat)(k:Int)(a0 a1 a2:Nat)(hu:aL w u m)(hL:L<=1048576)(hm:m<18446744073709551616^L)(hK:K=PY k)(h0:a0=m%18446744073709551616^K)(h1:a1=m/18446744073709551616^K%18446744073709551616^K)(h2:a2=m/18446744073709551616^K/18446744073709551616^K):
 Calls Tryz.prog 161 #[u,.int .i64 k] w fun e w'=>∃ v0 v1 v2 v3 v4,e=.returned (.tuple #[.agg #[v0,.bool false],.agg #[v1,.bool false],.agg #[v2,.bool (decide (a0+a2<a1))],.agg #[v3,.bool false],.agg #[v4,.bool false]])/\ah w.heap.size w' v0 a0/\ah w.heap.size w' v1 (a0+a1+a2)/\ah w.heap.size w' v2 (nd (a0+a2) a1)/\ah w.heap.size w' v3 (a0+2*a1+4*a2)/\ah w.heap.size w' v4 a2/\Below w.heap.size w w':=by
 have hz0:min (max k 1) 16384=(K:Int):=by rw[hK];unfold PY;omega
 have hz1:(K:Int)=min (max (K:Int) 0) 16384:=by omega
 have g1:m/18446744073709551616^K<=m:=Nat.div_le_self _ _
 have g2:a0<=m:=by rw[h0];exact Nat.mod_le _ _
 have g3:a1<=m:=by rw[h1];exact Nat.le_trans (Nat.mod_le _ _) g1
 have g4:a2<=m:=by rw[h2];exact Nat.le_trans (Nat.div_le_self _ _) g1
 have hp:18446744073709551616*m<18446744073709551616^(L+1):=by rw[Nat.pow_succ];omega
 have L0:Hid (a0<18446744073709551616^(L+1)):=Nat.lt_of_le_of_lt (by omega) hp
 have L1:Hid (a1<18446744073709551616^(L+1)):=Nat.lt_of_le_of_lt (by omega) hp
 have L2:Hid (a2<18446744073709551616^(L+1)):=Nat.lt_of_le_of_lt (by omega) hp
 have LQ:Hid (m/18446744073709551616^K<18446744073709551616^(L+1)):=Nat.lt_of_le_of_lt (by omega) hp
 have LE:Hid (a0+a2<18446744073709551616^(L+1)):=Nat.lt_of_le_of_lt (by omega) hp
 have LM:Hid (a0+a1*2<18446744073709551616^(L+1)):=Nat.lt_of_le_of_lt (by omega) hp
 have hL1:Hid (L+1<=1073741824):=by show _<=_;omega
 have CS:=hide (fun W (b:Below w.heap.size w W)=>AG W u (K:Int) m K hz1 (hu.next b))
 have CT:=hide (fun W v (i:aL W v (m/18446744073709551616^K))=>AG W v (K:Int) _ K hz1 i)
 rw[<-h0]at CS
 rw[<-h1, <-h2]at CT
 obtain⟨k0,k1,k2,k3,k4⟩:=FX w (.cells #[.slice none 0 0,.bool false] 182) (.cells #[.slice none 0 0,.bool false] 182) (.cells #[.slice none 0 0,.bool false] 182) (.cells #[.slice none 0 0,.bool false] 182) (.cells #[.slice none 0 0,.bool false] 182)
 have b0:=FR w (.cells #[.slice none 0 0,.bool false] 182) (.cells #[.slice none 0 0,.bool false] 182) (.cells #[.slice none 0 0,.bool false] 182) (.cells #[.slice none 0 0,.bool false] 182) (.cells #[.slice none 0 0,.bool false] 182)
 have X0:PB (((((w.alloc (.cells #[.slice none 0 0,.bool false] 182)).alloc (.cells #[.slice none 0 0,.bool false] 182)).alloc (.cells #[.slice none 0 0,.bool false] 182)).alloc (.cells #[.slice none 0 0,.bool false] 182)).alloc (.cells #[.slice none 0 0,.bool false] 182)) w.heap.size (.slice none 0 0) (.bool false) (.slice none 0 0) (.bool false) (.slice none 0 0) (.bool false) (.slice none 0 0) (.bool false) (.slice none 0 0) (.bool false):=⟨k0,k1,k2,k3,k4⟩
 have s0:w.heap.size+1+1+1+1<(((((w.alloc (.cells #[.slice none 0 0,.bool false] 182)).alloc (.cells #[.slice none 0 0,.bool false] 182)).alloc (.cells #[.slice none 0 0,.bool false] 182)).alloc (.cells #[.slice none 0 0,.bool false] 182)).alloc (.cells #[.slice none 0 0,.bool false] 182)).heap.size:=X0.b4.lt
 clear k0 k1 k2 k3 k4 hu hm hp h0 h1 h2 hK g1 g2 g3 g4 hL hz1
 generalize hQ:m/18446744073709551616^K=Q at *
 clear hQ
 go_enter Tryz.func161,Tryz.ntmps161
 go_wp2_with fail
 refine(ae CS _ b0).mono ?_
 generalize (((((w.alloc (.cells #[.slice none 0 0,.bool false] 182)).alloc (.cells #[.slice none 0 0,.bool false] 182)).alloc (.cells #[.slice none 0 0,.bool false] 182)).alloc (.cells #[.slice none 0 0,.bool false] 182)).alloc (.cells #[.slice none 0 0,.bool false] 182))=W0 at *
 rintro e w1 ⟨lo,hi,B1,M1,B2,M2,rfl,n1,n2,q1,q2,_,_,_,b1⟩
 have n0:=n1.toW.mono q1
 have nh:=n2.toW.mono q2
 have BW:=ag b0 b1
 have X1:=X0.next b1
 clear n1 n2 q1 q2 CS X0 b0
 have CT:=hide (ae CT w1 hi (nh.toIn (ae LQ) (ae hL1)))
 go_wp2_with fail
 refine(ae CT).mono ?_
 rintro e w2 ⟨mi,to,B3,M3,B4,M4,rfl,n3,n4,q3,q4,_,_,_,b2⟩
 have sz1:=b1.size
 have n1:=n3.toW.mono (Nat.le_trans sz1 q3)
 have n2:=n4.toW.mono (Nat.le_trans sz1 q4)
 have n0:=n0.next b2
 have BW:=ag BW b2
 have X2:=X1.next b2
 have sz2:=Nat.le_trans sz1 b2.size
 clear n3 n4 q3 q4 CT X1 nh b1 b2 sz1
 obtain⟨A0,A1,A2,rfl⟩:=n0.form
 obtain⟨A3,A4,A5,rfl⟩:=n1.form
 obtain⟨A6,A7,A8,rfl⟩:=n2.form
 go_wp2_with fail
 refine(jo _ _ _ _ _ (n0.toIn (ae L0) (ae hL1)) (n2.toIn (ae L2) (ae hL1))).mono ?_
 rintro e w3 ⟨r3,rfl,n3,b3⟩
 have n3:=n3.mono sz2
 have n0:=n0.next b3
 have n1:=n1.next b3
 have n2:=n2.next b3
 have BW:=ag BW b3
 have X3:=X2.next b3
 have sz3:=Nat.le_trans sz2 b3.size
 clear X2 b3 sz2
 have c0:=X3.b0.c0
 have c1:=X3.b0.c1
 have f0:=X3.b0.f0
 have f1:=X3.b0.f1
 have n0:=au (P:=w.heap.size) (.slice A0 A1 A2) (.bool false) n0 (by omega)
 have n1:=au (P:=w.heap.size) (.slice A0 A1 A2) (.bool false) n1 (by omega)
 have n2:=au (P:=w.heap.size) (.slice A0 A1 A2) (.bool false) n2 (by omega)
 have n3:=au (P:=w.heap.size) (.slice A0 A1 A2) (.bool false) n3 (by omega)
 have BW:=bc (P:=w.heap.size) (.slice A0 A1 A2) (.bool false) BW (by omega)
 have X4:=X3.set0 (.slice A0 A1 A2) (.bool false)
 have sz:W0.heap.size<=((w3.setCell ⟨w.heap.size,0,none⟩ (.slice A0 A1 A2)).setCell ⟨w.heap.size,1,none⟩ (.bool false)).heap.size:=by rw[m6];assumption
 clear X3
 have HB:=hide BW
 have HX:=hide X4
 clear BW X4
 go_wp2_with fail
 refine(jo _ _ _ _ _ (n3.toIn (ae LE) (ae hL1)) (n1.toIn (ae L1) (ae hL1))).mono ?_
 clear c0 c1 f0 f1
 have BW:=ae HB
 have X4:=ae HX
 clear HB HX
 generalize ((w3.setCell ⟨w.heap.size,0,none⟩ (.slice A0 A1 A2)).setCell ⟨w.heap.size,1,none⟩ (.bool false))=w4 at *
 rintro e w5 ⟨r5,rfl,n5,b5⟩
 have n5:=n5.mono sz
 have n0:=n0.next b5
 have n1:=n1.next b5
 have n2:=n2.next b5
 have n3:=n3.next b5
 have BW:=ag BW b5
 have X5:=X4.next b5
 have sz5:=Nat.le_trans sz b5.size
 clear X4 b5 sz
 obtain⟨A9,A10,A11,rfl⟩:=n5.form
 have c0:=X5.b1.c0
 have c1:=X5.b1.c1
 have f0:=X5.b1.f0
 have f1:=X5.b1.f1
 have n0:=au (P:=w.heap.size+1) (.slice A9 A10 A11) (.bool false) n0 (by omega)
 have n1:=au (P:=w.heap.size+1) (.slice A9 A10 A11) (.bool false) n1 (by omega)
 have n2:=au (P:=w.heap.size+1) (.slice A9 A10 A11) (.bool false) n2 (by omega)
 have n3:=au (P:=w.heap.size+1) (.slice A9 A10 A11) (.bool false) n3 (by omega)
 have n5:=au (P:=w.heap.size+1) (.slice A9 A10 A11) (.bool false) n5 (by omega)
 have BW:=bc (P:=w.heap.size+1) (.slice A9 A10 A11) (.bool false) BW (by omega)
 have X6:=X5.set1 (.slice A9 A10 A11) (.bool false)
 have sz:W0.heap.size<=((w5.setCell ⟨w.heap.size+1,0,none⟩ (.slice A9 A10 A11)).setCell ⟨w.heap.size+1,1,none⟩ (.bool false)).heap.size:=by rw[m6];assumption
 clear X5
 have HB:=hide BW
 have HX:=hide X6
 clear BW X6
 go_wp2_with fail
 refine(Gl _ _ _ _ _ (n3.toIn (ae LE) (ae hL1)) (n1.toIn (ae L1) (ae hL1))).mono ?_
 clear c0 c1 f0 f1
 have BW:=ae HB
 have X6:=ae HX
 clear HB HX
 generalize ((w5.setCell ⟨w.heap.size+1,0,none⟩ (.slice A9 A10 A11)).setCell ⟨w.heap.size+1,1,none⟩ (.bool false))=w6 at *
 rintro e w7 ⟨r7,rfl,n7,b7⟩
 have n7:=n7.mono sz
 have n0:=n0.next b7
 have n1:=n1.next b7
 have n2:=n2.next b7
 have n5:=n5.next b7
 have BW:=ag BW b7
 have X7:=X6.next b7
 have sz7:=Nat.le_trans sz b7.size
 clear X6 b7 sz n3
 obtain⟨A12,A13,A14,rfl⟩:=n7.form
 have hdec:∃ D,decide (a0+a2<a1)=D:=⟨_,rfl⟩
 obtain⟨D,hD⟩:=hdec
 rw[hD]
 have HD:=hide hD
 clear hD
 have c0:=X7.b2.c0
 have c1:=X7.b2.c1
 have f0:=X7.b2.f0
 have f1:=X7.b2.f1
 have n0:=au (P:=w.heap.size+1+1) (.slice A12 A13 A14) (.bool D) n0 (by omega)
 have n1:=au (P:=w.heap.size+1+1) (.slice A12 A13 A14) (.bool D) n1 (by omega)
 have n2:=au (P:=w.heap.size+1+1) (.slice A12 A13 A14) (.bool D) n2 (by omega)
 have n5:=au (P:=w.heap.size+1+1) (.slice A12 A13 A14) (.bool D) n5 (by omega)
 have n7:=au (P:=w.heap.size+1+1) (.slice A12 A13 A14) (.bool D) n7 (by omega)
 have BW:=bc (P:=w.heap.size+1+1) (.slice A12 A13 A14) (.bool D) BW (by omega)
 have X8:=X7.set2 (.slice A12 A13 A14) (.bool D)
 have sz:W0.heap.size<=((w7.setCell ⟨w.heap.size+1+1,0,none⟩ (.slice A12 A13 A14)).setCell ⟨w.heap.size+1+1,1,none⟩ (.bool D)).heap.size:=by rw[m6];assumption
 clear X7
 have HB:=hide BW
 have HX:=hide X8
 clear BW X8
 go_wp2_with fail
 refine(oQ _ _ _ _ _ 2 (by decide) (n0.toIn (ae L0) (ae hL1)) (n1.toIn (ae L1) (ae hL1))).mono ?_
 clear c0 c1 f0 f1
 have BW:=ae HB
 have X8:=ae HX
 clear HB HX
 generalize ((w7.setCell ⟨w.heap.size+1+1,0,none⟩ (.slice A12 A13 A14)).setCell ⟨w.heap.size+1+1,1,none⟩ (.bool D))=w8 at *
 rintro e w9 ⟨r9,rfl,n9,b9⟩
 have n9:=n9.mono sz
 have n0:=n0.next b9
 have n2:=n2.next b9
 have n5:=n5.next b9
 have n7:=n7.next b9
 have BW:=ag BW b9
 have X9:=X8.next b9
 have sz9:=Nat.le_trans sz b9.size
 clear X8 b9 sz n1
 go_wp2_with fail
 refine(oQ _ _ _ _ _ 4 (by decide) (n9.toIn (ae LM) (ae hL1)) (n2.toIn (ae L2) (ae hL1))).mono ?_
 rintro e w10 ⟨r10,rfl,n10,b10⟩
 have n10:=n10.mono sz9
 have n0:=n0.next b10
 have n2:=n2.next b10
 have n5:=n5.next b10
 have n7:=n7.next b10
 have BW:=ag BW b10
 have X10:=X9.next b10
 have sz10:=Nat.le_trans sz9 b10.size
 clear X9 b10 n9
 obtain⟨A15,A16,A17,rfl⟩:=n10.form
 have c0:=X10.b3.c0
 have c1:=X10.b3.c1
 have f0:=X10.b3.f0
 have f1:=X10.b3.f1
 have d0:=X10.b4.c0
 have d1:=X10.b4.c1
 have e0:=X10.b4.f0
 have e1:=X10.b4.f1
 have n0:=au (P:=w.heap.size+1+1+1) (.slice A15 A16 A17) (.bool false) n0 (by omega)
 have n2:=au (P:=w.heap.size+1+1+1) (.slice A15 A16 A17) (.bool false) n2 (by omega)
 have n5:=au (P:=w.heap.size+1+1+1) (.slice A15 A16 A17) (.bool false) n5 (by omega)
 have n7:=au (P:=w.heap.size+1+1+1) (.slice A15 A16 A17) (.bool false) n7 (by omega)
 have n10:=au (P:=w.heap.size+1+1+1) (.slice A15 A16 A17) (.bool false) n10 (by omega)
 have BW:=bc (P:=w.heap.size+1+1+1) (.slice A15 A16 A17) (.bool false) BW (by omega)
 have X10:=X10.set3 (.slice A15 A16 A17) (.bool false)
 have n0:=au (P:=w.heap.size+1+1+1+1) (.slice A6 A7 A8) (.bool false) n0 (by omega)
 have n2:=au (P:=w.heap.size+1+1+1+1) (.slice A6 A7 A8) (.bool false) n2 (by omega)
 have n5:=au (P:=w.heap.size+1+1+1+1) (.slice A6 A7 A8) (.bool false) n5 (by omega)
 have n7:=au (P:=w.heap.size+1+1+1+1) (.slice A6 A7 A8) (.bool false) n7 (by omega)
 have n10:=au (P:=w.heap.size+1+1+1+1) (.slice A6 A7 A8) (.bool false) n10 (by omega)
 have BW:=bc (P:=w.heap.size+1+1+1+1) (.slice A6 A7 A8) (.bool false) BW (by omega)
 have X10:=X10.set4 (.slice A6 A7 A8) (.bool false)
 have BW:=hide BW
 have n0:=hide n0
 have n2:=hide n2
 have n5:=hide n5
 have n7:=hide n7
 have n10:=hide n10
 have X10:=hide X10
 go_wp2
 clear c0 c1 f0 f1 d0 d1 e0 e1
 generalize ((((w10.setCell ⟨w.heap.size+1+1+1,0,none⟩ (.slice A15 A16 A17)).setCell ⟨w.heap.size+1+1+1,1,none⟩ (.bool false)).setCell ⟨w.heap.size+1+1+1+1,0,none⟩ (.slice A6 A7 A8)).setCell ⟨w.heap.size+1+1+1+1,1,none⟩ (.bool false))=w11 at *
 have X11:=ae X10
 have c0:=X11.b0.c0
 have d0:=X11.b0.c1
 have f0:=X11.b0.f0
 have e0:=X11.b0.f1
 have c1:=X11.b1.c0
 have d1:=X11.b1.c1
 have f1:=X11.b1.f0
 have e1:=X11.b1.f1
 have c2:=X11.b2.c0
 have d2:=X11.b2.c1
 have f2:=X11.b2.f0
 have e2:=X11.b2.f1
 have c3:=X11.b3.c0
 have d3:=X11.b3.c1
 have f3:=X11.b3.f0
 have e3:=X11.b3.f1
 have c4:=X11.b4.c0
 have d4:=X11.b4.c1
 have f4:=X11.b4.f0
 have e4:=X11.b4.f1
 have Y:=X11
 have Y:=Y.set0 (.slice A0 A1 A2) (.bool false)
 have Y:=Y.set1 (.slice A9 A10 A11) (.bool false)
 have Y:=Y.set2 (.slice A12 A13 A14) (.bool D)
 have Y:=Y.set3 (.slice A15 A16 A17) (.bool false)
 have Y:=Y.set4 (.slice A6 A7 A8) (.bool false)
 have Y:=hide (Y.next (Below.refl _ _).drew)
 have n0:=ae n0
 have n0:=au (P:=w.heap.size) (.slice A0 A1 A2) (.bool false) n0 (by omega)
 have n0:=au (P:=w.heap.size+1) (.slice A9 A10 A11) (.bool false) n0 (by omega)
 have n0:=au (P:=w.heap.size+1+1) (.slice A12 A13 A14) (.bool D) n0 (by omega)
 have n0:=au (P:=w.heap.size+1+1+1) (.slice A15 A16 A17) (.bool false) n0 (by omega)
 have n0:=au (P:=w.heap.size+1+1+1+1) (.slice A6 A7 A8) (.bool false) n0 (by omega)
 have n0:=hide ((n0.next (Below.refl _ _).drew).mono (show w.heap.size<=W0.heap.size by omega))
 have n2:=ae n2
 have n2:=au (P:=w.heap.size) (.slice A0 A1 A2) (.bool false) n2 (by omega)
 have n2:=au (P:=w.heap.size+1) (.slice A9 A10 A11) (.bool false) n2 (by omega)
 have n2:=au (P:=w.heap.size+1+1) (.slice A12 A13 A14) (.bool D) n2 (by omega)
 have n2:=au (P:=w.heap.size+1+1+1) (.slice A15 A16 A17) (.bool false) n2 (by omega)
 have n2:=au (P:=w.heap.size+1+1+1+1) (.slice A6 A7 A8) (.bool false) n2 (by omega)
 have n2:=hide ((n2.next (Below.refl _ _).drew).mono (show w.heap.size<=W0.heap.size by omega))
 have n5:=ae n5
 have n5:=au (P:=w.heap.size) (.slice A0 A1 A2) (.bool false) n5 (by omega)
 have n5:=au (P:=w.heap.size+1) (.slice A9 A10 A11) (.bool false) n5 (by omega)
 have n5:=au (P:=w.heap.size+1+1) (.slice A12 A13 A14) (.bool D) n5 (by omega)
 have n5:=au (P:=w.heap.size+1+1+1) (.slice A15 A16 A17) (.bool false) n5 (by omega)
 have n5:=au (P:=w.heap.size+1+1+1+1) (.slice A6 A7 A8) (.bool false) n5 (by omega)
 have n5:=hide ((n5.next (Below.refl _ _).drew).mono (show w.heap.size<=W0.heap.size by omega))
 have n7:=ae n7
 have n7:=au (P:=w.heap.size) (.slice A0 A1 A2) (.bool false) n7 (by omega)
 have n7:=au (P:=w.heap.size+1) (.slice A9 A10 A11) (.bool false) n7 (by omega)
 have n7:=au (P:=w.heap.size+1+1) (.slice A12 A13 A14) (.bool D) n7 (by omega)
 have n7:=au (P:=w.heap.size+1+1+1) (.slice A15 A16 A17) (.bool false) n7 (by omega)
 have n7:=au (P:=w.heap.size+1+1+1+1) (.slice A6 A7 A8) (.bool false) n7 (by omega)
 have n7:=hide ((n7.next (Below.refl _ _).drew).mono (show w.heap.size<=W0.heap.size by omega))
 have n10:=ae n10
 have n10:=au (P:=w.heap.size) (.slice A0 A1 A2) (.bool false) n10 (by omega)
 have n10:=au (P:=w.heap.size+1) (.slice A9 A10 A11) (.bool false) n10 (by omega)
 have n10:=au (P:=w.heap.size+1+1) (.slice A12 A13 A14) (.bool D) n10 (by omega)
 have n10:=au (P:=w.heap.size+1+1+1) (.slice A15 A16 A17) (.bool false) n10 (by omega)
 have n10:=au (P:=w.heap.size+1+1+1+1) (.slice A6 A7 A8) (.bool false) n10 (by omega)
 have n10:=hide ((n10.next (Below.refl _ _).drew).mono (show w.heap.size<=W0.heap.size by omega))
 have BW:=ae BW
 have BW:=bc (P:=w.heap.size) (.slice A0 A1 A2) (.bool false) BW (by omega)
 have BW:=bc (P:=w.heap.size+1) (.slice A9 A10 A11) (.bool false) BW (by omega)
 have BW:=bc (P:=w.heap.size+1+1) (.slice A12 A13 A14) (.bool D) BW (by omega)
 have BW:=bc (P:=w.heap.size+1+1+1) (.slice A15 A16 A17) (.bool false) BW (by omega)
 have BW:=bc (P:=w.heap.size+1+1+1+1) (.slice A6 A7 A8) (.bool false) BW (by omega)
 have BW:=hide BW.drew
 clear X11 X10
 clear L0 L1 L2 LE LM hL1 s0 hz0
 go_big_region
 clear c0 d0 f0 e0 c1 d1 f1 e1 c2 d2 f2 e2 c3 d3 f3 e3 c4 d4 f4 e4
 generalize (((((((((((w11.setCell ⟨w.heap.size,0,none⟩ (.slice A0 A1 A2)).setCell ⟨w.heap.size,1,none⟩ (.bool false)).setCell ⟨w.heap.size+1,0,none⟩ (.slice A9 A10 A11)).setCell ⟨w.heap.size+1,1,none⟩ (.bool false)).setCell ⟨w.heap.size+1+1,0,none⟩ (.slice A12 A13 A14)).setCell ⟨w.heap.size+1+1,1,none⟩ (.bool D)).setCell ⟨w.heap.size+1+1+1,0,none⟩ (.slice A15 A16 A17)).setCell ⟨w.heap.size+1+1+1,1,none⟩ (.bool false)).setCell ⟨w.heap.size+1+1+1+1,0,none⟩ (.slice A6 A7 A8)).setCell ⟨w.heap.size+1+1+1+1,1,none⟩ (.bool false))).drew=w12 at *
 have c0:=(ae Y).b0.c0
 have d0:=(ae Y).b0.c1
 have c1:=(ae Y).b1.c0
 have d1:=(ae Y).b1.c1
 have c2:=(ae Y).b2.c0
 have d2:=(ae Y).b2.c1
 have c3:=(ae Y).b3.c0
 have d3:=(ae Y).b3.c1
 have c4:=(ae Y).b4.c0
 have d4:=(ae Y).b4.c1
 go_wp2
 refine bodyPost_ret (v:=.tuple #[.agg #[.slice A0 A1 A2,.bool false],.agg #[.slice A9 A10 A11,.bool false],.agg #[.slice A12 A13 A14,.bool D],.agg #[.slice A15 A16 A17,.bool false],.agg #[.slice A6 A7 A8,.bool false]]) (by simp[results,Tryz.results161,go_sem,c0,d0,c1,d1,c2,d2,c3,d3,c4,d4]) rfl ?_
 refine⟨_,_,_,_,_,by rw[ae HD],ae n0,?_,ae n7,?_,ae n2,ae BW⟩
 ·rw[show a0+a1+a2=a0+a2+a1 by omega]
  exact ae n5
 ·rw[show a0+2*a1+4*a2=a0+a1*2+a2*4 by omega]
  exact ae n10
end Go.Proofs.YtgcnhfgpflncaaaGreatDoor
/- Package toom:a factor's values. -/
namespace Go.Proofs.YtgcnhfgpflncaaaGreatDoor
open Go.RowKit
structure Vb(B:Nat)(w:World)(g:Nat)(zs:List Nat)(l v:Nat):Prop where
 ge:B<=g
 blk:aB w g zs
 len:zs.length=l
 dig:ao zs
 val:af zs=v
theorem Vb.next{B g l v:Nat}{w w':World}{zs:List Nat}(h:Vb B w g zs l v)(b:Below w.heap.size w w'):Vb B w' g zs l v:=⟨h.ge,(b.block _ h.blk.lt).trans h.blk,h.len,h.dig,h.val⟩
theorem Vb.out{D:Nat->Prop}{B g l v:Nat}{w w':World}{zs:List Nat}(h:Vb B w g zs l v)(o:Out D w w')(hd:¬D g):Vb B w' g zs l v:=⟨h.ge,o.blk h.blk hd,h.len,h.dig,h.val⟩
theorem Vb.mono{B C g l v:Nat}{w:World}{zs:List Nat}(h:Vb B w g zs l v)(hb:C<=B):Vb C w g zs l v:=⟨Nat.le_trans hb h.ge,h.blk,h.len,h.dig,h.val⟩
structure P8(B:Nat)(w:World)(v:Value)(a0 a1 a2 h H1 n2:Nat):Prop where
 out:∃ g0 g1 g2 g3 g4 z0 z1 z2 z3 z4,v=.agg #[.slice (some ⟨g0,0,none⟩) h h,.slice (some ⟨g1,0,none⟩) H1 H1,.slice (some ⟨g2,0,none⟩) H1 H1,.slice (some ⟨g3,0,none⟩) H1 H1,.slice (some ⟨g4,0,none⟩) n2 n2,.bool (decide (a0+a2<a1))]/\
  Vb B w g0 z0 h a0/\Vb B w g1 z1 H1 (a0+a1+a2)/\Vb B w g2 z2 H1 (nd (a0+a2) a1)/\Vb B w g3 z3 H1 (a0+2*a1+4*a2)/\Vb B w g4 z4 n2 a2
set_option maxRecDepth 100000 in
set_option maxHeartbeats 6400000 in
theorem jP(w:World)(ga:Option Addr)(b o cap n h:Nat)(xs:List Nat)(a0 a1 a2:Nat)(hl:xs.length=n)(hn:n<=16384)(h0:0<h)(hh:2*h<n)(h3:n<=3*h)(hR:Rep w ga b o cap xs)(hd:ao xs)
  (e0:a0=af xs%18446744073709551616^h) (e1:a1=af xs/18446744073709551616^h%18446744073709551616^h) (e2:a2=af xs/18446744073709551616^h/18446744073709551616^h):
  Calls Tryz.prog 134 #[.slice ga n cap,.int .i64 (h:Int)] w fun e w'=>∃ v,e=.returned v/\P8 w.heap.size w' v a0 a1 a2 h (h+1) (n-2*h)/\Below w.heap.size w w':=by
 have hm:af xs<18446744073709551616^n:=by have:=ak hd;rwa [hl]at this
 have hP:0<18446744073709551616^h:=Nat.pow_pos (by omega)
 have p0:a0<18446744073709551616^h:=by rw[e0];exact Nat.mod_lt _ hP
 have p1:a1<18446744073709551616^h:=by rw[e1];exact Nat.mod_lt _ hP
 have p2:a2<18446744073709551616^(n-2*h):=by rw[e2];exact Jm hm (by omega)
 have p2':a2<18446744073709551616^h:=Nat.lt_of_lt_of_le p2 (Iw (by omega))
 have q1:Hid (a0+a1+a2<18446744073709551616^(h+1)):=by show _<_;rw[Nat.pow_succ];exact MR p0 p1 p2'
 have qn:Hid (nd (a0+a2) a1<18446744073709551616^(h+1)):=by show _<_;rw[Nat.pow_succ];exact MU p0 p1 p2'
 have q2:Hid (a0+2*a1+4*a2<18446744073709551616^(h+1)):=by show _<_;rw[Nat.pow_succ];exact MS p0 p1 p2'
 have hpc:h=PY (h:Int):=by unfold PY;omega
 have CP:=hide (fun W (bb:Below w.heap.size w W)=>zf W _ (af xs) h n (h:Int) a0 a1 a2 (sZ (hR.next bb) hd hl (by omega)) (by omega) hm hpc e0 e1 e2)
 have b0:Below w.heap.size w (w.alloc (.cells #[.slice none 0 0,.slice none 0 0,.slice none 0 0,.slice none 0 0,.slice none 0 0,.bool false] 157)):=(Below.refl _ _).alloc (Nat.le_refl _) _
 have H0:=hide p0
 have H2:=hide p2
 clear hm hP p0 p1 p2 p2' hR hd e0 e1 e2 hpc hl
 go_enter Tryz.func134,Tryz.ntmps134
 go_wp2_with fail
 refine(ae CP _ b0).mono ?_
 rintro e w1 ⟨v0,v1,v2,v3,v4,rfl,n0,n1,n2,n3,n4,b1⟩
 obtain⟨A0,A1,A2,rfl⟩:=n0.form
 obtain⟨A3,A4,A5,rfl⟩:=n1.form
 obtain⟨A6,A7,A8,rfl⟩:=n2.form
 obtain⟨A9,A10,A11,rfl⟩:=n3.form
 obtain⟨A12,A13,A14,rfl⟩:=n4.form
 clear CP
 -- mark
 obtain⟨D,hD⟩:∃ D,decide (a0+a2<a1)=D:=⟨_,rfl⟩
 rw[hD]
 have HD:=hide hD
 clear hD
 obtain⟨H1,hH1⟩:∃ H1,h+1=H1:=⟨_,rfl⟩
 obtain⟨K2,hK2⟩:∃ K2,2*h=K2:=⟨_,rfl⟩
 obtain⟨N2,hN2⟩:∃ N2,n-K2=N2:=⟨_,rfl⟩
 have i1:(h:Int)+1=(H1:Int):=by omega
 have i2:IntKind.i64.wrap (H1:Int)=(H1:Int):=by rw[IntKind.wrap_i64];omega
 have i3:2*(h:Int)=(K2:Int):=by omega
 have i4:IntKind.i64.wrap (K2:Int)=(K2:Int):=by rw[IntKind.wrap_i64];omega
 have i5:(n:Int)-(K2:Int)=(N2:Int):=by omega
 have i6:IntKind.i64.wrap (N2:Int)=(N2:Int):=by rw[IntKind.wrap_i64];omega
 rw[hK2,hN2]at H2
 rw[hH1]at q1 qn q2
 have hs0:w.heap.size<(w.alloc (.cells #[.slice none 0 0,.slice none 0 0,.slice none 0 0,.slice none 0 0,.slice none 0 0,.bool false] 157)).heap.size:=by simp
 have s1:w.heap.size<w1.heap.size:=Nat.lt_of_lt_of_le hs0 b1.size
 have kR:w1.heap[w.heap.size]?=some (.cells #[.slice none 0 0,.slice none 0 0,.slice none 0 0,.slice none 0 0,.slice none 0 0,.bool false] 157 (0,0)):=(b1.block w.heap.size (by simp)).trans (heap_alloc_new w _)
 have BW:=ag b0 b1
 obtain⟨k0,k1,k2,k3,k4⟩:=FX w1 (.cells #[.slice A0 A1 A2,.bool false] 182) (.cells #[.slice A3 A4 A5,.bool false] 182) (.cells #[.slice A6 A7 A8,.bool D] 182) (.cells #[.slice A9 A10 A11,.bool false] 182) (.cells #[.slice A12 A13 A14,.bool false] 182)
 have b5:=FR w1 (.cells #[.slice A0 A1 A2,.bool false] 182) (.cells #[.slice A3 A4 A5,.bool false] 182) (.cells #[.slice A6 A7 A8,.bool D] 182) (.cells #[.slice A9 A10 A11,.bool false] 182) (.cells #[.slice A12 A13 A14,.bool false] 182)
 have kR:=(b5.block w.heap.size s1).trans kR
 have BW:=hide (ag BW b5)
 have n0:=n0.next b5
 have n1:=n1.next b5
 have n2:=n2.next b5
 have n3:=n3.next b5
 have n4:=n4.next b5
 have hs1:w1.heap.size<=(((((w1.alloc (.cells #[.slice A0 A1 A2,.bool false] 182)).alloc (.cells #[.slice A3 A4 A5,.bool false] 182)).alloc (.cells #[.slice A6 A7 A8,.bool D] 182)).alloc (.cells #[.slice A9 A10 A11,.bool false] 182)).alloc (.cells #[.slice A12 A13 A14,.bool false] 182)).heap.size:=b5.size
 clear b0 b1 hs0 b5
 go_wp2
 generalize (((((w1.alloc (.cells #[.slice A0 A1 A2,.bool false] 182)).alloc (.cells #[.slice A3 A4 A5,.bool false] 182)).alloc (.cells #[.slice A6 A7 A8,.bool D] 182)).alloc (.cells #[.slice A9 A10 A11,.bool false] 182)).alloc (.cells #[.slice A12 A13 A14,.bool false] 182))=W0 at *
 generalize hP:w1.heap.size=P at *
 generalize hG:w.heap.size=G at *
 have GP:G<P:=by omega
 have HG:=hide hG
 have HC:Hid (∀ W,Below W0.heap.size W0 W->W.cell? ⟨P,0,none⟩=some (.slice A0 A1 A2)/\W.cell? ⟨P+1,0,none⟩=some (.slice A3 A4 A5)/\W.cell? ⟨P+1+1,0,none⟩=some (.slice A6 A7 A8)/\W.cell? ⟨P+1+1+1,0,none⟩=some (.slice A9 A10 A11)/\W.cell? ⟨P+1+1+1+1,0,none⟩=some (.slice A12 A13 A14)/\W.cell? ⟨P+1+1,1,none⟩=some (.bool D)):=fun W q=>by
  have j0:=(q.block (P) (Array.getElem?_eq_some_iff.1 k0).1).trans k0
  have j1:=(q.block (P+1) (Array.getElem?_eq_some_iff.1 k1).1).trans k1
  have j2:=(q.block (P+1+1) (Array.getElem?_eq_some_iff.1 k2).1).trans k2
  have j3:=(q.block (P+1+1+1) (Array.getElem?_eq_some_iff.1 k3).1).trans k3
  have j4:=(q.block (P+1+1+1+1) (Array.getElem?_eq_some_iff.1 k4).1).trans k4
  exact⟨cell_of_row _ (P) 0 _ _ (0,0) j0,cell_of_row _ (P+1) 0 _ _ (0,0) j1,cell_of_row _ (P+1+1) 0 _ _ (0,0) j2,cell_of_row _ (P+1+1+1) 0 _ _ (0,0) j3,cell_of_row _ (P+1+1+1+1) 0 _ _ (0,0) j4,cell_of_row _ (P+1+1) 1 _ _ (0,0) j2⟩
 have GR:Hid (∀(W:World) (x0 x1 x2 x3 x4 x5:Value),W.grownBy ((((((W.setCell ⟨G,0,none⟩ x0).setCell ⟨G,1,none⟩ x1).setCell ⟨G,2,none⟩ x2).setCell ⟨G,3,none⟩ x3).setCell ⟨G,4,none⟩ x4).setCell ⟨G,5,none⟩ x5) (some G)):=fun W x0 x1 x2 x3 x4 x5=>az (az (az (az (az (aj W G 0 x0) (aj _ G 1 x1)) (aj _ G 2 x2)) (aj _ G 3 x3)) (aj _ G 4 x4)) (aj _ G 5 x5)
 have HC2:Hid (∀ W x0 x1 x2 x3 x4 x5,Below W0.heap.size W0 W->((((((W.setCell ⟨G,0,none⟩ x0).setCell ⟨G,1,none⟩ x1).setCell ⟨G,2,none⟩ x2).setCell ⟨G,3,none⟩ x3).setCell ⟨G,4,none⟩ x4).setCell ⟨G,5,none⟩ x5).cell? ⟨P,0,none⟩=some (.slice A0 A1 A2)/\((((((W.setCell ⟨G,0,none⟩ x0).setCell ⟨G,1,none⟩ x1).setCell ⟨G,2,none⟩ x2).setCell ⟨G,3,none⟩ x3).setCell ⟨G,4,none⟩ x4).setCell ⟨G,5,none⟩ x5).cell? ⟨P+1,0,none⟩=some (.slice A3 A4 A5)/\((((((W.setCell ⟨G,0,none⟩ x0).setCell ⟨G,1,none⟩ x1).setCell ⟨G,2,none⟩ x2).setCell ⟨G,3,none⟩ x3).setCell ⟨G,4,none⟩ x4).setCell ⟨G,5,none⟩ x5).cell? ⟨P+1+1,0,none⟩=some (.slice A6 A7 A8)/\((((((W.setCell ⟨G,0,none⟩ x0).setCell ⟨G,1,none⟩ x1).setCell ⟨G,2,none⟩ x2).setCell ⟨G,3,none⟩ x3).setCell ⟨G,4,none⟩ x4).setCell ⟨G,5,none⟩ x5).cell? ⟨P+1+1+1,0,none⟩=some (.slice A9 A10 A11)/\((((((W.setCell ⟨G,0,none⟩ x0).setCell ⟨G,1,none⟩ x1).setCell ⟨G,2,none⟩ x2).setCell ⟨G,3,none⟩ x3).setCell ⟨G,4,none⟩ x4).setCell ⟨G,5,none⟩ x5).cell? ⟨P+1+1+1+1,0,none⟩=some (.slice A12 A13 A14)/\((((((W.setCell ⟨G,0,none⟩ x0).setCell ⟨G,1,none⟩ x1).setCell ⟨G,2,none⟩ x2).setCell ⟨G,3,none⟩ x3).setCell ⟨G,4,none⟩ x4).setCell ⟨G,5,none⟩ x5).cell? ⟨P+1+1,1,none⟩=some (.bool D)):=fun W x0 x1 x2 x3 x4 x5 q=>by
  obtain⟨j0,j1,j2,j3,j4,j5⟩:=ae HC W q
  have g:=ae GR W x0 x1 x2 x3 x4 x5
  exact⟨g.cell j0 (by simp;omega),g.cell j1 (by simp;omega),g.cell j2 (by simp;omega),g.cell j3 (by simp;omega),g.cell j4 (by simp;omega),g.cell j5 (by simp;omega)⟩
 have GW:G<W0.heap.size:=(Array.getElem?_eq_some_iff.1 kR).1
 have HX:Hid (∀ W,Below W0.heap.size W0 W->W.heap[G]?=some (.cells #[.slice none 0 0,.slice none 0 0,.slice none 0 0,.slice none 0 0,.slice none 0 0,.bool false] 157 (0,0))):=fun W q=>(q.block G GW).trans kR
 have Q0:Hid (∀ W,Below W0.heap.size W0 W->Calls Tryz.prog 162 #[.slice A0 A1 A2,.int .i64 (h:Int)] W fun e w'=>∃ g zs,e=.returned (.slice (some ⟨g,0,none⟩) h h)/\Vb W0.heap.size w' g zs h (a0)/\Below W.heap.size W w'):=fun W q=>by
  refine(jS W _ _ _ h (ae H0) (by omega) (n0.next q)).mono ?_
  rintro e w' ⟨zs,rfl,y1,y2,y3,y4,y5⟩
  exact⟨_,zs,rfl,⟨q.size,y1,y2,y3,y4⟩,y5⟩
 have Q1:Hid (∀ W,Below W0.heap.size W0 W->Calls Tryz.prog 162 #[.slice A3 A4 A5,.int .i64 (H1:Int)] W fun e w'=>∃ g zs,e=.returned (.slice (some ⟨g,0,none⟩) H1 H1)/\Vb W0.heap.size w' g zs H1 (a0+a1+a2)/\Below W.heap.size W w'):=fun W q=>by
  refine(jS W _ _ _ H1 (ae q1) (by omega) (n1.next q)).mono ?_
  rintro e w' ⟨zs,rfl,y1,y2,y3,y4,y5⟩
  exact⟨_,zs,rfl,⟨q.size,y1,y2,y3,y4⟩,y5⟩
 have Q2:Hid (∀ W,Below W0.heap.size W0 W->Calls Tryz.prog 162 #[.slice A6 A7 A8,.int .i64 (H1:Int)] W fun e w'=>∃ g zs,e=.returned (.slice (some ⟨g,0,none⟩) H1 H1)/\Vb W0.heap.size w' g zs H1 (nd (a0+a2) a1)/\Below W.heap.size W w'):=fun W q=>by
  refine(jS W _ _ _ H1 (ae qn) (by omega) (n2.next q)).mono ?_
  rintro e w' ⟨zs,rfl,y1,y2,y3,y4,y5⟩
  exact⟨_,zs,rfl,⟨q.size,y1,y2,y3,y4⟩,y5⟩
 have Q3:Hid (∀ W,Below W0.heap.size W0 W->Calls Tryz.prog 162 #[.slice A9 A10 A11,.int .i64 (H1:Int)] W fun e w'=>∃ g zs,e=.returned (.slice (some ⟨g,0,none⟩) H1 H1)/\Vb W0.heap.size w' g zs H1 (a0+2*a1+4*a2)/\Below W.heap.size W w'):=fun W q=>by
  refine(jS W _ _ _ H1 (ae q2) (by omega) (n3.next q)).mono ?_
  rintro e w' ⟨zs,rfl,y1,y2,y3,y4,y5⟩
  exact⟨_,zs,rfl,⟨q.size,y1,y2,y3,y4⟩,y5⟩
 have Q4:Hid (∀ W,Below W0.heap.size W0 W->Calls Tryz.prog 162 #[.slice A12 A13 A14,.int .i64 (N2:Int)] W fun e w'=>∃ g zs,e=.returned (.slice (some ⟨g,0,none⟩) N2 N2)/\Vb W0.heap.size w' g zs N2 (a2)/\Below W.heap.size W w'):=fun W q=>by
  refine(jS W _ _ _ N2 (ae H2) (by omega) (n4.next q)).mono ?_
  rintro e w' ⟨zs,rfl,y1,y2,y3,y4,y5⟩
  exact⟨_,zs,rfl,⟨q.size,y1,y2,y3,y4⟩,y5⟩
 have HE:Hid (h+1=H1/\n-2*h=N2):=⟨hH1,by omega⟩
 have sW0:Hid (G<=W0.heap.size):=Nat.le_of_lt GW
 obtain⟨p0,p1,p2,p3,p4,p5⟩:=ae HC _ (Below.refl _ _)
 have bl:Below W0.heap.size W0 W0.drew:=(Below.refl _ _).drew
 have GL:=hide GW
 clear n0 n1 n2 n3 n4 k0 k1 k2 k3 k4 kR GW hs1 hH1 hK2 hN2 hn h0 hh h3 s1 H0 H2 q1 qn q2 hP hG GP
 go_region_held3 (fun w'=>w'.cell? ⟨P,0,none⟩=some (.slice A0 A1 A2)/\w'.cell? ⟨P+1,0,none⟩=some (.slice A3 A4 A5)/\w'.cell? ⟨P+1+1,0,none⟩=some (.slice A6 A7 A8)/\w'.cell? ⟨P+1+1+1,0,none⟩=some (.slice A9 A10 A11)/\w'.cell? ⟨P+1+1+1+1,0,none⟩=some (.slice A12 A13 A14)/\w'.cell? ⟨P+1+1,1,none⟩=some (.bool D)) (first|(with_reducible exact ae HC _ bl)|(with_reducible exact ae HC2 _ _ _ _ _ _ _ bl)|go_keep) (first
  |(with_reducible refine(ae Q0 _ bl).mono ?_;rintro e w3 ⟨g0,z0,rfl,t0,bb⟩;have bl:=bl.trans (bb.mono bl.size);clear bb;obtain⟨p0,p1,p2,p3,p4,p5⟩:=ae HC _ bl)
  |(with_reducible refine(ae Q1 _ bl).mono ?_;rintro e w4 ⟨g1,z1,rfl,t1,bb⟩;have bl:=bl.trans (bb.mono bl.size);have t0:=t0.next bb;clear bb;obtain⟨p0,p1,p2,p3,p4,p5⟩:=ae HC _ bl)
  |(with_reducible refine(ae Q2 _ bl).mono ?_;rintro e w5 ⟨g2,z2,rfl,t2,bb⟩;have bl:=bl.trans (bb.mono bl.size);have t0:=t0.next bb;have t1:=t1.next bb;clear bb;obtain⟨p0,p1,p2,p3,p4,p5⟩:=ae HC _ bl)
  |(with_reducible refine(ae Q3 _ bl).mono ?_;rintro e w6 ⟨g3,z3,rfl,t3,bb⟩;have bl:=bl.trans (bb.mono bl.size);have t0:=t0.next bb;have t1:=t1.next bb;have t2:=t2.next bb;clear bb;obtain⟨p0,p1,p2,p3,p4,p5⟩:=ae HC _ bl)
  |(with_reducible refine(ae Q4 _ bl).mono ?_;rintro e w7 ⟨g4,z4,rfl,t4,bb⟩;have bl:=bl.trans (bb.mono bl.size);have t0:=t0.next bb;have t1:=t1.next bb;have t2:=t2.next bb;have t3:=t3.next bb;clear bb;obtain⟨p0,p1,p2,p3,p4,p5⟩:=ae HC _ bl;have kx:=ae HX _ bl;have c0:=cell_of_row _ G 0 _ _ (0,0) kx;have f0:=frozen_of_row _ G 0 _ _ kx;have c1:=cell_of_row _ G 1 _ _ (0,0) kx;have f1:=frozen_of_row _ G 1 _ _ kx;have c2:=cell_of_row _ G 2 _ _ (0,0) kx;have f2:=frozen_of_row _ G 2 _ _ kx;have c3:=cell_of_row _ G 3 _ _ (0,0) kx;have f3:=frozen_of_row _ G 3 _ _ kx;have c4:=cell_of_row _ G 4 _ _ (0,0) kx;have f4:=frozen_of_row _ G 4 _ _ kx;have c5:=cell_of_row _ G 5 _ _ (0,0) kx;have f5:=frozen_of_row _ G 5 _ _ kx;clear kx)
  |fail)
 have gr:=ae GR w7 (.slice (some ⟨g0,0,none⟩) h h) (.slice (some ⟨g1,0,none⟩) H1 H1) (.slice (some ⟨g2,0,none⟩) H1 H1) (.slice (some ⟨g3,0,none⟩) H1 H1) (.slice (some ⟨g4,0,none⟩) N2 N2) (.bool D)
 have ng:=ae GL
 have t0:=hide (t0.out (Out.of_grown gr) (fun e=>by have:=t0.ge;omega))
 have t1:=hide (t1.out (Out.of_grown gr) (fun e=>by have:=t1.ge;omega))
 have t2:=hide (t2.out (Out.of_grown gr) (fun e=>by have:=t2.ge;omega))
 have t3:=hide (t3.out (Out.of_grown gr) (fun e=>by have:=t3.ge;omega))
 have t4:=hide (t4.out (Out.of_grown gr) (fun e=>by have:=t4.ge;omega))
 have FB:=hide (below_grown ((ae BW).trans (bl.mono (ae sW0))) gr (Nat.le_refl _) (Nat.le_trans (ae sW0) bl.size))
 clear gr ng bl p0 p1 p2 p3 p4 p5 Q0 Q1 Q2 Q3 Q4 HC HC2 HX GR
 go_wp2
 refine bodyPost_ret (v:=.agg #[.slice (some ⟨g0,0,none⟩) h h,.slice (some ⟨g1,0,none⟩) H1 H1,.slice (some ⟨g2,0,none⟩) H1 H1,.slice (some ⟨g3,0,none⟩) H1 H1,.slice (some ⟨g4,0,none⟩) N2 N2,.bool D]) (by simp[results,Tryz.results134,go_sem,c0,c1,c2,c3,c4,c5]) rfl ?_
 refine⟨_,rfl,?_,by rw[ae HG];exact ae FB⟩
 obtain⟨hq1,hq2⟩:=ae HE
 rw[hq1,hq2,ae HG]
 exact⟨⟨g0,g1,g2,g3,g4,z0,z1,z2,z3,z4,by rw[ae HD],(ae t0).mono (ae sW0),(ae t1).mono (ae sW0),(ae t2).mono (ae sW0),(ae t3).mono (ae sW0),(ae t4).mono (ae sW0)⟩⟩
end Go.Proofs.YtgcnhfgpflncaaaGreatDoor
/- Kara:a product in two pieces. Written by gen_kkara.py. -/
namespace Go.Proofs.YtgcnhfgpflncaaaGreatDoor
open Go.RowKit
theorem Met.one{w:World}{g o:Nat}{s l m s' l' m':Int}(h:Met w g o s l m)(k:Met w g o s' l' m'):s=s'/\l=l'/\m=m':=by
 have e0:=h.c0.symm.trans k.c0
 have e1:=h.c1.symm.trans k.c1
 have e2:=h.c2.symm.trans k.c2
 simp only[Option.some.injEq,Value.int.injEq,true_and]at e0 e1 e2
 exact⟨e0,e1,e2⟩
theorem bT{D:Nat->Prop}{w:World}{g l:Nat}{zs:List Nat}(h:aB w g zs)(hl:zs.length=l)(hd:ao zs)(hn:¬D g):Fo D w (.slice (some ⟨g,0,none⟩) l l) (af zs) l:=
 ⟨_,g,0,l,zs,rfl,hl,h.whole hl,hd,rfl,fun _=>hn⟩
set_option maxRecDepth 100000 in
set_option maxHeartbeats 6400000 in
theorem KT(w:World)(gk ge g:Nat)(s l m:Int)(T:Tab)(ga gb:Option Addr)(b o cap la b' o' cap' lb h:Nat)(xs ys:List Nat)(k:Nat)(fs cs:Array Value)(D:Nat->Prop)(St:Nat->World->Prop)
 (hE:dt w gk ge g s l m T) (hl0:0<=l) (hl1:l<=1000000) (hxl:xs.length=la) (hR:Rep w ga b o cap xs) (hdx:ao xs) (_hbD:0<la->¬D b) (hyl:ys.length=lb) (hR':Rep w gb b' o' cap' ys) (hdy:ao ys) (_hbD':0<lb->¬D b') (hla:la<=16384) (hlb:lb<=16384)
 (hh:h=(max la lb+1)/2) (hlt:h<min la lb) (_nk:¬D gk) (_ne:¬D ge) (ng:¬D g) (hD:∀ j,D j->j<w.heap.size) (hI:NC gk ge g l T (max la lb) (min la lb) h k fs cs D St)
 (hS:∀ W,Out (·=g) w W->dt W gk ge g s (l+1) (max m (l+1)) T->St 0 W) (hsw:¬la<lb):
 Calls Tryz.prog 146 #[.pointer (some ⟨gk,0,none⟩),.slice ga la cap,.slice gb lb cap',.func (.func k) fs cs] w fun e w'=>∃ v W,e=.returned (.tuple #[v,.bool true])/\ah w.heap.size w' v (af xs*af ys)/\St 3 W/\Out (·=g) W w'/\(∀ s' m',dt W gk ge g s' (l+1) m' T->dt w' gk ge g s' l m' T)/\Out (fun j=>D j\/j=g) w w':=by
 have hn:max la lb=la:=by omega
 have hm:min la lb=lb:=by omega
 rw[hn,hm]at hI
 rw[hn]at hh
 rw[hm]at hlt
 have CH:=hide (fun w=>pj w ga la cap h hla hh)
 have hM:=hE.eng.met
 have hgl:=hM.lt
 have CE:=hide (dh (l+1) (max m (l+1)) hM rfl rfl (by omega) (by omega))
 have e0:=hE.ptr
 have e1:=hE.eng.ptr
 have HE:=hide hE
 have ngt:¬lb<=h:=by omega
 have HI:=hide hI
 have HS:=hide hS
 have HD:=hide hD
 have HR:=hide hR
 have HR':=hide hR'
 have h2:la<=2*h:=by omega
 have hle:lb<=la:=by omega
 have NG:=hide ng
 have hcf:=hI.go
 clear hE hM hI hS hD hR hR' hh hn hm
 clear _nk _ne ng _hbD _hbD'
 go_enter_defers Tryz.func146,Tryz.ntmps146
 go_wp2_with fail
 refine(ae CH _).mono ?_
 rintro e w1 ⟨rfl,hw1⟩
 obtain rfl:=hw1.symm
 clear hw1 CH
 go_wp2_with fail
 refine(ae CE).mono ?_
 rintro e w1 ⟨rfl,M1,T1⟩
 have K1:=(ae HE).step M1 T1
 have r1:=(ae HR).touch (ae HE).eng.met T1
 have r1':=(ae HR').touch (ae HE).eng.met T1
 have e0:=K1.ptr
 have e1:=K1.eng.ptr
 have s1:=T1.grown.size
 have O1:=hide (Out.of_grown T1.grown)
 clear CE M1 T1
 go_wp2_with fail
 refine(jE _ _ _ _ _ _ h xs hxl hla (by omega) (by omega) (by omega) r1 hdx).mono ?_
 rintro e w2 ⟨v2,rfl,p2,b2⟩
 go_wp2_with fail
 refine(jE _ _ _ _ _ _ h ys hyl hlb (by omega) (by omega) (by omega) (r1'.next b2) hdy).mono ?_
 rintro e w3 ⟨v3,rfl,p3,b3⟩
 obtain⟨g0,g1,g2,zs,rfl,i0,i1,i2,k0,k1,k2,z0,z1,z2⟩:=p2.out
 obtain⟨g0',g1',g2',zs',rfl,i0',i1',i2',k0',k1',k2',z0',z1',z2'⟩:=p3.out
 rw[hxl,hyl]
 have s2:=b2.size
 have s3:=b3.size
 have k0:aB w3 g0 _:=(b3.block _ k0.lt).trans k0
 have k1:aB w3 g1 _:=(b3.block _ k1.lt).trans k1
 have k2:aB w3 g2 _:=(b3.block _ k2.lt).trans k2
 have O3:=hide (((ae O1).next b2).next b3)
 have K3:=(K1.next b2).next b3
 clear r1 r1' p2 p3 b2 b3 e0 e1
 obtain⟨H1,hH1⟩:∃ H1,h+1=H1:=⟨_,rfl⟩
 obtain⟨n1,hn1⟩:∃ n1,la-h=n1:=⟨_,rfl⟩
 obtain⟨m1,hm1⟩:∃ m1,lb-h=m1:=⟨_,rfl⟩
 have lx0:(xs.take h).length=h:=by simp;omega
 have ly0:(ys.take h).length=h:=by simp;omega
 have lx1:(xs.drop h).length=n1:=by simp;omega
 have ly1:(ys.drop h).length=m1:=by simp;omega
 have dx0:=aX hdx h
 have dy0:=aX hdy h
 have dx1:=aU hdx h
 have dy1:=aU hdy h
 rw[hH1,hn1,hm1]
 rw[hH1]at z0 z0'
 have HV:=hide (mS xs ys h)
 have HL:Hid (af (xs.take h)*af (ys.take h)+af (xs.drop h)*af (ys.drop h)<=af zs*af zs'):=by
  show _<=_
  rw[z2,z2']
  exact ti _ _ _ _
 have HP:Hid (af zs*af zs'<18446744073709551616^(H1+H1)):=by
  show _<_
  rw[Nat.pow_add]
  have q1:=ak z1
  have q2:=ak z1'
  rw[z0]at q1
  rw[z0']at q2
  exact Nat.mul_lt_mul'' q1 q2
 rw[<-z2, <-z2']at HV
 clear z2 z2'
 -- the two boxes
 have bb:Below w3.heap.size w3 ((w3.alloc (.cells #[.slice (some ⟨g0,0,none⟩) h h,.slice (some ⟨g1,0,none⟩) n1 n1,.slice (some ⟨g2,0,none⟩) H1 H1] 152)).alloc (.cells #[.slice (some ⟨g0',0,none⟩) h h,.slice (some ⟨g1',0,none⟩) m1 m1,.slice (some ⟨g2',0,none⟩) H1 H1] 152)):=((Below.refl _ _).alloc (Nat.le_refl _) _).alloc (by simp) _
 have kP:=(((Below.refl _ _).alloc (Nat.le_refl _) (.cells #[.slice (some ⟨g0',0,none⟩) h h,.slice (some ⟨g1',0,none⟩) m1 m1,.slice (some ⟨g2',0,none⟩) H1 H1] 152)).block w3.heap.size (by simp)).trans (heap_alloc_new w3 (.cells #[.slice (some ⟨g0,0,none⟩) h h,.slice (some ⟨g1,0,none⟩) n1 n1,.slice (some ⟨g2,0,none⟩) H1 H1] 152))
 have kQ:=heap_alloc_new (w3.alloc (.cells #[.slice (some ⟨g0,0,none⟩) h h,.slice (some ⟨g1,0,none⟩) n1 n1,.slice (some ⟨g2,0,none⟩) H1 H1] 152)) (.cells #[.slice (some ⟨g0',0,none⟩) h h,.slice (some ⟨g1',0,none⟩) m1 m1,.slice (some ⟨g2',0,none⟩) H1 H1] 152)
 have sQ:(w3.alloc (.cells #[.slice (some ⟨g0,0,none⟩) h h,.slice (some ⟨g1,0,none⟩) n1 n1,.slice (some ⟨g2,0,none⟩) H1 H1] 152)).heap.size=w3.heap.size+1:=by simp
 rw[sQ]at kQ
 obtain⟨W0,hW0⟩:∃ W0,(w3.alloc (.cells #[.slice (some ⟨g0,0,none⟩) h h,.slice (some ⟨g1,0,none⟩) n1 n1,.slice (some ⟨g2,0,none⟩) H1 H1] 152)).alloc (.cells #[.slice (some ⟨g0',0,none⟩) h h,.slice (some ⟨g1',0,none⟩) m1 m1,.slice (some ⟨g2',0,none⟩) H1 H1] 152)=W0:=⟨_,rfl⟩
 rw[hW0]at bb kP kQ
 obtain⟨P0,hP0⟩:∃ P0,w3.heap.size=P0:=⟨_,rfl⟩
 rw[hP0]at kP kQ
 have sW:=bb.size
 have k0:aB W0 g0 _:=(bb.block _ k0.lt).trans k0
 have k1:aB W0 g1 _:=(bb.block _ k1.lt).trans k1
 have k2:aB W0 g2 _:=(bb.block _ k2.lt).trans k2
 have k0':aB W0 g0' _:=(bb.block _ k0'.lt).trans k0'
 have k1':aB W0 g1' _:=(bb.block _ k1'.lt).trans k1'
 have k2':aB W0 g2' _:=(bb.block _ k2'.lt).trans k2'
 have O3:=hide ((ae O3).next bb)
 have S0:=hide (ae HS _ (ae O3) (K3.next bb))
 have DN:∀ q,w.heap.size<=q->¬(D q\/q=g):=fun q hq x=>by
  rcases x with x|x
  ·have:=ae HD q x;omega
  ·omega
 have DB:∀ q,(D q\/q=g)->q<W0.heap.size:=fun q x=>by
  rcases x with x|x
  ·have:=ae HD q x;omega
  ·omega
 have HC:Hid (∀ W,Out (fun j=>D j\/j=g) W0 W->W.cell? ⟨P0,0,none⟩=some (.slice (some ⟨g0,0,none⟩) h h)/\W.cell? ⟨P0,1,none⟩=some (.slice (some ⟨g1,0,none⟩) n1 n1)/\W.cell? ⟨P0,2,none⟩=some (.slice (some ⟨g2,0,none⟩) H1 H1)/\W.cell? ⟨P0+1,0,none⟩=some (.slice (some ⟨g0',0,none⟩) h h)/\W.cell? ⟨P0+1,1,none⟩=some (.slice (some ⟨g1',0,none⟩) m1 m1)/\W.cell? ⟨P0+1,2,none⟩=some (.slice (some ⟨g2',0,none⟩) H1 H1)):=fun W q=>by
  have j0:=(q.block P0 (Array.getElem?_eq_some_iff.1 kP).1 (DN P0 (by omega))).trans kP
  have j1:=(q.block (P0+1) (Array.getElem?_eq_some_iff.1 kQ).1 (DN (P0+1) (by omega))).trans kQ
  exact⟨cell_of_row _ P0 0 _ _ (0,0) j0,cell_of_row _ P0 1 _ _ (0,0) j0,cell_of_row _ P0 2 _ _ (0,0) j0,cell_of_row _ (P0+1) 0 _ _ (0,0) j1,cell_of_row _ (P0+1) 1 _ _ (0,0) j1,cell_of_row _ (P0+1) 2 _ _ (0,0) j1⟩
 have Q0:Hid (∀ W,Out (fun j=>D j\/j=g) W0 W->St 0 W->Calls Tryz.prog k (fs++(#[.slice (some ⟨g0,0,none⟩) h h,.slice (some ⟨g0',0,none⟩) h h]++cs)) W fun e W'=>∃ r,e=.returned r/\aO W0.heap.size W' r (af (xs.take h)*af (ys.take h))/\St 1 W'/\Out (fun j=>D j\/j=g) W0 W'/\Out (fun j=>D j\/j=g) W W'):=fun W q st=>by
  rw[<-Array.append_assoc]
  refine((ae HI).call 0 W _ _ _ _ (by omega) st (bT (q.blk k0 (DN _ (by omega))) lx0 dx0 (DN _ (by omega))) (bT (q.blk k0' (DN _ (by omega))) ly0 dy0 (DN _ (by omega)))).mono ?_
  rintro e W' ⟨r,rfl,n,st',q'⟩
  exact⟨r,rfl,n.mono q.size,st',q.trans q',q'⟩
 have Q1:Hid (∀ W,Out (fun j=>D j\/j=g) W0 W->St 1 W->Calls Tryz.prog k (fs++(#[.slice (some ⟨g1,0,none⟩) n1 n1,.slice (some ⟨g1',0,none⟩) m1 m1]++cs)) W fun e W'=>∃ r,e=.returned r/\aO W0.heap.size W' r (af (xs.drop h)*af (ys.drop h))/\St 2 W'/\Out (fun j=>D j\/j=g) W0 W'/\Out (fun j=>D j\/j=g) W W'):=fun W q st=>by
  rw[<-Array.append_assoc]
  refine((ae HI).call 1 W _ _ _ _ (by omega) st (by rw[show(mU la lb h 1).1=n1 from hn1];exact bT (q.blk k1 (DN _ (by omega))) lx1 dx1 (DN _ (by omega))) (by rw[show(mU la lb h 1).2=m1 from hm1];exact bT (q.blk k1' (DN _ (by omega))) ly1 dy1 (DN _ (by omega)))).mono ?_
  rintro e W' ⟨r,rfl,n,st',q'⟩
  exact⟨r,rfl,n.mono q.size,st',q.trans q',q'⟩
 have Q2:Hid (∀ W,Out (fun j=>D j\/j=g) W0 W->St 2 W->Calls Tryz.prog k (fs++(#[.slice (some ⟨g2,0,none⟩) H1 H1,.slice (some ⟨g2',0,none⟩) H1 H1]++cs)) W fun e W'=>∃ r,e=.returned r/\aO W0.heap.size W' r (af zs*af zs')/\St 3 W'/\Out (fun j=>D j\/j=g) W0 W'/\Out (fun j=>D j\/j=g) W W'):=fun W q st=>by
  rw[<-Array.append_assoc]
  refine((ae HI).call 2 W _ _ _ _ (by omega) st (by rw[show(mU la lb h 2).1=H1 from hH1];exact bT (q.blk k2 (DN _ (by omega))) z0 z1 (DN _ (by omega))) (by rw[show(mU la lb h 2).2=H1 from hH1];exact bT (q.blk k2' (DN _ (by omega))) z0' z1' (DN _ (by omega)))).mono ?_
  rintro e W' ⟨r,rfl,n,st',q'⟩
  exact⟨r,rfl,n.mono q.size,st',q.trans q',q'⟩
 have DB:=hide DB
 have h16:h<=16384:=by omega
 have HH1:Hid (H1+H1<=1073741824):=by show _<=_;omega
 have sW0:=hide (show w.heap.size<=W0.heap.size by omega)
 have hl2:=hide hl0
 have hl3:=hide hl1
 generalize af (xs.take h)=X0 at *
 generalize af (xs.drop h)=X1 at *
 generalize af (ys.take h)=Y0 at *
 generalize af (ys.drop h)=Y1 at *
 generalize af zs=X2 at *
 generalize af zs'=Y2 at *
 clear k0 k1 k2 k0' k1' k2' kP kQ K3 K1 HE HS HR HR' HD lx0 lx1 ly0 ly1 dx0 dx1 dy0 dy1 z0 z0' z1 z1' DN sQ bb O1 i0 i1 i2 i0' i1' i2' s1 s2 s3 sW hgl hH1 hn1 hm1 hl0 hl1
 go_wp2
 clear hW0
 obtain⟨p0,p1,p2,p3,p4,p5⟩:=ae HC W0 (Out.refl _ _)
 have st0:=(ae HI).next 0 W0 W0.drew (ae S0) ((Below.refl _ _).drew)
 have o0:Out (fun j=>D j\/j=g) W0 W0.drew:=Out.of_below ((Below.refl _ _).drew)
 go_region_held3 (fun w'=>w'.cell? ⟨P0,0,none⟩=some (.slice (some ⟨g0,0,none⟩) h h)/\w'.cell? ⟨P0,1,none⟩=some (.slice (some ⟨g1,0,none⟩) n1 n1)/\w'.cell? ⟨P0,2,none⟩=some (.slice (some ⟨g2,0,none⟩) H1 H1)/\w'.cell? ⟨P0+1,0,none⟩=some (.slice (some ⟨g0',0,none⟩) h h)/\w'.cell? ⟨P0+1,1,none⟩=some (.slice (some ⟨g1',0,none⟩) m1 m1)/\w'.cell? ⟨P0+1,2,none⟩=some (.slice (some ⟨g2',0,none⟩) H1 H1)) (first|(exact ae HC _ o4)|(exact ae HC _ o3)|(exact ae HC _ o2)|(exact ae HC _ o1)|(exact ae HC _ o0)|go_keep) (first
  |(refine(ae Q0 _ o0 st0).mono ?_;rintro e w5 ⟨r5,rfl,n5,st1,o1,q1⟩;obtain⟨p0,p1,p2,p3,p4,p5⟩:=ae HC _ o1)
  |(refine(ae Q1 _ o1 st1).mono ?_;rintro e w6 ⟨r6,rfl,n6,st2,o2,q2⟩;have n5:=n5.out q2 (ae DB);obtain⟨p0,p1,p2,p3,p4,p5⟩:=ae HC _ o2)
  |(refine(ae Q2 _ o2 st2).mono ?_;rintro e w7 ⟨r7,rfl,n7,st3,o3,q3⟩;have n5:=n5.out q3 (ae DB);have n6:=n6.out q3 (ae DB);obtain⟨p0,p1,p2,p3,p4,p5⟩:=ae HC _ o3)
  |(go_at_call 132;refine(mT _ _ _ _ _ _ _ h (H1+H1) h16 (ae HH1) (ae HP) (ae HL) n5.inW n6.inW n7.inW).mono ?_;rintro e w8 ⟨r8,rfl,n8,b8⟩;have o4:=o3.next b8;obtain⟨p0,p1,p2,p3,p4,p5⟩:=ae HC _ o4)
  |fail)
 have st8:=(ae HI).next 3 w7 w8 st3 b8
 obtain⟨s8,m8,K8⟩:=(ae HI).eng 3 w8 st8
 rw[ae HV]at n8
 have ST8:=hide st8
 have M8:=hide K8.eng.met
 have OA:=hide (((ae O3).mono (fun k e=>Or.inr e)).trans o4)
 have N8:=hide n8
 have SZ:=hide (Nat.le_trans (ae sW0) o3.size)
 have GL:=hide (Nat.lt_of_lt_of_le (ae DB g (Or.inr rfl)) o3.size)
 clear p0 p1 p2 p3 p4 p5 n5 n6 n7 n8 st8 st3 st2 st1 st0 o4 o3 o2 o1 o0 q1 q2 q3 b8 K8 HV HL HP HC Q0 Q1 Q2 hcf S0
 go_wp2
 refine leaves_cons (f:=123) (args:=#[.pointer (some ⟨g,0,none⟩)]) (by simp) (by simp[go_sem]) ?_
 refine(bm l .returning (ae M8) (by have:=ae hl2;omega) (by have:=ae hl2;omega) (by have:=ae hl3;omega)).mono ?_
 rintro e u' w9 ⟨rfl,rfl,M9,T9⟩
 have O9:=Out.of_grown T9.grown
 refine⟨_,results_tmp2 rfl _ _ _,r8,w8,rfl,?_,ae ST8,O9,?_,?_⟩
 ·skip
  exact(O9.newW (ae N8) (fun k e=>by rw[e];exact ae GL)).mono (ae SZ)
 ·intro s' m' K
  obtain⟨rfl,_,rfl⟩:=K.eng.met.one (ae M8)
  exact K.step M9 T9
 ·exact(ae OA).trans (O9.mono (fun k e=>Or.inr e))
set_option maxRecDepth 100000 in
set_option maxHeartbeats 6400000 in
theorem KU(w:World)(gk ge g:Nat)(s l m:Int)(T:Tab)(ga gb:Option Addr)(b o cap la b' o' cap' lb h:Nat)(xs ys:List Nat)(k:Nat)(fs cs:Array Value)(D:Nat->Prop)(St:Nat->World->Prop)
 (hE:dt w gk ge g s l m T) (hl0:0<=l) (hl1:l<=1000000) (hxl:xs.length=la) (hR:Rep w ga b o cap xs) (hdx:ao xs) (_hbD:0<la->¬D b) (hyl:ys.length=lb) (hR':Rep w gb b' o' cap' ys) (hdy:ao ys) (_hbD':0<lb->¬D b') (hla:la<=16384) (hlb:lb<=16384)
 (hh:h=(max la lb+1)/2) (hlt:h<min la lb) (_nk:¬D gk) (_ne:¬D ge) (ng:¬D g) (hD:∀ j,D j->j<w.heap.size) (hI:NC gk ge g l T (max la lb) (min la lb) h k fs cs D St)
 (hS:∀ W,Out (·=g) w W->dt W gk ge g s (l+1) (max m (l+1)) T->St 0 W) (hsw:la<lb):
 Calls Tryz.prog 146 #[.pointer (some ⟨gk,0,none⟩),.slice ga la cap,.slice gb lb cap',.func (.func k) fs cs] w fun e w'=>∃ v W,e=.returned (.tuple #[v,.bool true])/\ah w.heap.size w' v (af xs*af ys)/\St 3 W/\Out (·=g) W w'/\(∀ s' m',dt W gk ge g s' (l+1) m' T->dt w' gk ge g s' l m' T)/\Out (fun j=>D j\/j=g) w w':=by
 have hn:max la lb=lb:=by omega
 have hm:min la lb=la:=by omega
 rw[hn,hm]at hI
 rw[hn]at hh
 rw[hm]at hlt
 have CH:=hide (fun w=>pj w gb lb cap' h hlb hh)
 have hM:=hE.eng.met
 have hgl:=hM.lt
 have CE:=hide (dh (l+1) (max m (l+1)) hM rfl rfl (by omega) (by omega))
 have e0:=hE.ptr
 have e1:=hE.eng.ptr
 have HE:=hide hE
 have ngt:¬la<=h:=by omega
 have HI:=hide hI
 have HS:=hide hS
 have HD:=hide hD
 have HR:=hide hR
 have HR':=hide hR'
 have h2:lb<=2*h:=by omega
 have hle:la<=lb:=by omega
 have NG:=hide ng
 have hcf:=hI.go
 clear hE hM hI hS hD hR hR' hh hn hm
 clear _nk _ne ng _hbD _hbD'
 go_enter_defers Tryz.func146,Tryz.ntmps146
 go_wp2_with fail
 refine(ae CH _).mono ?_
 rintro e w1 ⟨rfl,hw1⟩
 obtain rfl:=hw1.symm
 clear hw1 CH
 go_wp2_with fail
 refine(ae CE).mono ?_
 rintro e w1 ⟨rfl,M1,T1⟩
 have K1:=(ae HE).step M1 T1
 have r1:=(ae HR').touch (ae HE).eng.met T1
 have r1':=(ae HR).touch (ae HE).eng.met T1
 have e0:=K1.ptr
 have e1:=K1.eng.ptr
 have s1:=T1.grown.size
 have O1:=hide (Out.of_grown T1.grown)
 clear CE M1 T1
 go_wp2_with fail
 refine(jE _ _ _ _ _ _ h ys hyl hlb (by omega) (by omega) (by omega) r1 hdy).mono ?_
 rintro e w2 ⟨v2,rfl,p2,b2⟩
 go_wp2_with fail
 refine(jE _ _ _ _ _ _ h xs hxl hla (by omega) (by omega) (by omega) (r1'.next b2) hdx).mono ?_
 rintro e w3 ⟨v3,rfl,p3,b3⟩
 obtain⟨g0,g1,g2,zs,rfl,i0,i1,i2,k0,k1,k2,z0,z1,z2⟩:=p2.out
 obtain⟨g0',g1',g2',zs',rfl,i0',i1',i2',k0',k1',k2',z0',z1',z2'⟩:=p3.out
 rw[hyl,hxl]
 have s2:=b2.size
 have s3:=b3.size
 have k0:aB w3 g0 _:=(b3.block _ k0.lt).trans k0
 have k1:aB w3 g1 _:=(b3.block _ k1.lt).trans k1
 have k2:aB w3 g2 _:=(b3.block _ k2.lt).trans k2
 have O3:=hide (((ae O1).next b2).next b3)
 have K3:=(K1.next b2).next b3
 clear r1 r1' p2 p3 b2 b3 e0 e1
 obtain⟨H1,hH1⟩:∃ H1,h+1=H1:=⟨_,rfl⟩
 obtain⟨n1,hn1⟩:∃ n1,lb-h=n1:=⟨_,rfl⟩
 obtain⟨m1,hm1⟩:∃ m1,la-h=m1:=⟨_,rfl⟩
 have lx0:(ys.take h).length=h:=by simp;omega
 have ly0:(xs.take h).length=h:=by simp;omega
 have lx1:(ys.drop h).length=n1:=by simp;omega
 have ly1:(xs.drop h).length=m1:=by simp;omega
 have dx0:=aX hdy h
 have dy0:=aX hdx h
 have dx1:=aU hdy h
 have dy1:=aU hdx h
 rw[hH1,hn1,hm1]
 rw[hH1]at z0 z0'
 have HV:=hide (mS ys xs h)
 have HL:Hid (af (ys.take h)*af (xs.take h)+af (ys.drop h)*af (xs.drop h)<=af zs*af zs'):=by
  show _<=_
  rw[z2,z2']
  exact ti _ _ _ _
 have HP:Hid (af zs*af zs'<18446744073709551616^(H1+H1)):=by
  show _<_
  rw[Nat.pow_add]
  have q1:=ak z1
  have q2:=ak z1'
  rw[z0]at q1
  rw[z0']at q2
  exact Nat.mul_lt_mul'' q1 q2
 rw[<-z2, <-z2']at HV
 clear z2 z2'
 -- the two boxes
 have bb:Below w3.heap.size w3 ((w3.alloc (.cells #[.slice (some ⟨g0,0,none⟩) h h,.slice (some ⟨g1,0,none⟩) n1 n1,.slice (some ⟨g2,0,none⟩) H1 H1] 152)).alloc (.cells #[.slice (some ⟨g0',0,none⟩) h h,.slice (some ⟨g1',0,none⟩) m1 m1,.slice (some ⟨g2',0,none⟩) H1 H1] 152)):=((Below.refl _ _).alloc (Nat.le_refl _) _).alloc (by simp) _
 have kP:=(((Below.refl _ _).alloc (Nat.le_refl _) (.cells #[.slice (some ⟨g0',0,none⟩) h h,.slice (some ⟨g1',0,none⟩) m1 m1,.slice (some ⟨g2',0,none⟩) H1 H1] 152)).block w3.heap.size (by simp)).trans (heap_alloc_new w3 (.cells #[.slice (some ⟨g0,0,none⟩) h h,.slice (some ⟨g1,0,none⟩) n1 n1,.slice (some ⟨g2,0,none⟩) H1 H1] 152))
 have kQ:=heap_alloc_new (w3.alloc (.cells #[.slice (some ⟨g0,0,none⟩) h h,.slice (some ⟨g1,0,none⟩) n1 n1,.slice (some ⟨g2,0,none⟩) H1 H1] 152)) (.cells #[.slice (some ⟨g0',0,none⟩) h h,.slice (some ⟨g1',0,none⟩) m1 m1,.slice (some ⟨g2',0,none⟩) H1 H1] 152)
 have sQ:(w3.alloc (.cells #[.slice (some ⟨g0,0,none⟩) h h,.slice (some ⟨g1,0,none⟩) n1 n1,.slice (some ⟨g2,0,none⟩) H1 H1] 152)).heap.size=w3.heap.size+1:=by simp
 rw[sQ]at kQ
 obtain⟨W0,hW0⟩:∃ W0,(w3.alloc (.cells #[.slice (some ⟨g0,0,none⟩) h h,.slice (some ⟨g1,0,none⟩) n1 n1,.slice (some ⟨g2,0,none⟩) H1 H1] 152)).alloc (.cells #[.slice (some ⟨g0',0,none⟩) h h,.slice (some ⟨g1',0,none⟩) m1 m1,.slice (some ⟨g2',0,none⟩) H1 H1] 152)=W0:=⟨_,rfl⟩
 rw[hW0]at bb kP kQ
 obtain⟨P0,hP0⟩:∃ P0,w3.heap.size=P0:=⟨_,rfl⟩
 rw[hP0]at kP kQ
 have sW:=bb.size
 have k0:aB W0 g0 _:=(bb.block _ k0.lt).trans k0
 have k1:aB W0 g1 _:=(bb.block _ k1.lt).trans k1
 have k2:aB W0 g2 _:=(bb.block _ k2.lt).trans k2
 have k0':aB W0 g0' _:=(bb.block _ k0'.lt).trans k0'
 have k1':aB W0 g1' _:=(bb.block _ k1'.lt).trans k1'
 have k2':aB W0 g2' _:=(bb.block _ k2'.lt).trans k2'
 have O3:=hide ((ae O3).next bb)
 have S0:=hide (ae HS _ (ae O3) (K3.next bb))
 have DN:∀ q,w.heap.size<=q->¬(D q\/q=g):=fun q hq x=>by
  rcases x with x|x
  ·have:=ae HD q x;omega
  ·omega
 have DB:∀ q,(D q\/q=g)->q<W0.heap.size:=fun q x=>by
  rcases x with x|x
  ·have:=ae HD q x;omega
  ·omega
 have HC:Hid (∀ W,Out (fun j=>D j\/j=g) W0 W->W.cell? ⟨P0,0,none⟩=some (.slice (some ⟨g0,0,none⟩) h h)/\W.cell? ⟨P0,1,none⟩=some (.slice (some ⟨g1,0,none⟩) n1 n1)/\W.cell? ⟨P0,2,none⟩=some (.slice (some ⟨g2,0,none⟩) H1 H1)/\W.cell? ⟨P0+1,0,none⟩=some (.slice (some ⟨g0',0,none⟩) h h)/\W.cell? ⟨P0+1,1,none⟩=some (.slice (some ⟨g1',0,none⟩) m1 m1)/\W.cell? ⟨P0+1,2,none⟩=some (.slice (some ⟨g2',0,none⟩) H1 H1)):=fun W q=>by
  have j0:=(q.block P0 (Array.getElem?_eq_some_iff.1 kP).1 (DN P0 (by omega))).trans kP
  have j1:=(q.block (P0+1) (Array.getElem?_eq_some_iff.1 kQ).1 (DN (P0+1) (by omega))).trans kQ
  exact⟨cell_of_row _ P0 0 _ _ (0,0) j0,cell_of_row _ P0 1 _ _ (0,0) j0,cell_of_row _ P0 2 _ _ (0,0) j0,cell_of_row _ (P0+1) 0 _ _ (0,0) j1,cell_of_row _ (P0+1) 1 _ _ (0,0) j1,cell_of_row _ (P0+1) 2 _ _ (0,0) j1⟩
 have Q0:Hid (∀ W,Out (fun j=>D j\/j=g) W0 W->St 0 W->Calls Tryz.prog k (fs++(#[.slice (some ⟨g0,0,none⟩) h h,.slice (some ⟨g0',0,none⟩) h h]++cs)) W fun e W'=>∃ r,e=.returned r/\aO W0.heap.size W' r (af (ys.take h)*af (xs.take h))/\St 1 W'/\Out (fun j=>D j\/j=g) W0 W'/\Out (fun j=>D j\/j=g) W W'):=fun W q st=>by
  rw[<-Array.append_assoc]
  refine((ae HI).call 0 W _ _ _ _ (by omega) st (bT (q.blk k0 (DN _ (by omega))) lx0 dx0 (DN _ (by omega))) (bT (q.blk k0' (DN _ (by omega))) ly0 dy0 (DN _ (by omega)))).mono ?_
  rintro e W' ⟨r,rfl,n,st',q'⟩
  exact⟨r,rfl,n.mono q.size,st',q.trans q',q'⟩
 have Q1:Hid (∀ W,Out (fun j=>D j\/j=g) W0 W->St 1 W->Calls Tryz.prog k (fs++(#[.slice (some ⟨g1,0,none⟩) n1 n1,.slice (some ⟨g1',0,none⟩) m1 m1]++cs)) W fun e W'=>∃ r,e=.returned r/\aO W0.heap.size W' r (af (ys.drop h)*af (xs.drop h))/\St 2 W'/\Out (fun j=>D j\/j=g) W0 W'/\Out (fun j=>D j\/j=g) W W'):=fun W q st=>by
  rw[<-Array.append_assoc]
  refine((ae HI).call 1 W _ _ _ _ (by omega) st (by rw[show(mU lb la h 1).1=n1 from hn1];exact bT (q.blk k1 (DN _ (by omega))) lx1 dx1 (DN _ (by omega))) (by rw[show(mU lb la h 1).2=m1 from hm1];exact bT (q.blk k1' (DN _ (by omega))) ly1 dy1 (DN _ (by omega)))).mono ?_
  rintro e W' ⟨r,rfl,n,st',q'⟩
  exact⟨r,rfl,n.mono q.size,st',q.trans q',q'⟩
 have Q2:Hid (∀ W,Out (fun j=>D j\/j=g) W0 W->St 2 W->Calls Tryz.prog k (fs++(#[.slice (some ⟨g2,0,none⟩) H1 H1,.slice (some ⟨g2',0,none⟩) H1 H1]++cs)) W fun e W'=>∃ r,e=.returned r/\aO W0.heap.size W' r (af zs*af zs')/\St 3 W'/\Out (fun j=>D j\/j=g) W0 W'/\Out (fun j=>D j\/j=g) W W'):=fun W q st=>by
  rw[<-Array.append_assoc]
  refine((ae HI).call 2 W _ _ _ _ (by omega) st (by rw[show(mU lb la h 2).1=H1 from hH1];exact bT (q.blk k2 (DN _ (by omega))) z0 z1 (DN _ (by omega))) (by rw[show(mU lb la h 2).2=H1 from hH1];exact bT (q.blk k2' (DN _ (by omega))) z0' z1' (DN _ (by omega)))).mono ?_
  rintro e W' ⟨r,rfl,n,st',q'⟩
  exact⟨r,rfl,n.mono q.size,st',q.trans q',q'⟩
 have DB:=hide DB
 have h16:h<=16384:=by omega
 have HH1:Hid (H1+H1<=1073741824):=by show _<=_;omega
 have sW0:=hide (show w.heap.size<=W0.heap.size by omega)
 have hl2:=hide hl0
 have hl3:=hide hl1
 generalize af (ys.take h)=X0 at *
 generalize af (ys.drop h)=X1 at *
 generalize af (xs.take h)=Y0 at *
 generalize af (xs.drop h)=Y1 at *
 generalize af zs=X2 at *
 generalize af zs'=Y2 at *
 clear k0 k1 k2 k0' k1' k2' kP kQ K3 K1 HE HS HR HR' HD lx0 lx1 ly0 ly1 dx0 dx1 dy0 dy1 z0 z0' z1 z1' DN sQ bb O1 i0 i1 i2 i0' i1' i2' s1 s2 s3 sW hgl hH1 hn1 hm1 hl0 hl1
 go_wp2
 clear hW0
 obtain⟨p0,p1,p2,p3,p4,p5⟩:=ae HC W0 (Out.refl _ _)
 have st0:=(ae HI).next 0 W0 W0.drew (ae S0) ((Below.refl _ _).drew)
 have o0:Out (fun j=>D j\/j=g) W0 W0.drew:=Out.of_below ((Below.refl _ _).drew)
 go_region_held3 (fun w'=>w'.cell? ⟨P0,0,none⟩=some (.slice (some ⟨g0,0,none⟩) h h)/\w'.cell? ⟨P0,1,none⟩=some (.slice (some ⟨g1,0,none⟩) n1 n1)/\w'.cell? ⟨P0,2,none⟩=some (.slice (some ⟨g2,0,none⟩) H1 H1)/\w'.cell? ⟨P0+1,0,none⟩=some (.slice (some ⟨g0',0,none⟩) h h)/\w'.cell? ⟨P0+1,1,none⟩=some (.slice (some ⟨g1',0,none⟩) m1 m1)/\w'.cell? ⟨P0+1,2,none⟩=some (.slice (some ⟨g2',0,none⟩) H1 H1)) (first|(exact ae HC _ o4)|(exact ae HC _ o3)|(exact ae HC _ o2)|(exact ae HC _ o1)|(exact ae HC _ o0)|go_keep) (first
  |(refine(ae Q0 _ o0 st0).mono ?_;rintro e w5 ⟨r5,rfl,n5,st1,o1,q1⟩;obtain⟨p0,p1,p2,p3,p4,p5⟩:=ae HC _ o1)
  |(refine(ae Q1 _ o1 st1).mono ?_;rintro e w6 ⟨r6,rfl,n6,st2,o2,q2⟩;have n5:=n5.out q2 (ae DB);obtain⟨p0,p1,p2,p3,p4,p5⟩:=ae HC _ o2)
  |(refine(ae Q2 _ o2 st2).mono ?_;rintro e w7 ⟨r7,rfl,n7,st3,o3,q3⟩;have n5:=n5.out q3 (ae DB);have n6:=n6.out q3 (ae DB);obtain⟨p0,p1,p2,p3,p4,p5⟩:=ae HC _ o3)
  |(go_at_call 132;refine(mT _ _ _ _ _ _ _ h (H1+H1) h16 (ae HH1) (ae HP) (ae HL) n5.inW n6.inW n7.inW).mono ?_;rintro e w8 ⟨r8,rfl,n8,b8⟩;have o4:=o3.next b8;obtain⟨p0,p1,p2,p3,p4,p5⟩:=ae HC _ o4)
  |fail)
 have st8:=(ae HI).next 3 w7 w8 st3 b8
 obtain⟨s8,m8,K8⟩:=(ae HI).eng 3 w8 st8
 rw[ae HV]at n8
 have ST8:=hide st8
 have M8:=hide K8.eng.met
 have OA:=hide (((ae O3).mono (fun k e=>Or.inr e)).trans o4)
 have N8:=hide n8
 have SZ:=hide (Nat.le_trans (ae sW0) o3.size)
 have GL:=hide (Nat.lt_of_lt_of_le (ae DB g (Or.inr rfl)) o3.size)
 clear p0 p1 p2 p3 p4 p5 n5 n6 n7 n8 st8 st3 st2 st1 st0 o4 o3 o2 o1 o0 q1 q2 q3 b8 K8 HV HL HP HC Q0 Q1 Q2 hcf S0
 go_wp2
 refine leaves_cons (f:=123) (args:=#[.pointer (some ⟨g,0,none⟩)]) (by simp) (by simp[go_sem]) ?_
 refine(bm l .returning (ae M8) (by have:=ae hl2;omega) (by have:=ae hl2;omega) (by have:=ae hl3;omega)).mono ?_
 rintro e u' w9 ⟨rfl,rfl,M9,T9⟩
 have O9:=Out.of_grown T9.grown
 refine⟨_,results_tmp2 rfl _ _ _,r8,w8,rfl,?_,ae ST8,O9,?_,?_⟩
 ·rw[Nat.mul_comm]
  exact(O9.newW (ae N8) (fun k e=>by rw[e];exact ae GL)).mono (ae SZ)
 ·intro s' m' K
  obtain⟨rfl,_,rfl⟩:=K.eng.met.one (ae M8)
  exact K.step M9 T9
 ·exact(ae OA).trans (O9.mono (fun k e=>Or.inr e))
theorem Eu:FC:=by
 intro w gk ge g s l m T ga gb b o cap la b' o' cap' lb h xs ys k fs cs D St hE hl0 hl1 hxl hR hdx hbD hyl hR' hdy hbD' hla hlb hh hlt nk ne ng hD hI hS
 by_cases hsw:la<lb
 ·exact KU w gk ge g s l m T ga gb b o cap la b' o' cap' lb h xs ys k fs cs D St hE hl0 hl1 hxl hR hdx hbD hyl hR' hdy hbD' hla hlb hh hlt nk ne ng hD hI hS hsw
 ·exact KT w gk ge g s l m T ga gb b o cap la b' o' cap' lb h xs ys k fs cs D St hE hl0 hl1 hxl hR hdx hbD hyl hR' hdy hbD' hla hlb hh hlt nk ne ng hD hI hS hsw
end Go.Proofs.YtgcnhfgpflncaaaGreatDoor
/- Between the five calls of inner:the box of the product's values. Written by gen_otoom.py. -/
namespace Go.Proofs.YtgcnhfgpflncaaaGreatDoor
open Go.RowKit
theorem Vb.inD{F E:Nat->Prop}{B g l v:Nat}{w W:World}{zs:List Nat}(h:Vb B w g zs l v)(q:Out F w W)(hf:¬F g)(he:¬E g):Fo E W (.slice (some ⟨g,0,none⟩) l l) v l:=by
 have:=bT (q.blk h.blk hf) h.len h.dig he
 rwa [h.val]at this
structure fh(B0:Nat)(D:Nat->Prop)(g Z:Nat)(bl:Bool)(St:Nat->World->Prop)(W0 wr:World)(i:Nat)(v0 v1 v2 v3 v4:Value)(P0 P1 P2 P3 P4:Nat):Prop where
 st:St i wr
 box:fM wr Z [v0,v1,v2,v3,v4,.bool bl] 157
 out:Out (fun j=>(D j\/j=g)\/j=Z) W0 wr
 r0:0<i->aO B0 wr v0 P0
 r1:1<i->aO B0 wr v1 P1
 r2:2<i->aO B0 wr v2 P2
 r3:3<i->aO B0 wr v3 P3
 r4:4<i->aO B0 wr v4 P4
theorem fh.box5{B0 g Z:Nat}{D:Nat->Prop}{bl:Bool}{St:Nat->World->Prop}{W0 wr w5:World}{i:Nat}{v0 v1 v2 v3 v4:Value}{P0 P1 P2 P3 P4:Nat}(h:fh B0 D g Z bl St W0 wr i v0 v1 v2 v3 v4 P0 P1 P2 P3 P4)(o:Out (fun j=>D j\/j=g) wr w5)(hz:¬(D Z\/Z=g)):fM w5 Z [v0,v1,v2,v3,v4,.bool bl] 157:=
 (o.block Z h.box.lt hz).trans h.box
theorem zT{w:World}{Z t:Nat}{v0 v1 v2 v3 v4 x:Value}(h:fM w Z [v0,v1,v2,v3,v4,x] t):w.cell? ⟨Z,0,none⟩=some v0:=h.cell 0 (by simp)
theorem zU{w:World}{Z t:Nat}{v0 v1 v2 v3 v4 x:Value}(h:fM w Z [v0,v1,v2,v3,v4,x] t):w.cell? ⟨Z,1,none⟩=some v1:=h.cell 1 (by simp)
theorem zV{w:World}{Z t:Nat}{v0 v1 v2 v3 v4 x:Value}(h:fM w Z [v0,v1,v2,v3,v4,x] t):w.cell? ⟨Z,2,none⟩=some v2:=h.cell 2 (by simp)
theorem zW{w:World}{Z t:Nat}{v0 v1 v2 v3 v4 x:Value}(h:fM w Z [v0,v1,v2,v3,v4,x] t):w.cell? ⟨Z,3,none⟩=some v3:=h.cell 3 (by simp)
theorem zX{w:World}{Z t:Nat}{v0 v1 v2 v3 v4 x:Value}(h:fM w Z [v0,v1,v2,v3,v4,x] t):w.cell? ⟨Z,4,none⟩=some v4:=h.cell 4 (by simp)
theorem fh.drew{B B0 g Z:Nat}{D:Nat->Prop}{bl:Bool}{St:Nat->World->Prop}{W0 wr:World}{i:Nat}{v0 v1 v2 v3 v4:Value}{P0 P1 P2 P3 P4:Nat}(h:fh B0 D g Z bl St W0 wr i v0 v1 v2 v3 v4 P0 P1 P2 P3 P4)(nx:∀ i W W',St i W->Out (fun j=>B<=j) W W'->St i W'):fh B0 D g Z bl St W0 wr.drew i v0 v1 v2 v3 v4 P0 P1 P2 P3 P4:=
 have b:Below wr.heap.size wr wr.drew:=(Below.refl _ _).drew
 ⟨nx i wr _ h.st (Out.of_below b),h.box.next b,h.out.next b,fun e=>(h.r0 e).next b,fun e=>(h.r1 e).next b,fun e=>(h.r2 e).next b,fun e=>(h.r3 e).next b,fun e=>(h.r4 e).next b⟩
theorem fh.step0{B B0 g Z:Nat}{D:Nat->Prop}{bl:Bool}{St:Nat->World->Prop}{W0 wr w5:World}{v0 v1 v2 v3 v4 r:Value}{P0 P1 P2 P3 P4:Nat}(h:fh B0 D g Z bl St W0 wr 0 v0 v1 v2 v3 v4 P0 P1 P2 P3 P4)(nx:∀ i W W',St i W->Out (fun j=>B<=j) W W'->St i W')(hZ0:B<=Z)(hz:¬(D Z\/Z=g))(hdb:∀ k,(D k\/k=g)\/k=Z->k<B0)
  (nr:aO B0 w5 r P0) (st:St 1 w5) (o:Out (fun j=>D j\/j=g) wr w5):fh B0 D g Z bl St W0 (w5.setCell ⟨Z,0,none⟩ r) 1 r v1 v2 v3 v4 P0 P1 P2 P3 P4:=by
 have gr:=Out.of_grown (aj w5 Z 0 r)
 have hk:∀ k,k=Z->k<B0:=fun k e=>hdb k (Or.inr e)
 refine⟨nx 1 w5 _ st (gr.mono (fun k (e:k=Z)=>by rw[e];exact hZ0)),(h.box5 o hz).set 0 r,(h.out.trans (o.mono (fun k e=>Or.inl e))).trans (gr.mono (fun k e=>Or.inr e)),fun _=>nr.out gr hk,fun h=>absurd h (by decide),fun h=>absurd h (by decide),fun h=>absurd h (by decide),fun h=>absurd h (by decide)⟩
theorem fh.step1{B B0 g Z:Nat}{D:Nat->Prop}{bl:Bool}{St:Nat->World->Prop}{W0 wr w5:World}{v0 v1 v2 v3 v4 r:Value}{P0 P1 P2 P3 P4:Nat}(h:fh B0 D g Z bl St W0 wr 1 v0 v1 v2 v3 v4 P0 P1 P2 P3 P4)(nx:∀ i W W',St i W->Out (fun j=>B<=j) W W'->St i W')(hZ0:B<=Z)(hz:¬(D Z\/Z=g))(hdb:∀ k,(D k\/k=g)\/k=Z->k<B0)
  (nr:aO B0 w5 r P1) (st:St 2 w5) (o:Out (fun j=>D j\/j=g) wr w5):fh B0 D g Z bl St W0 (w5.setCell ⟨Z,1,none⟩ r) 2 v0 r v2 v3 v4 P0 P1 P2 P3 P4:=by
 have gr:=Out.of_grown (aj w5 Z 1 r)
 have hk:∀ k,k=Z->k<B0:=fun k e=>hdb k (Or.inr e)
 refine⟨nx 2 w5 _ st (gr.mono (fun k (e:k=Z)=>by rw[e];exact hZ0)),(h.box5 o hz).set 1 r,(h.out.trans (o.mono (fun k e=>Or.inl e))).trans (gr.mono (fun k e=>Or.inr e)),fun _=>(((h.r0 (by decide)).out o (fun k hk=>hdb k (Or.inl hk))).out gr hk),fun _=>nr.out gr hk,fun h=>absurd h (by decide),fun h=>absurd h (by decide),fun h=>absurd h (by decide)⟩
theorem fh.step2{B B0 g Z:Nat}{D:Nat->Prop}{bl:Bool}{St:Nat->World->Prop}{W0 wr w5:World}{v0 v1 v2 v3 v4 r:Value}{P0 P1 P2 P3 P4:Nat}(h:fh B0 D g Z bl St W0 wr 2 v0 v1 v2 v3 v4 P0 P1 P2 P3 P4)(nx:∀ i W W',St i W->Out (fun j=>B<=j) W W'->St i W')(hZ0:B<=Z)(hz:¬(D Z\/Z=g))(hdb:∀ k,(D k\/k=g)\/k=Z->k<B0)
  (nr:aO B0 w5 r P2) (st:St 3 w5) (o:Out (fun j=>D j\/j=g) wr w5):fh B0 D g Z bl St W0 (w5.setCell ⟨Z,2,none⟩ r) 3 v0 v1 r v3 v4 P0 P1 P2 P3 P4:=by
 have gr:=Out.of_grown (aj w5 Z 2 r)
 have hk:∀ k,k=Z->k<B0:=fun k e=>hdb k (Or.inr e)
 refine⟨nx 3 w5 _ st (gr.mono (fun k (e:k=Z)=>by rw[e];exact hZ0)),(h.box5 o hz).set 2 r,(h.out.trans (o.mono (fun k e=>Or.inl e))).trans (gr.mono (fun k e=>Or.inr e)),fun _=>(((h.r0 (by decide)).out o (fun k hk=>hdb k (Or.inl hk))).out gr hk),fun _=>(((h.r1 (by decide)).out o (fun k hk=>hdb k (Or.inl hk))).out gr hk),fun _=>nr.out gr hk,fun h=>absurd h (by decide),fun h=>absurd h (by decide)⟩
theorem fh.step3{B B0 g Z:Nat}{D:Nat->Prop}{bl:Bool}{St:Nat->World->Prop}{W0 wr w5:World}{v0 v1 v2 v3 v4 r:Value}{P0 P1 P2 P3 P4:Nat}(h:fh B0 D g Z bl St W0 wr 3 v0 v1 v2 v3 v4 P0 P1 P2 P3 P4)(nx:∀ i W W',St i W->Out (fun j=>B<=j) W W'->St i W')(hZ0:B<=Z)(hz:¬(D Z\/Z=g))(hdb:∀ k,(D k\/k=g)\/k=Z->k<B0)
  (nr:aO B0 w5 r P3) (st:St 4 w5) (o:Out (fun j=>D j\/j=g) wr w5):fh B0 D g Z bl St W0 (w5.setCell ⟨Z,3,none⟩ r) 4 v0 v1 v2 r v4 P0 P1 P2 P3 P4:=by
 have gr:=Out.of_grown (aj w5 Z 3 r)
 have hk:∀ k,k=Z->k<B0:=fun k e=>hdb k (Or.inr e)
 refine⟨nx 4 w5 _ st (gr.mono (fun k (e:k=Z)=>by rw[e];exact hZ0)),(h.box5 o hz).set 3 r,(h.out.trans (o.mono (fun k e=>Or.inl e))).trans (gr.mono (fun k e=>Or.inr e)),fun _=>(((h.r0 (by decide)).out o (fun k hk=>hdb k (Or.inl hk))).out gr hk),fun _=>(((h.r1 (by decide)).out o (fun k hk=>hdb k (Or.inl hk))).out gr hk),fun _=>(((h.r2 (by decide)).out o (fun k hk=>hdb k (Or.inl hk))).out gr hk),fun _=>nr.out gr hk,fun h=>absurd h (by decide)⟩
theorem fh.step4{B B0 g Z:Nat}{D:Nat->Prop}{bl:Bool}{St:Nat->World->Prop}{W0 wr w5:World}{v0 v1 v2 v3 v4 r:Value}{P0 P1 P2 P3 P4:Nat}(h:fh B0 D g Z bl St W0 wr 4 v0 v1 v2 v3 v4 P0 P1 P2 P3 P4)(nx:∀ i W W',St i W->Out (fun j=>B<=j) W W'->St i W')(hZ0:B<=Z)(hz:¬(D Z\/Z=g))(hdb:∀ k,(D k\/k=g)\/k=Z->k<B0)
  (nr:aO B0 w5 r P4) (st:St 5 w5) (o:Out (fun j=>D j\/j=g) wr w5):fh B0 D g Z bl St W0 (w5.setCell ⟨Z,4,none⟩ r) 5 v0 v1 v2 v3 r P0 P1 P2 P3 P4:=by
 have gr:=Out.of_grown (aj w5 Z 4 r)
 have hk:∀ k,k=Z->k<B0:=fun k e=>hdb k (Or.inr e)
 refine⟨nx 5 w5 _ st (gr.mono (fun k (e:k=Z)=>by rw[e];exact hZ0)),(h.box5 o hz).set 4 r,(h.out.trans (o.mono (fun k e=>Or.inl e))).trans (gr.mono (fun k e=>Or.inr e)),fun _=>(((h.r0 (by decide)).out o (fun k hk=>hdb k (Or.inl hk))).out gr hk),fun _=>(((h.r1 (by decide)).out o (fun k hk=>hdb k (Or.inl hk))).out gr hk),fun _=>(((h.r2 (by decide)).out o (fun k hk=>hdb k (Or.inl hk))).out gr hk),fun _=>(((h.r3 (by decide)).out o (fun k hk=>hdb k (Or.inl hk))).out gr hk),fun _=>nr.out gr hk⟩
theorem qd(h m n a0 a1 a2 b0 b1 b2:Nat)(p0:a0=m%18446744073709551616^h)(p1:a1=m/18446744073709551616^h%18446744073709551616^h)(p2:a2=m/18446744073709551616^h/18446744073709551616^h)
  (q0:b0=n%18446744073709551616^h) (q1:b1=n/18446744073709551616^h%18446744073709551616^h) (q2:b2=n/18446744073709551616^h/18446744073709551616^h):
  ud h (a0*b0) (a0*b1+a1*b0) (a0*b2+a1*b1+a2*b0) (a1*b2+a2*b1) (a2*b2)=m*n:=by
 have e1:=xM m (18446744073709551616^h)
 have e2:=xM n (18446744073709551616^h)
 rw[<-p0, <-p1, <-p2]at e1
 rw[<-q0, <-q1, <-q2]at e2
 have e3:=yH (18446744073709551616^h) a0 a1 a2 b0 b1 b2
 rw[e1,e2]at e3
 unfold ud
 rw[Nat.pow_mul,Nat.pow_mul,Nat.pow_mul]
 clear p0 p1 p2 q0 q1 q2 e1 e2
 generalize 18446744073709551616^h=P at *
 rw[show P^2=P*P by rw[Nat.pow_succ,Nat.pow_one],show P^3=P*P*P by rw[Nat.pow_succ,Nat.pow_succ,Nat.pow_one],show P^4=P*P*P*P by rw[Nat.pow_succ,Nat.pow_succ,Nat.pow_succ,Nat.pow_one]]
 exact e3
theorem nn{p q h:Nat}(hp:p<18446744073709551616^(h+1))(hq:q<18446744073709551616^(h+1)):2*(p*q)<18446744073709551616^(h+1+(h+1)+1):=by
 have:=Nat.mul_lt_mul'' hp hq
 rw[Nat.pow_succ _ (h+1+(h+1)),Nat.pow_add]
 omega
end Go.Proofs.YtgcnhfgpflncaaaGreatDoor
/- Toom of the landed toom:a product in three pieces. -/
namespace Go.Proofs.YtgcnhfgpflncaaaGreatDoor
open Go.RowKit
set_option maxRecDepth 100000 in
set_option maxHeartbeats 6400000 in
theorem MK(w:World)(gt gk ge g:Nat)(s l m:Int)(T:Tab)(ga gb:Option Addr)(b o cap la b' o' cap' lb h:Nat)(xs ys:List Nat)(k:Nat)(fs cs:Array Value)(D:Nat->Prop)(St:Nat->World->Prop)
 (hE:cO w gt gk ge g s l m T) (hl0:0<=l) (hl1:l<=1000000) (hxl:xs.length=la) (hR:Rep w ga b o cap xs) (hdx:ao xs) (_hbD:0<la->¬D b) (hyl:ys.length=lb) (hR':Rep w gb b' o' cap' ys) (hdy:ao ys) (_hbD':0<lb->¬D b') (hla:la<=16384) (hlb:lb<=16384)
 (hh:h=(max la lb+2)/3) (hlt:2*h<min la lb) (_nt:¬D gt) (_nk:¬D gk) (_ne:¬D ge) (_ng:¬D g) (hD:∀ j,D j->j<w.heap.size) (hI:ND w.heap.size gt gk ge g l T (max la lb) (min la lb) h k fs cs D St)
 (hS:∀ W,Out (·=g) w W->cO W gt gk ge g s (l+1) (max m (l+1)) T->St 0 W) (hsw:¬la<lb):
 Calls Tryz.prog 147 #[.pointer (some ⟨gt,0,none⟩),.slice ga la cap,.slice gb lb cap',.func (.func k) fs cs] w fun e w'=>∃ v W,e=.returned (.tuple #[v,.bool true])/\ah w.heap.size w' v (af xs*af ys)/\St 5 W/\Out (·=g) W w'/\(∀ s' m',cO W gt gk ge g s' (l+1) m' T->cO w' gt gk ge g s' l m' T)/\Out (fun j=>D j\/j=g) w w':=by
 have hn:max la lb=la:=by omega
 have hm:min la lb=lb:=by omega
 rw[hn,hm]at hI
 rw[hn]at hh
 rw[hm]at hlt
 have CH:=hide (fun w=>mZ w ga la cap h (by omega) hh)
 have hM:=hE.kara.eng.met
 have hgl:=hM.lt
 have CE:=hide (dh (l+1) (max m (l+1)) hM rfl rfl (by omega) (by omega))
 have e0:=hE.ptr
 have e1:=hE.kara.ptr
 have e2:=hE.kara.eng.ptr
 have HE:=hide hE
 obtain⟨K2,hK2⟩:∃ K2,2*h=K2:=⟨_,rfl⟩
 have j1:2*(h:Int)=(K2:Int):=by omega
 have j2:IntKind.i64.wrap (K2:Int)=(K2:Int):=by rw[IntKind.wrap_i64];omega
 have ngt:¬lb<=K2:=by omega
 have hcf:=hI.go
 have HI:=hide hI
 have HS:=hide hS
 have HD:=hide hD
 have HR:=hide hR
 have HR':=hide hR'
 have h3:la<=3*h:=by omega
 have h3':lb<=3*h:=by omega
 have hlt1:2*h<la:=by omega
 have h1:0<h:=by omega
 clear hE hM hI hS hD hR hR' hh hn hm _ng _nt _nk _ne _hbD _hbD'
 go_enter_defers Tryz.func147,Tryz.ntmps147
 go_wp2_with fail
 refine(ae CH _).mono ?_
 rintro e w1 ⟨rfl,hw1⟩
 obtain rfl:=hw1.symm
 clear hw1 CH
 go_wp2_with fail
 refine(ae CE).mono ?_
 rintro e w1 ⟨rfl,M1,T1⟩
 have K1:=(ae HE).step M1 T1
 have r1:=(ae HR).touch (ae HE).kara.eng.met T1
 have r1':=(ae HR').touch (ae HE).kara.eng.met T1
 have e0:=K1.ptr
 have e1:=K1.kara.ptr
 have e2:=K1.kara.eng.ptr
 have s1:=T1.grown.size
 have O1:=hide (Out.of_grown T1.grown)
 clear CE M1 T1
 obtain⟨a0,q0⟩:∃ a0,a0=af xs%18446744073709551616^h:=⟨_,rfl⟩
 obtain⟨a1,q1⟩:∃ a1,a1=af xs/18446744073709551616^h%18446744073709551616^h:=⟨_,rfl⟩
 obtain⟨a2,q2⟩:∃ a2,a2=af xs/18446744073709551616^h/18446744073709551616^h:=⟨_,rfl⟩
 obtain⟨b0,q0'⟩:∃ b0,b0=af ys%18446744073709551616^h:=⟨_,rfl⟩
 obtain⟨b1,q1'⟩:∃ b1,b1=af ys/18446744073709551616^h%18446744073709551616^h:=⟨_,rfl⟩
 obtain⟨b2,q2'⟩:∃ b2,b2=af ys/18446744073709551616^h/18446744073709551616^h:=⟨_,rfl⟩
 have CV:=hide (jP w1 _ _ _ _ _ h xs a0 a1 a2 hxl hla h1 hlt1 h3 r1 hdx q0 q1 q2)
 have CV':=hide (fun W (bb:Below w1.heap.size w1 W)=>jP W _ _ _ _ _ h ys b0 b1 b2 hyl hlb h1 hlt h3' (r1'.next bb) hdy q0' q1' q2')
 clear r1 r1'
 go_wp2_with fail
 refine(ae CV).mono ?_
 rintro e w2 ⟨v2,rfl,p2,bs2⟩
 have CV':=hide (ae CV' _ bs2)
 clear CV
 go_wp2_with fail
 refine(ae CV').mono ?_
 rintro e w3 ⟨v3,rfl,p3,bs3⟩
 obtain⟨g0,g1,g2,g3,g4,z0,z1,z2,z3,z4,rfl,t0,t1,t2,t3,t4⟩:=p2.out
 obtain⟨g0',g1',g2',g3',g4',z0',z1',z2',z3',z4',rfl,t0',t1',t2',t3',t4'⟩:=p3.out
 have s2:=bs2.size
 have t0:=t0.next bs3
 have t1:=t1.next bs3
 have t2:=t2.next bs3
 have t3:=t3.next bs3
 have t4:=t4.next bs3
 have t0':=t0'.mono s2
 have t1':=t1'.mono s2
 have t2':=t2'.mono s2
 have t3':=t3'.mono s2
 have t4':=t4'.mono s2
 have b3:=ag bs2 bs3
 have s3:=b3.size
 have O3:=hide ((ae O1).next b3)
 have K3:=K1.next b3
 clear p2 p3 e0 e1 e2 CV' bs2 bs3
 obtain⟨H1,hH1⟩:∃ H1,h+1=H1:=⟨_,rfl⟩
 obtain⟨n1,hn1⟩:∃ n1,la-2*h=n1:=⟨_,rfl⟩
 obtain⟨m1,hm1⟩:∃ m1,lb-2*h=m1:=⟨_,rfl⟩
 rw[hH1,hn1,hm1]
 rw[hH1]at t1 t2 t3 t1' t2' t3'
 rw[hn1]at t4
 rw[hm1]at t4'
 have HF5:=pf a0 a1 a2 b0 b1 b2
 -- mark
 generalize decide (a0+a2<a1)=ba at *
 generalize decide (b0+b2<b1)=bb at *
 obtain⟨bz,hbz⟩:∃ bz,(!(ba==bb))=bz:=⟨_,rfl⟩
 have HF5:nS (!(ba==bb)) _ _ _ _ _ _ _ _:=HF5
 rw[hbz]at HF5
 have bB:Below w3.heap.size w3 (((w3.alloc (.cells #[.slice (some ⟨g0,0,none⟩) h h,.slice (some ⟨g1,0,none⟩) H1 H1,.slice (some ⟨g2,0,none⟩) H1 H1,.slice (some ⟨g3,0,none⟩) H1 H1,.slice (some ⟨g4,0,none⟩) n1 n1,.bool ba] 157)).alloc (.cells #[.slice (some ⟨g0',0,none⟩) h h,.slice (some ⟨g1',0,none⟩) H1 H1,.slice (some ⟨g2',0,none⟩) H1 H1,.slice (some ⟨g3',0,none⟩) H1 H1,.slice (some ⟨g4',0,none⟩) m1 m1,.bool bb] 157)).alloc (.cells #[.slice none 0 0,.slice none 0 0,.slice none 0 0,.slice none 0 0,.slice none 0 0,.bool bz] 157)):=(((Below.refl _ _).alloc (Nat.le_refl _) _).alloc (by simp) _).alloc (by simp;omega) _
 obtain⟨kX,kY,kZ⟩:=yk w3 (.cells #[.slice (some ⟨g0,0,none⟩) h h,.slice (some ⟨g1,0,none⟩) H1 H1,.slice (some ⟨g2,0,none⟩) H1 H1,.slice (some ⟨g3,0,none⟩) H1 H1,.slice (some ⟨g4,0,none⟩) n1 n1,.bool ba] 157) (.cells #[.slice (some ⟨g0',0,none⟩) h h,.slice (some ⟨g1',0,none⟩) H1 H1,.slice (some ⟨g2',0,none⟩) H1 H1,.slice (some ⟨g3',0,none⟩) H1 H1,.slice (some ⟨g4',0,none⟩) m1 m1,.bool bb] 157) (.cells #[.slice none 0 0,.slice none 0 0,.slice none 0 0,.slice none 0 0,.slice none 0 0,.bool bz] 157)
 have sB:(((w3.alloc (.cells #[.slice (some ⟨g0,0,none⟩) h h,.slice (some ⟨g1,0,none⟩) H1 H1,.slice (some ⟨g2,0,none⟩) H1 H1,.slice (some ⟨g3,0,none⟩) H1 H1,.slice (some ⟨g4,0,none⟩) n1 n1,.bool ba] 157)).alloc (.cells #[.slice (some ⟨g0',0,none⟩) h h,.slice (some ⟨g1',0,none⟩) H1 H1,.slice (some ⟨g2',0,none⟩) H1 H1,.slice (some ⟨g3',0,none⟩) H1 H1,.slice (some ⟨g4',0,none⟩) m1 m1,.bool bb] 157)).alloc (.cells #[.slice none 0 0,.slice none 0 0,.slice none 0 0,.slice none 0 0,.slice none 0 0,.bool bz] 157)).heap.size=w3.heap.size+1+1+1:=by simp
 obtain⟨W0,hW0⟩:∃ W0,((w3.alloc (.cells #[.slice (some ⟨g0,0,none⟩) h h,.slice (some ⟨g1,0,none⟩) H1 H1,.slice (some ⟨g2,0,none⟩) H1 H1,.slice (some ⟨g3,0,none⟩) H1 H1,.slice (some ⟨g4,0,none⟩) n1 n1,.bool ba] 157)).alloc (.cells #[.slice (some ⟨g0',0,none⟩) h h,.slice (some ⟨g1',0,none⟩) H1 H1,.slice (some ⟨g2',0,none⟩) H1 H1,.slice (some ⟨g3',0,none⟩) H1 H1,.slice (some ⟨g4',0,none⟩) m1 m1,.bool bb] 157)).alloc (.cells #[.slice none 0 0,.slice none 0 0,.slice none 0 0,.slice none 0 0,.slice none 0 0,.bool bz] 157)=W0:=⟨_,rfl⟩
 rw[hW0]at bB kX kY kZ sB
 obtain⟨X,hX⟩:∃ X,w3.heap.size=X:=⟨_,rfl⟩
 rw[hX]at kX kY kZ sB
 have sW:=bB.size
 have l0:g0<X:=by rw[<-hX];exact t0.blk.lt
 have l1:g1<X:=by rw[<-hX];exact t1.blk.lt
 have l2:g2<X:=by rw[<-hX];exact t2.blk.lt
 have l3:g3<X:=by rw[<-hX];exact t3.blk.lt
 have l4:g4<X:=by rw[<-hX];exact t4.blk.lt
 have t0:=t0.next bB
 have t1:=t1.next bB
 have t2:=t2.next bB
 have t3:=t3.next bB
 have t4:=t4.next bB
 have y0:=t0.ge
 have y1:=t1.ge
 have y2:=t2.ge
 have y3:=t3.ge
 have y4:=t4.ge
 have l0':g0'<X:=by rw[<-hX];exact t0'.blk.lt
 have l1':g1'<X:=by rw[<-hX];exact t1'.blk.lt
 have l2':g2'<X:=by rw[<-hX];exact t2'.blk.lt
 have l3':g3'<X:=by rw[<-hX];exact t3'.blk.lt
 have l4':g4'<X:=by rw[<-hX];exact t4'.blk.lt
 have t0':=t0'.next bB
 have t1':=t1'.next bB
 have t2':=t2'.next bB
 have t3':=t3'.next bB
 have t4':=t4'.next bB
 have y0':=t0'.ge
 have y1':=t1'.ge
 have y2':=t2'.ge
 have y3':=t3'.ge
 have y4':=t4'.ge
 have O3:=hide ((ae O3).next bB)
 have S0:=hide (ae HS _ (ae O3) (K3.next bB))
 have DN:∀ q,w.heap.size<=q->¬(D q\/q=g):=fun q hq x=>by
  rcases x with x|x
  ·have:=ae HD q x;omega
  ·omega
 have HDZ:Hid (¬(D (X+1+1)\/X+1+1=g)):=DN _ (by omega)
 have HDB:Hid (∀ q,(D q\/q=g)\/q=X+1+1->q<X+1+1+1):=fun q x=>by
  rcases x with(x|x)|x
  ·have:=ae HD q x;omega
  ·omega
  ·omega
 have HZ0:Hid (w.heap.size<=X+1+1):=by show _<=_;omega
 have HNX:=hide ((ae HI).next)
 have HN:Hid (∀ q,w.heap.size<=q->q<X+1+1->¬((D q\/q=g)\/q=X+1+1)):=fun q hq hz x=>by
  rcases x with x|x
  ·exact DN q hq x
  ·omega
 have HX0:Hid (∀ W,Out (fun j=>(D j\/j=g)\/j=X+1+1) W0 W->W.cell? ⟨X,0,none⟩=some (.slice (some ⟨g0,0,none⟩) h h)):=fun W q=>cell_of_row _ X 0 _ _ (0,0) ((q.block X (Array.getElem?_eq_some_iff.1 kX).1 (ae HN _ (by omega) (by omega))).trans kX)
 have HY0:Hid (∀ W,Out (fun j=>(D j\/j=g)\/j=X+1+1) W0 W->W.cell? ⟨X+1,0,none⟩=some (.slice (some ⟨g0',0,none⟩) h h)):=fun W q=>cell_of_row _ (X+1) 0 _ _ (0,0) ((q.block (X+1) (Array.getElem?_eq_some_iff.1 kY).1 (ae HN _ (by omega) (by omega))).trans kY)
 have HX1:Hid (∀ W,Out (fun j=>(D j\/j=g)\/j=X+1+1) W0 W->W.cell? ⟨X,1,none⟩=some (.slice (some ⟨g1,0,none⟩) H1 H1)):=fun W q=>cell_of_row _ X 1 _ _ (0,0) ((q.block X (Array.getElem?_eq_some_iff.1 kX).1 (ae HN _ (by omega) (by omega))).trans kX)
 have HY1:Hid (∀ W,Out (fun j=>(D j\/j=g)\/j=X+1+1) W0 W->W.cell? ⟨X+1,1,none⟩=some (.slice (some ⟨g1',0,none⟩) H1 H1)):=fun W q=>cell_of_row _ (X+1) 1 _ _ (0,0) ((q.block (X+1) (Array.getElem?_eq_some_iff.1 kY).1 (ae HN _ (by omega) (by omega))).trans kY)
 have HX2:Hid (∀ W,Out (fun j=>(D j\/j=g)\/j=X+1+1) W0 W->W.cell? ⟨X,2,none⟩=some (.slice (some ⟨g2,0,none⟩) H1 H1)):=fun W q=>cell_of_row _ X 2 _ _ (0,0) ((q.block X (Array.getElem?_eq_some_iff.1 kX).1 (ae HN _ (by omega) (by omega))).trans kX)
 have HY2:Hid (∀ W,Out (fun j=>(D j\/j=g)\/j=X+1+1) W0 W->W.cell? ⟨X+1,2,none⟩=some (.slice (some ⟨g2',0,none⟩) H1 H1)):=fun W q=>cell_of_row _ (X+1) 2 _ _ (0,0) ((q.block (X+1) (Array.getElem?_eq_some_iff.1 kY).1 (ae HN _ (by omega) (by omega))).trans kY)
 have HX3:Hid (∀ W,Out (fun j=>(D j\/j=g)\/j=X+1+1) W0 W->W.cell? ⟨X,3,none⟩=some (.slice (some ⟨g3,0,none⟩) H1 H1)):=fun W q=>cell_of_row _ X 3 _ _ (0,0) ((q.block X (Array.getElem?_eq_some_iff.1 kX).1 (ae HN _ (by omega) (by omega))).trans kX)
 have HY3:Hid (∀ W,Out (fun j=>(D j\/j=g)\/j=X+1+1) W0 W->W.cell? ⟨X+1,3,none⟩=some (.slice (some ⟨g3',0,none⟩) H1 H1)):=fun W q=>cell_of_row _ (X+1) 3 _ _ (0,0) ((q.block (X+1) (Array.getElem?_eq_some_iff.1 kY).1 (ae HN _ (by omega) (by omega))).trans kY)
 have HX4:Hid (∀ W,Out (fun j=>(D j\/j=g)\/j=X+1+1) W0 W->W.cell? ⟨X,4,none⟩=some (.slice (some ⟨g4,0,none⟩) n1 n1)):=fun W q=>cell_of_row _ X 4 _ _ (0,0) ((q.block X (Array.getElem?_eq_some_iff.1 kX).1 (ae HN _ (by omega) (by omega))).trans kX)
 have HY4:Hid (∀ W,Out (fun j=>(D j\/j=g)\/j=X+1+1) W0 W->W.cell? ⟨X+1,4,none⟩=some (.slice (some ⟨g4',0,none⟩) m1 m1)):=fun W q=>cell_of_row _ (X+1) 4 _ _ (0,0) ((q.block (X+1) (Array.getElem?_eq_some_iff.1 kY).1 (ae HN _ (by omega) (by omega))).trans kY)
 have Q0:Hid (∀ W,Out (fun j=>(D j\/j=g)\/j=X+1+1) W0 W->St 0 W->Calls Tryz.prog k (fs++(#[.slice (some ⟨g0,0,none⟩) h h,.slice (some ⟨g0',0,none⟩) h h]++cs)) W fun e W'=>∃ r,e=.returned r/\aO (X+1+1+1) W' r (a0*b0)/\St 1 W'/\Out (fun j=>D j\/j=g) W W'):=fun W q st=>by
  have sz:=q.size
  rw[<-Array.append_assoc]
  refine((ae HI).call 0 W _ _ _ _ (by omega) st (by rw[show(ey la lb h 0).1=h from rfl];exact t0.inD q (ae HN _ (by omega) (by omega)) (DN _ (by omega))) (by rw[show(ey la lb h 0).2=h from rfl];exact t0'.inD q (ae HN _ (by omega) (by omega)) (DN _ (by omega)))).mono ?_
  rintro e W' ⟨r,rfl,n,st',q'⟩
  exact⟨r,rfl,n.mono (by omega),st',q'⟩
 have Q1:Hid (∀ W,Out (fun j=>(D j\/j=g)\/j=X+1+1) W0 W->St 1 W->Calls Tryz.prog k (fs++(#[.slice (some ⟨g1,0,none⟩) H1 H1,.slice (some ⟨g1',0,none⟩) H1 H1]++cs)) W fun e W'=>∃ r,e=.returned r/\aO (X+1+1+1) W' r ((a0+a1+a2)*(b0+b1+b2))/\St 2 W'/\Out (fun j=>D j\/j=g) W W'):=fun W q st=>by
  have sz:=q.size
  rw[<-Array.append_assoc]
  refine((ae HI).call 1 W _ _ _ _ (by omega) st (by rw[show(ey la lb h 1).1=H1 from hH1];exact t1.inD q (ae HN _ (by omega) (by omega)) (DN _ (by omega))) (by rw[show(ey la lb h 1).2=H1 from hH1];exact t1'.inD q (ae HN _ (by omega) (by omega)) (DN _ (by omega)))).mono ?_
  rintro e W' ⟨r,rfl,n,st',q'⟩
  exact⟨r,rfl,n.mono (by omega),st',q'⟩
 have Q2:Hid (∀ W,Out (fun j=>(D j\/j=g)\/j=X+1+1) W0 W->St 2 W->Calls Tryz.prog k (fs++(#[.slice (some ⟨g2,0,none⟩) H1 H1,.slice (some ⟨g2',0,none⟩) H1 H1]++cs)) W fun e W'=>∃ r,e=.returned r/\aO (X+1+1+1) W' r (nd (a0+a2) a1*nd (b0+b2) b1)/\St 3 W'/\Out (fun j=>D j\/j=g) W W'):=fun W q st=>by
  have sz:=q.size
  rw[<-Array.append_assoc]
  refine((ae HI).call 2 W _ _ _ _ (by omega) st (by rw[show(ey la lb h 2).1=H1 from hH1];exact t2.inD q (ae HN _ (by omega) (by omega)) (DN _ (by omega))) (by rw[show(ey la lb h 2).2=H1 from hH1];exact t2'.inD q (ae HN _ (by omega) (by omega)) (DN _ (by omega)))).mono ?_
  rintro e W' ⟨r,rfl,n,st',q'⟩
  exact⟨r,rfl,n.mono (by omega),st',q'⟩
 have Q3:Hid (∀ W,Out (fun j=>(D j\/j=g)\/j=X+1+1) W0 W->St 3 W->Calls Tryz.prog k (fs++(#[.slice (some ⟨g3,0,none⟩) H1 H1,.slice (some ⟨g3',0,none⟩) H1 H1]++cs)) W fun e W'=>∃ r,e=.returned r/\aO (X+1+1+1) W' r ((a0+2*a1+4*a2)*(b0+2*b1+4*b2))/\St 4 W'/\Out (fun j=>D j\/j=g) W W'):=fun W q st=>by
  have sz:=q.size
  rw[<-Array.append_assoc]
  refine((ae HI).call 3 W _ _ _ _ (by omega) st (by rw[show(ey la lb h 3).1=H1 from hH1];exact t3.inD q (ae HN _ (by omega) (by omega)) (DN _ (by omega))) (by rw[show(ey la lb h 3).2=H1 from hH1];exact t3'.inD q (ae HN _ (by omega) (by omega)) (DN _ (by omega)))).mono ?_
  rintro e W' ⟨r,rfl,n,st',q'⟩
  exact⟨r,rfl,n.mono (by omega),st',q'⟩
 have Q4:Hid (∀ W,Out (fun j=>(D j\/j=g)\/j=X+1+1) W0 W->St 4 W->Calls Tryz.prog k (fs++(#[.slice (some ⟨g4,0,none⟩) n1 n1,.slice (some ⟨g4',0,none⟩) m1 m1]++cs)) W fun e W'=>∃ r,e=.returned r/\aO (X+1+1+1) W' r (a2*b2)/\St 5 W'/\Out (fun j=>D j\/j=g) W W'):=fun W q st=>by
  have sz:=q.size
  rw[<-Array.append_assoc]
  refine((ae HI).call 4 W _ _ _ _ (by omega) st (by rw[show(ey la lb h 4).1=n1 from hn1];exact t4.inD q (ae HN _ (by omega) (by omega)) (DN _ (by omega))) (by rw[show(ey la lb h 4).2=m1 from hm1];exact t4'.inD q (ae HN _ (by omega) (by omega)) (DN _ (by omega)))).mono ?_
  rintro e W' ⟨r,rfl,n,st',q'⟩
  exact⟨r,rfl,n.mono (by omega),st',q'⟩
 have R0:Hid (fh (X+1+1+1) D g (X+1+1) bz St W0 W0 0 (.slice none 0 0) (.slice none 0 0) (.slice none 0 0) (.slice none 0 0) (.slice none 0 0) (a0*b0) ((a0+a1+a2)*(b0+b1+b2)) (nd (a0+a2) a1*nd (b0+b2) b1) ((a0+2*a1+4*a2)*(b0+2*b1+4*b2)) (a2*b2)):=⟨ae S0,kZ,Out.refl _ _,fun h=>absurd h (by decide),fun h=>absurd h (by decide),fun h=>absurd h (by decide),fun h=>absurd h (by decide),fun h=>absurd h (by decide)⟩
 have CJ:Hid (∀ W u0 u1 u2 u3 u4,aL W u0 (a0*b0)->aL W u1 ((a0+a1+a2)*(b0+b1+b2))->aL W u2 (nd (a0+a2) a1*nd (b0+b2) b1)->aL W u3 ((a0+2*a1+4*a2)*(b0+2*b1+4*b2))->aL W u4 (a2*b2)->Calls Tryz.prog 135 #[.agg #[u0,u1,u2,u3,u4,.bool bz],.int .i64 (h:Int)] W fun e w'=>∃ r,e=.returned r/\ah W.heap.size w' r (ud h (a0*b0) (a0*b1+a1*b0) (a0*b2+a1*b1+a2*b0) (a1*b2+a2*b1) (a2*b2))/\Below W.heap.size W w'):=fun W u0 u1 u2 u3 u4 i0 i1 i2 i3 i4=>nA W u0 u1 u2 u3 u4 bz _ _ _ _ _ _ _ _ h (h+1+(h+1)+1) (by omega) (by omega) HF5 (nn (by rw[<-t3.val];have:=ak t3.dig;rw[t3.len, <-hH1]at this;exact this) (by rw[<-t3'.val];have:=ak t3'.dig;rw[t3'.len, <-hH1]at this;exact this)) i0 i1 i2 i3 i4
 have HV:=hide (qd h (af xs) (af ys) a0 a1 a2 b0 b1 b2 q0 q1 q2 q0' q1' q2')
 have HF:Hid (∀ i,(D i\/i=g)\/i=X+1+1->(D i\/i=g)\/w.heap.size<=i):=fun i x=>by
  rcases x with x|x
  ·exact Or.inl x
  ·exact Or.inr (by omega)
 have sW0:Hid (w.heap.size<=W0.heap.size):=by show _<=_;omega
 have sW1:Hid (X+1+1+1<=W0.heap.size):=by show _<=_;omega
 have hl2:=hide hl0
 have hl3:=hide hl1
 clear HS HD HR HR' HE S0 O1 K3 K1 DN HN kX kY kZ bB b3 t0 t1 t2 t3 t4 l0 l1 l2 l3 l4 y0 y1 y2 y3 y4 t0' t1' t2' t3' t4' l0' l1' l2' l3' l4' y0' y1' y2' y3' y4' HF5 q0 q1 q2 q0' q1' q2' s1 s2 s3 sW sB hH1 hn1 hm1 hl0 hl1 h1 h3 h3' hlt hlt1 hgl hK2 hla hlb hxl hyl hdx hdy
 generalize a0*b0=P0 at *
 generalize (a0+a1+a2)*(b0+b1+b2)=P1 at *
 generalize nd (a0+a2) a1*nd (b0+b2) b1=P2 at *
 generalize (a0+2*a1+4*a2)*(b0+2*b1+4*b2)=P3 at *
 generalize a2*b2=P4 at *
 go_wp2
 clear hW0
 go_loopw [66] (fun iv wr=>∃(i:Nat) (v0 v1 v2 v3 v4:Value),i<=5/\iv=.int .i64 (i:Int)/\fh (X+1+1+1) D g (X+1+1) bz St W0 wr i v0 v1 v2 v3 v4 P0 P1 P2 P3 P4) (fun iv _=>5-(intOf iv).toNat)
 case atStart=>exact⟨0,_,_,_,_,_,by decide,rfl,ae R0⟩
 case round=>
  clear R0
  obtain⟨i,v0,v1,v2,v3,v4,hi,rfl,hr⟩:=hrel
  have hi6:i=0\/i=1\/i=2\/i=3\/i=4\/i=5:=by omega
  clear hi
  rcases hi6 with rfl|rfl|rfl|rfl|rfl|rfl
  ·have hd:=hr.drew (ae HNX)
   have cx:=ae HX0 _ hr.out
   have cy:=ae HY0 _ hr.out
   have od:=hd.out
   have HK:Hid (∀ W,Out (fun j=>(D j\/j=g)\/j=X+1+1) W0 W->W.cell? ⟨X,0,none⟩=some (.slice (some ⟨g0,0,none⟩) h h)/\W.cell? ⟨X+1,0,none⟩=some (.slice (some ⟨g0',0,none⟩) h h)):=fun W q=>⟨ae HX0 W q,ae HY0 W q⟩
   have CC:=hide (ae Q0 _ hd.out hd.st)
   have HRR:=hide hd
   clear hr hd
   go_wp2
   go_region_held3 (fun w'=>w'.cell? ⟨X,0,none⟩=some (.slice (some ⟨g0,0,none⟩) h h)/\w'.cell? ⟨X+1,0,none⟩=some (.slice (some ⟨g0',0,none⟩) h h)) (first|(with_reducible exact ae HK _ od)|(with_reducible exact ae HK _ ow)|(with_reducible exact ae HK _ (ae R5).out)|go_keep) (first
    |(with_reducible refine(ae CC).mono ?_;rintro e w5 ⟨r,rfl,nr,st5,o5⟩;obtain⟨sa,sn,sc,rfl⟩:=nr.inW.is;have Z5:=(ae HRR).box5 o5 (ae HDZ);have cz:=zT Z5;have fz:=Z5.frozen 0;have R5:=hide ((ae HRR).step0 (ae HNX) (ae HZ0) (ae HDZ) (ae HDB) nr st5 o5);have ow:=od.trans (o5.mono (fun k e=>Or.inl e));clear nr st5 o5 Z5 cx cy;obtain⟨cx,cy⟩:=ae HK _ ow)
    |fail)
   all_goals
    focus
     clear CC HRR cx cy od ow HK
     go_wp2
     go_roundw
     case rel=>exact⟨1,_,_,_,_,_,by decide,rfl,ae R5⟩
     case measure=>simp[intOf]
  ·have hd:=hr.drew (ae HNX)
   have cx:=ae HX1 _ hr.out
   have cy:=ae HY1 _ hr.out
   have od:=hd.out
   have HK:Hid (∀ W,Out (fun j=>(D j\/j=g)\/j=X+1+1) W0 W->W.cell? ⟨X,1,none⟩=some (.slice (some ⟨g1,0,none⟩) H1 H1)/\W.cell? ⟨X+1,1,none⟩=some (.slice (some ⟨g1',0,none⟩) H1 H1)):=fun W q=>⟨ae HX1 W q,ae HY1 W q⟩
   have CC:=hide (ae Q1 _ hd.out hd.st)
   have HRR:=hide hd
   clear hr hd
   go_wp2
   go_region_held3 (fun w'=>w'.cell? ⟨X,1,none⟩=some (.slice (some ⟨g1,0,none⟩) H1 H1)/\w'.cell? ⟨X+1,1,none⟩=some (.slice (some ⟨g1',0,none⟩) H1 H1)) (first|(with_reducible exact ae HK _ od)|(with_reducible exact ae HK _ ow)|(with_reducible exact ae HK _ (ae R5).out)|go_keep) (first
    |(with_reducible refine(ae CC).mono ?_;rintro e w5 ⟨r,rfl,nr,st5,o5⟩;obtain⟨sa,sn,sc,rfl⟩:=nr.inW.is;have Z5:=(ae HRR).box5 o5 (ae HDZ);have cz:=zU Z5;have fz:=Z5.frozen 1;have R5:=hide ((ae HRR).step1 (ae HNX) (ae HZ0) (ae HDZ) (ae HDB) nr st5 o5);have ow:=od.trans (o5.mono (fun k e=>Or.inl e));clear nr st5 o5 Z5 cx cy;obtain⟨cx,cy⟩:=ae HK _ ow)
    |fail)
   all_goals
    focus
     clear CC HRR cx cy od ow HK
     go_wp2
     go_roundw
     case rel=>exact⟨2,_,_,_,_,_,by decide,rfl,ae R5⟩
     case measure=>simp[intOf]
  ·have hd:=hr.drew (ae HNX)
   have cx:=ae HX2 _ hr.out
   have cy:=ae HY2 _ hr.out
   have od:=hd.out
   have HK:Hid (∀ W,Out (fun j=>(D j\/j=g)\/j=X+1+1) W0 W->W.cell? ⟨X,2,none⟩=some (.slice (some ⟨g2,0,none⟩) H1 H1)/\W.cell? ⟨X+1,2,none⟩=some (.slice (some ⟨g2',0,none⟩) H1 H1)):=fun W q=>⟨ae HX2 W q,ae HY2 W q⟩
   have CC:=hide (ae Q2 _ hd.out hd.st)
   have HRR:=hide hd
   clear hr hd
   go_wp2
   go_region_held3 (fun w'=>w'.cell? ⟨X,2,none⟩=some (.slice (some ⟨g2,0,none⟩) H1 H1)/\w'.cell? ⟨X+1,2,none⟩=some (.slice (some ⟨g2',0,none⟩) H1 H1)) (first|(with_reducible exact ae HK _ od)|(with_reducible exact ae HK _ ow)|(with_reducible exact ae HK _ (ae R5).out)|go_keep) (first
    |(with_reducible refine(ae CC).mono ?_;rintro e w5 ⟨r,rfl,nr,st5,o5⟩;obtain⟨sa,sn,sc,rfl⟩:=nr.inW.is;have Z5:=(ae HRR).box5 o5 (ae HDZ);have cz:=zV Z5;have fz:=Z5.frozen 2;have R5:=hide ((ae HRR).step2 (ae HNX) (ae HZ0) (ae HDZ) (ae HDB) nr st5 o5);have ow:=od.trans (o5.mono (fun k e=>Or.inl e));clear nr st5 o5 Z5 cx cy;obtain⟨cx,cy⟩:=ae HK _ ow)
    |fail)
   all_goals
    focus
     clear CC HRR cx cy od ow HK
     go_wp2
     go_roundw
     case rel=>exact⟨3,_,_,_,_,_,by decide,rfl,ae R5⟩
     case measure=>simp[intOf]
  ·have hd:=hr.drew (ae HNX)
   have cx:=ae HX3 _ hr.out
   have cy:=ae HY3 _ hr.out
   have od:=hd.out
   have HK:Hid (∀ W,Out (fun j=>(D j\/j=g)\/j=X+1+1) W0 W->W.cell? ⟨X,3,none⟩=some (.slice (some ⟨g3,0,none⟩) H1 H1)/\W.cell? ⟨X+1,3,none⟩=some (.slice (some ⟨g3',0,none⟩) H1 H1)):=fun W q=>⟨ae HX3 W q,ae HY3 W q⟩
   have CC:=hide (ae Q3 _ hd.out hd.st)
   have HRR:=hide hd
   clear hr hd
   go_wp2
   go_region_held3 (fun w'=>w'.cell? ⟨X,3,none⟩=some (.slice (some ⟨g3,0,none⟩) H1 H1)/\w'.cell? ⟨X+1,3,none⟩=some (.slice (some ⟨g3',0,none⟩) H1 H1)) (first|(with_reducible exact ae HK _ od)|(with_reducible exact ae HK _ ow)|(with_reducible exact ae HK _ (ae R5).out)|go_keep) (first
    |(with_reducible refine(ae CC).mono ?_;rintro e w5 ⟨r,rfl,nr,st5,o5⟩;obtain⟨sa,sn,sc,rfl⟩:=nr.inW.is;have Z5:=(ae HRR).box5 o5 (ae HDZ);have cz:=zW Z5;have fz:=Z5.frozen 3;have R5:=hide ((ae HRR).step3 (ae HNX) (ae HZ0) (ae HDZ) (ae HDB) nr st5 o5);have ow:=od.trans (o5.mono (fun k e=>Or.inl e));clear nr st5 o5 Z5 cx cy;obtain⟨cx,cy⟩:=ae HK _ ow)
    |fail)
   all_goals
    focus
     clear CC HRR cx cy od ow HK
     go_wp2
     go_roundw
     case rel=>exact⟨4,_,_,_,_,_,by decide,rfl,ae R5⟩
     case measure=>simp[intOf]
  ·have hd:=hr.drew (ae HNX)
   have cx:=ae HX4 _ hr.out
   have cy:=ae HY4 _ hr.out
   have od:=hd.out
   have HK:Hid (∀ W,Out (fun j=>(D j\/j=g)\/j=X+1+1) W0 W->W.cell? ⟨X,4,none⟩=some (.slice (some ⟨g4,0,none⟩) n1 n1)/\W.cell? ⟨X+1,4,none⟩=some (.slice (some ⟨g4',0,none⟩) m1 m1)):=fun W q=>⟨ae HX4 W q,ae HY4 W q⟩
   have CC:=hide (ae Q4 _ hd.out hd.st)
   have HRR:=hide hd
   clear hr hd
   go_wp2
   go_region_held3 (fun w'=>w'.cell? ⟨X,4,none⟩=some (.slice (some ⟨g4,0,none⟩) n1 n1)/\w'.cell? ⟨X+1,4,none⟩=some (.slice (some ⟨g4',0,none⟩) m1 m1)) (first|(with_reducible exact ae HK _ od)|(with_reducible exact ae HK _ ow)|(with_reducible exact ae HK _ (ae R5).out)|go_keep) (first
    |(with_reducible refine(ae CC).mono ?_;rintro e w5 ⟨r,rfl,nr,st5,o5⟩;obtain⟨sa,sn,sc,rfl⟩:=nr.inW.is;have Z5:=(ae HRR).box5 o5 (ae HDZ);have cz:=zX Z5;have fz:=Z5.frozen 4;have R5:=hide ((ae HRR).step4 (ae HNX) (ae HZ0) (ae HDZ) (ae HDB) nr st5 o5);have ow:=od.trans (o5.mono (fun k e=>Or.inl e));clear nr st5 o5 Z5 cx cy;obtain⟨cx,cy⟩:=ae HK _ ow)
    |fail)
   all_goals
    focus
     clear CC HRR cx cy od ow HK
     go_wp2
     go_roundw
     case rel=>exact⟨5,_,_,_,_,_,by decide,rfl,ae R5⟩
     case measure=>simp[intOf]
  ·have c0:wr.cell? ⟨X+1+1,0,none⟩=some v0:=hr.box.cell 0 (by simp)
   have c1:wr.cell? ⟨X+1+1,1,none⟩=some v1:=hr.box.cell 1 (by simp)
   have c2:wr.cell? ⟨X+1+1,2,none⟩=some v2:=hr.box.cell 2 (by simp)
   have c3:wr.cell? ⟨X+1+1,3,none⟩=some v3:=hr.box.cell 3 (by simp)
   have c4:wr.cell? ⟨X+1+1,4,none⟩=some v4:=hr.box.cell 4 (by simp)
   have c5:wr.cell? ⟨X+1+1,5,none⟩=some (.bool bz):=hr.box.cell 5 (by simp)
   have CJ:=hide (ae CJ wr v0 v1 v2 v3 v4 (hr.r0 (by decide)).inW (hr.r1 (by decide)).inW (hr.r2 (by decide)).inW (hr.r3 (by decide)).inW (hr.r4 (by decide)).inW)
   have ST:=hide hr.st
   have OW:=hide hr.out
   clear hr Q0 Q1 Q2 Q3 Q4 HX0 HX1 HX2 HX3 HX4 HY0 HY1 HY2 HY3 HY4 HDZ HZ0
   go_wp2_with fail
   refine(ae CJ).mono ?_
   rintro e w8 ⟨r8,rfl,n8,b8⟩
   have st8:=ae HNX 5 wr w8 (ae ST) (Out.of_below b8)
   obtain⟨s8,m8,K8⟩:=(ae HI).eng 5 w8 st8
   rw[ae HV]at n8
   have ST8:=hide st8
   have M8:=hide K8.kara.eng.met
   have OA:=hide ((((ae O3).mono (fun k e=>Or.inr e)).fresh (ae OW) (ae HF)).next b8)
   have N8:=hide n8
   have SZ:=hide (Nat.le_trans (ae sW0) (ae OW).size)
   have GL:=hide (Nat.lt_of_lt_of_le (ae HDB g (Or.inl (Or.inr rfl))) (Nat.le_trans (ae sW1) (ae OW).size))
   clear n8 st8 K8 HV CJ c0 c1 c2 c3 c4 c5 b8 HI HNX ST OW hcf
   go_wp2
   refine leaves_cons (f:=123) (args:=#[.pointer (some ⟨g,0,none⟩)]) (by simp) (by simp[go_sem]) ?_
   refine(bm l .returning (ae M8) (by have:=ae hl2;omega) (by have:=ae hl2;omega) (by have:=ae hl3;omega)).mono ?_
   rintro e u' w9 ⟨rfl,rfl,M9,T9⟩
   have O9:=Out.of_grown T9.grown
   refine⟨_,results_tmp2 rfl _ _ _,r8,w8,rfl,?_,ae ST8,O9,?_,?_⟩
   ·exact(O9.newW (ae N8) (fun k e=>by rw[e];exact ae GL)).mono (ae SZ)
   ·intro s' m' K
    obtain⟨rfl,_,rfl⟩:=K.kara.eng.met.one (ae M8)
    exact K.step M9 T9
   ·exact(ae OA).trans (O9.mono (fun k e=>Or.inr e))
end Go.Proofs.YtgcnhfgpflncaaaGreatDoor
/- ToomSqr of the landed toom:a square in three pieces. -/
namespace Go.Proofs.YtgcnhfgpflncaaaGreatDoor
open Go.RowKit
set_option maxRecDepth 100000 in
set_option maxHeartbeats 6400000 in
theorem EG:Bh:=by
 intro w gt gk ge g s l m T ga b o cap la h xs k fs cs D St hE hl0 hl1 hxl hR hdx hbD hla hh hlt nt nk ne ng hD hI hS
 have CH:=hide (fun w=>mZ w ga la cap h (by omega) hh)
 have hM:=hE.kara.eng.met
 have hgl:=hM.lt
 have CE:=hide (dh (l+1) (max m (l+1)) hM rfl rfl (by omega) (by omega))
 have e0:=hE.ptr
 have e1:=hE.kara.ptr
 have e2:=hE.kara.eng.ptr
 have HE:=hide hE
 obtain⟨K2,hK2⟩:∃ K2,2*h=K2:=⟨_,rfl⟩
 have j1:2*(h:Int)=(K2:Int):=by omega
 have j2:IntKind.i64.wrap (K2:Int)=(K2:Int):=by rw[IntKind.wrap_i64];omega
 have ngt:¬la<=K2:=by omega
 have hcf:=hI.go
 have HI:=hide hI
 have HS:=hide hS
 have HD:=hide hD
 have HR:=hide hR
 have h3:la<=3*h:=by omega
 have h1:0<h:=by omega
 clear hE hM hI hS hD hR hh nt nk ne ng hbD
 go_enter_defers Tryz.func102,Tryz.ntmps102
 go_wp2_with fail
 refine(ae CH _).mono ?_
 rintro e w1 ⟨rfl,hw1⟩
 obtain rfl:=hw1.symm
 clear hw1 CH
 go_wp2_with fail
 refine(ae CE).mono ?_
 rintro e w1 ⟨rfl,M1,T1⟩
 have K1:=(ae HE).step M1 T1
 have r1:=(ae HR).touch (ae HE).kara.eng.met T1
 have e0:=K1.ptr
 have e1:=K1.kara.ptr
 have e2:=K1.kara.eng.ptr
 have s1:=T1.grown.size
 have O1:=hide (Out.of_grown T1.grown)
 clear CE M1 T1
 obtain⟨a0,q0⟩:∃ a0,a0=af xs%18446744073709551616^h:=⟨_,rfl⟩
 obtain⟨a1,q1⟩:∃ a1,a1=af xs/18446744073709551616^h%18446744073709551616^h:=⟨_,rfl⟩
 obtain⟨a2,q2⟩:∃ a2,a2=af xs/18446744073709551616^h/18446744073709551616^h:=⟨_,rfl⟩
 have CV:=hide (jP w1 _ _ _ _ _ h xs a0 a1 a2 hxl hla h1 hlt h3 r1 hdx q0 q1 q2)
 go_wp2_with fail
 refine(ae CV).mono ?_
 rintro e w3 ⟨v2,rfl,p2,b3⟩
 clear CV
 obtain⟨g0,g1,g2,g3,g4,z0,z1,z2,z3,z4,rfl,t0,t1,t2,t3,t4⟩:=p2.out
 have s3:=b3.size
 have O3:=hide ((ae O1).next b3)
 have K3:=K1.next b3
 clear r1 p2 e0 e1 e2
 obtain⟨H1,hH1⟩:∃ H1,h+1=H1:=⟨_,rfl⟩
 obtain⟨n1,hn1⟩:∃ n1,la-2*h=n1:=⟨_,rfl⟩
 rw[hH1,hn1]
 rw[hH1]at t1 t2 t3
 rw[hn1]at t4
 generalize decide (a0+a2<a1)=bl
 have HF5:=Gz a0 a1 a2
 have bb:Below w3.heap.size w3 ((w3.alloc (.cells #[.slice (some ⟨g0,0,none⟩) h h,.slice (some ⟨g1,0,none⟩) H1 H1,.slice (some ⟨g2,0,none⟩) H1 H1,.slice (some ⟨g3,0,none⟩) H1 H1,.slice (some ⟨g4,0,none⟩) n1 n1,.bool bl] 157)).alloc (.cells #[.slice none 0 0,.slice none 0 0,.slice none 0 0,.slice none 0 0,.slice none 0 0,.bool false] 157)):=((Below.refl _ _).alloc (Nat.le_refl _) _).alloc (by simp) _
 have kX:=(((Below.refl _ _).alloc (Nat.le_refl _) (.cells #[.slice none 0 0,.slice none 0 0,.slice none 0 0,.slice none 0 0,.slice none 0 0,.bool false] 157)).block w3.heap.size (by simp)).trans (heap_alloc_new w3 (.cells #[.slice (some ⟨g0,0,none⟩) h h,.slice (some ⟨g1,0,none⟩) H1 H1,.slice (some ⟨g2,0,none⟩) H1 H1,.slice (some ⟨g3,0,none⟩) H1 H1,.slice (some ⟨g4,0,none⟩) n1 n1,.bool bl] 157))
 have kZ:=heap_alloc_new (w3.alloc (.cells #[.slice (some ⟨g0,0,none⟩) h h,.slice (some ⟨g1,0,none⟩) H1 H1,.slice (some ⟨g2,0,none⟩) H1 H1,.slice (some ⟨g3,0,none⟩) H1 H1,.slice (some ⟨g4,0,none⟩) n1 n1,.bool bl] 157)) (.cells #[.slice none 0 0,.slice none 0 0,.slice none 0 0,.slice none 0 0,.slice none 0 0,.bool false] 157)
 have sQ:(w3.alloc (.cells #[.slice (some ⟨g0,0,none⟩) h h,.slice (some ⟨g1,0,none⟩) H1 H1,.slice (some ⟨g2,0,none⟩) H1 H1,.slice (some ⟨g3,0,none⟩) H1 H1,.slice (some ⟨g4,0,none⟩) n1 n1,.bool bl] 157)).heap.size=w3.heap.size+1:=by simp
 rw[sQ]at kZ
 clear sQ
 have sB:((w3.alloc (.cells #[.slice (some ⟨g0,0,none⟩) h h,.slice (some ⟨g1,0,none⟩) H1 H1,.slice (some ⟨g2,0,none⟩) H1 H1,.slice (some ⟨g3,0,none⟩) H1 H1,.slice (some ⟨g4,0,none⟩) n1 n1,.bool bl] 157)).alloc (.cells #[.slice none 0 0,.slice none 0 0,.slice none 0 0,.slice none 0 0,.slice none 0 0,.bool false] 157)).heap.size=w3.heap.size+1+1:=by simp
 obtain⟨W0,hW0⟩:∃ W0,(w3.alloc (.cells #[.slice (some ⟨g0,0,none⟩) h h,.slice (some ⟨g1,0,none⟩) H1 H1,.slice (some ⟨g2,0,none⟩) H1 H1,.slice (some ⟨g3,0,none⟩) H1 H1,.slice (some ⟨g4,0,none⟩) n1 n1,.bool bl] 157)).alloc (.cells #[.slice none 0 0,.slice none 0 0,.slice none 0 0,.slice none 0 0,.slice none 0 0,.bool false] 157)=W0:=⟨_,rfl⟩
 rw[hW0]at bb kX kZ sB
 obtain⟨X,hX⟩:∃ X,w3.heap.size=X:=⟨_,rfl⟩
 rw[hX]at kX kZ sB
 have sW:=bb.size
 have l0:g0<X:=by rw[<-hX];exact t0.blk.lt
 have l1:g1<X:=by rw[<-hX];exact t1.blk.lt
 have l2:g2<X:=by rw[<-hX];exact t2.blk.lt
 have l3:g3<X:=by rw[<-hX];exact t3.blk.lt
 have l4:g4<X:=by rw[<-hX];exact t4.blk.lt
 have t0:=t0.next bb
 have t1:=t1.next bb
 have t2:=t2.next bb
 have t3:=t3.next bb
 have t4:=t4.next bb
 have y0:=t0.ge
 have y1:=t1.ge
 have y2:=t2.ge
 have y3:=t3.ge
 have y4:=t4.ge
 have O3:=hide ((ae O3).next bb)
 have S0:=hide (ae HS _ (ae O3) (K3.next bb))
 have DN:∀ q,w.heap.size<=q->¬(D q\/q=g):=fun q hq x=>by
  rcases x with x|x
  ·have:=ae HD q x;omega
  ·omega
 have HDZ:Hid (¬(D (X+1)\/X+1=g)):=DN _ (by omega)
 have HDB:Hid (∀ q,(D q\/q=g)\/q=X+1->q<X+1+1):=fun q x=>by
  rcases x with(x|x)|x
  ·have:=ae HD q x;omega
  ·omega
  ·omega
 have HZ0:Hid (w.heap.size<=X+1):=by show _<=_;omega
 have HNX:=hide ((ae HI).next)
 have HN:Hid (∀ q,w.heap.size<=q->q<X+1->¬((D q\/q=g)\/q=X+1)):=fun q hq hz x=>by
  rcases x with x|x
  ·exact DN q hq x
  ·omega
 have HX0:Hid (∀ W,Out (fun j=>(D j\/j=g)\/j=X+1) W0 W->W.cell? ⟨X,0,none⟩=some (.slice (some ⟨g0,0,none⟩) h h)):=fun W q=>cell_of_row _ X 0 _ _ (0,0) ((q.block X (Array.getElem?_eq_some_iff.1 kX).1 (ae HN _ (by omega) (by omega))).trans kX)
 have HX1:Hid (∀ W,Out (fun j=>(D j\/j=g)\/j=X+1) W0 W->W.cell? ⟨X,1,none⟩=some (.slice (some ⟨g1,0,none⟩) H1 H1)):=fun W q=>cell_of_row _ X 1 _ _ (0,0) ((q.block X (Array.getElem?_eq_some_iff.1 kX).1 (ae HN _ (by omega) (by omega))).trans kX)
 have HX2:Hid (∀ W,Out (fun j=>(D j\/j=g)\/j=X+1) W0 W->W.cell? ⟨X,2,none⟩=some (.slice (some ⟨g2,0,none⟩) H1 H1)):=fun W q=>cell_of_row _ X 2 _ _ (0,0) ((q.block X (Array.getElem?_eq_some_iff.1 kX).1 (ae HN _ (by omega) (by omega))).trans kX)
 have HX3:Hid (∀ W,Out (fun j=>(D j\/j=g)\/j=X+1) W0 W->W.cell? ⟨X,3,none⟩=some (.slice (some ⟨g3,0,none⟩) H1 H1)):=fun W q=>cell_of_row _ X 3 _ _ (0,0) ((q.block X (Array.getElem?_eq_some_iff.1 kX).1 (ae HN _ (by omega) (by omega))).trans kX)
 have HX4:Hid (∀ W,Out (fun j=>(D j\/j=g)\/j=X+1) W0 W->W.cell? ⟨X,4,none⟩=some (.slice (some ⟨g4,0,none⟩) n1 n1)):=fun W q=>cell_of_row _ X 4 _ _ (0,0) ((q.block X (Array.getElem?_eq_some_iff.1 kX).1 (ae HN _ (by omega) (by omega))).trans kX)
 have Q0:Hid (∀ W,Out (fun j=>(D j\/j=g)\/j=X+1) W0 W->St 0 W->Calls Tryz.prog k (fs.push (.slice (some ⟨g0,0,none⟩) h h)++cs) W fun e W'=>∃ r,e=.returned r/\aO (X+1+1) W' r (a0*a0)/\St 1 W'/\Out (fun j=>D j\/j=g) W W'):=fun W q st=>by
  have sz:=q.size
  rw[Array.push_eq_append]
  refine((ae HI).call 0 W _ _ (by omega) st (by rw[show(ey la la h 0).1=h from rfl];exact t0.inD q (ae HN _ (by omega) (by omega)) (DN _ (by omega)))).mono ?_
  rintro e W' ⟨r,rfl,n,st',q'⟩
  exact⟨r,rfl,n.mono (by omega),st',q'⟩
 have Q1:Hid (∀ W,Out (fun j=>(D j\/j=g)\/j=X+1) W0 W->St 1 W->Calls Tryz.prog k (fs.push (.slice (some ⟨g1,0,none⟩) H1 H1)++cs) W fun e W'=>∃ r,e=.returned r/\aO (X+1+1) W' r ((a0+a1+a2)*(a0+a1+a2))/\St 2 W'/\Out (fun j=>D j\/j=g) W W'):=fun W q st=>by
  have sz:=q.size
  rw[Array.push_eq_append]
  refine((ae HI).call 1 W _ _ (by omega) st (by rw[show(ey la la h 1).1=H1 from hH1];exact t1.inD q (ae HN _ (by omega) (by omega)) (DN _ (by omega)))).mono ?_
  rintro e W' ⟨r,rfl,n,st',q'⟩
  exact⟨r,rfl,n.mono (by omega),st',q'⟩
 have Q2:Hid (∀ W,Out (fun j=>(D j\/j=g)\/j=X+1) W0 W->St 2 W->Calls Tryz.prog k (fs.push (.slice (some ⟨g2,0,none⟩) H1 H1)++cs) W fun e W'=>∃ r,e=.returned r/\aO (X+1+1) W' r (nd (a0+a2) a1*nd (a0+a2) a1)/\St 3 W'/\Out (fun j=>D j\/j=g) W W'):=fun W q st=>by
  have sz:=q.size
  rw[Array.push_eq_append]
  refine((ae HI).call 2 W _ _ (by omega) st (by rw[show(ey la la h 2).1=H1 from hH1];exact t2.inD q (ae HN _ (by omega) (by omega)) (DN _ (by omega)))).mono ?_
  rintro e W' ⟨r,rfl,n,st',q'⟩
  exact⟨r,rfl,n.mono (by omega),st',q'⟩
 have Q3:Hid (∀ W,Out (fun j=>(D j\/j=g)\/j=X+1) W0 W->St 3 W->Calls Tryz.prog k (fs.push (.slice (some ⟨g3,0,none⟩) H1 H1)++cs) W fun e W'=>∃ r,e=.returned r/\aO (X+1+1) W' r ((a0+2*a1+4*a2)*(a0+2*a1+4*a2))/\St 4 W'/\Out (fun j=>D j\/j=g) W W'):=fun W q st=>by
  have sz:=q.size
  rw[Array.push_eq_append]
  refine((ae HI).call 3 W _ _ (by omega) st (by rw[show(ey la la h 3).1=H1 from hH1];exact t3.inD q (ae HN _ (by omega) (by omega)) (DN _ (by omega)))).mono ?_
  rintro e W' ⟨r,rfl,n,st',q'⟩
  exact⟨r,rfl,n.mono (by omega),st',q'⟩
 have Q4:Hid (∀ W,Out (fun j=>(D j\/j=g)\/j=X+1) W0 W->St 4 W->Calls Tryz.prog k (fs.push (.slice (some ⟨g4,0,none⟩) n1 n1)++cs) W fun e W'=>∃ r,e=.returned r/\aO (X+1+1) W' r (a2*a2)/\St 5 W'/\Out (fun j=>D j\/j=g) W W'):=fun W q st=>by
  have sz:=q.size
  rw[Array.push_eq_append]
  refine((ae HI).call 4 W _ _ (by omega) st (by rw[show(ey la la h 4).1=n1 from hn1];exact t4.inD q (ae HN _ (by omega) (by omega)) (DN _ (by omega)))).mono ?_
  rintro e W' ⟨r,rfl,n,st',q'⟩
  exact⟨r,rfl,n.mono (by omega),st',q'⟩
 have R0:Hid (fh (X+1+1) D g (X+1) false St W0 W0 0 (.slice none 0 0) (.slice none 0 0) (.slice none 0 0) (.slice none 0 0) (.slice none 0 0) (a0*a0) ((a0+a1+a2)*(a0+a1+a2)) (nd (a0+a2) a1*nd (a0+a2) a1) ((a0+2*a1+4*a2)*(a0+2*a1+4*a2)) (a2*a2)):=⟨ae S0,kZ,Out.refl _ _,fun h=>absurd h (by decide),fun h=>absurd h (by decide),fun h=>absurd h (by decide),fun h=>absurd h (by decide),fun h=>absurd h (by decide)⟩
 have CJ:Hid (∀ W u0 u1 u2 u3 u4,aL W u0 (a0*a0)->aL W u1 ((a0+a1+a2)*(a0+a1+a2))->aL W u2 (nd (a0+a2) a1*nd (a0+a2) a1)->aL W u3 ((a0+2*a1+4*a2)*(a0+2*a1+4*a2))->aL W u4 (a2*a2)->Calls Tryz.prog 135 #[.agg #[u0,u1,u2,u3,u4,.bool false],.int .i64 (h:Int)] W fun e w'=>∃ r,e=.returned r/\ah W.heap.size w' r (ud h (a0*a0) (a0*a1+a1*a0) (a0*a2+a1*a1+a2*a0) (a1*a2+a2*a1) (a2*a2))/\Below W.heap.size W w'):=fun W u0 u1 u2 u3 u4 i0 i1 i2 i3 i4=>nA W u0 u1 u2 u3 u4 false _ _ _ _ _ _ _ _ h (h+1+(h+1)+1) (by omega) (by omega) HF5 (nn (by rw[<-t3.val];have:=ak t3.dig;rw[t3.len, <-hH1]at this;exact this) (by rw[<-t3.val];have:=ak t3.dig;rw[t3.len, <-hH1]at this;exact this)) i0 i1 i2 i3 i4
 have HV:=hide (qd h (af xs) (af xs) a0 a1 a2 a0 a1 a2 q0 q1 q2 q0 q1 q2)
 have HF:Hid (∀ i,(D i\/i=g)\/i=X+1->(D i\/i=g)\/w.heap.size<=i):=fun i x=>by
  rcases x with x|x
  ·exact Or.inl x
  ·exact Or.inr (by omega)
 have sW0:Hid (w.heap.size<=W0.heap.size):=by show _<=_;omega
 have sW1:Hid (X+1+1<=W0.heap.size):=by show _<=_;omega
 have hl2:=hide hl0
 have hl3:=hide hl1
 clear HS HD HR HE S0 O1 K3 K1 DN HN kX kZ bb b3 t0 t1 t2 t3 t4 l0 l1 l2 l3 l4 y0 y1 y2 y3 y4 HF5 q0 q1 q2 s1 s3 sW sB hH1 hn1 hl0 hl1 h1 h3 hlt hgl hK2 hla hxl hdx
 generalize a0*a0=P0 at *
 generalize (a0+a1+a2)*(a0+a1+a2)=P1 at *
 generalize nd (a0+a2) a1*nd (a0+a2) a1=P2 at *
 generalize (a0+2*a1+4*a2)*(a0+2*a1+4*a2)=P3 at *
 generalize a2*a2=P4 at *
 go_wp2
 clear hW0
 go_loopw [47] (fun iv wr=>∃(i:Nat) (v0 v1 v2 v3 v4:Value),i<=5/\iv=.int .i64 (i:Int)/\fh (X+1+1) D g (X+1) false St W0 wr i v0 v1 v2 v3 v4 P0 P1 P2 P3 P4) (fun iv _=>5-(intOf iv).toNat)
 case atStart=>exact⟨0,_,_,_,_,_,by decide,rfl,ae R0⟩
 case round=>
  clear R0
  obtain⟨i,v0,v1,v2,v3,v4,hi,rfl,hr⟩:=hrel
  have hi6:i=0\/i=1\/i=2\/i=3\/i=4\/i=5:=by omega
  clear hi
  rcases hi6 with rfl|rfl|rfl|rfl|rfl|rfl
  ·have cx:=ae HX0 _ hr.out
   have CC:=hide (ae Q0 _ hr.out hr.st)
   have HRR:=hide hr
   clear hr
   go_wp2_with fail
   refine(ae CC).mono ?_
   rintro e w5 ⟨r,rfl,nr,st5,o5⟩
   obtain⟨sa,sn,sc,rfl⟩:=nr.inW.is
   have Z5:=(ae HRR).box5 o5 (ae HDZ)
   have cz:w5.cell? ⟨X+1,0,none⟩=some v0:=Z5.cell 0 (by simp)
   have fz:=Z5.frozen 0
   have R5:=hide ((ae HRR).step0 (ae HNX) (ae HZ0) (ae HDZ) (ae HDB) nr st5 o5)
   clear nr st5 o5 Z5 CC HRR cx
   go_wp2
   go_roundw
   case rel=>exact⟨1,_,_,_,_,_,by decide,rfl,ae R5⟩
   case measure=>simp[intOf]
  ·have cx:=ae HX1 _ hr.out
   have CC:=hide (ae Q1 _ hr.out hr.st)
   have HRR:=hide hr
   clear hr
   go_wp2_with fail
   refine(ae CC).mono ?_
   rintro e w5 ⟨r,rfl,nr,st5,o5⟩
   obtain⟨sa,sn,sc,rfl⟩:=nr.inW.is
   have Z5:=(ae HRR).box5 o5 (ae HDZ)
   have cz:w5.cell? ⟨X+1,1,none⟩=some v1:=Z5.cell 1 (by simp)
   have fz:=Z5.frozen 1
   have R5:=hide ((ae HRR).step1 (ae HNX) (ae HZ0) (ae HDZ) (ae HDB) nr st5 o5)
   clear nr st5 o5 Z5 CC HRR cx
   go_wp2
   go_roundw
   case rel=>exact⟨2,_,_,_,_,_,by decide,rfl,ae R5⟩
   case measure=>simp[intOf]
  ·have cx:=ae HX2 _ hr.out
   have CC:=hide (ae Q2 _ hr.out hr.st)
   have HRR:=hide hr
   clear hr
   go_wp2_with fail
   refine(ae CC).mono ?_
   rintro e w5 ⟨r,rfl,nr,st5,o5⟩
   obtain⟨sa,sn,sc,rfl⟩:=nr.inW.is
   have Z5:=(ae HRR).box5 o5 (ae HDZ)
   have cz:w5.cell? ⟨X+1,2,none⟩=some v2:=Z5.cell 2 (by simp)
   have fz:=Z5.frozen 2
   have R5:=hide ((ae HRR).step2 (ae HNX) (ae HZ0) (ae HDZ) (ae HDB) nr st5 o5)
   clear nr st5 o5 Z5 CC HRR cx
   go_wp2
   go_roundw
   case rel=>exact⟨3,_,_,_,_,_,by decide,rfl,ae R5⟩
   case measure=>simp[intOf]
  ·have cx:=ae HX3 _ hr.out
   have CC:=hide (ae Q3 _ hr.out hr.st)
   have HRR:=hide hr
   clear hr
   go_wp2_with fail
   refine(ae CC).mono ?_
   rintro e w5 ⟨r,rfl,nr,st5,o5⟩
   obtain⟨sa,sn,sc,rfl⟩:=nr.inW.is
   have Z5:=(ae HRR).box5 o5 (ae HDZ)
   have cz:w5.cell? ⟨X+1,3,none⟩=some v3:=Z5.cell 3 (by simp)
   have fz:=Z5.frozen 3
   have R5:=hide ((ae HRR).step3 (ae HNX) (ae HZ0) (ae HDZ) (ae HDB) nr st5 o5)
   clear nr st5 o5 Z5 CC HRR cx
   go_wp2
   go_roundw
   case rel=>exact⟨4,_,_,_,_,_,by decide,rfl,ae R5⟩
   case measure=>simp[intOf]
  ·have cx:=ae HX4 _ hr.out
   have CC:=hide (ae Q4 _ hr.out hr.st)
   have HRR:=hide hr
   clear hr
   go_wp2_with fail
   refine(ae CC).mono ?_
   rintro e w5 ⟨r,rfl,nr,st5,o5⟩
   obtain⟨sa,sn,sc,rfl⟩:=nr.inW.is
   have Z5:=(ae HRR).box5 o5 (ae HDZ)
   have cz:w5.cell? ⟨X+1,4,none⟩=some v4:=Z5.cell 4 (by simp)
   have fz:=Z5.frozen 4
   have R5:=hide ((ae HRR).step4 (ae HNX) (ae HZ0) (ae HDZ) (ae HDB) nr st5 o5)
   clear nr st5 o5 Z5 CC HRR cx
   go_wp2
   go_roundw
   case rel=>exact⟨5,_,_,_,_,_,by decide,rfl,ae R5⟩
   case measure=>simp[intOf]
  ·have c0:wr.cell? ⟨X+1,0,none⟩=some v0:=hr.box.cell 0 (by simp)
   have c1:wr.cell? ⟨X+1,1,none⟩=some v1:=hr.box.cell 1 (by simp)
   have c2:wr.cell? ⟨X+1,2,none⟩=some v2:=hr.box.cell 2 (by simp)
   have c3:wr.cell? ⟨X+1,3,none⟩=some v3:=hr.box.cell 3 (by simp)
   have c4:wr.cell? ⟨X+1,4,none⟩=some v4:=hr.box.cell 4 (by simp)
   have c5:wr.cell? ⟨X+1,5,none⟩=some (.bool false):=hr.box.cell 5 (by simp)
   have CJ:=hide (ae CJ wr v0 v1 v2 v3 v4 (hr.r0 (by decide)).inW (hr.r1 (by decide)).inW (hr.r2 (by decide)).inW (hr.r3 (by decide)).inW (hr.r4 (by decide)).inW)
   have ST:=hide hr.st
   have OW:=hide hr.out
   clear hr Q0 Q1 Q2 Q3 Q4 HX0 HX1 HX2 HX3 HX4 HDZ HZ0
   go_wp2_with fail
   refine(ae CJ).mono ?_
   rintro e w8 ⟨r8,rfl,n8,b8⟩
   have st8:=ae HNX 5 wr w8 (ae ST) (Out.of_below b8)
   obtain⟨s8,m8,K8⟩:=(ae HI).eng 5 w8 st8
   rw[ae HV]at n8
   have ST8:=hide st8
   have M8:=hide K8.kara.eng.met
   have OA:=hide ((((ae O3).mono (fun k e=>Or.inr e)).fresh (ae OW) (ae HF)).next b8)
   have N8:=hide n8
   have SZ:=hide (Nat.le_trans (ae sW0) (ae OW).size)
   have GL:=hide (Nat.lt_of_lt_of_le (ae HDB g (Or.inl (Or.inr rfl))) (Nat.le_trans (ae sW1) (ae OW).size))
   clear n8 st8 K8 HV CJ c0 c1 c2 c3 c4 c5 b8 HI HNX ST OW hcf
   go_wp2
   refine leaves_cons (f:=123) (args:=#[.pointer (some ⟨g,0,none⟩)]) (by simp) (by simp[go_sem]) ?_
   refine(bm l .returning (ae M8) (by have:=ae hl2;omega) (by have:=ae hl2;omega) (by have:=ae hl3;omega)).mono ?_
   rintro e u' w9 ⟨rfl,rfl,M9,T9⟩
   have O9:=Out.of_grown T9.grown
   refine⟨_,results_tmp2 rfl _ _ _,r8,w8,rfl,?_,ae ST8,O9,?_,?_⟩
   ·exact(O9.newW (ae N8) (fun k e=>by rw[e];exact ae GL)).mono (ae SZ)
   ·intro s' m' K
    obtain⟨rfl,_,rfl⟩:=K.kara.eng.met.one (ae M8)
    exact K.step M9 T9
   ·exact(ae OA).trans (O9.mono (fun k e=>Or.inr e))
end Go.Proofs.YtgcnhfgpflncaaaGreatDoor
/- Toom of the landed toom,the other way round;what is refused. Written by gen_otoom.py. -/
namespace Go.Proofs.YtgcnhfgpflncaaaGreatDoor
open Go.RowKit
set_option maxRecDepth 100000 in
set_option maxHeartbeats 6400000 in
theorem ML(w:World)(gt gk ge g:Nat)(s l m:Int)(T:Tab)(ga gb:Option Addr)(b o cap la b' o' cap' lb h:Nat)(xs ys:List Nat)(k:Nat)(fs cs:Array Value)(D:Nat->Prop)(St:Nat->World->Prop)
 (hE:cO w gt gk ge g s l m T) (hl0:0<=l) (hl1:l<=1000000) (hxl:xs.length=la) (hR:Rep w ga b o cap xs) (hdx:ao xs) (_hbD:0<la->¬D b) (hyl:ys.length=lb) (hR':Rep w gb b' o' cap' ys) (hdy:ao ys) (_hbD':0<lb->¬D b') (hla:la<=16384) (hlb:lb<=16384)
 (hh:h=(max la lb+2)/3) (hlt:2*h<min la lb) (_nt:¬D gt) (_nk:¬D gk) (_ne:¬D ge) (_ng:¬D g) (hD:∀ j,D j->j<w.heap.size) (hI:ND w.heap.size gt gk ge g l T (max la lb) (min la lb) h k fs cs D St)
 (hS:∀ W,Out (·=g) w W->cO W gt gk ge g s (l+1) (max m (l+1)) T->St 0 W) (hsw:la<lb):
 Calls Tryz.prog 147 #[.pointer (some ⟨gt,0,none⟩),.slice ga la cap,.slice gb lb cap',.func (.func k) fs cs] w fun e w'=>∃ v W,e=.returned (.tuple #[v,.bool true])/\ah w.heap.size w' v (af xs*af ys)/\St 5 W/\Out (·=g) W w'/\(∀ s' m',cO W gt gk ge g s' (l+1) m' T->cO w' gt gk ge g s' l m' T)/\Out (fun j=>D j\/j=g) w w':=by
 have hn:max la lb=lb:=by omega
 have hm:min la lb=la:=by omega
 rw[hn,hm]at hI
 rw[hn]at hh
 rw[hm]at hlt
 have CH:=hide (fun w=>mZ w gb lb cap' h (by omega) hh)
 have hM:=hE.kara.eng.met
 have hgl:=hM.lt
 have CE:=hide (dh (l+1) (max m (l+1)) hM rfl rfl (by omega) (by omega))
 have e0:=hE.ptr
 have e1:=hE.kara.ptr
 have e2:=hE.kara.eng.ptr
 have HE:=hide hE
 obtain⟨K2,hK2⟩:∃ K2,2*h=K2:=⟨_,rfl⟩
 have j1:2*(h:Int)=(K2:Int):=by omega
 have j2:IntKind.i64.wrap (K2:Int)=(K2:Int):=by rw[IntKind.wrap_i64];omega
 have ngt:¬la<=K2:=by omega
 have hcf:=hI.go
 have HI:=hide hI
 have HS:=hide hS
 have HD:=hide hD
 have HR':=hide hR'
 have HR:=hide hR
 have h3:lb<=3*h:=by omega
 have h3':la<=3*h:=by omega
 have hlt1:2*h<lb:=by omega
 have h1:0<h:=by omega
 clear hE hM hI hS hD hR' hR hh hn hm _ng _nt _nk _ne _hbD' _hbD
 go_enter_defers Tryz.func147,Tryz.ntmps147
 go_wp2_with fail
 refine(ae CH _).mono ?_
 rintro e w1 ⟨rfl,hw1⟩
 obtain rfl:=hw1.symm
 clear hw1 CH
 go_wp2_with fail
 refine(ae CE).mono ?_
 rintro e w1 ⟨rfl,M1,T1⟩
 have K1:=(ae HE).step M1 T1
 have r1:=(ae HR').touch (ae HE).kara.eng.met T1
 have r1':=(ae HR).touch (ae HE).kara.eng.met T1
 have e0:=K1.ptr
 have e1:=K1.kara.ptr
 have e2:=K1.kara.eng.ptr
 have s1:=T1.grown.size
 have O1:=hide (Out.of_grown T1.grown)
 clear CE M1 T1
 obtain⟨a0,q0⟩:∃ a0,a0=af ys%18446744073709551616^h:=⟨_,rfl⟩
 obtain⟨a1,q1⟩:∃ a1,a1=af ys/18446744073709551616^h%18446744073709551616^h:=⟨_,rfl⟩
 obtain⟨a2,q2⟩:∃ a2,a2=af ys/18446744073709551616^h/18446744073709551616^h:=⟨_,rfl⟩
 obtain⟨b0,q0'⟩:∃ b0,b0=af xs%18446744073709551616^h:=⟨_,rfl⟩
 obtain⟨b1,q1'⟩:∃ b1,b1=af xs/18446744073709551616^h%18446744073709551616^h:=⟨_,rfl⟩
 obtain⟨b2,q2'⟩:∃ b2,b2=af xs/18446744073709551616^h/18446744073709551616^h:=⟨_,rfl⟩
 have CV:=hide (jP w1 _ _ _ _ _ h ys a0 a1 a2 hyl hlb h1 hlt1 h3 r1 hdy q0 q1 q2)
 have CV':=hide (fun W (bb:Below w1.heap.size w1 W)=>jP W _ _ _ _ _ h xs b0 b1 b2 hxl hla h1 hlt h3' (r1'.next bb) hdx q0' q1' q2')
 clear r1 r1'
 go_wp2_with fail
 refine(ae CV).mono ?_
 rintro e w2 ⟨v2,rfl,p2,bs2⟩
 have CV':=hide (ae CV' _ bs2)
 clear CV
 go_wp2_with fail
 refine(ae CV').mono ?_
 rintro e w3 ⟨v3,rfl,p3,bs3⟩
 obtain⟨g0,g1,g2,g3,g4,z0,z1,z2,z3,z4,rfl,t0,t1,t2,t3,t4⟩:=p2.out
 obtain⟨g0',g1',g2',g3',g4',z0',z1',z2',z3',z4',rfl,t0',t1',t2',t3',t4'⟩:=p3.out
 have s2:=bs2.size
 have t0:=t0.next bs3
 have t1:=t1.next bs3
 have t2:=t2.next bs3
 have t3:=t3.next bs3
 have t4:=t4.next bs3
 have t0':=t0'.mono s2
 have t1':=t1'.mono s2
 have t2':=t2'.mono s2
 have t3':=t3'.mono s2
 have t4':=t4'.mono s2
 have b3:=ag bs2 bs3
 have s3:=b3.size
 have O3:=hide ((ae O1).next b3)
 have K3:=K1.next b3
 clear p2 p3 e0 e1 e2 CV' bs2 bs3
 obtain⟨H1,hH1⟩:∃ H1,h+1=H1:=⟨_,rfl⟩
 obtain⟨n1,hn1⟩:∃ n1,lb-2*h=n1:=⟨_,rfl⟩
 obtain⟨m1,hm1⟩:∃ m1,la-2*h=m1:=⟨_,rfl⟩
 rw[hH1,hn1,hm1]
 rw[hH1]at t1 t2 t3 t1' t2' t3'
 rw[hn1]at t4
 rw[hm1]at t4'
 have HF5:=pf a0 a1 a2 b0 b1 b2
 -- mark
 generalize decide (a0+a2<a1)=ba at *
 generalize decide (b0+b2<b1)=bb at *
 obtain⟨bz,hbz⟩:∃ bz,(!(ba==bb))=bz:=⟨_,rfl⟩
 have HF5:nS (!(ba==bb)) _ _ _ _ _ _ _ _:=HF5
 rw[hbz]at HF5
 have bB:Below w3.heap.size w3 (((w3.alloc (.cells #[.slice (some ⟨g0,0,none⟩) h h,.slice (some ⟨g1,0,none⟩) H1 H1,.slice (some ⟨g2,0,none⟩) H1 H1,.slice (some ⟨g3,0,none⟩) H1 H1,.slice (some ⟨g4,0,none⟩) n1 n1,.bool ba] 157)).alloc (.cells #[.slice (some ⟨g0',0,none⟩) h h,.slice (some ⟨g1',0,none⟩) H1 H1,.slice (some ⟨g2',0,none⟩) H1 H1,.slice (some ⟨g3',0,none⟩) H1 H1,.slice (some ⟨g4',0,none⟩) m1 m1,.bool bb] 157)).alloc (.cells #[.slice none 0 0,.slice none 0 0,.slice none 0 0,.slice none 0 0,.slice none 0 0,.bool bz] 157)):=(((Below.refl _ _).alloc (Nat.le_refl _) _).alloc (by simp) _).alloc (by simp;omega) _
 obtain⟨kX,kY,kZ⟩:=yk w3 (.cells #[.slice (some ⟨g0,0,none⟩) h h,.slice (some ⟨g1,0,none⟩) H1 H1,.slice (some ⟨g2,0,none⟩) H1 H1,.slice (some ⟨g3,0,none⟩) H1 H1,.slice (some ⟨g4,0,none⟩) n1 n1,.bool ba] 157) (.cells #[.slice (some ⟨g0',0,none⟩) h h,.slice (some ⟨g1',0,none⟩) H1 H1,.slice (some ⟨g2',0,none⟩) H1 H1,.slice (some ⟨g3',0,none⟩) H1 H1,.slice (some ⟨g4',0,none⟩) m1 m1,.bool bb] 157) (.cells #[.slice none 0 0,.slice none 0 0,.slice none 0 0,.slice none 0 0,.slice none 0 0,.bool bz] 157)
 have sB:(((w3.alloc (.cells #[.slice (some ⟨g0,0,none⟩) h h,.slice (some ⟨g1,0,none⟩) H1 H1,.slice (some ⟨g2,0,none⟩) H1 H1,.slice (some ⟨g3,0,none⟩) H1 H1,.slice (some ⟨g4,0,none⟩) n1 n1,.bool ba] 157)).alloc (.cells #[.slice (some ⟨g0',0,none⟩) h h,.slice (some ⟨g1',0,none⟩) H1 H1,.slice (some ⟨g2',0,none⟩) H1 H1,.slice (some ⟨g3',0,none⟩) H1 H1,.slice (some ⟨g4',0,none⟩) m1 m1,.bool bb] 157)).alloc (.cells #[.slice none 0 0,.slice none 0 0,.slice none 0 0,.slice none 0 0,.slice none 0 0,.bool bz] 157)).heap.size=w3.heap.size+1+1+1:=by simp
 obtain⟨W0,hW0⟩:∃ W0,((w3.alloc (.cells #[.slice (some ⟨g0,0,none⟩) h h,.slice (some ⟨g1,0,none⟩) H1 H1,.slice (some ⟨g2,0,none⟩) H1 H1,.slice (some ⟨g3,0,none⟩) H1 H1,.slice (some ⟨g4,0,none⟩) n1 n1,.bool ba] 157)).alloc (.cells #[.slice (some ⟨g0',0,none⟩) h h,.slice (some ⟨g1',0,none⟩) H1 H1,.slice (some ⟨g2',0,none⟩) H1 H1,.slice (some ⟨g3',0,none⟩) H1 H1,.slice (some ⟨g4',0,none⟩) m1 m1,.bool bb] 157)).alloc (.cells #[.slice none 0 0,.slice none 0 0,.slice none 0 0,.slice none 0 0,.slice none 0 0,.bool bz] 157)=W0:=⟨_,rfl⟩
 rw[hW0]at bB kX kY kZ sB
 obtain⟨X,hX⟩:∃ X,w3.heap.size=X:=⟨_,rfl⟩
 rw[hX]at kX kY kZ sB
 have sW:=bB.size
 have l0:g0<X:=by rw[<-hX];exact t0.blk.lt
 have l1:g1<X:=by rw[<-hX];exact t1.blk.lt
 have l2:g2<X:=by rw[<-hX];exact t2.blk.lt
 have l3:g3<X:=by rw[<-hX];exact t3.blk.lt
 have l4:g4<X:=by rw[<-hX];exact t4.blk.lt
 have t0:=t0.next bB
 have t1:=t1.next bB
 have t2:=t2.next bB
 have t3:=t3.next bB
 have t4:=t4.next bB
 have y0:=t0.ge
 have y1:=t1.ge
 have y2:=t2.ge
 have y3:=t3.ge
 have y4:=t4.ge
 have l0':g0'<X:=by rw[<-hX];exact t0'.blk.lt
 have l1':g1'<X:=by rw[<-hX];exact t1'.blk.lt
 have l2':g2'<X:=by rw[<-hX];exact t2'.blk.lt
 have l3':g3'<X:=by rw[<-hX];exact t3'.blk.lt
 have l4':g4'<X:=by rw[<-hX];exact t4'.blk.lt
 have t0':=t0'.next bB
 have t1':=t1'.next bB
 have t2':=t2'.next bB
 have t3':=t3'.next bB
 have t4':=t4'.next bB
 have y0':=t0'.ge
 have y1':=t1'.ge
 have y2':=t2'.ge
 have y3':=t3'.ge
 have y4':=t4'.ge
 have O3:=hide ((ae O3).next bB)
 have S0:=hide (ae HS _ (ae O3) (K3.next bB))
 have DN:∀ q,w.heap.size<=q->¬(D q\/q=g):=fun q hq x=>by
  rcases x with x|x
  ·have:=ae HD q x;omega
  ·omega
 have HDZ:Hid (¬(D (X+1+1)\/X+1+1=g)):=DN _ (by omega)
 have HDB:Hid (∀ q,(D q\/q=g)\/q=X+1+1->q<X+1+1+1):=fun q x=>by
  rcases x with(x|x)|x
  ·have:=ae HD q x;omega
  ·omega
  ·omega
 have HZ0:Hid (w.heap.size<=X+1+1):=by show _<=_;omega
 have HNX:=hide ((ae HI).next)
 have HN:Hid (∀ q,w.heap.size<=q->q<X+1+1->¬((D q\/q=g)\/q=X+1+1)):=fun q hq hz x=>by
  rcases x with x|x
  ·exact DN q hq x
  ·omega
 have HX0:Hid (∀ W,Out (fun j=>(D j\/j=g)\/j=X+1+1) W0 W->W.cell? ⟨X,0,none⟩=some (.slice (some ⟨g0,0,none⟩) h h)):=fun W q=>cell_of_row _ X 0 _ _ (0,0) ((q.block X (Array.getElem?_eq_some_iff.1 kX).1 (ae HN _ (by omega) (by omega))).trans kX)
 have HY0:Hid (∀ W,Out (fun j=>(D j\/j=g)\/j=X+1+1) W0 W->W.cell? ⟨X+1,0,none⟩=some (.slice (some ⟨g0',0,none⟩) h h)):=fun W q=>cell_of_row _ (X+1) 0 _ _ (0,0) ((q.block (X+1) (Array.getElem?_eq_some_iff.1 kY).1 (ae HN _ (by omega) (by omega))).trans kY)
 have HX1:Hid (∀ W,Out (fun j=>(D j\/j=g)\/j=X+1+1) W0 W->W.cell? ⟨X,1,none⟩=some (.slice (some ⟨g1,0,none⟩) H1 H1)):=fun W q=>cell_of_row _ X 1 _ _ (0,0) ((q.block X (Array.getElem?_eq_some_iff.1 kX).1 (ae HN _ (by omega) (by omega))).trans kX)
 have HY1:Hid (∀ W,Out (fun j=>(D j\/j=g)\/j=X+1+1) W0 W->W.cell? ⟨X+1,1,none⟩=some (.slice (some ⟨g1',0,none⟩) H1 H1)):=fun W q=>cell_of_row _ (X+1) 1 _ _ (0,0) ((q.block (X+1) (Array.getElem?_eq_some_iff.1 kY).1 (ae HN _ (by omega) (by omega))).trans kY)
 have HX2:Hid (∀ W,Out (fun j=>(D j\/j=g)\/j=X+1+1) W0 W->W.cell? ⟨X,2,none⟩=some (.slice (some ⟨g2,0,none⟩) H1 H1)):=fun W q=>cell_of_row _ X 2 _ _ (0,0) ((q.block X (Array.getElem?_eq_some_iff.1 kX).1 (ae HN _ (by omega) (by omega))).trans kX)
 have HY2:Hid (∀ W,Out (fun j=>(D j\/j=g)\/j=X+1+1) W0 W->W.cell? ⟨X+1,2,none⟩=some (.slice (some ⟨g2',0,none⟩) H1 H1)):=fun W q=>cell_of_row _ (X+1) 2 _ _ (0,0) ((q.block (X+1) (Array.getElem?_eq_some_iff.1 kY).1 (ae HN _ (by omega) (by omega))).trans kY)
 have HX3:Hid (∀ W,Out (fun j=>(D j\/j=g)\/j=X+1+1) W0 W->W.cell? ⟨X,3,none⟩=some (.slice (some ⟨g3,0,none⟩) H1 H1)):=fun W q=>cell_of_row _ X 3 _ _ (0,0) ((q.block X (Array.getElem?_eq_some_iff.1 kX).1 (ae HN _ (by omega) (by omega))).trans kX)
 have HY3:Hid (∀ W,Out (fun j=>(D j\/j=g)\/j=X+1+1) W0 W->W.cell? ⟨X+1,3,none⟩=some (.slice (some ⟨g3',0,none⟩) H1 H1)):=fun W q=>cell_of_row _ (X+1) 3 _ _ (0,0) ((q.block (X+1) (Array.getElem?_eq_some_iff.1 kY).1 (ae HN _ (by omega) (by omega))).trans kY)
 have HX4:Hid (∀ W,Out (fun j=>(D j\/j=g)\/j=X+1+1) W0 W->W.cell? ⟨X,4,none⟩=some (.slice (some ⟨g4,0,none⟩) n1 n1)):=fun W q=>cell_of_row _ X 4 _ _ (0,0) ((q.block X (Array.getElem?_eq_some_iff.1 kX).1 (ae HN _ (by omega) (by omega))).trans kX)
 have HY4:Hid (∀ W,Out (fun j=>(D j\/j=g)\/j=X+1+1) W0 W->W.cell? ⟨X+1,4,none⟩=some (.slice (some ⟨g4',0,none⟩) m1 m1)):=fun W q=>cell_of_row _ (X+1) 4 _ _ (0,0) ((q.block (X+1) (Array.getElem?_eq_some_iff.1 kY).1 (ae HN _ (by omega) (by omega))).trans kY)
 have Q0:Hid (∀ W,Out (fun j=>(D j\/j=g)\/j=X+1+1) W0 W->St 0 W->Calls Tryz.prog k (fs++(#[.slice (some ⟨g0,0,none⟩) h h,.slice (some ⟨g0',0,none⟩) h h]++cs)) W fun e W'=>∃ r,e=.returned r/\aO (X+1+1+1) W' r (a0*b0)/\St 1 W'/\Out (fun j=>D j\/j=g) W W'):=fun W q st=>by
  have sz:=q.size
  rw[<-Array.append_assoc]
  refine((ae HI).call 0 W _ _ _ _ (by omega) st (by rw[show(ey lb la h 0).1=h from rfl];exact t0.inD q (ae HN _ (by omega) (by omega)) (DN _ (by omega))) (by rw[show(ey lb la h 0).2=h from rfl];exact t0'.inD q (ae HN _ (by omega) (by omega)) (DN _ (by omega)))).mono ?_
  rintro e W' ⟨r,rfl,n,st',q'⟩
  exact⟨r,rfl,n.mono (by omega),st',q'⟩
 have Q1:Hid (∀ W,Out (fun j=>(D j\/j=g)\/j=X+1+1) W0 W->St 1 W->Calls Tryz.prog k (fs++(#[.slice (some ⟨g1,0,none⟩) H1 H1,.slice (some ⟨g1',0,none⟩) H1 H1]++cs)) W fun e W'=>∃ r,e=.returned r/\aO (X+1+1+1) W' r ((a0+a1+a2)*(b0+b1+b2))/\St 2 W'/\Out (fun j=>D j\/j=g) W W'):=fun W q st=>by
  have sz:=q.size
  rw[<-Array.append_assoc]
  refine((ae HI).call 1 W _ _ _ _ (by omega) st (by rw[show(ey lb la h 1).1=H1 from hH1];exact t1.inD q (ae HN _ (by omega) (by omega)) (DN _ (by omega))) (by rw[show(ey lb la h 1).2=H1 from hH1];exact t1'.inD q (ae HN _ (by omega) (by omega)) (DN _ (by omega)))).mono ?_
  rintro e W' ⟨r,rfl,n,st',q'⟩
  exact⟨r,rfl,n.mono (by omega),st',q'⟩
 have Q2:Hid (∀ W,Out (fun j=>(D j\/j=g)\/j=X+1+1) W0 W->St 2 W->Calls Tryz.prog k (fs++(#[.slice (some ⟨g2,0,none⟩) H1 H1,.slice (some ⟨g2',0,none⟩) H1 H1]++cs)) W fun e W'=>∃ r,e=.returned r/\aO (X+1+1+1) W' r (nd (a0+a2) a1*nd (b0+b2) b1)/\St 3 W'/\Out (fun j=>D j\/j=g) W W'):=fun W q st=>by
  have sz:=q.size
  rw[<-Array.append_assoc]
  refine((ae HI).call 2 W _ _ _ _ (by omega) st (by rw[show(ey lb la h 2).1=H1 from hH1];exact t2.inD q (ae HN _ (by omega) (by omega)) (DN _ (by omega))) (by rw[show(ey lb la h 2).2=H1 from hH1];exact t2'.inD q (ae HN _ (by omega) (by omega)) (DN _ (by omega)))).mono ?_
  rintro e W' ⟨r,rfl,n,st',q'⟩
  exact⟨r,rfl,n.mono (by omega),st',q'⟩
 have Q3:Hid (∀ W,Out (fun j=>(D j\/j=g)\/j=X+1+1) W0 W->St 3 W->Calls Tryz.prog k (fs++(#[.slice (some ⟨g3,0,none⟩) H1 H1,.slice (some ⟨g3',0,none⟩) H1 H1]++cs)) W fun e W'=>∃ r,e=.returned r/\aO (X+1+1+1) W' r ((a0+2*a1+4*a2)*(b0+2*b1+4*b2))/\St 4 W'/\Out (fun j=>D j\/j=g) W W'):=fun W q st=>by
  have sz:=q.size
  rw[<-Array.append_assoc]
  refine((ae HI).call 3 W _ _ _ _ (by omega) st (by rw[show(ey lb la h 3).1=H1 from hH1];exact t3.inD q (ae HN _ (by omega) (by omega)) (DN _ (by omega))) (by rw[show(ey lb la h 3).2=H1 from hH1];exact t3'.inD q (ae HN _ (by omega) (by omega)) (DN _ (by omega)))).mono ?_
  rintro e W' ⟨r,rfl,n,st',q'⟩
  exact⟨r,rfl,n.mono (by omega),st',q'⟩
 have Q4:Hid (∀ W,Out (fun j=>(D j\/j=g)\/j=X+1+1) W0 W->St 4 W->Calls Tryz.prog k (fs++(#[.slice (some ⟨g4,0,none⟩) n1 n1,.slice (some ⟨g4',0,none⟩) m1 m1]++cs)) W fun e W'=>∃ r,e=.returned r/\aO (X+1+1+1) W' r (a2*b2)/\St 5 W'/\Out (fun j=>D j\/j=g) W W'):=fun W q st=>by
  have sz:=q.size
  rw[<-Array.append_assoc]
  refine((ae HI).call 4 W _ _ _ _ (by omega) st (by rw[show(ey lb la h 4).1=n1 from hn1];exact t4.inD q (ae HN _ (by omega) (by omega)) (DN _ (by omega))) (by rw[show(ey lb la h 4).2=m1 from hm1];exact t4'.inD q (ae HN _ (by omega) (by omega)) (DN _ (by omega)))).mono ?_
  rintro e W' ⟨r,rfl,n,st',q'⟩
  exact⟨r,rfl,n.mono (by omega),st',q'⟩
 have R0:Hid (fh (X+1+1+1) D g (X+1+1) bz St W0 W0 0 (.slice none 0 0) (.slice none 0 0) (.slice none 0 0) (.slice none 0 0) (.slice none 0 0) (a0*b0) ((a0+a1+a2)*(b0+b1+b2)) (nd (a0+a2) a1*nd (b0+b2) b1) ((a0+2*a1+4*a2)*(b0+2*b1+4*b2)) (a2*b2)):=⟨ae S0,kZ,Out.refl _ _,fun h=>absurd h (by decide),fun h=>absurd h (by decide),fun h=>absurd h (by decide),fun h=>absurd h (by decide),fun h=>absurd h (by decide)⟩
 have CJ:Hid (∀ W u0 u1 u2 u3 u4,aL W u0 (a0*b0)->aL W u1 ((a0+a1+a2)*(b0+b1+b2))->aL W u2 (nd (a0+a2) a1*nd (b0+b2) b1)->aL W u3 ((a0+2*a1+4*a2)*(b0+2*b1+4*b2))->aL W u4 (a2*b2)->Calls Tryz.prog 135 #[.agg #[u0,u1,u2,u3,u4,.bool bz],.int .i64 (h:Int)] W fun e w'=>∃ r,e=.returned r/\ah W.heap.size w' r (ud h (a0*b0) (a0*b1+a1*b0) (a0*b2+a1*b1+a2*b0) (a1*b2+a2*b1) (a2*b2))/\Below W.heap.size W w'):=fun W u0 u1 u2 u3 u4 i0 i1 i2 i3 i4=>nA W u0 u1 u2 u3 u4 bz _ _ _ _ _ _ _ _ h (h+1+(h+1)+1) (by omega) (by omega) HF5 (nn (by rw[<-t3.val];have:=ak t3.dig;rw[t3.len, <-hH1]at this;exact this) (by rw[<-t3'.val];have:=ak t3'.dig;rw[t3'.len, <-hH1]at this;exact this)) i0 i1 i2 i3 i4
 have HV:=hide (qd h (af ys) (af xs) a0 a1 a2 b0 b1 b2 q0 q1 q2 q0' q1' q2')
 rw[Nat.mul_comm (af ys) (af xs)]at HV
 have HF:Hid (∀ i,(D i\/i=g)\/i=X+1+1->(D i\/i=g)\/w.heap.size<=i):=fun i x=>by
  rcases x with x|x
  ·exact Or.inl x
  ·exact Or.inr (by omega)
 have sW0:Hid (w.heap.size<=W0.heap.size):=by show _<=_;omega
 have sW1:Hid (X+1+1+1<=W0.heap.size):=by show _<=_;omega
 have hl2:=hide hl0
 have hl3:=hide hl1
 clear HS HD HR' HR HE S0 O1 K3 K1 DN HN kX kY kZ bB b3 t0 t1 t2 t3 t4 l0 l1 l2 l3 l4 y0 y1 y2 y3 y4 t0' t1' t2' t3' t4' l0' l1' l2' l3' l4' y0' y1' y2' y3' y4' HF5 q0 q1 q2 q0' q1' q2' s1 s2 s3 sW sB hH1 hn1 hm1 hl0 hl1 h1 h3 h3' hlt hlt1 hgl hK2 hlb hla hyl hxl hdy hdx
 generalize a0*b0=P0 at *
 generalize (a0+a1+a2)*(b0+b1+b2)=P1 at *
 generalize nd (a0+a2) a1*nd (b0+b2) b1=P2 at *
 generalize (a0+2*a1+4*a2)*(b0+2*b1+4*b2)=P3 at *
 generalize a2*b2=P4 at *
 go_wp2
 clear hW0
 go_loopw [66] (fun iv wr=>∃(i:Nat) (v0 v1 v2 v3 v4:Value),i<=5/\iv=.int .i64 (i:Int)/\fh (X+1+1+1) D g (X+1+1) bz St W0 wr i v0 v1 v2 v3 v4 P0 P1 P2 P3 P4) (fun iv _=>5-(intOf iv).toNat)
 case atStart=>exact⟨0,_,_,_,_,_,by decide,rfl,ae R0⟩
 case round=>
  clear R0
  obtain⟨i,v0,v1,v2,v3,v4,hi,rfl,hr⟩:=hrel
  have hi6:i=0\/i=1\/i=2\/i=3\/i=4\/i=5:=by omega
  clear hi
  rcases hi6 with rfl|rfl|rfl|rfl|rfl|rfl
  ·have hd:=hr.drew (ae HNX)
   have cx:=ae HX0 _ hr.out
   have cy:=ae HY0 _ hr.out
   have od:=hd.out
   have HK:Hid (∀ W,Out (fun j=>(D j\/j=g)\/j=X+1+1) W0 W->W.cell? ⟨X,0,none⟩=some (.slice (some ⟨g0,0,none⟩) h h)/\W.cell? ⟨X+1,0,none⟩=some (.slice (some ⟨g0',0,none⟩) h h)):=fun W q=>⟨ae HX0 W q,ae HY0 W q⟩
   have CC:=hide (ae Q0 _ hd.out hd.st)
   have HRR:=hide hd
   clear hr hd
   go_wp2
   go_region_held3 (fun w'=>w'.cell? ⟨X,0,none⟩=some (.slice (some ⟨g0,0,none⟩) h h)/\w'.cell? ⟨X+1,0,none⟩=some (.slice (some ⟨g0',0,none⟩) h h)) (first|(with_reducible exact ae HK _ od)|(with_reducible exact ae HK _ ow)|(with_reducible exact ae HK _ (ae R5).out)|go_keep) (first
    |(with_reducible refine(ae CC).mono ?_;rintro e w5 ⟨r,rfl,nr,st5,o5⟩;obtain⟨sa,sn,sc,rfl⟩:=nr.inW.is;have Z5:=(ae HRR).box5 o5 (ae HDZ);have cz:=zT Z5;have fz:=Z5.frozen 0;have R5:=hide ((ae HRR).step0 (ae HNX) (ae HZ0) (ae HDZ) (ae HDB) nr st5 o5);have ow:=od.trans (o5.mono (fun k e=>Or.inl e));clear nr st5 o5 Z5 cx cy;obtain⟨cx,cy⟩:=ae HK _ ow)
    |fail)
   all_goals
    focus
     clear CC HRR cx cy od ow HK
     go_wp2
     go_roundw
     case rel=>exact⟨1,_,_,_,_,_,by decide,rfl,ae R5⟩
     case measure=>simp[intOf]
  ·have hd:=hr.drew (ae HNX)
   have cx:=ae HX1 _ hr.out
   have cy:=ae HY1 _ hr.out
   have od:=hd.out
   have HK:Hid (∀ W,Out (fun j=>(D j\/j=g)\/j=X+1+1) W0 W->W.cell? ⟨X,1,none⟩=some (.slice (some ⟨g1,0,none⟩) H1 H1)/\W.cell? ⟨X+1,1,none⟩=some (.slice (some ⟨g1',0,none⟩) H1 H1)):=fun W q=>⟨ae HX1 W q,ae HY1 W q⟩
   have CC:=hide (ae Q1 _ hd.out hd.st)
   have HRR:=hide hd
   clear hr hd
   go_wp2
   go_region_held3 (fun w'=>w'.cell? ⟨X,1,none⟩=some (.slice (some ⟨g1,0,none⟩) H1 H1)/\w'.cell? ⟨X+1,1,none⟩=some (.slice (some ⟨g1',0,none⟩) H1 H1)) (first|(with_reducible exact ae HK _ od)|(with_reducible exact ae HK _ ow)|(with_reducible exact ae HK _ (ae R5).out)|go_keep) (first
    |(with_reducible refine(ae CC).mono ?_;rintro e w5 ⟨r,rfl,nr,st5,o5⟩;obtain⟨sa,sn,sc,rfl⟩:=nr.inW.is;have Z5:=(ae HRR).box5 o5 (ae HDZ);have cz:=zU Z5;have fz:=Z5.frozen 1;have R5:=hide ((ae HRR).step1 (ae HNX) (ae HZ0) (ae HDZ) (ae HDB) nr st5 o5);have ow:=od.trans (o5.mono (fun k e=>Or.inl e));clear nr st5 o5 Z5 cx cy;obtain⟨cx,cy⟩:=ae HK _ ow)
    |fail)
   all_goals
    focus
     clear CC HRR cx cy od ow HK
     go_wp2
     go_roundw
     case rel=>exact⟨2,_,_,_,_,_,by decide,rfl,ae R5⟩
     case measure=>simp[intOf]
  ·have hd:=hr.drew (ae HNX)
   have cx:=ae HX2 _ hr.out
   have cy:=ae HY2 _ hr.out
   have od:=hd.out
   have HK:Hid (∀ W,Out (fun j=>(D j\/j=g)\/j=X+1+1) W0 W->W.cell? ⟨X,2,none⟩=some (.slice (some ⟨g2,0,none⟩) H1 H1)/\W.cell? ⟨X+1,2,none⟩=some (.slice (some ⟨g2',0,none⟩) H1 H1)):=fun W q=>⟨ae HX2 W q,ae HY2 W q⟩
   have CC:=hide (ae Q2 _ hd.out hd.st)
   have HRR:=hide hd
   clear hr hd
   go_wp2
   go_region_held3 (fun w'=>w'.cell? ⟨X,2,none⟩=some (.slice (some ⟨g2,0,none⟩) H1 H1)/\w'.cell? ⟨X+1,2,none⟩=some (.slice (some ⟨g2',0,none⟩) H1 H1)) (first|(with_reducible exact ae HK _ od)|(with_reducible exact ae HK _ ow)|(with_reducible exact ae HK _ (ae R5).out)|go_keep) (first
    |(with_reducible refine(ae CC).mono ?_;rintro e w5 ⟨r,rfl,nr,st5,o5⟩;obtain⟨sa,sn,sc,rfl⟩:=nr.inW.is;have Z5:=(ae HRR).box5 o5 (ae HDZ);have cz:=zV Z5;have fz:=Z5.frozen 2;have R5:=hide ((ae HRR).step2 (ae HNX) (ae HZ0) (ae HDZ) (ae HDB) nr st5 o5);have ow:=od.trans (o5.mono (fun k e=>Or.inl e));clear nr st5 o5 Z5 cx cy;obtain⟨cx,cy⟩:=ae HK _ ow)
    |fail)
   all_goals
    focus
     clear CC HRR cx cy od ow HK
     go_wp2
     go_roundw
     case rel=>exact⟨3,_,_,_,_,_,by decide,rfl,ae R5⟩
     case measure=>simp[intOf]
  ·have hd:=hr.drew (ae HNX)
   have cx:=ae HX3 _ hr.out
   have cy:=ae HY3 _ hr.out
   have od:=hd.out
   have HK:Hid (∀ W,Out (fun j=>(D j\/j=g)\/j=X+1+1) W0 W->W.cell? ⟨X,3,none⟩=some (.slice (some ⟨g3,0,none⟩) H1 H1)/\W.cell? ⟨X+1,3,none⟩=some (.slice (some ⟨g3',0,none⟩) H1 H1)):=fun W q=>⟨ae HX3 W q,ae HY3 W q⟩
   have CC:=hide (ae Q3 _ hd.out hd.st)
   have HRR:=hide hd
   clear hr hd
   go_wp2
   go_region_held3 (fun w'=>w'.cell? ⟨X,3,none⟩=some (.slice (some ⟨g3,0,none⟩) H1 H1)/\w'.cell? ⟨X+1,3,none⟩=some (.slice (some ⟨g3',0,none⟩) H1 H1)) (first|(with_reducible exact ae HK _ od)|(with_reducible exact ae HK _ ow)|(with_reducible exact ae HK _ (ae R5).out)|go_keep) (first
    |(with_reducible refine(ae CC).mono ?_;rintro e w5 ⟨r,rfl,nr,st5,o5⟩;obtain⟨sa,sn,sc,rfl⟩:=nr.inW.is;have Z5:=(ae HRR).box5 o5 (ae HDZ);have cz:=zW Z5;have fz:=Z5.frozen 3;have R5:=hide ((ae HRR).step3 (ae HNX) (ae HZ0) (ae HDZ) (ae HDB) nr st5 o5);have ow:=od.trans (o5.mono (fun k e=>Or.inl e));clear nr st5 o5 Z5 cx cy;obtain⟨cx,cy⟩:=ae HK _ ow)
    |fail)
   all_goals
    focus
     clear CC HRR cx cy od ow HK
     go_wp2
     go_roundw
     case rel=>exact⟨4,_,_,_,_,_,by decide,rfl,ae R5⟩
     case measure=>simp[intOf]
  ·have hd:=hr.drew (ae HNX)
   have cx:=ae HX4 _ hr.out
   have cy:=ae HY4 _ hr.out
   have od:=hd.out
   have HK:Hid (∀ W,Out (fun j=>(D j\/j=g)\/j=X+1+1) W0 W->W.cell? ⟨X,4,none⟩=some (.slice (some ⟨g4,0,none⟩) n1 n1)/\W.cell? ⟨X+1,4,none⟩=some (.slice (some ⟨g4',0,none⟩) m1 m1)):=fun W q=>⟨ae HX4 W q,ae HY4 W q⟩
   have CC:=hide (ae Q4 _ hd.out hd.st)
   have HRR:=hide hd
   clear hr hd
   go_wp2
   go_region_held3 (fun w'=>w'.cell? ⟨X,4,none⟩=some (.slice (some ⟨g4,0,none⟩) n1 n1)/\w'.cell? ⟨X+1,4,none⟩=some (.slice (some ⟨g4',0,none⟩) m1 m1)) (first|(with_reducible exact ae HK _ od)|(with_reducible exact ae HK _ ow)|(with_reducible exact ae HK _ (ae R5).out)|go_keep) (first
    |(with_reducible refine(ae CC).mono ?_;rintro e w5 ⟨r,rfl,nr,st5,o5⟩;obtain⟨sa,sn,sc,rfl⟩:=nr.inW.is;have Z5:=(ae HRR).box5 o5 (ae HDZ);have cz:=zX Z5;have fz:=Z5.frozen 4;have R5:=hide ((ae HRR).step4 (ae HNX) (ae HZ0) (ae HDZ) (ae HDB) nr st5 o5);have ow:=od.trans (o5.mono (fun k e=>Or.inl e));clear nr st5 o5 Z5 cx cy;obtain⟨cx,cy⟩:=ae HK _ ow)
    |fail)
   all_goals
    focus
     clear CC HRR cx cy od ow HK
     go_wp2
     go_roundw
     case rel=>exact⟨5,_,_,_,_,_,by decide,rfl,ae R5⟩
     case measure=>simp[intOf]
  ·have c0:wr.cell? ⟨X+1+1,0,none⟩=some v0:=hr.box.cell 0 (by simp)
   have c1:wr.cell? ⟨X+1+1,1,none⟩=some v1:=hr.box.cell 1 (by simp)
   have c2:wr.cell? ⟨X+1+1,2,none⟩=some v2:=hr.box.cell 2 (by simp)
   have c3:wr.cell? ⟨X+1+1,3,none⟩=some v3:=hr.box.cell 3 (by simp)
   have c4:wr.cell? ⟨X+1+1,4,none⟩=some v4:=hr.box.cell 4 (by simp)
   have c5:wr.cell? ⟨X+1+1,5,none⟩=some (.bool bz):=hr.box.cell 5 (by simp)
   have CJ:=hide (ae CJ wr v0 v1 v2 v3 v4 (hr.r0 (by decide)).inW (hr.r1 (by decide)).inW (hr.r2 (by decide)).inW (hr.r3 (by decide)).inW (hr.r4 (by decide)).inW)
   have ST:=hide hr.st
   have OW:=hide hr.out
   clear hr Q0 Q1 Q2 Q3 Q4 HX0 HX1 HX2 HX3 HX4 HY0 HY1 HY2 HY3 HY4 HDZ HZ0
   go_wp2_with fail
   refine(ae CJ).mono ?_
   rintro e w8 ⟨r8,rfl,n8,b8⟩
   have st8:=ae HNX 5 wr w8 (ae ST) (Out.of_below b8)
   obtain⟨s8,m8,K8⟩:=(ae HI).eng 5 w8 st8
   rw[ae HV]at n8
   have ST8:=hide st8
   have M8:=hide K8.kara.eng.met
   have OA:=hide ((((ae O3).mono (fun k e=>Or.inr e)).fresh (ae OW) (ae HF)).next b8)
   have N8:=hide n8
   have SZ:=hide (Nat.le_trans (ae sW0) (ae OW).size)
   have GL:=hide (Nat.lt_of_lt_of_le (ae HDB g (Or.inl (Or.inr rfl))) (Nat.le_trans (ae sW1) (ae OW).size))
   clear n8 st8 K8 HV CJ c0 c1 c2 c3 c4 c5 b8 HI HNX ST OW hcf
   go_wp2
   refine leaves_cons (f:=123) (args:=#[.pointer (some ⟨g,0,none⟩)]) (by simp) (by simp[go_sem]) ?_
   refine(bm l .returning (ae M8) (by have:=ae hl2;omega) (by have:=ae hl2;omega) (by have:=ae hl3;omega)).mono ?_
   rintro e u' w9 ⟨rfl,rfl,M9,T9⟩
   have O9:=Out.of_grown T9.grown
   refine⟨_,results_tmp2 rfl _ _ _,r8,w8,rfl,?_,ae ST8,O9,?_,?_⟩
   ·exact(O9.newW (ae N8) (fun k e=>by rw[e];exact ae GL)).mono (ae SZ)
   ·intro s' m' K
    obtain⟨rfl,_,rfl⟩:=K.kara.eng.met.one (ae M8)
    exact K.step M9 T9
   ·exact(ae OA).trans (O9.mono (fun k e=>Or.inr e))
theorem EF:Bi:=by
 intro w gt gk ge g s l m T ga gb b o cap la b' o' cap' lb h xs ys k fs cs D St h1 h2 h3 h4 h5 h6 h7 h8 h9 h10 h11 h12 h13 h14 h15 h16 h17 h18 h19 h20 h21 h22
 by_cases hsw:la<lb
 ·exact ML w gt gk ge g s l m T ga gb b o cap la b' o' cap' lb h xs ys k fs cs D St h1 h2 h3 h4 h5 h6 h7 h8 h9 h10 h11 h12 h13 h14 h15 h16 h17 h18 h19 h20 h21 h22 hsw
 ·exact MK w gt gk ge g s l m T ga gb b o cap la b' o' cap' lb h xs ys k fs cs D St h1 h2 h3 h4 h5 h6 h7 h8 h9 h10 h11 h12 h13 h14 h15 h16 h17 h18 h19 h20 h21 h22 hsw
end Go.Proofs.YtgcnhfgpflncaaaGreatDoor
/- KaraSqr:a square in two pieces. -/
namespace Go.Proofs.YtgcnhfgpflncaaaGreatDoor
open Go.RowKit
set_option maxRecDepth 100000 in
set_option maxHeartbeats 6400000 in
theorem Ey:uK:=by
 intro w gk ge g s l m T ga b o cap la h xs k fs cs D St hE hl0 hl1 hxl hR hdx hbD hla hh hlt nk ne ng hD hI hS
 have CH:=hide (fun w=>pj w ga la cap h hla hh)
 have hM:=hE.eng.met
 have hgl:=hM.lt
 have CE:=hide (dh (l+1) (max m (l+1)) hM rfl rfl (by omega) (by omega))
 have e0:=hE.ptr
 have e1:=hE.eng.ptr
 have HE:=hide hE
 have ngt:¬la<=h:=by omega
 have hcf:=hI.go
 have HI:=hide hI
 have HS:=hide hS
 have HD:=hide hD
 have HR:=hide hR
 have h2:la<=2*h:=by omega
 clear hE hM hI hS hD hR hh nk ne ng hbD
 go_enter_defers Tryz.func101,Tryz.ntmps101
 go_wp2_with fail
 refine(ae CH _).mono ?_
 rintro e w1 ⟨rfl,hw1⟩
 obtain rfl:=hw1.symm
 clear hw1 CH
 go_wp2_with fail
 refine(ae CE).mono ?_
 rintro e w1 ⟨rfl,M1,T1⟩
 have K1:=(ae HE).step M1 T1
 have r1:=(ae HR).touch (ae HE).eng.met T1
 have e0:=K1.ptr
 have e1:=K1.eng.ptr
 have s1:=T1.grown.size
 have O1:=hide (Out.of_grown T1.grown)
 clear CE M1 T1
 go_wp2_with fail
 refine(jE _ _ _ _ _ _ h xs hxl hla (by omega) (by omega) (by omega) r1 hdx).mono ?_
 rintro e w3 ⟨v2,rfl,p2,b3⟩
 obtain⟨g0,g1,g2,zs,rfl,i0,i1,i2,k0,k1,k2,z0,z1,z2⟩:=p2.out
 rw[hxl]
 have s3:=b3.size
 have O3:=hide ((ae O1).next b3)
 have K3:=K1.next b3
 clear r1 p2 b3 e0 e1
 obtain⟨H1,hH1⟩:∃ H1,h+1=H1:=⟨_,rfl⟩
 obtain⟨n1,hn1⟩:∃ n1,la-h=n1:=⟨_,rfl⟩
 have lx0:(xs.take h).length=h:=by simp;omega
 have lx1:(xs.drop h).length=n1:=by simp;omega
 have dx0:=aX hdx h
 have dx1:=aU hdx h
 rw[hH1,hn1]
 rw[hH1]at z0
 have HV:=hide (mS xs xs h)
 have HL:Hid (af (xs.take h)*af (xs.take h)+af (xs.drop h)*af (xs.drop h)<=af zs*af zs):=by
  show _<=_
  rw[z2]
  exact ti _ _ _ _
 have HP:Hid (af zs*af zs<18446744073709551616^(H1+H1)):=by
  show _<_
  rw[Nat.pow_add]
  have q1:=ak z1
  rw[z0]at q1
  exact Nat.mul_lt_mul'' q1 q1
 rw[<-z2]at HV
 clear z2
 -- the box
 have bb:Below w3.heap.size w3 (w3.alloc (.cells #[.slice (some ⟨g0,0,none⟩) h h,.slice (some ⟨g1,0,none⟩) n1 n1,.slice (some ⟨g2,0,none⟩) H1 H1] 152)):=(Below.refl _ _).alloc (Nat.le_refl _) _
 have kP:=heap_alloc_new w3 (.cells #[.slice (some ⟨g0,0,none⟩) h h,.slice (some ⟨g1,0,none⟩) n1 n1,.slice (some ⟨g2,0,none⟩) H1 H1] 152)
 obtain⟨W0,hW0⟩:∃ W0,w3.alloc (.cells #[.slice (some ⟨g0,0,none⟩) h h,.slice (some ⟨g1,0,none⟩) n1 n1,.slice (some ⟨g2,0,none⟩) H1 H1] 152)=W0:=⟨_,rfl⟩
 rw[hW0]at bb kP
 obtain⟨P0,hP0⟩:∃ P0,w3.heap.size=P0:=⟨_,rfl⟩
 rw[hP0]at kP
 have sW:=bb.size
 have k0:aB W0 g0 _:=(bb.block _ k0.lt).trans k0
 have k1:aB W0 g1 _:=(bb.block _ k1.lt).trans k1
 have k2:aB W0 g2 _:=(bb.block _ k2.lt).trans k2
 have O3:=hide ((ae O3).next bb)
 have S0:=hide (ae HS _ (ae O3) (K3.next bb))
 have DN:∀ q,w.heap.size<=q->¬(D q\/q=g):=fun q hq x=>by
  rcases x with x|x
  ·have:=ae HD q x;omega
  ·omega
 have DB:∀ q,(D q\/q=g)->q<W0.heap.size:=fun q x=>by
  rcases x with x|x
  ·have:=ae HD q x;omega
  ·omega
 have HC:Hid (∀ W,Out (fun j=>D j\/j=g) W0 W->W.cell? ⟨P0,0,none⟩=some (.slice (some ⟨g0,0,none⟩) h h)/\W.cell? ⟨P0,1,none⟩=some (.slice (some ⟨g1,0,none⟩) n1 n1)/\W.cell? ⟨P0,2,none⟩=some (.slice (some ⟨g2,0,none⟩) H1 H1)):=fun W q=>by
  have j0:=(q.block P0 (Array.getElem?_eq_some_iff.1 kP).1 (DN P0 (by omega))).trans kP
  exact⟨cell_of_row _ P0 0 _ _ (0,0) j0,cell_of_row _ P0 1 _ _ (0,0) j0,cell_of_row _ P0 2 _ _ (0,0) j0⟩
 have Q0:Hid (∀ W,Out (fun j=>D j\/j=g) W0 W->St 0 W->Calls Tryz.prog k (fs.push (.slice (some ⟨g0,0,none⟩) h h)++cs) W fun e W'=>∃ r,e=.returned r/\aO W0.heap.size W' r (af (xs.take h)*af (xs.take h))/\St 1 W'/\Out (fun j=>D j\/j=g) W0 W'/\Out (fun j=>D j\/j=g) W W'):=fun W q st=>by
  rw[<-Array.append_singleton]
  refine((ae HI).call 0 W _ _ (by omega) st (bT (q.blk k0 (DN _ (by omega))) lx0 dx0 (DN _ (by omega)))).mono ?_
  rintro e W' ⟨r,rfl,n,st',q'⟩
  exact⟨r,rfl,n.mono q.size,st',q.trans q',q'⟩
 have Q1:Hid (∀ W,Out (fun j=>D j\/j=g) W0 W->St 1 W->Calls Tryz.prog k (fs.push (.slice (some ⟨g1,0,none⟩) n1 n1)++cs) W fun e W'=>∃ r,e=.returned r/\aO W0.heap.size W' r (af (xs.drop h)*af (xs.drop h))/\St 2 W'/\Out (fun j=>D j\/j=g) W0 W'/\Out (fun j=>D j\/j=g) W W'):=fun W q st=>by
  rw[<-Array.append_singleton]
  refine((ae HI).call 1 W _ _ (by omega) st (by rw[show(mU la la h 1).1=n1 from hn1];exact bT (q.blk k1 (DN _ (by omega))) lx1 dx1 (DN _ (by omega)))).mono ?_
  rintro e W' ⟨r,rfl,n,st',q'⟩
  exact⟨r,rfl,n.mono q.size,st',q.trans q',q'⟩
 have Q2:Hid (∀ W,Out (fun j=>D j\/j=g) W0 W->St 2 W->Calls Tryz.prog k (fs.push (.slice (some ⟨g2,0,none⟩) H1 H1)++cs) W fun e W'=>∃ r,e=.returned r/\aO W0.heap.size W' r (af zs*af zs)/\St 3 W'/\Out (fun j=>D j\/j=g) W0 W'/\Out (fun j=>D j\/j=g) W W'):=fun W q st=>by
  rw[<-Array.append_singleton]
  refine((ae HI).call 2 W _ _ (by omega) st (by rw[show(mU la la h 2).1=H1 from hH1];exact bT (q.blk k2 (DN _ (by omega))) z0 z1 (DN _ (by omega)))).mono ?_
  rintro e W' ⟨r,rfl,n,st',q'⟩
  exact⟨r,rfl,n.mono q.size,st',q.trans q',q'⟩
 have DB:=hide DB
 have h16:h<=16384:=by omega
 have HH1:Hid (H1+H1<=1073741824):=by show _<=_;omega
 have sW0:=hide (show w.heap.size<=W0.heap.size by omega)
 have hl2:=hide hl0
 have hl3:=hide hl1
 generalize af (xs.take h)=X0 at *
 generalize af (xs.drop h)=X1 at *
 generalize af zs=X2 at *
 clear k0 k1 k2 kP K3 K1 HE HS HR HD lx0 lx1 dx0 dx1 z0 z1 DN bb O1 i0 i1 i2 s1 s3 sW hgl hH1 hn1 hl0 hl1
 go_wp2
 clear hW0
 obtain⟨p0,p1,p2⟩:=ae HC W0 (Out.refl _ _)
 have st0:=(ae HI).next 0 W0 W0.drew (ae S0) ((Below.refl _ _).drew)
 have o0:Out (fun j=>D j\/j=g) W0 W0.drew:=Out.of_below ((Below.refl _ _).drew)
 go_region_held3 (fun w'=>w'.cell? ⟨P0,0,none⟩=some (.slice (some ⟨g0,0,none⟩) h h)/\w'.cell? ⟨P0,1,none⟩=some (.slice (some ⟨g1,0,none⟩) n1 n1)/\w'.cell? ⟨P0,2,none⟩=some (.slice (some ⟨g2,0,none⟩) H1 H1)) (first|(exact ae HC _ o4)|(exact ae HC _ o3)|(exact ae HC _ o2)|(exact ae HC _ o1)|(exact ae HC _ o0)|go_keep) (first
  |(refine(ae Q0 _ o0 st0).mono ?_;rintro e w5 ⟨r5,rfl,n5,st1,o1,q1⟩;obtain⟨p0,p1,p2⟩:=ae HC _ o1)
  |(refine(ae Q1 _ o1 st1).mono ?_;rintro e w6 ⟨r6,rfl,n6,st2,o2,q2⟩;have n5:=n5.out q2 (ae DB);obtain⟨p0,p1,p2⟩:=ae HC _ o2)
  |(refine(ae Q2 _ o2 st2).mono ?_;rintro e w7 ⟨r7,rfl,n7,st3,o3,q3⟩;have n5:=n5.out q3 (ae DB);have n6:=n6.out q3 (ae DB);obtain⟨p0,p1,p2⟩:=ae HC _ o3)
  |(go_at_call 132;refine(mT _ _ _ _ _ _ _ h (H1+H1) h16 (ae HH1) (ae HP) (ae HL) n5.inW n6.inW n7.inW).mono ?_;rintro e w8 ⟨r8,rfl,n8,b8⟩;have o4:=o3.next b8;obtain⟨p0,p1,p2⟩:=ae HC _ o4)
  |fail)
 have st8:=(ae HI).next 3 w7 w8 st3 b8
 obtain⟨s8,m8,K8⟩:=(ae HI).eng 3 w8 st8
 rw[ae HV]at n8
 have ST8:=hide st8
 have M8:=hide K8.eng.met
 have OA:=hide (((ae O3).mono (fun k e=>Or.inr e)).trans o4)
 have N8:=hide n8
 have SZ:=hide (Nat.le_trans (ae sW0) o3.size)
 have GL:=hide (Nat.lt_of_lt_of_le (ae DB g (Or.inr rfl)) o3.size)
 clear p0 p1 p2 n5 n6 n7 n8 st8 st3 st2 st1 st0 o4 o3 o2 o1 o0 q1 q2 q3 b8 K8 HV HL HP HC Q0 Q1 Q2 hcf S0
 go_wp2
 refine leaves_cons (f:=123) (args:=#[.pointer (some ⟨g,0,none⟩)]) (by simp) (by simp[go_sem]) ?_
 refine(bm l .returning (ae M8) (by have:=ae hl2;omega) (by have:=ae hl2;omega) (by have:=ae hl3;omega)).mono ?_
 rintro e u' w9 ⟨rfl,rfl,M9,T9⟩
 have O9:=Out.of_grown T9.grown
 refine⟨_,results_tmp2 rfl _ _ _,r8,w8,rfl,?_,ae ST8,O9,?_,?_⟩
 ·exact(O9.newW (ae N8) (fun k e=>by rw[e];exact ae GL)).mono (ae SZ)
 ·intro s' m' K
  obtain⟨rfl,_,rfl⟩:=K.eng.met.one (ae M8)
  exact K.step M9 T9
 ·exact(ae OA).trans (O9.mono (fun k e=>Or.inr e))
end Go.Proofs.YtgcnhfgpflncaaaGreatDoor
/- takeFrom and divisorOf of divs,and its trim. -/
namespace Go.Proofs.YtgcnhfgpflncaaaGreatDoor
open Go.RowKit
def zP(w:World)(g o M D:Nat)(zs:List Nat)(e:Ending)(w':World):Prop:=
 ∃(q:Nat) (zs':List Nat),e=.returned (.int .u64 (q:Int))/\q<18446744073709551616/\jl zs zs' o M/\ao zs'/\aB w' g zs'/\Out (·=g) w w'/\(seg zs o (M+1)<D*18446744073709551616->q=seg zs o (M+1)/D/\seg zs' o M=seg zs o (M+1)%D)
theorem jl.trans{a b c:List Nat}{o m:Nat}(h:jl a b o m)(k:jl b c o m):jl a c o m:=⟨k.1.trans h.1,fun j hj=>(k.2 j hj).trans (h.2 j hj)⟩
theorem Ph(w:World)(u v:Value):(w.alloc (.cells #[u,v] 139)).cell? ⟨w.heap.size,0,none⟩=some u/\(w.alloc (.cells #[u,v] 139)).cell? ⟨w.heap.size,1,none⟩=some v:=by
 have:=heap_alloc_new w (.cells #[u,v] 139)
 exact⟨cell_of_row _ _ _ _ _ (0,0) this,cell_of_row _ _ _ _ _ (0,0) this⟩
set_option maxRecDepth 100000 in
set_option maxHeartbeats 3200000 in
theorem qP(w:World)(g o n cap bb ob cb m M v D:Nat)(gb:Option Addr)(zs ds:List Nat)(hz:o+n<=zs.length)(hdl:ds.length=M)(hM:M=m+2)(hlb:M+1<=n)(hn:o+n<=1099511627776)
  (hZ:aB w g zs) (dz:ao zs) (hB:Rep w gb bb ob cb ds) (dd:ao ds) (h63:9223372036854775808<=ds.getD (m+1) 0) (hv:v=kF (ds.getD (m+1) 0*18446744073709551616+ds.getD m 0)) (hD:D=af ds) (hne:bb≠g):
  Calls Tryz.prog 114 #[.agg #[.slice gb M cb,.int .u64 (v:Int)],.slice (some ⟨g,o,none⟩) n cap] w (zP w g o M D zs):=by
 obtain rfl:=hB.head (by omega)
 obtain⟨P0,hP0⟩:∃ P0,w.heap.size=P0:=⟨_,rfl⟩
 have bA:Below w.heap.size w (w.alloc (.cells #[.slice (some ⟨bb,ob,none⟩) M cb,.int .u64 (v:Int)] 139)):=(Below.refl _ w).alloc (Nat.le_refl _) _
 obtain⟨x0,x1⟩:=Ph w (.slice (some ⟨bb,ob,none⟩) M cb) (.int .u64 (v:Int))
 have hs1:(w.alloc (.cells #[.slice (some ⟨bb,ob,none⟩) M cb,.int .u64 (v:Int)] 139)).heap.size=P0+1:=by simp[hP0]
 obtain⟨W1,hW1⟩:∃ W1,w.alloc (.cells #[.slice (some ⟨bb,ob,none⟩) M cb,.int .u64 (v:Int)] 139)=W1:=⟨_,rfl⟩
 rw[hW1]at bA x0 x1 hs1
 rw[hP0]at x0 x1
 have hgl:=hZ.lt
 rw[hP0]at hgl
 obtain⟨h,hh⟩:∃ h,h=Fp (zs.getD (o+m+2) 0) (zs.getD (o+m+1) 0) (zs.getD (o+m) 0) (ds.getD (m+1) 0) (ds.getD m 0):=⟨_,rfl⟩
 have hhb:h<18446744073709551616:=by rw[hh];exact GM (dz _) (dz _) (dd _)
 have CG:=hide (BQ W1 g o n cap bb ob cb m M v h (some ⟨bb,ob,none⟩) zs ds hz hdl hM hlb hn (hZ.next bA) dz (hB.next bA) dd h63 hv hh)
 obtain⟨top,htop⟩:∃ top,top=zs.getD (o+M) 0:=⟨_,rfl⟩
 have HFin:Hid (∀ c zs1,sL zs zs1 ds h o M c->seg zs o (M+1)<D*18446744073709551616->(c<=top->h=seg zs o (M+1)/D/\seg zs1 o M=seg zs o (M+1)%D)/\(top<c->∀ c' zs2,uG zs1 zs2 ds o M c'->(h+18446744073709551615)%18446744073709551616=seg zs o (M+1)/D/\seg zs2 o M=seg zs o (M+1)%D)):=by
  intro c zs1 ht hu
  subst hM
  have hDp:0<D:=by
   rw[hD]
   have:=tV ds 0 m
   rw[xu ds (m+2) (by omega)]at this
   simp only[Nat.zero_add]at this
   have h1:1*1<=(ds.getD (m+1) 0*18446744073709551616+ds.getD m 0)*18446744073709551616^m:=Nat.mul_le_mul (by omega) (bI m)
   omega
  have hDm:D<=18446744073709551616^(m+2):=by have:=ak dd;rw[hdl, <-hD]at this;omega
  obtain⟨g1,g2⟩:=Oi (o:=o) dz dd hdl hD h63 rfl hu
  rw[<-hh]at g1 g2
  refine⟨fun hc=>zx ht (by omega) hD hDm hDp rfl g1 (by rw[<-htop];exact hc),fun hc c' zs2 hb=>?_⟩
  obtain⟨t1,t2,t3⟩:=EP ht hb (by omega) hD hDm hDp rfl g2 (by rw[<-htop];exact hc)
  exact⟨by omega,t3⟩
 have HT:Hid (∀ W,Out (·=g) W1 W->aB W g zs->Calls Tryz.prog 153 #[.slice (some ⟨g,o,none⟩) n cap,.slice (some ⟨bb,ob,none⟩) M cb,.int .u64 (h:Int)] W fun e w'=>∃(c:Nat) (zs1:List Nat),e=.returned (.int .u64 (c:Int))/\sL zs zs1 ds h o M c/\aB w' g zs1/\Out (·=g) W1 w'/\(w'.cell? ⟨P0,0,none⟩=some (.slice (some ⟨bb,ob,none⟩) M cb)/\w'.cell? ⟨g,o+M,none⟩=some (.int .u64 (top:Int)))):=by
  intro W oW bW
  refine(qQ W g o n cap bb ob cb M h _ zs ds hz hdl (by omega) hn hhb bW dz (oW.rep (hB.next bA) (fun _=>hne)) dd (fun _=>hne)).mono ?_
  rintro e w' ⟨c,zs1,rfl,ht,hb,hg⟩
  have o2:=oW.trans (Out.of_grown hg)
  refine⟨c,zs1,rfl,ht,hb,o2,o2.cell x0 (by show ¬P0=g;omega),?_⟩
  rw[hb.cell (o+M) (by rw[ht.1.1];omega),ht.1.2 (o+M) (Or.inr (Nat.le_refl _)), <-htop]
 have HP:Hid (∀ W zs1,Out (·=g) W1 W->aB W g zs1->ao zs1->zs1.length=zs.length->Calls Tryz.prog 154 #[.slice (some ⟨g,o,none⟩) n cap,.slice (some ⟨bb,ob,none⟩) M cb] W fun e w'=>∃(c:Nat) (zs2:List Nat),e=.returned (.tuple #[])/\uG zs1 zs2 ds o M c/\aB w' g zs2/\Out (·=g) W1 w'):=by
  intro W zs1 oW bW d1 hl
  refine(wF W g o n cap bb ob cb M _ zs1 ds (by rw[hl];exact hz) hdl (by omega) hn bW d1 (oW.rep (hB.next bA) (fun _=>hne)) dd (fun _=>hne)).mono ?_
  rintro e w' ⟨c,zs2,rfl,ht,hb,hg⟩
  exact⟨c,zs2,rfl,ht,hb,oW.trans (Out.of_grown hg)⟩
 have oA:Hid (Out (·=g) w W1):=Out.of_below bA
 have hZ1:=hZ.next bA
 have hcell:=(hZ.next bA).cell (o+M) (by omega)
 rw[<-htop]at hcell
 have hMn:M<n:=by omega
 have Mb:M<=1099511627776:=by omega
 have eh:IntKind.u64.wrap ((h:Int)-1)=(((h+18446744073709551615)%18446744073709551616:Nat):Int):=by rw[IntKind.wrap_u64];omega
 have ehb:(h+18446744073709551615)%18446744073709551616<18446744073709551616:=Nat.mod_lt _ (by omega)
 generalize (h+18446744073709551615)%18446744073709551616=h1 at *
 have hPg:¬P0=g:=by omega
 clear hh hv hM hZ dd h63 hD hdl hz hlb hn htop hB bA
 have dz:=hide dz
 go_enter Tryz.func114,Tryz.ntmps114
 go_wp2_with fail
 refine(ae CG).mono ?_
 rintro e w2 ⟨rfl,b2⟩
 have x0:=(b2.cell (p:=⟨P0,0,none⟩) (by show P0<_;omega)).trans x0
 have hcell:=(b2.cell (p:=⟨g,o+M,none⟩) hZ1.lt).trans hcell
 have oB:Out (·=g) W1 w2.drew:=(Out.of_below b2).next (Below.refl _ _).drew
 have hZ2:aB w2.drew g zs:=aB.drewN (hZ1.next b2) 1
 clear CG hZ1 b2 x1
 go_wp2
 go_region_held3 (fun w'=>w'.cell? ⟨P0,0,none⟩=some (.slice (some ⟨bb,ob,none⟩) M cb)/\w'.cell? ⟨g,o+M,none⟩=some (.int .u64 (top:Int))) (first|(assumption)|go_keep) (first
  |(go_at_call 153;with_reducible refine(ae HT _ oB hZ2).mono ?_;rintro e w3 ⟨c,zs1,rfl,ht,hb,o3,hS⟩))
 have hS0:=hS.1
 have HT2:=hide ht
 have HB2:=hide hb
 clear hS HT oB hZ2 x0 hcell
 by_cases hc:top<c
 ·have CP:=hide (ae HP _ zs1 o3 hb ht.2.1 ht.1.1)
  have hci:(top:Int)<(c:Int):=by omega
  clear ht hb
  go_wp2_with fail
  refine(ae CP).mono ?_
  rintro e w4 ⟨c',zs2,rfl,hp,hb2,o4⟩
  have HF:=hide (fun hu=>((ae HFin) c zs1 (ae HT2) hu).2 hc c' zs2 hp)
  have HP2:=hide hp
  clear hp CP HFin
  go_wp2
  go_ret
  exact⟨h1,zs2,ax rfl,ehb,(ae HT2).1.trans (ae HP2).1,(ae HP2).2.1,hb2,(ae oA).trans o4,ae HF⟩
 ·have hci:¬(top:Int)<(c:Int):=by omega
  have HF:=hide (fun hu=>((ae HFin) c zs1 (ae HT2) hu).1 (by omega))
  clear ht hb HFin
  go_wp2
  go_ret
  exact⟨h,zs1,rfl,hhb,(ae HT2).1,(ae HT2).2.1,ae HB2,(ae oA).trans o3,ae HF⟩
theorem mO(w:World)(ga:Option Addr)(b o cap n m:Nat)(xs:List Nat)(hl:xs.length=n)(hn:n<=1099511627776)(hR:Rep w ga b o cap xs)(hm:m=bY xs n):
  Calls Tryz.prog 88 #[.slice ga n cap] w fun e w'=>e=.returned (.slice ga m cap)/\w'=w:=by
 have hmn:m<=n:=by rw[hm];exact bo xs n
 have hcap:n<=cap:=by have:=hR.room;omega
 have CL:=hide (fun w' (h:w'=w)=>h▸len_any w ga b o cap n xs hl hn hR)
 rw[<-hm]at CL
 clear hm hR
 go_enter Tryz.func88,Tryz.ntmps88
 go_wp2_with fail
 refine(ae CL _ rfl).mono ?_
 rintro e w' ⟨rfl,rfl⟩
 go_wp2
 go_ret
 exact⟨aQ rfl,rfl⟩
set_option maxRecDepth 100000 in
set_option maxHeartbeats 3200000 in
theorem qC(w:World)(gb:Option Addr)(bb ob cb m M v:Nat)(ds:List Nat)(hdl:ds.length=M)(hM:M=m+2)(hn:M<=1099511627776)(hB:Rep w gb bb ob cb ds)(dd:ao ds)(h63:9223372036854775808<=ds.getD (m+1) 0)(hv:v=kF (ds.getD (m+1) 0*18446744073709551616+ds.getD m 0)):
  Calls Tryz.prog 112 #[.slice gb M cb] w fun e w'=>e=.returned (.agg #[.slice gb M cb,.int .u64 (v:Int)])/\Below w.heap.size w w':=by
 obtain rfl:=hB.head (by omega)
 obtain⟨m1,hm1⟩:∃ m1,m1=m+1:=⟨_,rfl⟩
 obtain⟨W1,hW1⟩:∃ W1,w.alloc (.cells #[.slice none 0 0,.int .u64 0] 139)=W1:=⟨_,rfl⟩
 have bA:Below w.heap.size w (w.alloc (.cells #[.slice none 0 0,.int .u64 0] 139)):=(Below.refl _ w).alloc (Nat.le_refl _) _
 rw[hW1]at bA
 have b1:=(hB.next bA).cell m1 (by omega)
 have b0:=(hB.next bA).cell m (by omega)
 rw[hm1]at b1
 have p1:=dd (m+1)
 have p0:=dd m
 generalize ds.getD (m+1) 0=d1 at *
 generalize ds.getD m 0=d0 at *
 rw[<-hm1]at b1
 have CI:=hide (fun w=>qR d1 d0 _ v w h63 p1 p0 rfl hv)
 have i1:(M:Int)-1=(m1:Int):=by omega
 have i2:(M:Int)-2=(m:Int):=by omega
 have j1:m1<M/\m<M:=by omega
 obtain⟨j1,j2⟩:=j1
 have k1:IntKind.i64.wrap (m1:Int)=(m1:Int):=by rw[IntKind.wrap_i64];omega
 have k2:IntKind.i64.wrap (m:Int)=(m:Int):=by rw[IntKind.wrap_i64];omega
 have hs1:W1.heap.size=w.heap.size+1:=by rw[<-hW1];simp
 obtain⟨P0,hP0⟩:∃ P0,w.heap.size=P0:=⟨_,rfl⟩
 have hbx:Hid (W1.heap[P0]?=some (.cells #[.slice none 0 0,.int .u64 0] 139 (0,0))):=by show _=_;rw[<-hW1, <-hP0];exact heap_alloc_new w _
 have HL:=hide (World.block_lt_of_cell? _ _ b0)
 have BA:=hide bA
 have HC:Hid (∀ W,Below W1.heap.size W1 W->W.cell? ⟨bb,ob+m1,none⟩=some (.int .u64 (d1:Int))/\W.cell? ⟨bb,ob+m,none⟩=some (.int .u64 (d0:Int))):=fun W b=>⟨(b.cell (p:=⟨bb,ob+m1,none⟩) (ae HL)).trans b1,(b.cell (p:=⟨bb,ob+m,none⟩) (ae HL)).trans b0⟩
 clear hv hM hm1 hB dd hdl h63 p1 p0 bA
 go_enter Tryz.func112,Tryz.ntmps112
 go_wp2_with fail
 have bl:Below W1.heap.size W1 W1.drew:=(Below.refl _ _).drew
 go_region_held3 (fun w'=>w'.cell? ⟨bb,ob+m1,none⟩=some (.int .u64 (d1:Int))/\w'.cell? ⟨bb,ob+m,none⟩=some (.int .u64 (d0:Int))) (first|(exact ae HC _ bl)|go_keep) (first
  |(go_at_call 150;with_reducible refine(ae CI _).mono ?_;rintro e w3 ⟨rfl,b3⟩;have bl:=bl.trans (b3.mono bl.size)))
 have hk:=(bl.block P0 (by rw[hs1];omega)).trans (ae hbx)
 have c0:w3.cell? ⟨P0,0,none⟩=some (.slice none 0 0):=cell_of_row _ _ _ _ _ (0,0) hk
 have c1:w3.cell? ⟨P0,1,none⟩=some (.int .u64 0):=cell_of_row _ _ _ _ _ (0,0) hk
 have f0:w3.frozen? ⟨P0,0,none⟩=false:=frozen_of_row _ _ _ _ _ hk
 have f1:w3.frozen? ⟨P0,1,none⟩=false:=frozen_of_row _ _ _ _ _ hk
 have z0:(w3.setCell ⟨P0,0,none⟩ (.slice (some ⟨bb,ob,none⟩) M cb)).cell? ⟨P0,0,none⟩=some (.slice (some ⟨bb,ob,none⟩) M cb):=World.cell?_setCell_same' _ _ _ (by rw[c0];rfl)
 have d1':(w3.setCell ⟨P0,0,none⟩ (.slice (some ⟨bb,ob,none⟩) M cb)).cell? ⟨P0,1,none⟩=some (.int .u64 0):=by
  rw[World.cell?_setCell_other _ _ _ _ (by simp)];exact c1
 have z1:((w3.setCell ⟨P0,0,none⟩ (.slice (some ⟨bb,ob,none⟩) M cb)).setCell ⟨P0,1,none⟩ (.int .u64 (v:Int))).cell? ⟨P0,1,none⟩=some (.int .u64 (v:Int)):=World.cell?_setCell_same' _ _ _ (by rw[d1'];rfl)
 clear hk d1'
 go_wp2
 refine bodyPost_ret (v:=.agg #[.slice (some ⟨bb,ob,none⟩) M cb,.int .u64 (v:Int)]) (by simp[results,Tryz.results112,go_sem,z0,z1]) rfl ?_
 exact⟨rfl,(((ae BA).trans (bl.mono (ae BA).size)).setCell (by show w.heap.size<=P0;omega) _).setCell (by show w.heap.size<=P0;omega) _⟩
end Go.Proofs.YtgcnhfgpflncaaaGreatDoor
/- What byMany of divs begins with:both numbers moved so that the divisor's top bit is set;a row laid over noughts. -/
namespace Go.Proofs.YtgcnhfgpflncaaaGreatDoor
open Go.RowKit
theorem Hu{t s:Nat}(hs:s<=63)(h:t*2^s<18446744073709551616):(t+1)*2^s<=18446744073709551616:=by
 have e:(18446744073709551616:Nat)=2^(64-s)*2^s:=by rw[<-Nat.pow_add,show 64-s+s=64 by omega]
 rw[e]at h ⊢
 exact Nat.mul_le_mul_right _ (Nat.lt_of_mul_lt_mul_right h)
theorem rC{vs ds:List Nat}{m s:Nat}(cB:cn vs)(hl:vs.length=m+1)(cD:cn ds)(hs:s<=63)(h1:9223372036854775808<=vs.getD m 0*2^s)(h2:vs.getD m 0*2^s<18446744073709551616)(hd:af ds=af vs*2^s):
  ds.length=m+1/\9223372036854775808<=ds.getD m 0:=by
 have e1:=ay vs m
 rw[show m+1=vs.length from hl.symm,List.take_length]at e1
 have l1:=ei cB.1 m
 have l2:=Hu hs h2
 have hX:=bI m
 generalize vs.getD m 0=t at *
 generalize af (vs.take m)=lo at *
 have hup:af ds<18446744073709551616^(m+1):=by
  rw[hd,Nat.pow_succ]
  have a1:af vs<18446744073709551616^m*(t+1):=by rw[e1,Nat.mul_succ];omega
  have a2:af vs*2^s<18446744073709551616^m*(t+1)*2^s:=Nat.mul_lt_mul_of_pos_right a1 (Nat.two_pow_pos s)
  rw[Nat.mul_assoc]at a2
  exact Nat.lt_of_lt_of_le a2 (Nat.mul_le_mul_left _ l2)
 have hlow:18446744073709551616^m*9223372036854775808<=af ds:=by
  rw[hd,e1,Nat.add_mul,Nat.mul_assoc]
  have:=Nat.mul_le_mul_left (18446744073709551616^m) h1
  omega
 have len1:=dE cD hup
 have len2:m<ds.length:=by
  refine Nat.lt_of_not_le fun h=>?_
  have:=ak cD.1
  have h3:18446744073709551616^ds.length<=18446744073709551616^m:=Nat.pow_le_pow_right (by omega) h
  have h4:18446744073709551616^m*1<=18446744073709551616^m*9223372036854775808:=Nat.mul_le_mul_left _ (by omega)
  omega
 have hlen:ds.length=m+1:=by omega
 refine⟨hlen,?_⟩
 have e2:=ay ds m
 rw[show m+1=ds.length from hlen.symm,List.take_length]at e2
 have l3:=ei cD.1 m
 refine Nat.le_of_not_lt fun h=>?_
 have h5:18446744073709551616^m*(ds.getD m 0+1)<=18446744073709551616^m*9223372036854775808:=Nat.mul_le_mul_left _ h
 rw[Nat.mul_succ]at h5
 omega
theorem vR{us:List Nat}{n s:Nat}(dA:ao us)(hl:us.length=n)(hs:s<=63):af us*2^s<18446744073709551616^(n+1):=by
 have h1:=ak dA
 rw[hl]at h1
 rw[Nat.pow_succ]
 have h2:(2:Nat)^s<=2^63:=Nat.pow_le_pow_right (by omega) hs
 have h3:(2:Nat)^s<=18446744073709551616:=by omega
 exact Nat.mul_lt_mul_of_lt_of_le h1 h3 (by omega)
theorem F8(W:World)(gr N:Nat)(ga:Option Addr)(ba oa cap l:Nat)(xs:List Nat)(hZ:aB W gr (List.replicate N 0))(hR:Rep W ga ba oa cap xs)(hl:xs.length=l)(hlN:l<=N):
  ∃ W',(∀ ty,(Builtin.copy_ #[29,29] ty #[.slice (some ⟨gr,0,none⟩) N N,.slice ga l cap]).run Tryz.prog W=.ok (.int .i64 (l:Int)) W')/\aB W' gr (xs++List.replicate (N-l) 0)/\Out (·=gr) W W':=by
 subst hl
 by_cases h0:xs.length=0
 ·obtain rfl:xs=[]:=List.eq_nil_of_length_eq_zero h0
  refine⟨W,fun ty=>run_copy_none W 29 29 ty 41 _ _ _ _ _ _ Tryz.underlying29 Tryz.sizeU (by simp),by simpa using hZ,Out.refl _ _⟩
 ·obtain rfl:=hR.head (by omega)
  have hZ':W.heap[gr]?=some (.cells (cellsOf (List.replicate N 0)).toArray 41 (0,0)):=hZ
  have ecl:goInt ((df xs).length:Int)=.int .i64 (xs.length:Int):=by rw[aG];rfl
  have hc:=run_copy_row (P:=Tryz.prog) W 29 29 (cs:=df xs) (elem:=41) (g:=gr) (o:=0) (dLen:=N) (dCap:=N) (a:=⟨ba,oa,none⟩) (sLen:=xs.length) (sCap:=cap) (cur:=(cellsOf (List.replicate N 0)).toArray) (t:=41)
  have hsr:∀ j v,(df xs)[j]?=some v->W.cell? ((⟨ba,oa,none⟩:Addr).add j)=some v:=by
   intro j v hj
   have hjl:j<xs.length:=by
    have:=(List.getElem?_eq_some_iff.1 hj).1
    rwa [aG]at this
   have:=hR.cell j hjl
   have e:(⟨ba,oa,none⟩:Addr).add j=⟨ba,oa+j,none⟩:=by unfold Addr.add;split<;>simp_all
   rw[e,this, <-hj]
   simp[df,cellsOf,hjl]
  refine⟨_,fun ty=>by rw[<-ecl];exact hc ty Tryz.underlying29 Tryz.sizeU hZ' (by rw[aG];exact(Nat.min_eq_left hlN).symm) hsr (by rw[aG];simp[cellsOf];omega) (cells_one _),?_,?_⟩
  ·have h:=setRow_heap W gr _ ((cellsOf (List.replicate N 0)).toArray.toList.take 0++df xs++(cellsOf (List.replicate N 0)).toArray.toList.drop (0+(df xs).length)).toArray _ _ hZ'
   show _=_
   rw[h]
   simp[df,cellsOf]
  ·exact Out.of_grown ⟨rfl,rfl,rfl,by simp[World.setRow],fun k hk hne=>setRow_other W gr k _ (fun e=>hne (by rw[e]))⟩
end Go.Proofs.YtgcnhfgpflncaaaGreatDoor
