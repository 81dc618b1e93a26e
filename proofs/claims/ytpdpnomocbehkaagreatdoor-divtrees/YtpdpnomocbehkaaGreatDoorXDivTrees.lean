/- A slice of rows of words that came in, as the walks read it. -/
import Derived.Test.YtpdpnomocbehkaaGreatDoorB30
import Derived.Test.YtpdpnomocbehkaaGreatDoorB13
import Derived.OpenShut
import Derived.Test.YtpdpnomocbehkaaGreatDoorB42
import Derived.Test.YtpdpnomocbehkaaGreatDoorB8
import Derived.Test.YtpdpnomocbehkaaGreatDoorB3
import Derived.Test.YtpdpnomocbehkaaGreatDoorB45
import Derived.Deep.RegionHeld3
import Derived.Test.YtpdpnomocbehkaaGreatDoorB41
import Derived.Test.YtpdpnomocbehkaaGreatDoorB44
import Derived.Test.YtpdpnomocbehkaaGreatDoorB46
import Derived.RangeFuncNested
import Derived.RangeFuncBound
import Derived.RangeFuncCalls
import Derived.RangeFuncLeaves
import Derived.RangeFuncBox
import Derived.RangeFuncWrites
import Derived.Test.YtpdpnomocbehkaaGreatDoorB37
import Derived.Test.YtpdpnomocbehkaaGreatDoorB43
import Derived.Test.YtpdpnomocbehkaaGreatDoorB4
import Derived.Stop.RegionWithIn
import Derived.Test.YtpdpnomocbehkaaGreatDoorB23
namespace Go.Proofs.YtpdpnomocbehkaaGreatDoor
open Go.RowKit
theorem I6{w:World}{A:Option Addr}{L C:Nat}{Z:List Int}(h1:L<=C)(h2:C<=maxLen)(h3:Z.length=C)(h4:∀ n ∈ Z,(Lit.int .u64 n).wf=true)(h5:A=none->C=0)
  (h6:∀ a',A=some a'->∀ c,c<C->w.cell? (a'.add c)=some (.int .u64 (Z.getD c 0))):∃ ga b o cap xs,Value.slice A L C=.slice ga xs.length cap/\Rep w ga b o cap xs/\ao xs:=by
 cases A with
 |none=>
  have hC:=h5 rfl
  obtain rfl:L=0:=by omega
  exact⟨none,0,0,C,[],rfl,Rep.nil _ _ _ _ _,mS⟩
 |some a'=>
  obtain⟨b,o,xs,hx,hr,hw⟩:=aR (w:=w) (a:=some a') (len:=L) (cap:=C) (zs:=Z) (Or.inr ⟨a',rfl,h1,h2,h3,fun i hi=>h6 a' rfl i (by omega),h4⟩)
  exact⟨some a',b,o,C,xs,by rw[hx],hr,hw⟩
theorem EC{w:World}{x:Addr}{len cap:Nat}{A:Nat->Option Addr}{L C:Nat->Nat}{Z:Nat->List Int}{base:Nat}(hl:len<=cap)
  (h:∀ r,r<cap->w.cell? (x.add r)=some (.slice (A r) (L r) (C r))/\L r<=C r/\C r<=maxLen/\(Z r).length=C r/\(∀ n ∈ Z r,(Lit.int .u64 n).wf=true)/\(A r=none->C r=0)/\
   ∀ a',A r=some a'->base<=a'.block/\∀ c,c<C r->w.cell? (a'.add c)=some (.int .u64 ((Z r).getD c 0))):
  ∃ bp op vs,vs.length=len/\RowsIn w (some x) bp op vs:=by
 by_cases h0:len=0
 ·subst h0
  exact⟨0,0,[],rfl,⟨fun h=>absurd h (by simp),fun j hj=>absurd hj (by simp),fun j hj=>absurd hj (by simp)⟩⟩
 ·obtain⟨b,off,spot⟩:=x
  have hspot:spot=none:=by simpa [Addr.add]using World.cell?_spot (h 0 (by omega)).1
  subst hspot
  have hv:∀ j,j<len->((List.range len).map fun r=>Value.slice (A r) (L r) (C r)).getD j undef=.slice (A j) (L j) (C j):=fun j hj=>by
   simp[List.getD_eq_getElem?_getD,hj]
  have hlen:((List.range len).map fun r=>Value.slice (A r) (L r) (C r)).length=len:=by simp
  refine⟨b,off,(List.range len).map fun r=>.slice (A r) (L r) (C r),hlen,⟨fun _=>rfl,fun j hj=>?_,fun j hj=>?_⟩⟩
  ·rw[hlen]at hj
   rw[hv j hj, <-Go.WideShapes.add_plain]
   exact(h j (by omega)).1
  ·rw[hlen]at hj
   obtain⟨_,q1,q2,q3,q4,q5,q6⟩:=h j (by omega)
   rw[hv j hj]
   exact I6 q1 q2 q3 q4 q5 (fun a' ha=>(q6 a' ha).2)
theorem EB(w:World):∃ bp op vs,vs.length=0/\RowsIn w none bp op vs:=
 ⟨0,0,[],rfl,⟨fun h=>absurd h (by simp),fun j hj=>absurd hj (by simp),fun j hj=>absurd hj (by simp)⟩⟩
end Go.Proofs.YtpdpnomocbehkaaGreatDoor
/- Products of all:the reference's. -/
namespace Go.Proofs.YtpdpnomocbehkaaGreatDoor
open Go.RowKit
end Go.Proofs.YtpdpnomocbehkaaGreatDoor
/- Product of the landed package mul:halves of a list. -/
namespace Go.Proofs.YtpdpnomocbehkaaGreatDoor
open Go.RowKit
theorem ik{vs:List Value}{q j:Nat}(h:j<q):(vs.take q).getD j undef=vs.getD j undef:=by
 simp[List.getD_eq_getElem?_getD,List.getElem?_take_of_lt h]
theorem fD{ns:List Nat}{q j:Nat}(h:j<q):(ns.take q).getD j 0=ns.getD j 0:=by
 simp[List.getD_eq_getElem?_getD,List.getElem?_take_of_lt h]
theorem ij(vs:List Value)(q j:Nat):(vs.drop q).getD j undef=vs.getD (q+j) undef:=by
 simp[List.getD_eq_getElem?_getD,List.getElem?_drop]
theorem fC(ns:List Nat)(q j:Nat):(ns.drop q).getD j 0=ns.getD (q+j) 0:=by
 simp[List.getD_eq_getElem?_getD,List.getElem?_drop]
structure PM(w:World)(gp:Option Addr)(bp op:Nat)(vs:List Value)(ns:List Nat)(np c:Nat):Prop where
 lv:vs.length=np
 parts:jD w gp bp op vs ns
 small:∀ j,j<np->ns.getD j 0<18446744073709551616^c
 each:∀ j,j<np->aX w (vs.getD j undef) (ns.getD j 0)
theorem PM.take{w:World}{gp:Option Addr}{bp op np c:Nat}{vs:List Value}{ns:List Nat}(h:PM w gp bp op vs ns np c)(q:Nat)(hq:q<=np):PM w gp bp op (vs.take q) (ns.take q) q c:=by
 have h1:=h.lv
 have h2:=h.parts.len
 have hl:(vs.take q).length=q:=by simp;omega
 refine⟨hl,⟨fun h0=>h.parts.head (by omega),by simp;omega,fun j hj=>?_,fun j hj=>?_⟩,fun j hj=>?_,fun j hj=>?_⟩
 ·rw[ik (by omega)];exact h.parts.cell j (by omega)
 ·rw[ik (by omega),fD (by omega)];exact h.parts.each j (by omega)
 ·rw[fD hj];exact h.small j (by omega)
 ·rw[ik hj,fD hj];exact h.each j (by omega)
theorem PM.drop{w:World}{gp:Option Addr}{bp op np c:Nat}{vs:List Value}{ns:List Nat}(h:PM w gp bp op vs ns np c)(q n:Nat)(hq:q+n=np):PM w (some ⟨bp,op+q,none⟩) bp (op+q) (vs.drop q) (ns.drop q) n c:=by
 have h1:=h.lv
 have h2:=h.parts.len
 have hl:(vs.drop q).length=n:=by simp;omega
 refine⟨hl,⟨fun h0=>rfl,by simp;omega,fun j hj=>?_,fun j hj=>?_⟩,fun j hj=>?_,fun j hj=>?_⟩
 ·rw[ij,Nat.add_assoc];exact h.parts.cell (q+j) (by omega)
 ·rw[ij,fC];exact h.parts.each (q+j) (by omega)
 ·rw[fC];exact h.small (q+j) (by omega)
 ·rw[ij,fC];exact h.each (q+j) (by omega)
theorem PM.out{w w':World}{gp:Option Addr}{bp op np c:Nat}{vs:List Value}{ns:List Nat}{gm gt gk ge g:Nat}{s l m:Int}{T:Tab}(h:PM w gp bp op vs ns np c)(hE:aH w gm gt gk ge g s l m T)(o:Out (·=g) w w'):PM w' gp bp op vs ns np c:=by
 have h1:=h.lv
 refine⟨h1,⟨h.parts.head,h.parts.len,fun j hj=>hE.cell o (h.parts.cell j hj) rfl (fun z e=>?_),fun j hj=>(hE.inM o (h.each j (by omega))).inW⟩,h.small,fun j hj=>hE.inM o (h.each j hj)⟩
 obtain⟨ga,b,oo,cap,xs,hv,_⟩:=h.each j (by omega)
 rw[hv]at e
 cases e
theorem PM.next{w w':World}{gp:Option Addr}{bp op np c:Nat}{vs:List Value}{ns:List Nat}(h:PM w gp bp op vs ns np c)(b:Below w.heap.size w w'):PM w' gp bp op vs ns np c:=
 ⟨h.lv,⟨h.parts.head,h.parts.len,fun j hj=>(b.cell (World.block_lt_of_cell? _ _ (h.parts.cell j hj))).trans (h.parts.cell j hj),fun j hj=>(h.parts.each j hj).next b⟩,h.small,fun j hj=>(h.each j hj).next b⟩
end Go.Proofs.YtpdpnomocbehkaaGreatDoor
/- product of the landed package div:of one or two numbers. -/
namespace Go.Proofs.YtpdpnomocbehkaaGreatDoor
open Go.RowKit
def bC(w W:World)(v:Value)(n:Nat):Prop:=aX w v n\/(ah w.heap.size W v n/\wl n<=16384)
def rC(w:World)(gv gr gd gm gt gk ge g:Nat)(s l:Int)(T:Tab)(np c:Nat)(vs:List Value)(ns:List Nat)(r:Value)(w':World):Prop:=
 ∃ z s' m',((r=vs.getD 0 undef/\z=ns.getD 0 0)\/(ah w.heap.size w' r z/\wl z<=16384))/\(∀ j,j<np->ns.getD j 0∣z)/\z<18446744073709551616^(c+c)/\aw w' gv gr gd gm gt gk ge g s' l m' T/\s<=s'/\s'<=s+4294967296/\Out (·=g) w w'
set_option maxRecDepth 100000 in
set_option maxHeartbeats 1600000 in
theorem xz(w:World)(gv gr gd gm gt gk ge g:Nat)(s l m:Int)(T:Tab)(gp:Option Addr)(bp op cp c:Nat)(dg:Int)(vs:List Value)(ns:List Nat)
  (hE:aw w gv gr gd gm gt gk ge g s l m T) (hP:PM w gp bp op vs ns 1 c):
  Calls Tryz.prog 98 #[.pointer (some ⟨gv,0,none⟩),.slice gp 1 cp,.int .i64 dg] w fun e w'=>∃ ra rl rc,e=.returned (.slice ra rl rc)/\rC w gv gr gd gm gt gk ge g s l T 1 c vs ns (.slice ra rl rc) w':=by
 have lvP:=hP.lv
 obtain rfl:=hP.parts.head (by omega)
 have c0:=hP.parts.cell 0 (by omega)
 have i0:=hP.each 0 (by omega)
 obtain⟨va,vl,vc,hv⟩:=i0.noInt
 rw[hv]at c0 i0
 have HF:Hid (rC w gv gr gd gm gt gk ge g s l T 1 c vs ns (.slice va vl vc) w):=⟨ns.getD 0 0,s,m,Or.inl ⟨hv.symm,rfl⟩,fun j hj=>by rw[show j=0 by omega];exact Nat.dvd_refl _,aP (hP.small 0 (by omega)) (by omega),hE,Int.le_refl _,by omega,Out.refl _ _⟩
 rw[Nat.add_zero]at c0
 clear hE hP i0 hv
 go_enter Tryz.func98,Tryz.ntmps98
 go_wp2
 go_ret
 exact⟨_,_,_,rfl,ae HF⟩
set_option maxRecDepth 100000 in
set_option maxHeartbeats 3200000 in
theorem xA(w:World)(gv gr gd gm gt gk ge g:Nat)(s l m:Int)(T:Tab)(gp:Option Addr)(bp op cp c:Nat)(dg:Int)(vs:List Value)(ns:List Nat)
  (hE:aw w gv gr gd gm gt gk ge g s l m T) (hT:TB w) (h0:0<=s) (h1:s<=1143000000000000000) (h2:0<=l) (h3:l<=900) (hc:c<=8000) (hP:PM w gp bp op vs ns 2 c):
  Calls Tryz.prog 98 #[.pointer (some ⟨gv,0,none⟩),.slice gp 2 cp,.int .i64 dg] w fun e w'=>∃ ra rl rc,e=.returned (.slice ra rl rc)/\rC w gv gr gd gm gt gk ge g s l T 2 c vs ns (.slice ra rl rc) w':=by
 have lvP:=hP.lv
 obtain rfl:=hP.parts.head (by omega)
 have c0:=hP.parts.cell 0 (by omega)
 have c1:=hP.parts.cell 1 (by omega)
 have i0:=hP.each 0 (by omega)
 have i1:=hP.each 1 (by omega)
 obtain⟨va,vl,vc,hv⟩:=i0.noInt
 obtain⟨ua,ul,uc,hu⟩:=i1.noInt
 rw[hv]at c0 i0
 rw[hu]at c1 i1
 have sx:=hP.small 0 (by omega)
 have sy:=hP.small 1 (by omega)
 obtain⟨X,hX⟩:∃ X,ns.getD 0 0=X:=⟨_,rfl⟩
 obtain⟨Y,hY⟩:∃ Y,ns.getD 1 0=Y:=⟨_,rfl⟩
 rw[hX]at i0 sx
 rw[hY]at i1 sy
 have sxy:X*Y<18446744073709551616^(c+c):=by rw[Nat.pow_add];exact Nat.mul_lt_mul'' sx sy
 have hdv:∀ z,(X∣z/\Y∣z)->∀ j,j<2->ns.getD j 0∣z:=fun z hz j hj=>by
  rcases(show j=0\/j=1 by omega)with rfl|rfl
  ·rw[hX];exact hz.1
  ·rw[hY];exact hz.2
 obtain⟨L1,hL1,hB1,_⟩:=dW i0.inW
 obtain⟨L2,hL2,hB2,_⟩:=dW i1.inW
 have CB1:Hid (∀ W,Below w.heap.size w W->Calls Tryz.prog 25 #[.slice va vl vc] W fun e w'=>e=.returned (.int .i64 (L1:Int))/\w'=W):=fun W b=>by
  obtain⟨L,_,hB,C⟩:=dW (i0.inW.next b)
  rw[gA hB hB1]at C
  exact C
 have CB2:Hid (∀ W,Below w.heap.size w W->Calls Tryz.prog 25 #[.slice ua ul uc] W fun e w'=>e=.returned (.int .i64 (L2:Int))/\w'=W):=fun W b=>by
  obtain⟨L,_,hB,C⟩:=dW (i1.inW.next b)
  rw[gA hB hB2]at C
  exact C
 have wx:=i0.wl'
 have wy:=i1.wl'
 have hq1:wl X*wl Y<=16384*16384:=Nat.mul_le_mul wx wy
 have hc1:=pH T (wl X) (wl Y) wx wy
 have CM:Hid (∀ W,Below w.heap.size w W->Calls Tryz.prog 39 #[.pointer (some ⟨gm,0,none⟩),.slice va vl vc,.slice ua ul uc] W fun e w'=>∃ ra rl rc,e=.returned (.slice ra rl rc)/\rC w gv gr gd gm gt gk ge g s l T 2 c vs ns (.slice ra rl rc) w'):=fun W b=>by
  have EW:=hE.next b
  refine(pX W gm gt gk ge g s l m T _ _ X Y EW.rcp.div.mul (hT.next b) h0 (by omega) h2 (by omega) (i0.next b) (i1.next b)).mono ?_
  rintro e w' ⟨r,m',rfl,nr,E',_,_,o⟩
  obtain⟨ra,rl,rc,rfl⟩:=nr.shape
  exact⟨ra,rl,rc,rfl,X*Y,_,m',Or.inr ⟨nr.mono b.size,Nat.le_trans (cI _ _ sxy) (by omega)⟩,hdv _ ⟨Nat.dvd_mul_right _ _,Nat.dvd_mul_left _ _⟩,sxy,EW.kept o (EW.rcp.kept o (EW.rcp.div.kept o E')),by omega,by omega,(Out.of_below b).trans o⟩
 have HN:Hid (∀ W,Below w.heap.size w W->rC w gv gr gd gm gt gk ge g s l T 2 c vs ns (.slice none 0 0) W):=fun W b=>⟨0,s,m,Or.inr ⟨jR _ _,by rw[ay.2 rfl];omega⟩,hdv _ ⟨Nat.dvd_zero _,Nat.dvd_zero _⟩,bX _,hE.next b,Int.le_refl _,by omega,Out.of_below b⟩
 obtain⟨e0,e1,e2⟩:w.cell? ⟨gv,0,none⟩=some (.pointer (some ⟨gr,0,none⟩))/\w.cell? ⟨gr,0,none⟩=some (.pointer (some ⟨gd,0,none⟩))/\w.cell? ⟨gd,0,none⟩=some (.pointer (some ⟨gm,0,none⟩)):=⟨hE.ptr,hE.rcp.way.1,hE.rcp.way.2⟩
 rw[Nat.add_zero]at c0
 obtain⟨L,hL⟩:∃ L,L=L1+L2:=⟨_,rfl⟩
 have k1:(L1:Int)+(L2:Int)=(L:Int):=by omega
 have k2:IntKind.i64.wrap (L:Int)=(L:Int):=by rw[IntKind.wrap_i64];omega
 have k3:IntKind.i64.wrap ((L:Int)-2)=(L:Int)-2:=by rw[IntKind.wrap_i64];omega
 clear hE hP i0 i1 hv hu hT h0 h1 h2 h3 sx sy sxy hdv wx wy hq1 hc1 hX hY hB1 hB2 hL hL1 hL2
 have bl:Below w.heap.size w w.drew:=(Below.refl _ _).drew
 by_cases hd:dg<=(L:Int)-2
 ·clear CM
  go_enter Tryz.func98,Tryz.ntmps98
  go_wp2
  go_big_region
  go_wp2_with fail
  with_reducible refine(ae CB1 _ bl).mono ?_
  rintro e w1 ⟨rfl,hw⟩
  obtain rfl:=hw.symm
  clear hw
  go_wp2_with fail
  with_reducible refine(ae CB2 _ bl).mono ?_
  rintro e w1 ⟨rfl,hw⟩
  obtain rfl:=hw.symm
  clear hw
  go_wp2
  go_ret
  exact⟨_,_,_,rfl,ae HN _ bl⟩
 ·clear HN
  go_enter Tryz.func98,Tryz.ntmps98
  go_wp2
  go_big_region
  go_wp2_with fail
  with_reducible refine(ae CB1 _ bl).mono ?_
  rintro e w1 ⟨rfl,hw⟩
  obtain rfl:=hw.symm
  clear hw
  go_wp2_with fail
  with_reducible refine(ae CB2 _ bl).mono ?_
  rintro e w1 ⟨rfl,hw⟩
  obtain rfl:=hw.symm
  clear hw
  go_wp2_with fail
  with_reducible refine(ae CM _ bl).mono ?_
  rintro e w1 ⟨ra,rl,rc,rfl,hF⟩
  have HF:=hide hF
  clear hF
  go_wp2
  go_ret
  exact⟨_,_,_,rfl,ae HF⟩
end Go.Proofs.YtpdpnomocbehkaaGreatDoor
/- restsBelow of the landed package div:what is left of the rests above,by each number of a row. -/
namespace Go.Proofs.YtpdpnomocbehkaaGreatDoor
open Go.RowKit
theorem aw.out{D:Nat->Prop}{w w':World}{gv gr gd gm gt gk ge g:Nat}{s l m:Int}{T:Tab}(h:aw w gv gr gd gm gt gk ge g s l m T)(o:Out D w w')(hd:∀ j,j<w.heap.size->j=gv\/j=gr\/j=gd\/j=gm\/j=gt\/j=gk\/j=ge\/j=g->¬D j):aw w' gv gr gd gm gt gk ge g s l m T:=by
 obtain⟨l1,l2,l3,l4,l5,l6,l7,l8⟩:=h.lts
 exact⟨o.cell h.ptr (hd gv l1 (by simp)),h.rcp.out o (hd gr l2 (by simp)) (hd gd l3 (by simp)) (hd gm l4 (by simp)) (hd gt l5 (by simp)) (hd gk l6 (by simp)) (hd ge l7 (by simp)) (hd g l8 (by simp)),h.nm⟩
theorem aw.far{w W W':World}{gv gr gd gm gt gk ge g:Nat}{s l m s' l' m':Int}{T:Tab}(h:aw w gv gr gd gm gt gk ge g s l m T)(k:aw W gv gr gd gm gt gk ge g s' l' m' T)(o:Out (fun j=>w.heap.size<=j) W W'):aw W' gv gr gd gm gt gk ge g s' l' m' T:=by
 obtain⟨l1,l2,l3,l4,l5,l6,l7,l8⟩:=h.lts
 refine k.out o (fun j _ hj hd=>?_)
 rcases hj with rfl|rfl|rfl|rfl|rfl|rfl|rfl|rfl<;>omega
theorem bC.inM{w W:World}{gv gr gd gm gt gk ge g:Nat}{s l m:Int}{T:Tab}{v:Value}{n:Nat}(h:bC w W v n)(hE:aw w gv gr gd gm gt gk ge g s l m T)(o:Out (·=g) w W):aX W v n:=by
 rcases h with h|⟨h,hl⟩
 ·exact hE.inM o h
 ·exact h.toM (eU hl) (Nat.le_refl _)
theorem bC.out{w W W':World}{g:Nat}{v:Value}{n:Nat}(h:bC w W v n)(hg:g<w.heap.size)(o:Out (·=g) W W'):bC w W' v n:=by
 rcases h with h|h
 ·exact Or.inl h
 ·exact Or.inr ⟨o.newW h.1 (fun x hx=>by omega),h.2⟩
theorem bC.apart{w W:World}{P k t:Nat}{v d:Value}{n:Nat}{vs:List Value}(h:bC w W v n)(hV:fM W P vs t)(ht:t≠90):bC w (W.setCell ⟨P,k,none⟩ d) v n:=by
 rcases h with h|h
 ·exact Or.inl h
 ·exact Or.inr ⟨gJ h.1 hV ht,h.2⟩
theorem iw{rs:List Value}{k:Nat}(d:Value)(h:k<rs.length):(rs.set k d).getD k undef=d:=by simp[List.getD_eq_getElem?_getD,h]
theorem getD_set_ne{rs:List Value}{k j:Nat}(d:Value)(h:¬k=j):(rs.set k d).getD j undef=rs.getD j undef:=by simp[List.getD_eq_getElem?_getD,h]
def MV(w:World)(gv gr gd gm gt gk ge g:Nat)(s l:Int)(T:Tab)(np:Nat)(rs ns:List Nat)(e:Ending)(w':World):Prop:=
 ∃ us s' m',e=.returned (.slice (some ⟨w.heap.size,0,none⟩) np np)/\fM w' w.heap.size us 29/\us.length=np/\(∀ j,j<np->bC w w' (us.getD j undef) (rs.getD (j/2) 0%ns.getD j 0)/\(ns.getD j 0≠0->ah w.heap.size w' (us.getD j undef) (rs.getD (j/2) 0%ns.getD j 0)))/\aw w' gv gr gd gm gt gk ge g s' l m' T/\s<=s'/\s'<=s+640064*(np:Int)/\Out (·=g) w w'
theorem IX{w w':World}{gv gr gd gm gt gk ge g:Nat}{s l s' m':Int}{T:Tab}{np P0:Nat}{rs ns:List Nat}{us:List Value}(hP:w.heap.size=P0)(h1:fM w' P0 us 29)(h2:us.length=np)(h3:∀ j,j<np->bC w w' (us.getD j undef) (rs.getD (j/2) 0%ns.getD j 0)/\(ns.getD j 0≠0->ah P0 w' (us.getD j undef) (rs.getD (j/2) 0%ns.getD j 0)))(h4:aw w' gv gr gd gm gt gk ge g s' l m' T)(h5:s<=s')(h6:s'<=s+640064*(np:Int))(h7:Out (·=g) w w'):
  MV w gv gr gd gm gt gk ge g s l T np rs ns (.returned (.slice (some ⟨P0,0,none⟩) np np)) w':=by
 subst hP
 exact⟨us,s',m',rfl,h1,h2,h3,h4,h5,h6,h7⟩
set_option maxRecDepth 100000 in
set_option maxHeartbeats 3200000 in
theorem Et(w:World)(gv gr gd gm gt gk ge g:Nat)(s l m:Int)(T:Tab)(ga:Option Addr)(ba oa ca na ka:Nat)(as':List Value)(rs:List Nat)(gp:Option Addr)(bp op cp np kc:Nat)(vs:List Value)(ns:List Nat)
  (hE:aw w gv gr gd gm gt gk ge g s l m T) (hT:TB w) (h0:0<=s) (h1:s<=1143000000000000000) (h2:0<=l) (h3:l<=900)
  (hA:PM w ga ba oa as' rs na ka) (hP:PM w gp bp op vs ns np kc) (hix:∀ j,j<np->j/2<na) (hw:∀ j,j<na->wl (rs.getD j 0)<=100) (hnp:np<=1000) (hna:na<=1000) (hcp:np<=cp):
  Calls Tryz.prog 72 #[.pointer (some ⟨gv,0,none⟩),.slice ga na ca,.slice gp np cp] w (MV w gv gr gd gm gt gk ge g s l T np rs ns):=by
 have lvA:=hA.lv
 have lvP:=hP.lv
 have hgl:=hE.met.lt
 have hmk:=sj np (by omega)
 have HCa:Hid (∀ W,Out (·=g) w W->∀ j,j<np->ga=some ⟨ba,oa,none⟩/\W.cell? ⟨ba,oa+j/2,none⟩=some (as'.getD (j/2) undef)):=fun W o j hj=>⟨hA.parts.head (by have:=hix j hj;omega),(hA.out hE.rcp.div.mul o).parts.cell (j/2) (by rw[lvA];exact hix j hj)⟩
 have HCp:Hid (∀ W,Out (·=g) w W->∀ j,j<np->gp=some ⟨bp,op,none⟩/\W.cell? ⟨bp,op+j,none⟩=some (vs.getD j undef)):=fun W o j hj=>⟨hP.parts.head (by omega),(hP.out hE.rcp.div.mul o).parts.cell j (by omega)⟩
 have HSa:Hid (∀ j,j<np->∃ a b c,as'.getD (j/2) undef=.slice a b c):=fun j hj=>(hA.each _ (hix j hj)).noInt
 have HSp:Hid (∀ j,j<np->∃ a b c,vs.getD j undef=.slice a b c):=fun j hj=>(hP.each _ hj).noInt
 have CZ:Hid (∀ W,Out (·=g) w W->∀ j,j<np->Calls Tryz.prog 62 #[vs.getD j undef] W fun e w'=>e=.returned (.bool (decide (ns.getD j 0=0)))/\w'=W):=fun W o j hj=>cL (hE.inM o (hP.each j hj)).inW _ rfl
 have CD:Hid (∀(W:World) (s1 m1:Int) (j:Nat),aw W gv gr gd gm gt gk ge g s1 l m1 T->s<=s1->s1<=s+640064*(j:Int)->Out (·=g) w W->j<np->ns.getD j 0≠0->Calls Tryz.prog 12 #[.pointer (some ⟨gv,0,none⟩),as'.getD (j/2) undef,vs.getD j undef] W fun e w'=>∃ qa ql qc ra rl rc s' m',e=.returned (.tuple #[.slice qa ql qc,.slice ra rl rc,.int .i64 0])/\ah w.heap.size w' (.slice ra rl rc) (rs.getD (j/2) 0%ns.getD j 0)/\wl (rs.getD (j/2) 0%ns.getD j 0)<=16384/\aw w' gv gr gd gm gt gk ge g s' l m' T/\s<=s'/\s'<=s+640064*((j+1:Nat):Int)/\Out (·=g) W w'/\Out (·=g) w w'):=fun W s1 m1 j E k1 k2 o hj hz=>by
  have hw1:=hw _ (hix j hj)
  refine(jJ W gv gr gd gm gt gk ge g s1 l m1 T _ _ _ _ E (hE.rcp.tb o hT) (by omega) (by omega) h2 h3 (hE.inM o (hA.each _ (hix j hj))) (hE.inM o (hP.each _ hj)) (by omega) (by omega)).mono ?_
  rintro e w' ⟨q,r,gq,gx,s',m',j1,j2,j3,⟨_,j4,j5⟩,j6,j7,j8,_,_,j9⟩
  obtain⟨qa,ql,qc,rfl⟩:=j2.toW.shape
  have n3:=j3.toW.mono (Nat.le_trans o.size j5)
  obtain⟨ra,rl,rc,rfl⟩:=n3.shape
  have hn2:wl (rs.getD (j/2) 0)*wl (rs.getD (j/2) 0)<=100*100:=Nat.mul_le_mul hw1 hw1
  have hwr:wl (rs.getD (j/2) 0%ns.getD j 0)<=16384:=Nat.le_trans (aS (Nat.mod_le _ _)) (by omega)
  exact⟨qa,ql,qc,ra,rl,rc,s',m',j1,n3,hwr,j6,by omega,by omega,j9,o.trans j9⟩
 have HO:Hid (∀ j,j<np->ns.getD j 0=0->aX w (as'.getD (j/2) undef) (rs.getD (j/2) 0%ns.getD j 0)):=fun j hj hz=>by rw[hz,Nat.mod_zero];exact hA.each _ (hix j hj)
 have HIX:=hide hix
 have HE:=hide hE
 clear hA hP hw hT hix
 go_enter Tryz.func72,Tryz.ntmps72
 have b2:Below w.heap.size w (w.alloc (.cells (iz np).toArray 29)):=(Below.refl _ _).alloc (Nat.le_refl _) _
 have V2:fM (w.alloc (.cells (iz np).toArray 29)) w.heap.size (iz np) 29:=heap_alloc_new w _
 have E2:=(ae HE).next b2
 have O2:Out (·=g) w (w.alloc (.cells (iz np).toArray 29)):=Out.of_below b2
 obtain⟨P0,hP0⟩:∃ P0,w.heap.size=P0:=⟨_,rfl⟩
 rw[hP0]at V2
 obtain⟨W2,hW2⟩:∃ W2,w.alloc (.cells (iz np).toArray 29)=W2:=⟨_,rfl⟩
 rw[hW2]at V2 E2 O2
 have ln:(iz np).length=np:=by simp[iz]
 clear b2 hE
 have HLT:=hide (ae HE).lts
 go_wp2
 go_loopw [15] (fun i wr=>∃(k:Nat) (us:List Value) (sp mp:Int),k<=np/\i=.int .i64 (k:Int)/\Hid (fM wr P0 us 29)/\Hid (us.length=np)/\Hid (∀ j,j<k->bC w wr (us.getD j undef) (rs.getD (j/2) 0%ns.getD j 0)/\(ns.getD j 0≠0->ah P0 wr (us.getD j undef) (rs.getD (j/2) 0%ns.getD j 0)))/\Hid (aw wr gv gr gd gm gt gk ge g sp l mp T)/\s<=sp/\sp<=s+640064*(k:Int)/\Hid (Out (·=g) w wr)) (fun i _=>np-(intOf i).toNat)
 case atStart=>exact⟨0,iz np,s,m,Nat.zero_le _,rfl,V2,ln,fun j hj=>absurd hj (by omega),E2,Int.le_refl _,by omega,O2⟩
 case round=>
  obtain⟨k,us,sp,mp,hk,rfl,V,hul,hN,E,p1,p2,O⟩:=hrel
  by_cases h1k:k<np
  ·obtain⟨rfl,ca1⟩:=ae HCa _ (ae O) k h1k
   obtain⟨rfl,cp1⟩:=ae HCp _ (ae O) k h1k
   obtain⟨h,hh⟩:∃ h,h=k/2:=⟨_,rfl⟩
   have hha:h<na:=by rw[hh];exact ae HIX k h1k
   obtain⟨aa,al,ac,hav⟩:=ae HSa k h1k
   obtain⟨va,vl,vc,hvv⟩:=ae HSp k h1k
   have cP:=(ae V).cell k (by have:=hul.out;omega)
   have fP:=(ae V).frozen k
   have hsl:∃ d,us.getD k undef=d:=⟨_,rfl⟩
   obtain⟨d,hd⟩:=hsl
   rw[hd]at cP
   obtain⟨W3,hW3⟩:∃ W3,wr.setCell ⟨P0,k,none⟩ (.slice aa al ac)=W3:=⟨_,rfl⟩
   have gset:Out (·=P0) wr W3:=by rw[<-hW3];exact Out.of_grown (aj _ _ _ _)
   have O3:Out (·=g) w W3:=(ae O).fresh gset (fun i hi=>Or.inr (by omega))
   have V3:fM W3 P0 (us.set k (.slice aa al ac)) 29:=by rw[<-hW3];exact(ae V).set k _
   have lts:=ae HLT
   have E3:aw W3 gv gr gd gm gt gk ge g sp l mp T:=(ae HE).far (ae E) (gset.mono (fun j hj=>by omega))
   have N3:∀ j,j<k->bC w W3 ((us.set k (.slice aa al ac)).getD j undef) (rs.getD (j/2) 0%ns.getD j 0)/\(ns.getD j 0≠0->ah P0 W3 ((us.set k (.slice aa al ac)).getD j undef) (rs.getD (j/2) 0%ns.getD j 0)):=fun j hj=>by
    rw[getD_set_ne _ (by omega), <-hW3]
    exact⟨((ae hN) j hj).1.apart (ae V) (by decide),fun hz=>gJ (((ae hN) j hj).2 hz) (ae V) (by decide)⟩
   have l3:(us.set k (.slice aa al ac)).length=np:=by rw[List.length_set];exact hul.out
   have CZk:=ae CZ W3 O3 k h1k
   have ca3:=(ae HCa _ O3 k h1k).2
   rw[hav, <-hh]at ca1 ca3
   rw[hvv]at cp1 CZk
   have HOk:=ae HO k h1k
   rw[hav]at HOk
   have CDk:=ae CD W3 sp mp k E3 p1 p2 O3 h1k
   rw[hav,hvv]at CDk
   have HOk:=hide HOk
   have HV3:=hide V3
   have HE3:=hide E3
   have HO3:=hide O3
   have HN3:=hide N3
   have HL3:=hide l3
   have i1:(k:Int).tdiv 2=(h:Int):=by rw[Int.tdiv_eq_ediv_of_nonneg (by omega)];omega
   have i2:(k:Int)/2=(h:Int):=by omega
   have i3:IntKind.i64.wrap (h:Int)=(h:Int):=by rw[IntKind.wrap_i64];omega
   have hki:(k:Int)<(np:Int):=by omega
   have hh1:h<=1000/\k<=1000:=by omega
   clear hh hav hvv hd V N3 E O gset O3 V3 E3 l3 lts hN E2 V2 O2
   by_cases hz:ns.getD k 0=0
   ·rw[decide_eq_true hz]at CZk
    have CZk:=hide CZk
    have HNk:Hid (bC w W3 (.slice aa al ac) (rs.getD (k/2) 0%ns.getD k 0)/\(ns.getD k 0≠0->ah P0 W3 (.slice aa al ac) (rs.getD (k/2) 0%ns.getD k 0))):=⟨Or.inl (ae HOk hz),fun h=>absurd hz h⟩
    clear hz CDk
    go_wp2_with fail
    with_reducible refine(ae CZk).mono ?_
    rintro e w4 ⟨rfl,hw⟩
    obtain rfl:=hw.symm
    clear hw
    go_wp2
    refine⟨⟨k+1,us.set k (.slice aa al ac),sp,mp,by omega,by go_num,HV3,HL3,?_,HE3,p1,by omega,HO3⟩,by simp[intOf];omega⟩
    intro j hj
    by_cases e:j=k
    ·subst e
     rw[iw _ (by have:=hul.out;omega)]
     exact ae HNk
    ·exact ae HN3 j (by omega)
   ·rw[decide_eq_false hz]at CZk
    have CZk:=hide CZk
    have CDk:=hide (CDk hz)
    clear hz
    go_wp2_with fail
    with_reducible refine(ae CZk).mono ?_
    rintro e w4 ⟨rfl,hw⟩
    obtain rfl:=hw.symm
    clear hw
    go_wp2_with fail
    with_reducible refine(ae CDk).mono ?_
    rintro e W5 ⟨qa,ql,qc,ra,rl,rc,s5,m5,rfl,n5,w5,E5,y1,y2,o5,O5⟩
    have V5:fM W5 P0 (us.set k (.slice aa al ac)) 29:=(o5.block P0 (ae HV3).lt (by show ¬P0=g;omega)).trans (ae HV3)
    have cP5:=V5.cell k (by have:=ae HL3;omega)
    rw[iw _ (by have:=hul.out;omega)]at cP5
    have fP5:=V5.frozen k
    rw[hP0]at n5
    have HN5:=hide n5
    have HW5:=hide w5
    have HE5:=hide E5
    have HO5:=hide O5
    have Ho5:=hide o5
    have HV5:=hide V5
    clear n5 w5 E5 O5 o5 V5 CDk CZk
    go_wp2
    obtain⟨W6,hW6⟩:∃ W6,W5.setCell ⟨P0,k,none⟩ (.slice ra rl rc)=W6:=⟨_,rfl⟩
    have gset:Out (·=P0) W5 W6:=by rw[<-hW6];exact Out.of_grown (aj _ _ _ _)
    have lts:=ae HLT
    refine⟨⟨k+1,(us.set k (.slice aa al ac)).set k (.slice ra rl rc),s5,m5,by omega,by go_num,?_,?_,?_,?_,y1,y2,?_⟩,by simp[intOf];omega⟩
    ·exact(ae HV5).set k _
    ·show _=_
     rw[List.length_set];exact ae HL3
    ·intro j hj
     by_cases e:j=k
     ·subst e
      rw[iw _ (by have:=ae HL3;omega)]
      exact⟨Or.inr ⟨by rw[hP0];exact gJ (ae HN5) (ae HV5) (by decide),ae HW5⟩,fun _=>gJ (ae HN5) (ae HV5) (by decide)⟩
     ·rw[getD_set_ne _ (by omega)]
      have:=ae HN3 j (by omega)
      exact⟨(this.1.out (by omega) (ae Ho5)).apart (ae HV5) (by decide),fun hz=>gJ ((ae Ho5).newW (this.2 hz) (fun x hx=>by omega)) (ae HV5) (by decide)⟩
    ·rw[hW6]
     exact(ae HE).far (ae HE5) (gset.mono (fun j hj=>by omega))
    ·rw[hW6]
     exact(ae HO5).fresh gset (fun i hi=>Or.inr (by omega))
  ·obtain rfl:k=np:=by omega
   have hki:¬(k:Int)<(k:Int):=by omega
   have HF:=hide (IX (w:=w) (s:=s) hP0 (ae V) hul.out hN.out (ae E) p1 p2 (ae O))
   clear V hul hN E O E2 V2 O2
   go_wp2
   go_ret
   exact ae HF
end Go.Proofs.YtpdpnomocbehkaaGreatDoor
/- A range over a function whose rounds come in one known order:the k-th round is handed args k. -/
namespace Go.Proofs.YtpdpnomocbehkaaGreatDoor
open Go.RowKit
def tG(n gf:Nat)(lb:Array Value)(args:Nat->Array Value)(N:Nat)(Kp:World->World->Prop)(w0:World):Prop:=
 ∀(l:Nat) (J:Nat->World->Prop) (W:World),Below w0.heap.size w0 W->(∀ k W,J k W->J k W.drew)->
  (∀ k W1,k<N->J k W1->YieldAt Fence.wide (n-1) Tryz.prog l (args k) W1 fun e W'=>e=.returned (.bool true)/\J (k+1) W'/\Kp W1 W')->J 0 W->
  CallsIn Fence.wide n Tryz.prog gf (#[.func (.yield l) #[] #[]]++lb) W fun e W'=>(∃ v,e=.returned v)/\J N W'
def Ix(B:Nat)(Kp:World->World->Prop)(I:World->Prop)(W:World):Exit->Act->World->Prop
 | .normal,_,W'=>KeepsFrom B W W'/\Kp W W'/\I W'
 |_,_,_=>False
theorem v9{β:Type}{B:Nat}{I:β->World->Prop}(h:OwnFrom B I){s:β}{W:World}(hs:I s W):I s W.drew:=
 h s W W.drew none hs ⟨rfl,rfl,rfl,Nat.le_refl _,fun _ _ _=>rfl⟩ (fun r e=>by cases e)
theorem qp{n:Nat}{g:Operand}{ps:Array Tmp}{assign body:Code}{Q:Exit->Act->World->Prop}{a:Act}{w:World}(h1:1<=n)
  {gf:Nat} {lb:Array Value} (hg:a.eval g=.func (.func gf) #[] lb) (eg:∀ args w,(callFunc gf args).run Tryz.prog w=.ok (.enter gf args) w)
  {args:Nat->Array Value} {N:Nat} {Kp:World->World->Prop} {w0:World} (hseq:tG (n-1) gf lb args N Kp w0) (hb0:Below w0.heap.size w0 w)
  (hKt:∀ {A B C:World},Kp A B->Kp B C->Kp A C) (hKb:∀(W:World) (l:Nat) (o o':Obj),w.heap.size<=l->W.heap[l]?=some o->o.isCells=false->o.isWalk=false->Kp W (W.putObj l o')) (hps:∀ k,(args k).size=ps.size)
  (I:Nat->World->Prop) (hI:OwnFrom w.heap.size I) (h0:I 0 w) (a₁:Nat->Act)
  (hassign:∀(l k:Nat) (W:World) (K:Act->World->Prop),K (a₁ k) W->
   assign.wpIn (Fence.wide.inRound l) (n-1-1) Tryz.prog (Exit.then K (fun _ _ _=>False)) { tmps:=(ps.zip (args k)).foldl (fun t (p,v)=>t.setIfInBounds p v) a.tmps,defers:=[] } W)
  (hbody:∀(l k:Nat) (W:World),k<N->I k W->body.wpIn (Fence.wide.inRound l) (n-1-1) Tryz.prog (Ix w.heap.size Kp (I (k+1)) W) (a₁ k) W)
  (hdone:∀(D:Nat) (W:World),w.heap.size<=D->I N W->W.heap[D]?=some (.deferred (some []))->Q .normal { a with defers:={ target:=.collected D,args:=#[] } :: a.defers } W):
  (Code.rangeFunc g ps assign body).wpIn Fence.wide n Tryz.prog Q a w:=by
 refine wpIn_rangeFunc fun fn hfn=>?_
 obtain⟨D,hD⟩:∃ D,w.heap.size=D:=⟨_,rfl⟩
 obtain⟨R,hR⟩:∃ R:LoopState->Loop,R=fun st=>{ state:=st,pending:=none,fn,tmps:=a.tmps,params:=ps,assign,body,defers:=D }:=⟨_,rfl⟩
 obtain⟨V,hV⟩:∃ V,(w.alloc (.deferred (some []))).alloc (.loop (R .ready))=V:=⟨_,rfl⟩
 -- what is known of the record and of the block of deferred calls between two rounds
 let Book:LoopState->World->Prop:=fun st W=>W.heap[D+1]?=some (.loop (R st))/\W.heap[D]?=some (.deferred (some []))
 have bV:Book .ready V:=by
  refine⟨?_,?_⟩
  ·have:=World.alloc_heap_new (w.alloc (.deferred (some []))) (.loop (R .ready))
   rw[World.size_alloc,hD,hV]at this
   exact this
  ·rw[<-hV, <-hD]
   exact(Below.heap_alloc _ _ _ (by simp)).trans (World.alloc_heap_new w _)
 have put:∀ {st:LoopState} (st':LoopState) {W:World},Book st W->Book st' (W.putObj (D+1) (.loop (R st'))):=fun st' W h=>
  ⟨World.putObj_heap_same (Array.getElem?_eq_some_iff.1 h.1).1,(World.putObj_heap_other (by omega)).trans h.2⟩
 have iPut:∀ {k:Nat} {st:LoopState} {W:World} (o':Obj),Book st W->I k W->I k (W.putObj (D+1) o'):=fun o' h hi=>hI.putObj o' hi (by omega) h.1 rfl
 have kPut:∀ {st:LoopState} {W:World} (o':Obj),Book st W->Kp W (W.putObj (D+1) o'):=fun o' h=>hKb _ _ _ o' (by omega) h.1 rfl rfl
 refine⟨D+1,[{ target:=.collected D,args:=#[] }],V,{ target:=.fn (.func gf) lb,args:=#[.func (.yield (D+1)) #[] #[]] },V,gf,#[.func (.yield (D+1)) #[] #[]]++lb,V,?_,?_,fun f' _=>trivial,?_,fun _=>h1,?_⟩
 ·rw[<-hV,hR, <-hD]
  exact run_enterLoop_outer _ _ _ _ _
 ·simp only[resolve,hg]
  simp[go_sem]
 ·simp[invoke,go_sem,eg]
 have bw:Below w0.heap.size w0 V:=by
  rw[<-hV]
  exact hb0.trans ((((Below.refl _ w).alloc (Nat.le_refl _) _).alloc (by simp) _).mono hb0.size)
 have i0:I 0 V:=by rw[<-hV];exact hI.alloc _ (hI.alloc _ h0)
 refine(hseq (D+1) (fun k W=>I k W/\Book .ready W) V bw (fun k W h=>⟨v9 hI h.1,h.2⟩) (fun k W hk h=>?_) ⟨i0,bV⟩).mono ?_
 ·obtain⟨hi,hb⟩:=h
  have hy:=run_yield (P:=Tryz.prog) (args:=args k) hb.1 (by rw[hR];exact hps k)
  rw[hR]at hy
  refine⟨fn,_,assign,body,hy,roundIn_of_wpIn hfn (hassign _ k W _ ⟨_,run_beginRound hb.1 (by rw[hR]),?_⟩)⟩
  have e1:({ R .ready with state:=.busy }:Loop)=R .busy:=by rw[hR]
  rw[e1]
  have b2:=put .busy hb
  refine wpIn_mono (hbody _ k _ hk (iPut _ hb hi)) ?_
  rintro e a3 W3 hp
  cases e with
  |normal=>
   obtain⟨k3,q3,i3⟩:=hp
   have b3:Book .busy W3:=⟨k3.same _ _ (by omega) b2.1 rfl,k3.same _ _ (by omega) b2.2 rfl⟩
   have hr:=run_endRound (P:=Tryz.prog) none b3.1
   have e2:({ R .busy with state:=if (none:Option Code).isNone then .ready else .done,pending:=none }:Loop)=R .ready:=by rw[hR];rfl
   refine⟨_,_,hr,rfl,⟨?_,?_⟩,?_⟩
   ·exact iPut _ b3 i3
   ·have:=put .ready b3
    rw[hR]at this ⊢
    exact this
   ·exact hKt (hKt (kPut _ hb) q3) (kPut _ b3)
  |ret=>exact hp.elim
  |exit id=>exact hp.elim
  |goto t=>exact hp.elim
  |panic c=>exact hp.elim
  |outgrown=>exact hp.elim
 ·rintro e W2 ⟨⟨v,rfl⟩,hi,hb⟩
  have hr:=run_endLoop (P:=Tryz.prog) hb.1 (by rw[hR];simp)
  rw[hR]at hr
  exact⟨none,_,hr,hdone D _ (by omega) (iPut _ hb hi) ((World.putObj_heap_other (by omega)).trans hb.2)⟩
end Go.Proofs.YtpdpnomocbehkaaGreatDoor
/- slices.Chunk and slices.Backward,of lists of rows. -/
namespace Go.Proofs.YtpdpnomocbehkaaGreatDoor
open Go.RowKit Go.Shelf
attribute [local go_sem] Oper.semAt_some
set_option maxRecDepth 100000 in
set_option maxHeartbeats 1600000 in
theorem yY(n:Nat)(ga:Option Addr)(L cap k:Nat)(w:World)(hk:0<k):
  CallsIn Fence.wide n Tryz.prog 97 #[.slice ga L cap,.int .i64 (k:Int)] w fun e w'=>e=.returned (.func (.func 117) #[] #[.pointer (some ⟨w.heap.size,0,none⟩),.pointer (some ⟨w.heap.size+1,0,none⟩)])/\w'=(w.alloc (.cells #[.slice ga L cap] 80)).alloc (.cells #[.int .i64 (k:Int)] 3):=by
 have h1:¬(k:Int)<1:=by omega
 refine callsIn_of_wp Tryz.func97 rfl trivial ?_ rfl
 simp only[Tryz.ntmps97,List.size_toArray,List.length_cons,List.length_nil,Nat.reduceAdd,Nat.reduceSub,Array.replicate_succ,Array.replicate_zero,List.push_toArray,List.append_toArray,List.nil_append,List.cons_append]
 gi_wp2
 go_ret
 exact⟨rfl,rfl⟩
set_option maxRecDepth 100000 in
set_option maxHeartbeats 3200000 in
theorem vL(n:Nat)(hn:1<=n)(Bs Bn b o L cap k q:Nat)(hk:0<k)(hk2:k<=16384)(hL:L<=16384)(hcap:L<=cap)(hq1:L<=k*q)(hq2:k*q<L+k)(w:World)(hBs:Bs<w.heap.size)(hBn:Bn<w.heap.size)
  (d1:w.cell? ⟨Bs,0,none⟩=some (.slice (some ⟨b,o,none⟩) L cap)) (d2:w.cell? ⟨Bn,0,none⟩=some (.int .i64 (k:Int))):
  tG n 117 #[.pointer (some ⟨Bs,0,none⟩),.pointer (some ⟨Bn,0,none⟩)] (fun x=>#[cj b o L k x]) q (g8 Bs Bn) w:=by
 intro l J W bW hJd hY h0
 have hBs:=(bW.cell (p:=⟨Bs,0,none⟩) hBs).trans d1
 have hBn:=(bW.cell (p:=⟨Bn,0,none⟩) hBn).trans d2
 clear d1 d2 bW
 show CallsIn Fence.wide n Tryz.prog 117 #[.func (.yield l) #[] #[],.pointer (some ⟨Bs,0,none⟩),.pointer (some ⟨Bn,0,none⟩)] W _
 refine callsIn_of_wp Tryz.func117 rfl trivial ?_ rfl
 simp only[Tryz.ntmps117,List.size_toArray,List.length_cons,List.length_nil,Nat.reduceAdd,Nat.reduceSub,Array.replicate_succ,Array.replicate_zero,List.push_toArray,List.append_toArray,List.nil_append,List.cons_append]
 gi_wp2
 gi_loopw [4] (fun i wr=>∃(j t:Nat),Hid (t=k*j)/\j<=q/\t<L+k/\i=.int .i64 (t:Int)/\J j wr/\g8 Bs Bn W wr)
  (fun i _=>L+k-(intOf i).toNat)
 case atStart=>exact⟨0,0,by show _=_;omega,Nat.zero_le _,by omega,rfl,h0,rfl,rfl⟩
 case round=>
  obtain⟨j,t,ht,hj,htL,rfl,hJs,kp⟩:=hrel
  have c1:=kp.1.trans hBs
  have c2:=kp.2.trans hBn
  by_cases hlt:t<L
  ·have hjq:j<q:=by
    have:=ht.out
    refine Classical.byContradiction fun h=>?_
    have:q=j:=by omega
    subst this
    omega
   obtain⟨fn,tmps,assign,body,hy,hR⟩:=hY j wr.drew hjq (hJd _ _ hJs)
   obtain⟨R,hRd⟩:∃ R,L-t=R:=⟨_,rfl⟩
   obtain⟨E,hEd⟩:∃ E,min k R=E:=⟨_,rfl⟩
   obtain⟨cc,hcc⟩:∃ cc,cap-t=cc:=⟨_,rfl⟩
   obtain⟨H,hHd⟩:∃ H,t+E=H:=⟨_,rfl⟩
   obtain⟨t2,ht2⟩:∃ t2,t+k=t2:=⟨_,rfl⟩
   have hp:cj b o L k j=.slice (some ⟨b,o+t,none⟩) E E:=by
    unfold cj
    rw[<-ht.out,hRd,hEd]
   rw[hp]at hy
   have hmin:min (k:Int) (R:Int)=(E:Int):=by omega
   have i1:(t:Int)+(E:Int)=(H:Int):=by omega
   have i2:IntKind.i64.wrap (H:Int)=(H:Int):=by rw[IntKind.wrap_i64];omega
   have i3:(t:Int)+(k:Int)=(t2:Int):=by omega
   have i4:IntKind.i64.wrap (t2:Int)=(t2:Int):=by rw[IntKind.wrap_i64];omega
   have j1:t<=L/\t<=cap/\¬cap=t/\H<=cap/\t<=H/\¬H=t/\H-t=E/\L<=cap:=by omega
   obtain⟨j1,j2,j3,j4,j5,j6,j7,j8⟩:=j1
   have hti:(t:Int)<(L:Int):=by omega
   have HT:=ht
   have HK:=hide kp
   clear ht hp kp hEd
   gi_wp2
   gi_region
   all_goals gi_wp2
   refine hR.mono ?_
   rintro e W3 ⟨rfl,hJ3,hk3⟩
   have kp3:g8 Bs Bn W W3:=⟨hk3.1.trans (ae HK).1,hk3.2.trans (ae HK).2⟩
   have c1:=kp3.1.trans hBs
   have c2:=kp3.2.trans hBn
   gi_wp2
   go_roundw
   case rel=>exact⟨j+1,t2,by show _=_;rw[<-ht2,HT.out,Nat.mul_succ],by omega,by omega,rfl,hJ3,kp3⟩
   case measure=>simp[intOf];omega
  ·have hti:¬(t:Int)<(L:Int):=by omega
   have hjq:j=q:=by
    have:=ht.out
    refine Classical.byContradiction fun h=>?_
    have h2:j+1<=q:=by omega
    have:=Nat.mul_le_mul_left k h2
    rw[Nat.mul_succ]at this
    omega
   subst hjq
   clear ht kp
   gi_wp2
   go_end0
   first|exact⟨⟨_,rfl⟩,hJs⟩|exact hJs
def nW(Bs b o N:Nat)(W W':World):Prop:=W'.cell? ⟨Bs,0,none⟩=W.cell? ⟨Bs,0,none⟩/\∀ j,j<N->W'.cell? ⟨b,o+j,none⟩=W.cell? ⟨b,o+j,none⟩
theorem AU{Bs b o N:Nat}{A B C:World}(h:nW Bs b o N A B)(k:nW Bs b o N B C):nW Bs b o N A C:=⟨k.1.trans h.1,fun j hj=>(k.2 j hj).trans (h.2 j hj)⟩
theorem K9{Bs b o N:Nat}{w:World}(hs:Bs<w.heap.size)(hn:b<w.heap.size)(W:World)(l:Nat)(ob o':Obj)(hl:w.heap.size<=l)(_:W.heap[l]?=some ob)(_:ob.isCells=false)(_:ob.isWalk=false):nW Bs b o N W (W.putObj l o'):=
 ⟨World.cell?_of_block (a:=⟨Bs,0,none⟩) (World.putObj_heap_other (by show Bs≠l;omega)),fun j _=>World.cell?_of_block (a:=⟨b,o+j,none⟩) (World.putObj_heap_other (by show b≠l;omega))⟩
set_option maxRecDepth 100000 in
set_option maxHeartbeats 1600000 in
theorem BO(n:Nat)(ga:Option Addr)(L cap:Nat)(w:World):
  CallsIn Fence.wide n Tryz.prog 70 #[.slice ga L cap] w fun e w'=>e=.returned (.func (.func 96) #[] #[.pointer (some ⟨w.heap.size,0,none⟩)])/\w'=w.alloc (.cells #[.slice ga L cap] 118):=by
 refine callsIn_of_wp Tryz.func70 rfl trivial ?_ rfl
 simp only[Tryz.ntmps70,List.size_toArray,List.length_cons,List.length_nil,Nat.reduceAdd,Nat.reduceSub,Array.replicate_succ,Array.replicate_zero,List.push_toArray,List.append_toArray,List.nil_append,List.cons_append]
 gi_wp2
 go_ret
 exact⟨rfl,rfl⟩
set_option maxRecDepth 100000 in
set_option maxHeartbeats 3200000 in
theorem yS(n:Nat)(hn:1<=n)(Bs b o N cap:Nat)(hN:N<=1073741824)(rv:Nat->Value)(hrv:∀ j,j<N->∃ x y z,rv j=.slice x y z)(w:World)(hBs:Bs<w.heap.size)
  (d1:w.cell? ⟨Bs,0,none⟩=some (.slice (some ⟨b,o,none⟩) N cap)) (d2:∀ j,j<N->w.cell? ⟨b,o+j,none⟩=some (rv j)):
  tG n 96 #[.pointer (some ⟨Bs,0,none⟩)] (fun k=>#[.int .i64 ((N-1-k:Nat):Int),rv (N-1-k)]) N (nW Bs b o N) w:=by
 intro l J W bW _ hY h0
 have hBs:=(bW.cell (p:=⟨Bs,0,none⟩) hBs).trans d1
 have hC:Hid (∀ j,j<N->W.cell? ⟨b,o+j,none⟩=some (rv j)):=fun j hj=>(bW.cell (p:=⟨b,o+j,none⟩) (World.block_lt_of_cell? _ _ (d2 j hj))).trans (d2 j hj)
 have HRV:=hide hrv
 clear d1 d2 bW hrv
 show CallsIn Fence.wide n Tryz.prog 96 #[.func (.yield l) #[] #[],.pointer (some ⟨Bs,0,none⟩)] W _
 refine callsIn_of_wp Tryz.func96 rfl trivial ?_ rfl
 simp only[Tryz.ntmps96,List.size_toArray,List.length_cons,List.length_nil,Nat.reduceAdd,Nat.reduceSub,Array.replicate_succ,Array.replicate_zero,List.push_toArray,List.append_toArray,List.nil_append,List.cons_append]
 have iN:IntKind.i64.wrap ((N:Int)-1)=(N:Int)-1:=by rw[IntKind.wrap_i64];omega
 gi_wp2
 gi_loopw [3] (fun i wr=>∃(q r:Nat) (z:Int),q<=N/\z+1=(q:Int)/\i=.int .i64 z/\Hid (r+q=N)/\J r wr/\nW Bs b o N W wr)
  (fun i _=>(intOf i+1).toNat)
 case atStart=>exact⟨N,0,(N:Int)-1,Nat.le_refl _,by omega,rfl,by show _=_;omega,h0,rfl,fun _ _=>rfl⟩
 case round=>
  obtain⟨q,r,z,hq,hz,rfl,hD,hJs,kp⟩:=hrel
  have c1:=kp.1.trans hBs
  by_cases hlt:0<q
  ·obtain⟨k,rfl⟩:∃ k,q=k+1:=⟨q-1,by omega⟩
   obtain rfl:z=(k:Int):=by omega
   have hk:k<N:=by omega
   have c2:=(kp.2 k hk).trans (ae hC k hk)
   obtain⟨fn,tmps,assign,body,hy,hR⟩:=hY r wr (by have:=hD.out;omega) hJs
   have e1:N-1-r=k:=by have:=hD.out;omega
   rw[e1]at hy
   obtain⟨va,vb,vc,hv⟩:=ae HRV k hk
   rw[hv]at hy c2
   have HK:=hide kp
   have hki:0<=(k:Int):=by omega
   have i2:IntKind.i64.wrap ((k:Int)-1)=(k:Int)-1:=by rw[IntKind.wrap_i64];omega
   clear kp hz hv e1
   gi_wp2
   refine hR.mono ?_
   rintro e W3 ⟨rfl,hJ3,hk3⟩
   have kp3:nW Bs b o N W W3:=AU (ae HK) hk3
   have c1:=kp3.1.trans hBs
   gi_wp2
   go_roundw
   case rel=>exact⟨k,r+1,(k:Int)-1,by omega,by omega,rfl,by have:=hD.out;show _=_;omega,hJ3,kp3⟩
   case measure=>simp[intOf]
  ·obtain rfl:q=0:=by omega
   obtain rfl:z= -1:=by omega
   have:r=N:=by have:=hD.out;omega
   subst this
   clear kp
   gi_wp2
   go_end0
   first|exact⟨⟨_,rfl⟩,hJs⟩|exact hJs
end Go.Proofs.YtpdpnomocbehkaaGreatDoor
/- tree of the landed package div:what holds between two rounds. -/
namespace Go.Proofs.YtpdpnomocbehkaaGreatDoor
open Go.RowKit Go.Shelf
def Kc(W W':World):Prop:=∀(j:Nat) (o:Obj),W.heap[j]?=some o->o.isCells=true->W'.heap[j]?=W.heap[j]?
theorem Kc.cell{W W':World}(h:Kc W W'){p:Addr}{v:Value}(hc:W.cell? p=some v):W'.cell? p=some v:=by
 obtain⟨o,ho,hi⟩:=cells_of_cell hc
 exact(World.cell?_of_block (h _ _ ho hi)).trans hc
theorem Kc.inM{W W':World}(h:Kc W W'){v:Value}{n:Nat}(r:aX W v n):aX W' v n:=by
 obtain⟨ga,b,o,cap,xs,e,hr,hd,hv,hl⟩:=r
 exact⟨ga,b,o,cap,xs,e,⟨hr.head,hr.room,fun j hj=>h.cell (hr.cell j hj)⟩,hd,hv,hl⟩
theorem Kc.pm{W W':World}(h:Kc W W'){gp:Option Addr}{bp op np c:Nat}{vs:List Value}{ns:List Nat}(r:PM W gp bp op vs ns np c):PM W' gp bp op vs ns np c:=
 ⟨r.lv,⟨r.parts.head,r.parts.len,fun j hj=>h.cell (r.parts.cell j hj),fun j hj=>(h.inM (r.each j (by have:=r.lv;omega))).inW⟩,r.small,fun j hj=>h.inM (r.each j hj)⟩
theorem Kc.boxed{W W':World}(h:Kc W W'){B:Nat}{t:TypeId}{v:Value}(b:Boxed W B t v):Boxed W' B t v:=(h _ _ b rfl).trans b
theorem Kc.owns{W W':World}(h:Kc W W'){base n:Nat}{t:TypeId}{v:Value}{us:List Value}(b:W.ownsRow base t 1 v n us):W'.ownsRow base t 1 v n us:=by
 refine⟨b.1,?_⟩
 rcases b.2 with h0|⟨g,cap,cur,hv,hb,hg,rest⟩
 ·exact .inl h0
 ·exact .inr ⟨g,cap,cur,hv,hb,(h _ _ hg rfl).trans hg,rest⟩
theorem Kc.newW{W W':World}(h:Kc W W'){B n:Nat}{v:Value}(r:ah B W v n):ah B W' v n:=r.turn (fun _ _ hz=>h _ _ hz rfl)
theorem Kc.oldNew{w W W':World}(h:Kc W W'){n:Nat}{v:Value}(r:bC w W v n):bC w W' v n:=by
 rcases r with r|r
 ·exact Or.inl r
 ·exact Or.inr ⟨h.newW r.1,r.2⟩
theorem wU{A B:World}{row:Option Nat}{base:Nat}(hg:A.grownBy B row)(hr:∀ r,row=some r->base<=r/\∃ o:Obj,A.heap[r]?=some o/\o.isCells=false):Kc A B:=fun j o hj ho=>hg.block j (Array.getElem?_eq_some_iff.1 hj).1 (fun e=>by
 obtain⟨_,o',h1,h2⟩:=hr j e.symm
 rw[hj]at h1
 cases h1
 rw[ho]at h2
 cases h2)
theorem rT{w A B:World}{row:Option Nat}{base:Nat}(hb:w.heap.size<=base)(hg:A.grownBy B row)(hr:∀ r,row=some r->base<=r/\∃ o:Obj,A.heap[r]?=some o/\o.isCells=false):Out (fun j=>w.heap.size<=j) A B:=
 ⟨hg.os,hg.tape,hg.output,hg.size,fun j hj hn=>hg.block j hj (fun e=>by have:=(hr j e.symm).1;omega)⟩
theorem Oh{W:World}{D:Nat}{o:Obj}(o':Obj)(h:W.heap[D]?=some o)(ho:o.isCells=false):Kc W (W.putObj D o'):=fun j ob hj hc=>World.putObj_heap_other (fun e=>by
 subst e
 rw[hj]at h
 cases h
 rw[hc]at ho
 cases ho)
theorem dK{α:Type}(us:List α)(u d:α)(j:Nat):(us++[u]).getD j d=if j<us.length then us.getD j d else if j=us.length then u else d:=by
 simp only[List.getD_eq_getElem?_getD,List.getElem?_append]
 split
 ·rfl
 ·rename_i h
  by_cases e:j=us.length
  ·subst e;simp
  ·rw[if_neg e]
   obtain⟨k,hk⟩:∃ k,j-us.length=k+1:=⟨j-us.length-1,by omega⟩
   simp[hk]
def lS(w W:World)(b0:Nat)(v:Value)(ms:List Nat):Prop:=∃ gp bp op cp vs,v=.slice gp ms.length cp/\ms.length<=cp/\PM W gp bp op vs ms ms.length 760/\(0<ms.length->bp=b0/\bp<w.heap.size\/∃ cur,W.heap[bp]?=some (.cells cur 29 (0,0)))/\∀ j,j<ms.length->bC w W (vs.getD j undef) (ms.getD j 0)
theorem lS.out{b0:Nat}{w W W':World}{gm gt gk ge g:Nat}{s l m:Int}{T:Tab}{v:Value}{ms:List Nat}(h:lS w W b0 v ms)(hE:aH W gm gt gk ge g s l m T)(hg:g<w.heap.size)(o:Out (·=g) W W'):lS w W' b0 v ms:=by
 obtain⟨gp,bp,op,cp,vs,e,hc,hp,hb,ho⟩:=h
 have iF:=hp.lv
 refine⟨gp,bp,op,cp,vs,e,hc,hp.out hE o,fun h0=>?_,fun j hj=>(ho j hj).out hg o⟩
 rcases hb h0 with h1|⟨cur,h1⟩
 ·exact Or.inl h1
 ·refine Or.inr ⟨cur,(o.block bp (Array.getElem?_eq_some_iff.1 h1).1 (fun e=>?_)).trans h1⟩
  have hc0:=hp.parts.cell 0 (by omega)
  rw[e]at hc0
  obtain⟨z,hz⟩:=hE.eng.ints _ _ hc0
  obtain⟨_,_,_,hs⟩:=(hp.each 0 h0).noInt
  rw[hs]at hz
  cases hz
theorem lS.kc{b0:Nat}{w W W':World}{v:Value}{ms:List Nat}(h:lS w W b0 v ms)(k:Kc W W'):lS w W' b0 v ms:=by
 obtain⟨gp,bp,op,cp,vs,e,hc,hp,hb,ho⟩:=h
 refine⟨gp,bp,op,cp,vs,e,hc,k.pm hp,fun h0=>?_,fun j hj=>k.oldNew (ho j hj)⟩
 rcases hb h0 with h1|⟨cur,h1⟩
 ·exact Or.inl h1
 ·exact Or.inr ⟨cur,(k _ _ h1 rfl).trans h1⟩
theorem lS.turn{b0:Nat}{w W W':World}{gv gr gd gm gt gk ge g:Nat}{s l m:Int}{T:Tab}{v:Value}{ms:List Nat}(h:lS w W b0 v ms)(hE:aw w gv gr gd gm gt gk ge g s l m T)(o:Out (·=g) w W')(k:∀ j,(j<w.heap.size\/∃ cur t,t≠80/\W.heap[j]?=some (.cells cur t (0,0)))->W'.heap[j]?=W.heap[j]?):lS w W' b0 v ms:=by
 obtain⟨gp,bp,op,cp,vs,e,hc,hp,hb,ho⟩:=h
 have iF:=hp.lv
 have hk:0<ms.length->W'.heap[bp]?=W.heap[bp]?:=fun h0=>by
  rcases hb h0 with h1|⟨cur,h1⟩
  ·exact k bp (Or.inl h1.2)
  ·exact k bp (Or.inr ⟨cur,_,by decide,h1⟩)
 have ho':∀ j,j<ms.length->bC w W' (vs.getD j undef) (ms.getD j 0):=fun j hj=>by
  rcases ho j hj with h1|h1
  ·exact Or.inl h1
  ·exact Or.inr ⟨h1.1.turn (fun g' zs hz=>k g' (Or.inr ⟨_,_,by decide,hz⟩)),h1.2⟩
 refine⟨gp,bp,op,cp,vs,e,hc,⟨hp.lv,⟨hp.parts.head,hp.parts.len,fun j hj=>?_,fun j hj=>((ho' j (by omega)).inM hE o).inW⟩,hp.small,fun j hj=>(ho' j hj).inM hE o⟩,fun h0=>?_,ho'⟩
 ·exact(World.cell?_of_block (a:=⟨bp,op+j,none⟩) (hk (by omega))).trans (hp.parts.cell j hj)
 ·rcases hb h0 with h1|⟨cur,h1⟩
  ·exact Or.inl h1
  ·exact Or.inr ⟨cur,(hk h0).trans h1⟩
theorem PM.up{w:World}{gp:Option Addr}{bp op np c c':Nat}{vs:List Value}{ns:List Nat}(h:PM w gp bp op vs ns np c)(hc:c<=c'):PM w gp bp op vs ns np c':=⟨h.lv,h.parts,fun j hj=>aP (h.small j hj) hc,h.each⟩
def Link(a b:List Nat):Prop:=b.length=(a.length+1)/2/\∀ t,t<a.length->a.getD t 0∣b.getD (t/2) 0
structure Tr(w W:World)(b0:Nat)(us:List Value)(ls:List (List Nat)):Prop where
 len:us.length=ls.length
 lv:∀ j,j<ls.length->lS w W b0 (us.getD j undef) (ls.getD j [])
 link:∀ j,j+1<ls.length->Link (ls.getD j []) (ls.getD (j+1) [])
theorem Tr.out{b0:Nat}{w W W':World}{gm gt gk ge g:Nat}{s l m:Int}{T:Tab}{us:List Value}{ls:List (List Nat)}(h:Tr w W b0 us ls)(hE:aH W gm gt gk ge g s l m T)(hg:g<w.heap.size)(o:Out (·=g) W W'):Tr w W' b0 us ls:=⟨h.len,fun j hj=>(h.lv j hj).out hE hg o,h.link⟩
theorem Tr.kc{b0:Nat}{w W W':World}{us:List Value}{ls:List (List Nat)}(h:Tr w W b0 us ls)(k:Kc W W'):Tr w W' b0 us ls:=⟨h.len,fun j hj=>(h.lv j hj).kc k,h.link⟩
theorem Tr.turn{b0:Nat}{w W W':World}{gv gr gd gm gt gk ge g:Nat}{s l m:Int}{T:Tab}{us:List Value}{ls:List (List Nat)}(h:Tr w W b0 us ls)(hE:aw w gv gr gd gm gt gk ge g s l m T)(o:Out (·=g) w W')(k:∀ j,(j<w.heap.size\/∃ cur t,t≠80/\W.heap[j]?=some (.cells cur t (0,0)))->W'.heap[j]?=W.heap[j]?):Tr w W' b0 us ls:=⟨h.len,fun j hj=>(h.lv j hj).turn hE o k,h.link⟩
theorem Tr.one{b0:Nat}{w W:World}{v:Value}{ms:List Nat}(h:lS w W b0 v ms):Tr w W b0 [v] [ms]:=⟨rfl,fun j hj=>by
 obtain rfl:j=0:=by simp at hj;exact hj
 exact h,fun j hj=>absurd hj (by simp)⟩
theorem Tr.snoc{b0:Nat}{w W:World}{us:List Value}{ls:List (List Nat)}{v:Value}{ms:List Nat}(h:Tr w W b0 us ls)(hv:lS w W b0 v ms)(hl:Link (ls.getD (ls.length-1) []) ms):Tr w W b0 (us++[v]) (ls++[ms]):=by
 have hlen:=h.len
 refine⟨by simp[hlen],fun j hj=>?_,fun j hj=>?_⟩
 ·rw[List.length_append,List.length_singleton]at hj
  rw[dK,dK,hlen]
  by_cases e:j<ls.length
  ·rw[if_pos e,if_pos e];exact h.lv j e
  ·rw[if_neg e,if_neg e,if_pos (by omega),if_pos (by omega)];exact hv
 ·rw[List.length_append,List.length_singleton]at hj
  rw[dK,dK,if_pos (by omega)]
  by_cases e:j+1<ls.length
  ·rw[if_pos e];exact h.link j e
  ·rw[if_neg e,if_pos (by omega)]
   rw[show j=ls.length-1 by omega];exact hl
def Marks(S:Nat)(W:World):Nat->List Deferred->Prop
 |_,[]=>True
 |B,d :: ds=>∃ D,d={ target:=.collected D,args:=#[] }/\S<=D/\D<B/\W.heap[D]?=some (.deferred (some []))/\Marks S W D ds
theorem Marks.turn{S:Nat}{W W':World}:∀ {B:Nat} {ds:List Deferred},Marks S W B ds->(∀ D,S<=D->D<B->W.heap[D]?=some (.deferred (some []))->W'.heap[D]?=W.heap[D]?)->Marks S W' B ds
 |_,[],_,_=>trivial
 |_,_ :: _,⟨D,h1,h2,h3,h4,h5⟩,k=>⟨D,h1,h2,h3,(k D h2 h3 h4).trans h4,h5.turn (fun D' a b c=>k D' a (by omega) c)⟩
theorem Marks.up{S:Nat}{W:World}{B B':Nat}{ds:List Deferred}(h:Marks S W B ds)(hb:B<=B'):Marks S W B' ds:=by
 cases ds with
 |nil=>trivial
 |cons d ds=>
  obtain⟨D,h1,h2,h3,h4⟩:=h
  exact⟨D,h1,h2,by omega,h4⟩
theorem jN{S n:Nat}{fn:Func}{tmps:Array Value}{R:Ending->World->Prop}:∀ {ds:List Deferred} {B:Nat} {W:World},Marks S W B ds->(∀ W',Kc W W'->Out (fun j=>S<=j) W W'->LeavesIn Fence.wide n Tryz.prog fn tmps R [] .returning W')->LeavesInM Fence.wide n Tryz.prog fn tmps R ds .returning W
 |[],_,W,_,h=>h W (fun _ _ _ _=>rfl) (Out.refl _ _)
 |_ :: _,_,W,⟨D,e,h2,h3,h4,h5⟩,h=>by
  subst e
  refine⟨by simp,.inl ⟨D,_,rfl,run_takeDeferred h4,?_⟩⟩
  have kc:=Oh (.deferred none) h4 rfl
  have o:Out (fun j=>S<=j) W (W.putObj D (.deferred none)):=⟨rfl,rfl,rfl,by simp,fun j _ hn=>World.putObj_heap_other (fun e=>hn (by omega))⟩
  refine jN (h5.turn (fun D' a b c=>World.putObj_heap_other (by omega))) (fun W' k' o'=>h W' (fun j ob hj hc=>?_) (o.trans o'))
  exact(k' j ob ((kc j ob hj hc).trans hj) hc).trans (kc j ob hj hc)
end Go.Proofs.YtpdpnomocbehkaaGreatDoor
/- tree of the landed package div:one row of products. -/
namespace Go.Proofs.YtpdpnomocbehkaaGreatDoor
open Go.RowKit Go.Shelf
structure CI(w Wr:World)(gv gr gd gm gt gk ge g:Nat)(sp l:Int)(T:Tab)(P0 BP Bs Bn base:Nat)(dg:Int)(lv:Value)(n C:Nat)(ms:List Nat)(x:Nat)(W:World):Prop where
 eng:∃ s' m',aw W gv gr gd gm gt gk ge g s' l m' T/\sp<=s'/\s'<=sp+4294967296*(x:Int)
 bE:Boxed W P0 26 (.pointer (some ⟨gv,0,none⟩))
 bD:Boxed W (P0+1) 3 (.int .i64 dg)
 bS:Boxed W Bs 80 lv
 bN:Boxed W Bn 3 (.int .i64 2)
 prod:∃(v:Value) (us:List Value) (zs:List Nat),Boxed W BP 80 v/\W.ownsRow base 29 1 v x us/\zs.length=x/\∀ j,j<x->bC w W (us.getD j undef) (zs.getD j 0)/\zs.getD j 0<18446744073709551616^(C+C)/\∀ t,t<n->t/2=j->ms.getD t 0∣zs.getD j 0
 out:Out (·=g) Wr W
theorem CI.own{w Wr:World}{gv gr gd gm gt gk ge g:Nat}{s0 m0 sp l:Int}{T:Tab}{P0 BP Bs Bn base:Nat}{dg:Int}{lv:Value}{n C:Nat}{ms:List Nat}(hE:aw Wr gv gr gd gm gt gk ge g s0 l m0 T)(hb:Wr.heap.size<=base):
  OwnFrom base (CI w Wr gv gr gd gm gt gk ge g sp l T P0 BP Bs Bn base dg lv n C ms):=by
 intro x A B row h hg hr
 have kc:Kc A B:=wU hg hr
 have far:Out (fun j=>Wr.heap.size<=j) A B:=rT hb hg hr
 obtain⟨s',m',E,q1,q2⟩:=h.eng
 obtain⟨v,us,zs,b1,b2,b3,b4⟩:=h.prod
 exact⟨⟨s',m',hE.far E far,q1,q2⟩,kc.boxed h.bE,kc.boxed h.bD,kc.boxed h.bS,kc.boxed h.bN,⟨v,us,zs,kc.boxed b1,kc.owns b2,b3,fun j hj=>⟨kc.oldNew (b4 j hj).1,(b4 j hj).2⟩⟩,h.out.fresh far (fun i hi=>Or.inr hi)⟩
theorem CI.drew{w Wr W:World}{gv gr gd gm gt gk ge g:Nat}{s0 m0 sp l:Int}{T:Tab}{P0 BP Bs Bn base:Nat}{dg:Int}{lv:Value}{n C x:Nat}{ms:List Nat}(hE:aw Wr gv gr gd gm gt gk ge g s0 l m0 T)(hb:Wr.heap.size<=base)(h:CI w Wr gv gr gd gm gt gk ge g sp l T P0 BP Bs Bn base dg lv n C ms x W):CI w Wr gv gr gd gm gt gk ge g sp l T P0 BP Bs Bn base dg lv n C ms x W.drew:=v9 (CI.own hE hb) h
def CP(w:World)(gv gr gd gm gt gk ge g:Nat)(sp l:Int)(T:Tab)(n C:Nat)(ms:List Nat)(x:Nat)(W:World)(r:Value)(W2:World):Prop:=
 ∃ z s' m',bC w W2 r z/\z<18446744073709551616^(C+C)/\(∀ t,t<n->t/2=x->ms.getD t 0∣z)/\aw W2 gv gr gd gm gt gk ge g s' l m' T/\sp<=s'/\s'<=sp+4294967296*((x+1:Nat):Int)/\Out (·=g) W W2
theorem CI.product{w Wr W:World}{gv gr gd gm gt gk ge g:Nat}{sp m0 l:Int}{T:Tab}{P0 BP Bs Bn base bl ol:Nat}{dg:Int}{lv:Value}{n C x q:Nat}{vs:List Value}{ms:List Nat}(hE:aw Wr gv gr gd gm gt gk ge g sp l m0 T)(hT:TB Wr)(h0:0<=sp)(h1:sp<=1140000000000000000)(h2:0<=l)(h3:l<=900)(hC:C<=8000)(hn:n<=1000)
  (hP:PM Wr (some ⟨bl,ol,none⟩) bl ol vs ms n C) (hgw:g<w.heap.size) (hww:w.heap.size<=Wr.heap.size) (hold:∀ j,j<n->bC w Wr (vs.getD j undef) (ms.getD j 0)) (hx:x<q) (hq:2*q<n+2) (h:CI w Wr gv gr gd gm gt gk ge g sp l T P0 BP Bs Bn base dg lv n C ms x W):
  Calls Tryz.prog 98 #[.pointer (some ⟨gv,0,none⟩),cj bl ol n 2 x,.int .i64 dg] W fun e W2=>∃ ra rl rc,e=.returned (.slice ra rl rc)/\CP w gv gr gd gm gt gk ge g sp l T n C ms x W (.slice ra rl rc) W2:=by
 obtain⟨s',m',E,q1,q2⟩:=h.eng
 have hW:=hP.out hE.rcp.div.mul h.out
 obtain⟨e,he⟩:∃ e,e=min 2 (n-2*x):=⟨_,rfl⟩
 have p1:=(hW.drop (2*x) (n-2*x) (by omega)).take e (by omega)
 have hv0:((vs.drop (2*x)).take e).getD 0 undef=vs.getD (2*x) undef:=by rw[ik (by omega),ij,Nat.add_zero]
 have hn0:((ms.drop (2*x)).take e).getD 0 0=ms.getD (2*x) 0:=by rw[fD (by omega),fC,Nat.add_zero]
 have hpv:cj bl ol n 2 x=.slice (some ⟨bl,ol+2*x,none⟩) e e:=by unfold cj;rw[<-he]
 rw[hpv]
 have conv:∀ r W2,rC W gv gr gd gm gt gk ge g s' l T e C ((vs.drop (2*x)).take e) ((ms.drop (2*x)).take e) r W2->CP w gv gr gd gm gt gk ge g sp l T n C ms x W r W2:=by
  rintro r W2 ⟨z,s2,m2,hr,hd,hz,E2,y1,y2,o⟩
  refine⟨z,s2,m2,?_,hz,fun t ht htx=>?_,E2,by omega,by omega,o⟩
  ·rcases hr with⟨rfl,rfl⟩|⟨hr,hl⟩
   ·rw[hv0,hn0];exact((hold _ (by omega)).out hgw h.out).out hgw o
   ·exact Or.inr ⟨hr.mono (Nat.le_trans hww h.out.size),hl⟩
  ·have:=hd (t-2*x) (by omega)
   rw[fD (by omega),fC,show 2*x+(t-2*x)=t by omega]at this
   exact this
 rcases(show e=1\/e=2 by omega)with e1|e2
 ·rw[e1]at p1 conv ⊢
  refine(xz W gv gr gd gm gt gk ge g s' l m' T _ bl _ 1 C dg _ _ E p1).mono ?_
  rintro _ W2 ⟨ra,rl,rc,rfl,hp⟩
  exact⟨ra,rl,rc,rfl,conv _ _ hp⟩
 ·rw[e2]at p1 conv ⊢
  refine(xA W gv gr gd gm gt gk ge g s' l m' T _ bl _ 2 C dg _ _ E (hE.rcp.tb h.out hT) (by omega) (by omega) h2 h3 hC p1).mono ?_
  rintro _ W2 ⟨ra,rl,rc,rfl,hp⟩
  exact⟨ra,rl,rc,rfl,conv _ _ hp⟩
theorem CI.round{w Wr W:World}{gv gr gd gm gt gk ge g:Nat}{sp m0 l:Int}{T:Tab}{P0 BP Bs Bn base:Nat}{dg:Int}{lv:Value}{n C x cv:Nat}{gw:Option Addr}{us:List Value}{zs ms:List Nat}(hE:aw Wr gv gr gd gm gt gk ge g sp l m0 T)
  (hgw:g<w.heap.size) (h0:P0+1<Wr.heap.size) (hP0:P0≠g/\P0+1≠g) (h2:Wr.heap.size<=BP/\BP<base) (h3:Wr.heap.size<=Bs/\Bs<base) (h4:Wr.heap.size<=Bn/\Bn<base) (n3:Bs≠BP) (n4:Bn≠BP)
  (h:CI w Wr gv gr gd gm gt gk ge g sp l T P0 BP Bs Bn base dg lv n C ms x W) (hbs:base<=W.heap.size) (hx:x<=16384)
  (b1:Boxed W BP 80 (.slice gw x cv)) (b2:W.ownsRow base 29 1 (.slice gw x cv) x us) (b3:zs.length=x) (b4:∀ j,j<x->bC w W (us.getD j undef) (zs.getD j 0)/\zs.getD j 0<18446744073709551616^(C+C)/\∀ t,t<n->t/2=j->ms.getD t 0∣zs.getD j 0)
  (W2:World) (ra:Option Addr) (rl rc:Nat) (td:CP w gv gr gd gm gt gk ge g sp l T n C ms x W.drew (.slice ra rl rc) W2):
  ∃ w1 g1 c1,(Builtin.append_ #[80,80] 80 #[.slice gw x cv,.slice (some ⟨W2.heap.size,0,none⟩) 1 1]).run Tryz.prog (W2.alloc (.cells #[.slice ra rl rc] 29))=.ok (.slice (some ⟨g1,0,none⟩) (x+1) c1) w1/\
   w1.cell? ⟨BP,0,none⟩=some (.slice gw x cv)/\w1.frozen? ⟨BP,0,none⟩=false/\(w1.cell? ⟨P0,0,none⟩=some (.pointer (some ⟨gv,0,none⟩))/\w1.cell? ⟨P0+1,0,none⟩=some (.int .i64 dg))/\W2.cell? ⟨P0,0,none⟩=some (.pointer (some ⟨gv,0,none⟩))/\W2.cell? ⟨P0+1,0,none⟩=some (.int .i64 dg)/\W2.cell? ⟨BP,0,none⟩=some (.slice gw x cv)/\
   Hid (KeepsFrom base W (w1.setCell ⟨BP,0,none⟩ (.slice (some ⟨g1,0,none⟩) (x+1) c1))/\g8 Bs Bn W (w1.setCell ⟨BP,0,none⟩ (.slice (some ⟨g1,0,none⟩) (x+1) c1))/\CI w Wr gv gr gd gm gt gk ge g sp l T P0 BP Bs Bn base dg lv n C ms (x+1) (w1.setCell ⟨BP,0,none⟩ (.slice (some ⟨g1,0,none⟩) (x+1) c1))):=by
 obtain⟨i0,hi,hz0,hz1,hz2⟩:=jl Tryz.infoNt
 obtain⟨z,s2,m2,nr,hz,hdv,E,q1,q2,oo⟩:=td
 have hg:=hE.met.lt
 have o2:Out (·=g) W W2:=⟨oo.os,oo.tape,oo.output,oo.size,oo.block⟩
 have hsz2:base<=W2.heap.size:=Nat.le_trans hbs oo.size
 have d1:Boxed W2 BP 80 (.slice gw x cv):=aE b1 o2 (by omega)
 have d2:W2.ownsRow base 29 1 (.slice gw x cv) x us:=by
  refine b2.kept o2.grown ?_
  rcases b2.2 with⟨e,_⟩|⟨g',cap,cur,e,hb',hgb,_⟩
  ·cases e;exact .inl rfl
  ·cases e
   refine .inr fun e'=>?_
   have:g'=g:=by simpa [Value.ownBlock]using e'
   omega
 have cE:Boxed W2 P0 26 (.pointer (some ⟨gv,0,none⟩)):=aE h.bE o2 (by omega)
 have cD:Boxed W2 (P0+1) 3 (.int .i64 dg):=aE h.bD o2 (by omega)
 have cS:Boxed W2 Bs 80 lv:=aE h.bS o2 (by omega)
 have cN:Boxed W2 Bn 3 (.int .i64 2):=aE h.bN o2 (by omega)
 obtain⟨v',w1,hrun,hown,hgrow,_⟩:=run_append_own (P:=Tryz.prog) (W2.alloc (.cells #[.slice ra rl rc] 29)) base 80 80 29 i0 (.slice none 0 0) 1 24 Tryz.underlying80 hi hz0 hz1 hz2 rfl (by omega) (.slice gw x cv) x us (d2.alloc _) ⟨W2.heap.size,0,none⟩ 1 1 [.slice ra rl rc] rfl
  (by exact bO W2 [.slice ra rl rc] 29) (by intro u hu;simp at hu;subst hu;rfl) (by unfold maxLen;omega) (by omega) (by simp;omega)
 obtain⟨g1,c1,rfl⟩:=ownsRow_succ hown
 have low:∀ {v:Value} {t:TypeId} {k:Nat} {ys:List Value} {V:World},V.ownsRow base t 1 v k ys->V.ownsRow Wr.heap.size t 1 v k ys:=fun hh=>by
  refine⟨hh.1,?_⟩
  rcases hh.2 with h0|⟨g,cap,cur,hv,hb',rest⟩
  ·exact .inl h0
  ·exact .inr ⟨g,cap,cur,hv,by omega,rest⟩
 obtain⟨f1,f2,_,f4,f5⟩:=Boxed.appended (n₀:=Wr.heap.size) (t:=80) (e:=29) d1 (by decide) (low d2) (by omega) (by omega) (low hown) hgrow
 obtain⟨V,hV⟩:∃ V,w1.setCell ⟨BP,0,none⟩ (.slice (some ⟨g1,0,none⟩) (x+1) c1)=V:=⟨_,rfl⟩
 rw[hV]at f2 f4 f5
 have hob:∀ j,(Value.slice gw x cv).ownBlock=some j->base<=j/\∃ cur:Array Value,W2.heap[j]?=some (.cells cur 29 (0,0)):=fun j ej=>by
  rcases d2.2 with⟨e,_⟩|⟨g',cap,cur,e,hb',hgb,_⟩
  ·cases e;simp[Value.ownBlock]at ej
  ·cases e
   obtain rfl:g'=j:=by simpa [Value.ownBlock]using ej
   exact⟨hb',cur,hgb⟩
 have kept:∀ j,j<W2.heap.size->j≠BP->(∀ cur:Array Value,W2.heap[j]?≠some (.cells cur 29 (0,0))\/j<base)->w1.heap[j]?=W2.heap[j]?/\V.heap[j]?=W2.heap[j]?:=fun j hj hn hc=>by
  have e1:w1.heap[j]?=W2.heap[j]?:=(hgrow.block j (by simp;omega) (fun e=>by
   obtain⟨k1,cur,k2⟩:=hob j e.symm
   rcases hc cur with h|h
   ·exact h k2
   ·omega)).trans ((World.grownBy_alloc W2 _ none).block j hj (by simp))
  exact⟨e1,by rw[<-hV];exact(heap_setCell_other w1 ⟨BP,0,none⟩ j _ hn).trans e1⟩
 have kE:=kept P0 (by omega) (by omega) (fun _=>Or.inr (by omega))
 have kD:=kept (P0+1) (by omega) (by omega) (fun _=>Or.inr (by omega))
 have kS:=kept Bs (by omega) n3 (fun _=>Or.inr (by omega))
 have kN:=kept Bn (by omega) n4 (fun _=>Or.inr (by omega))
 have kB:∀ g' zs,aD W2 g' zs->V.heap[g']?=W2.heap[g']?:=fun g' zs hz=>(kept g' hz.lt (tK hz d1 (by decide)) (fun cur=>Or.inl (fun e=>by
  have:=e.symm.trans (show W2.heap[g']?=_ from hz)
  simp at this))).2
 have far:Out (fun j=>Wr.heap.size<=j) W2 V:=⟨f5.os,f5.tape,f5.output,f5.size,fun j _ hn=>f5.block j (by omega)⟩
 have e5:Boxed V Bs 80 lv:=kS.2.trans cS
 have e6:Boxed V Bn 3 (.int .i64 2):=kN.2.trans cN
 have on:∀ {v:Value} {k:Nat},bC w W2 v k->bC w V v k:=fun hh=>by
  rcases hh with hh|hh
  ·exact Or.inl hh
  ·exact Or.inr ⟨hh.1.turn kB,hh.2⟩
 refine⟨w1,g1,c1,hrun,f1.cell,f1.frozen,⟨Boxed.cell (kE.1.trans cE),Boxed.cell (kD.1.trans cD)⟩,cE.cell,cD.cell,d1.cell,?_⟩
 rw[hV]
 obtain⟨_,_,E0,_⟩:=h.eng
 refine⟨(kK o2 E0.met.c0).trans (f4.from base),⟨e5.cell.trans h.bS.cell.symm,e6.cell.trans h.bN.cell.symm⟩,⟨s2,m2,hE.far E far,q1,q2⟩,kE.2.trans cE,kD.2.trans cD,e5,e6,⟨_,us++[.slice ra rl rc],zs++[z],f2,?_,by simp[b3],fun j hj=>?_⟩,(h.out.trans o2).fresh far (fun i hi=>Or.inr hi)⟩
 ·rw[<-hV]
  refine hown.kept (grownBy_setCell' w1 BP _) ?_
  rcases hown.2 with⟨e,_⟩|⟨g',cap,cur,e,hb',hgb,_⟩
  ·cases e
  ·cases e
   refine .inr fun e'=>?_
   have:g1=BP:=by simpa [Value.ownBlock]using e'
   omega
 ·have hul:us.length=x:=by simpa using b2.1
  rw[dK,dK,hul,b3]
  by_cases e:j<x
  ·rw[if_pos e,if_pos e]
   exact⟨on ((b4 j e).1.out hgw o2),(b4 j e).2⟩
  ·rw[if_neg e,if_neg e,if_pos (by omega),if_pos (by omega)]
   obtain rfl:j=x:=by omega
   exact⟨on nr,hz,hdv⟩
end Go.Proofs.YtpdpnomocbehkaaGreatDoor
/- tree of the landed package div:all rows of products. -/
namespace Go.Proofs.YtpdpnomocbehkaaGreatDoor
open Go.RowKit Go.Shelf
attribute [local go_sem] Oper.semAt_some
set_option linter.unusedSimpArgs false
def lenV:Value->Nat
 | .slice _ n _=>n
 |_=>0
structure TI(w:World)(gv gr gd gm gt gk ge g:Nat)(s l:Int)(T:Tab)(P0:Nat)(dg:Int)(np b0:Nat)(ns:List Nat)(lv rv:Value)(ds:List Deferred)(W:World):Prop where
 eng:∃ sp mp,aw W gv gr gd gm gt gk ge g sp l mp T/\s<=sp/\sp+8589934592*(lenV lv:Int)<=s+8589934592*(np:Int)
 bE:Boxed W P0 26 (.pointer (some ⟨gv,0,none⟩))
 bD:Boxed W (P0+1) 3 (.int .i64 dg)
 rows:∃(us:List Value) (ls:List (List Nat)),W.ownsRow w.heap.size 80 1 rv us.length us/\Tr w W b0 us ls/\0<ls.length/\ls.length+lenV lv<=np+1/\ls.getD 0 []=ns/\us.getD (us.length-1) undef=lv/\∃ C,C*(lenV lv-1)<=380/\C<=760/\∀ t,t<lenV lv->(ls.getD (ls.length-1) []).getD t 0<18446744073709551616^C
 out:Out (·=g) w W
 marks:Marks w.heap.size W W.heap.size ds
def MY(w:World)(gv gr gd gm gt gk ge g:Nat)(s l:Int)(T:Tab)(np b0:Nat)(ns:List Nat)(e:Ending)(w':World):Prop:=
 ∃(b cap:Nat) (us:List Value) (ls:List (List Nat)) (s' m':Int),e=.returned (.slice (some ⟨b,0,none⟩) ls.length cap)/\w.heap.size<=b/\(∀ j,j<ls.length->w'.cell? ⟨b,0+j,none⟩=some (us.getD j undef))/\Tr w w' b0 us ls/\0<ls.length/\ls.length<=np+1/\ls.getD 0 []=ns/\(ls.getD (ls.length-1) []).length<=1/\aw w' gv gr gd gm gt gk ge g s' l m' T/\s<=s'/\s'<=s+8589934592*(np:Int)/\Out (·=g) w w'
theorem Tryz.infoSN:(Tryz.prog.info? 80).map (fun i=>(i.zero,i.size,i.bytes))=some (some (.slice none 0 0),1,24):=by kernel_rfl
theorem TI.done{w W W':World}{gv gr gd gm gt gk ge g:Nat}{s l m0:Int}{T:Tab}{P0:Nat}{dg:Int}{np b0:Nat}{ns:List Nat}{lv rv:Value}{ds:List Deferred}{s0:Int}(hE:aw w gv gr gd gm gt gk ge g s0 l m0 T)(h:TI w gv gr gd gm gt gk ge g s l T P0 dg np b0 ns lv rv ds W)(hn:lenV lv<=1)(kc:Kc W W')(o:Out (fun j=>w.heap.size<=j) W W'):
  MY w gv gr gd gm gt gk ge g s l T np b0 ns (.returned rv) W':=by
 obtain⟨sp,mp,E,q1,q2⟩:=h.eng
 obtain⟨us,ls,h1,h2,h3,h4,h5,h6,C,_⟩:=h.rows
 have hlen:=h2.len
 obtain⟨ga,b,cap,rfl,_,hh,hc⟩:=cf h1
 obtain⟨rfl,hbw⟩:=hh (by omega)
 have hl:(ls.getD (ls.length-1) []).length<=1:=by
  obtain⟨_,_,_,_,_,e,_⟩:=h2.lv (ls.length-1) (by omega)
  rw[hlen]at h6
  rw[h6]at e
  subst e
  exact hn
 exact⟨b,cap,us,ls,sp,mp,by rw[hlen],hbw,fun j hj=>kc.cell (hc j (by omega)),h2.kc kc,h3,by omega,h5,hl,hE.far E o,q1,by omega,h.out.fresh o (fun i hi=>Or.inr hi)⟩
theorem TI.step{w W W':World}{gv gr gd gm gt gk ge g:Nat}{s l m0 s0 sp mp:Int}{T:Tab}{P0 BP Bs Bn base D:Nat}{dg:Int}{np b0 n C q:Nat}{ns ms:List Nat}{lv rv:Value}{ds:List Deferred}{us:List Value}{ls:List (List Nat)}(hE:aw w gv gr gd gm gt gk ge g s0 l m0 T)
  (k1:W.ownsRow w.heap.size 80 1 rv us.length us) (k2:Tr w W b0 us ls) (k3:0<ls.length) (k4:ls.length+n<=np+1) (k5:ls.getD 0 []=ns) (hms:ls.getD (ls.length-1) []=ms) (hn:ms.length=n) (hgo:1<n) (k7:C*(n-1)<=380) (Mk:Marks w.heap.size W W.heap.size ds) (O:Out (·=g) w W) (E:aw W gv gr gd gm gt gk ge g sp l mp T) (q1:s<=sp) (q2:sp+8589934592*(n:Int)<=s+8589934592*(np:Int)) (hnp:np<=20)
  (hc:CI w W gv gr gd gm gt gk ge g sp l T P0 BP Bs Bn base dg lv n C ms q W') (hq:q=(n+1)/2) (hb:W.heap.size<=base) (hBP:W.heap.size<=BP) (hD:base<=D) (hDd:W'.heap[D]?=some (.deferred (some []))):
  ∃ va vc g1 c1 w1,Boxed W' BP 80 (.slice va q vc)/\(Builtin.append_ #[118,118] 118 #[rv,.slice (some ⟨W'.heap.size,0,none⟩) 1 1]).run Tryz.prog (W'.drew.alloc (.cells #[.slice va q vc] 80))=.ok (.slice (some ⟨g1,0,none⟩) (us.length+1) c1) w1/\w1.cell? ⟨BP,0,none⟩=some (.slice va q vc)/\
   TI w gv gr gd gm gt gk ge g s l T P0 dg np b0 ns (.slice va q vc) (.slice (some ⟨g1,0,none⟩) (us.length+1) c1) ({ target:=.collected D,args:=#[] } :: ds) w1:=by
 obtain⟨i0,hi,hz0,hz1,hz2⟩:=jl Tryz.infoSN
 obtain⟨s',m',E',y1,y2⟩:=hc.eng
 obtain⟨v,us2,zs,b1,b2,b3,b4⟩:=hc.prod
 have hg:=hE.met.lt
 have hlen:=k2.len
 have OW':Out (·=g) w W':=O.trans hc.out
 have hul2:us2.length=q:=by simpa using b2.1
 obtain⟨ga',gb,cap,rfl,_,hh,hcell⟩:=cf b2
 obtain⟨rfl,_⟩:=hh (by omega)
 have htyp:∃ cur,W'.heap[gb]?=some (.cells cur 29 (0,0)):=by
  rcases b2.2 with⟨e,_⟩|⟨g',cap',cur,e,_,hgb,_⟩
  ·cases e
  ·cases e;exact⟨cur,hgb⟩
 have hC:C+C<=760:=by
  have:C*1<=C*(n-1):=Nat.mul_le_mul_left C (by omega)
  omega
 have hon:∀ j,j<q->bC w W' (us2.getD j undef) (zs.getD j 0):=fun j hj=>(b4 j hj).1
 have hsm:∀ j,j<q->zs.getD j 0<18446744073709551616^(C+C):=fun j hj=>(b4 j hj).2.1
 have L':lS w W' b0 (.slice (some ⟨gb,0,none⟩) q cap) zs:=by
  have hcap:q<=cap:=by
   rcases b2.2 with⟨e,_⟩|⟨g',cap',cur,e,_,_,h,_⟩
   ·cases e
   ·cases e;exact h
  have hpm:PM W' (some ⟨gb,0,none⟩) gb 0 us2 zs q (C+C):=⟨hul2,⟨fun _=>rfl,by rw[b3,hul2],fun j hj=>hcell j (by omega),fun j hj=>((hon j (by omega)).inM hE OW').inW⟩,hsm,fun j hj=>(hon j hj).inM hE OW'⟩
  refine⟨_,gb,0,cap,us2,by rw[b3],by rw[b3];exact hcap,?_,fun _=>Or.inr htyp,fun j hj=>hon j (by omega)⟩
  rw[b3]
  exact hpm.up hC
 -- the row of rows
 have hrv:∀ j,rv.ownBlock=some j->w.heap.size<=j/\j<W.heap.size/\∃ cur:Array Value,W.heap[j]?=some (.cells cur 80 (0,0)):=fun j ej=>by
  rcases k1.2 with⟨e,_⟩|⟨g',cap',cur,e,hb',hgb,_⟩
  ·rw[e]at ej;simp[Value.ownBlock]at ej
  ·rw[e]at ej
   obtain rfl:g'=j:=by simpa [Value.ownBlock]using ej
   exact⟨hb',(Array.getElem?_eq_some_iff.1 hgb).1,cur,hgb⟩
 have hrv':∀ j,rv.ownBlock=some j->w.heap.size<=j/\j<W.heap.size/\∃ cur:Array Value,W'.heap[j]?=some (.cells cur 80 (0,0)):=fun j ej=>by
  obtain⟨h1,h2,cur,h3⟩:=hrv j ej
  exact⟨h1,h2,cur,(hc.out.block j h2 (by show ¬j=g;omega)).trans h3⟩
 have d2:W'.ownsRow w.heap.size 80 1 rv us.length us:=k1.kept hc.out.grown (by
  cases e:rv.ownBlock with
  |none=>exact .inl rfl
  |some j=>exact .inr (fun e'=>by have:=(hrv j e).1;cases e';omega))
 have d3:W'.drew.ownsRow w.heap.size 80 1 rv us.length us:=d2
 have hul:us.length<=21:=by omega
 have hws:w.heap.size<=W'.heap.size:=OW'.size
 obtain⟨v',w1,hrun,hown,hgrow,_⟩:=run_append_own (P:=Tryz.prog) (W'.drew.alloc (.cells #[.slice (some ⟨gb,0,none⟩) q cap] 80)) w.heap.size 118 118 80 i0 (.slice none 0 0) 1 24 Tryz.underlying118 hi hz0 hz1 hz2 rfl (by omega) rv us.length us (d3.alloc _) ⟨W'.heap.size,0,none⟩ 1 1 [.slice (some ⟨gb,0,none⟩) q cap] rfl
  (by exact bO W'.drew [.slice (some ⟨gb,0,none⟩) q cap] 80) (by intro u hu;simp at hu;subst hu;rfl) (by unfold maxLen;omega) (by omega) (by rw[World.size_alloc];show _<=W'.heap.size+1;omega)
 obtain⟨g1,c1,rfl⟩:=ownsRow_succ hown
 have kp:∀ j,j<W'.heap.size->(∀ cur:Array Value,w.heap.size<=j->j<W.heap.size->W'.heap[j]?≠some (.cells cur 80 (0,0)))->w1.heap[j]?=W'.heap[j]?:=fun j hj hn=>by
  refine(hgrow.block j (by rw[World.size_alloc];show j<W'.heap.size+1;omega) (fun e=>?_)).trans ((World.grownBy_alloc W'.drew _ none).block j hj (by simp))
  obtain⟨h1,h2,cur,h3⟩:=hrv' j e.symm
  exact hn cur h1 h2 h3
 have K:∀ j,(j<w.heap.size\/∃ cur t,t≠80/\W'.heap[j]?=some (.cells cur t (0,0)))->w1.heap[j]?=W'.heap[j]?:=fun j hj=>by
  rcases hj with hj|⟨cur,t,ht,hj⟩
  ·exact kp j (by omega) (fun cur h1=>absurd hj (by omega))
  ·exact kp j (Array.getElem?_eq_some_iff.1 hj).1 (fun cur' _ _ e=>by
    have:=e.symm.trans hj
    simp at this
    exact ht this.2.symm)
 have KD:∀ D':Nat,W'.heap[D']?=some (.deferred (some []))->w1.heap[D']?=W'.heap[D']?:=fun D' hj=>kp D' (Array.getElem?_eq_some_iff.1 hj).1 (fun cur' _ _ e=>by
  have:=e.symm.trans hj
  simp at this)
 have hsz:W'.heap.size<w1.heap.size:=by
  have:=hgrow.size
  rw[World.size_alloc]at this
  exact this
 have far:Out (fun j=>w.heap.size<=j) W' w1:=⟨hgrow.os,hgrow.tape,hgrow.output,by omega,fun j hj hn=>K j (Or.inl (by omega))⟩
 have O1:Out (·=g) w w1:=OW'.fresh far (fun i hi=>Or.inr hi)
 have x1:Boxed w1 BP 80 (.slice (some ⟨gb,0,none⟩) q cap):=(kp BP b1.lt (fun cur _ h2=>absurd hBP (by omega))).trans b1
 refine⟨_,cap,g1,c1,w1,b1,hrun,x1.cell,⟨s',m',hE.far E' far,by omega,?_⟩,(K P0 (Or.inr ⟨_,_,by decide,hc.bE⟩)).trans hc.bE,(K (P0+1) (Or.inr ⟨_,_,by decide,hc.bD⟩)).trans hc.bD,⟨us++[.slice (some ⟨gb,0,none⟩) q cap],ls++[zs],?_,?_,by simp,?_,?_,?_,C+C,?_,hC,fun t ht=>?_⟩,O1,⟨D,rfl,?_,?_,(KD D hDd).trans hDd,?_⟩⟩
 ·show s'+8589934592*(q:Int)<=_
  omega
 ·rw[List.length_append,List.length_singleton];exact hown
 ·refine((k2.out E.rcp.div.mul hg hc.out).turn hE O1 K).snoc (L'.turn hE O1 K) ?_
  rw[hms]
  refine⟨by rw[b3,hn,hq],fun t ht=>?_⟩
  rw[hn]at ht
  exact(b4 (t/2) (by omega)).2.2 t ht rfl
 ·rw[List.length_append,List.length_singleton]
  show _+1+q<=_
  omega
 ·rw[dK,if_pos k3];exact k5
 ·rw[dK,List.length_append,List.length_singleton,if_neg (by omega),if_pos (by omega)]
 ·show(C+C)*(q-1)<=380
  have e1:(C+C)*(q-1)=C*(2*(q-1)):=by rw[<-Nat.two_mul,Nat.mul_comm 2 C,Nat.mul_assoc]
  rw[e1]
  exact Nat.le_trans (Nat.mul_le_mul_left C (by omega)) k7
 ·have ht:t<q:=ht
  rw[List.length_append,List.length_singleton,dK,if_neg (by omega),if_pos (by omega)]
  exact(b4 t ht).2.1
 ·have:=O.size;omega
 ·have:=(Array.getElem?_eq_some_iff.1 hDd).1;omega
 ·refine(Mk.turn (W':=w1) (fun D' h1 h2 h3=>?_)).up (by omega)
  have e1:W'.heap[D']?=W.heap[D']?:=hc.out.block D' h2 (fun e=>by
   have:=E.met.c0
   subst e
   simp[World.cell?,h3]at this)
  exact(KD D' (e1.trans h3)).trans e1
set_option maxRecDepth 100000 in
set_option maxHeartbeats 3200000 in
theorem Ju(w:World)(gv gr gd gm gt gk ge g:Nat)(s l m:Int)(T:Tab)(gp:Option Addr)(bp op cp np:Nat)(dg:Int)(vs:List Value)(ns:List Nat)
  (hE:aw w gv gr gd gm gt gk ge g s l m T) (hT:TB w) (h0:0<=s) (h1:s<=1130000000000000000) (h2:0<=l) (h3:l<=900) (hnp:np<=20) (hcp:np<=cp) (hP:PM w gp bp op vs ns np 20):
  Calls Tryz.prog 71 #[.pointer (some ⟨gv,0,none⟩),.slice gp np cp,.int .i64 dg] w (MY w gv gr gd gm gt gk ge g s l T np bp ns):=by
 obtain⟨P0,hP0⟩:∃ P0,w.heap.size=P0:=⟨_,rfl⟩
 have HE:=hide hE
 have HT:=hide hT
 have hgl:=hE.met.lt
 obtain⟨W1,hW1⟩:∃ W1,((w.alloc (.cells #[.pointer (some ⟨gv,0,none⟩)] 26)).alloc (.cells #[.int .i64 dg] 3)).alloc (.cells #[.slice gp np cp] 80)=W1:=⟨_,rfl⟩
 have T0:TI w gv gr gd gm gt gk ge g s l T P0 dg np bp ns (.slice gp np cp) (.slice (some ⟨P0+1+1,0,none⟩) 1 1) [] W1:=by
  have bw:Below w.heap.size w W1:=by rw[<-hW1];exact(((Below.refl _ w).alloc (Nat.le_refl _) _).alloc (by simp) _).alloc (by simp;omega) _
  have xE:Boxed W1 P0 26 (.pointer (some ⟨gv,0,none⟩)):=by
   have:=((Boxed.new w 26 (.pointer (some ⟨gv,0,none⟩))).alloc (.cells #[.int .i64 dg] 3)).alloc (.cells #[.slice gp np cp] 80)
   rw[hW1,hP0]at this
   exact this
  have xD:Boxed W1 (P0+1) 3 (.int .i64 dg):=by
   have:=(Boxed.new (w.alloc (.cells #[.pointer (some ⟨gv,0,none⟩)] 26)) 3 (.int .i64 dg)).alloc (.cells #[.slice gp np cp] 80)
   rw[hW1,World.size_alloc,hP0]at this
   exact this
  have xR:W1.heap[P0+1+1]?=some (.cells #[.slice gp np cp] 80 (0,0)):=by
   have:=heap_alloc_new ((w.alloc (.cells #[.pointer (some ⟨gv,0,none⟩)] 26)).alloc (.cells #[.int .i64 dg] 3)) (.cells #[.slice gp np cp] 80)
   rw[hW1,World.size_alloc,World.size_alloc,hP0]at this
   exact this
  have hnl:ns.length=np:=by rw[hP.parts.len,hP.lv]
  have hlt:0<np->bp<w.heap.size:=fun h=>World.block_lt_of_cell? _ _ (hP.parts.cell 0 (by rw[hP.lv];exact h))
  refine⟨⟨s,m,hE.next bw,Int.le_refl _,Int.le_refl _⟩,xE,xD,⟨[.slice gp np cp],[ns],⟨rfl,Or.inr ⟨P0+1+1,1,_,rfl,by omega,xR,by simp,by unfold maxLen;omega,by simp,by simp⟩⟩,Tr.one ⟨gp,bp,op,cp,vs,by rw[hnl],by rw[hnl];exact hcp,by rw[hnl];exact(hP.next bw).up (by omega),fun h=>Or.inl ⟨rfl,hlt (by omega)⟩,fun j hj=>Or.inl (hP.each j (by omega))⟩,by simp,by show 1+np<=np+1;omega,rfl,rfl,20,?_,by omega,fun t ht=>hP.small t ht⟩,Out.of_below bw,trivial⟩
  show 20*(np-1)<=380
  omega
 clear hE hT
 refine(callsIn_wide (n:=4)).1 ?_
 refine callsIn_of_wp_marks Tryz.func71 rfl trivial ?_ rfl
 simp only[Tryz.ntmps71,List.size_toArray,List.length_cons,List.length_nil,Nat.reduceAdd,Nat.reduceSub,Array.replicate_succ,Array.replicate_zero,List.push_toArray,List.append_toArray,List.nil_append,List.cons_append]
 gi_wp2
 refine wpIn_loop (fun a' W'=>∃(lv rv u8 u9 u12 u13 u14 u15 u16 u17 u18 u19 u20 u21 u22 u23 u24 u25 u26 u27 u28 u29:Value) (ds:List Deferred),a'={ tmps:=#[.pointer (some ⟨gv,0,none⟩),lv,.int .i64 dg,.pointer (some ⟨P0,0,none⟩),undef,.pointer (some ⟨P0+1,0,none⟩),.slice none 0 0,rv,u8,u9,.slice gp np cp,.slice (some ⟨P0+1+1,0,none⟩) 1 1,u12,u13,u14,u15,u16,u17,u18,u19,u20,u21,u22,u23,u24,u25,u26,u27,u28,u29,undef],defers:=ds }/\TI w gv gr gd gm gt gk ge g s l T P0 dg np bp ns lv rv ds W') (fun a' _=>lenV (a'.tmps.getD 1 undef)) ?_ ?_
 ·exact⟨_,_,_,_,_,_,_,_,_,_,_,_,_,_,_,_,_,_,_,_,_,_,_,rfl,T0⟩
 ·rintro a W ⟨lv,rv,u8,u9,u12,u13,u14,u15,u16,u17,u18,u19,u20,u21,u22,u23,u24,u25,u26,u27,u28,u29,ds,ha,hI⟩
  subst ha
  dsimp only
  obtain⟨us,ls,k1,k2,k3,k4,k5,k6,C,k7,k8,k9⟩:=hI.rows
  have hlen:=k2.len
  obtain⟨gl,bl,ol,cl,vs',iF,hcl,hp⟩:lS w W bp lv (ls.getD (ls.length-1) []):=by
   have:=k2.lv (ls.length-1) (by omega)
   rw[<-hlen,k6,hlen]at this
   exact this
  obtain⟨ms,hms⟩:∃ ms,ls.getD (ls.length-1) []=ms:=⟨_,rfl⟩
  rw[hms]at iF hcl hp k9
  obtain⟨n,hn⟩:∃ n,ms.length=n:=⟨_,rfl⟩
  rw[hn]at iF hcl hp
  have hln:lenV lv=n:=by rw[iF];rfl
  by_cases hgo:1<n
  ·obtain⟨sp,mp,E,q1,q2⟩:=hI.eng
   rw[hln]at k4 k7 k9 q2
   have O:=hI.out
   have hpC:PM W gl bl ol vs' ms n C:=⟨hp.1.lv,hp.1.parts,fun j hj=>k9 j hj,hp.1.each⟩
   obtain rfl:=hpC.parts.head (by rw[hpC.lv];omega)
   obtain⟨q,hq⟩:∃ q,q=(n+1)/2:=⟨_,rfl⟩
   have hws:=O.size
   have CC3:=hide (yY 3 (some ⟨bl,ol,none⟩) n cl 2 (W.alloc (.cells #[.slice none 0 0] 80)) (by omega))
   obtain⟨BP,hBP⟩:∃ BP,W.heap.size=BP:=⟨_,rfl⟩
   rw[World.size_alloc,hBP]at CC3
   have lE:=hI.bE.lt
   have lD:=hI.bD.lt
   obtain⟨W4,hW4⟩:∃ W4,((W.alloc (.cells #[.slice none 0 0] 80)).alloc (.cells #[.slice (some ⟨bl,ol,none⟩) n cl] 80)).alloc (.cells #[.int .i64 ((2:Nat):Int)] 3)=W4:=⟨_,rfl⟩
   rw[hW4]at CC3
   have b4:Below W.heap.size W W4:=by rw[<-hW4];exact(((Below.refl _ W).alloc (Nat.le_refl _) _).alloc (by simp) _).alloc (by simp;omega) _
   have xP:Boxed W4 BP 80 (.slice none 0 0):=by
    have:=((Boxed.new W 80 (.slice none 0 0)).alloc (.cells #[.slice (some ⟨bl,ol,none⟩) n cl] 80)).alloc (.cells #[.int .i64 ((2:Nat):Int)] 3)
    rw[hW4,hBP]at this
    exact this
   have xS:Boxed W4 (BP+1) 80 (.slice (some ⟨bl,ol,none⟩) n cl):=by
    have:=(Boxed.new (W.alloc (.cells #[.slice none 0 0] 80)) 80 (.slice (some ⟨bl,ol,none⟩) n cl)).alloc (.cells #[.int .i64 ((2:Nat):Int)] 3)
    rw[hW4,World.size_alloc,hBP]at this
    exact this
   have xN:Boxed W4 (BP+1+1) 3 (.int .i64 ((2:Nat):Int)):=by
    have:=Boxed.new ((W.alloc (.cells #[.slice none 0 0] 80)).alloc (.cells #[.slice (some ⟨bl,ol,none⟩) n cl] 80)) 3 (.int .i64 ((2:Nat):Int))
    rw[hW4,World.size_alloc,World.size_alloc,hBP]at this
    exact this
   have sz4:W4.heap.size=BP+1+1+1:=by rw[<-hW4];simp[hBP]
   obtain⟨base,hbase⟩:∃ base,W4.heap.size=base:=⟨_,rfl⟩
   have I0:Hid (CI w W gv gr gd gm gt gk ge g sp l T P0 BP (BP+1) (BP+1+1) base dg (.slice (some ⟨bl,ol,none⟩) n cl) n C ms 0 W4):=⟨⟨sp,mp,E.next b4,Int.le_refl _,by omega⟩,(b4.block P0 lE).trans hI.bE,(b4.block (P0+1) lD).trans hI.bD,xS,xN,⟨_,[],[],xP,World.ownsRow_nil _ _ _ _,rfl,fun j hj=>absurd hj (by omega)⟩,Out.of_below b4⟩
   have hcl':n<=cl:=hcl
   have HP:=hide hpC
   have HOld:=hide hp.2.2
   have HEr:=hide E
   have HO:=hide O
   have HK:=hide (And.intro k1 k2)
   have HMk:=hide hI.marks
   have hg1:(1:Int)<(n:Int):=by omega
   have hgP:P0≠g/\P0+1≠g:=by omega
   clear hI hp hpC k1 k2 k9 E O T0 b4
   subst iF
   gi_wp2
   refine⟨trivial,?_⟩
   refine(ae CC3).mono ?_
   rintro e W4' ⟨rfl,hx⟩
   obtain rfl:=hx.symm
   clear hx CC3
   gi_wp2
   refine qp (by omega) (gf:=117) (lb:=#[.pointer (some ⟨BP+1,0,none⟩),.pointer (some ⟨BP+1+1,0,none⟩)]) rfl (enters_of Tryz.func117 (by kernel_rfl) rfl)
    (vL 3 (by omega) (BP+1) (BP+1+1) bl ol n cl 2 q (by omega) (by omega) (by omega) hcl' (by omega) (by omega) W4 xS.lt xN.lt xS.cell xN.cell) (Below.refl _ _) uf (ue xS.lt xN.lt) (fun _=>rfl)
    (CI w W gv gr gd gm gt gk ge g sp l T P0 BP (BP+1) (BP+1+1) base dg (.slice (some ⟨bl,ol,none⟩) n cl) n C ms) (by rw[hbase];exact CI.own (ae HEr) (by omega)) (ae I0)
    (fun x=>{ tmps:=#[.pointer (some ⟨gv,0,none⟩),.slice (some ⟨bl,ol,none⟩) n cl,.int .i64 dg,.pointer (some ⟨P0,0,none⟩),undef,.pointer (some ⟨P0+1,0,none⟩),.slice none 0 0,rv,.pointer (some ⟨BP,0,none⟩),cj bl ol n 2 x,.slice gp np cp,.slice (some ⟨P0+1+1,0,none⟩) 1 1,.slice (some ⟨bl,ol,none⟩) n cl,.int .i64 (n:Int),.bool true,.slice (some ⟨bl,ol,none⟩) n cl,.func (.func 117) #[] #[.pointer (some ⟨BP+1,0,none⟩),.pointer (some ⟨BP+1+1,0,none⟩)],cj bl ol n 2 x,u18,u19,u20,u21,u22,u23,u24,u25,u26,u27,u28,u29,undef],defers:=[] }) ?assign ?body ?done
   case assign=>
    intro lp x W5 K hK
    gi_wp2
    exact hK
   case body=>
    rintro lp x W5 hx hI5
    have hb:W.heap.size<=base:=by omega
    have HD:=hide (hI5.drew (ae HEr) hb)
    have CT:=hide (CI.product (ae HEr) ((ae HE).rcp.tb (ae HO) (ae HT)) (by omega) (by omega) h2 h3 (by omega) (by omega) (ae HP) hgl (by omega) (ae HOld) hx (by omega) (ae HD))
    obtain⟨v,us5,zs5,p1,p2,p3,p4⟩:=hI5.prod
    obtain⟨gv5,bv5,cv5,rfl,_,_,_⟩:=cf p2
    have HRD:=hide (CI.round (ae HEr) hgl (by omega) hgP (by omega) (by omega) (by omega) (by omega) (by omega) hI5 (by have:=hI5.bN.lt;omega) (by omega) p1 p2 p3 p4)
    have cP:=p1.cell
    have fP:=p1.frozen
    have cE:=hI5.bE.cell
    have cB:=hI5.bD.cell
    clear hI5 p1 p2 p3 p4 I0
    gi_wp2
    refine fX (fun w'=>w'.cell? ⟨P0,0,none⟩=some (.pointer (some ⟨gv,0,none⟩))/\w'.cell? ⟨P0+1,0,none⟩=some (.int .i64 dg)) (by kernel_rfl) (by kernel_rfl) (fun⟨_,_,h⟩=>h) ⟨cE,cB⟩ (fun hHeld=>?_)
    refine wpAnyH_take (i:=1) (oi:=_) (v:=.pointer (some ⟨gv,0,none⟩)) rfl (by kernel_rfl) (by kernel_rfl) (by kernel_rfl) (fun _ _ _ h=>h) (Or.inl ⟨by rfl,?_⟩) (by assumption) ?_
    ·intro w hSw
     (try dsimp only at hSw)
     go_simp
    simp only[Act.put,List.setIfInBounds_toArray,List.set_cons_zero,List.set_cons_succ]
    refine wpAnyH_take (i:=2) (oi:=_) (v:=cj bl ol n 2 x) rfl (by kernel_rfl) (by kernel_rfl) (by kernel_rfl) (fun _ _ _ h=>h) (Or.inl ⟨by rfl,?_⟩) (by assumption) ?_
    ·intro w hSw
     (try dsimp only at hSw)
     go_simp
    simp only[Act.put,List.setIfInBounds_toArray,List.set_cons_zero,List.set_cons_succ]
    refine wpAnyH_take (i:=3) (oi:=_) (v:=.int .i64 dg) rfl (by kernel_rfl) (by kernel_rfl) (by kernel_rfl) (fun _ _ _ h=>h) (Or.inl ⟨by rfl,?_⟩) (by assumption) ?_
    ·intro w hSw
     (try dsimp only at hSw)
     go_simp
    simp only[Act.put,List.setIfInBounds_toArray,List.set_cons_zero,List.set_cons_succ]
    refine wpAnyH_ready (rs:=[0,4]) (by kernel_rfl) (by simp) ?_
    refine AllReadyH.cons (o:=_) rfl (fun K hK=>?_) ?_
    ·skip
     go_simp
     refine hK.out _ _ (by assumption) (fun hHeld=>?_)
     clear hK K
     (try simp only[Act.put,List.setIfInBounds_toArray,List.set_cons_zero,List.set_cons_succ])
     refine wpAnyH_ready (rs:=[4]) (by kernel_rfl) (by simp) ?_
     refine AllReadyH.cons (o:=_) rfl (fun K hK=>?_) AllReadyH.nil
     go_simp
     refine(ae CT).mono ?_
     rintro e W2 ⟨ra,rl,rc,rfl,td⟩
     obtain⟨w1,g1,c1,hrun,cP1,fP1,S1,cE2,cB2,cP2,HF⟩:=ae HRD W2 ra rl rc td
     clear td
     go_wp2_with fail
     refine hK.out _ _ ⟨cE2,cB2⟩ (fun hHeld=>?_)
     clear hK K
     (try simp only[Act.put,List.setIfInBounds_toArray,List.set_cons_zero,List.set_cons_succ])
     refine wpAnyH_ready (rs:=[5]) (by kernel_rfl) (by simp) ?_
     refine AllReadyH.cons (o:=_) rfl (fun K hK=>?_) AllReadyH.nil
     go_simp
     refine hK.out _ _ ⟨aU cE2 _,aU cB2 _⟩ (fun hHeld=>?_)
     clear hK K
     (try simp only[Act.put,List.setIfInBounds_toArray,List.set_cons_zero,List.set_cons_succ])
     refine wpAnyH_ready (rs:=[6]) (by kernel_rfl) (by simp) ?_
     refine AllReadyH.cons (o:=_) rfl (fun K hK=>?_) AllReadyH.nil
     refine aQ rfl (.tmp 18) (.tmp 23) 80 rfl rfl rfl hrun ?_
     refine hK.out _ _ S1 (fun hHeld=>?_)
     clear hK K
     (try simp only[Act.put,List.setIfInBounds_toArray,List.set_cons_zero,List.set_cons_succ])
     refine wpAnyH_ready (rs:=[7]) (by kernel_rfl) (by simp) ?_
     refine AllReadyH.cons (o:=_) rfl (fun K hK=>?_) AllReadyH.nil
     go_simp
     obtain⟨F1,F2,F3⟩:=ae HF
     refine hK.out _ _ ⟨F3.bE.cell,F3.bD.cell⟩ (fun hHeld=>?_)
     clear hK K
     refine wpAnyH_done (by kernel_rfl) ?_ _
     exact⟨by rw[hbase];exact F1,F2,F3⟩
    refine AllReadyH.cons (o:=_) rfl (fun K hK=>?_) AllReadyH.nil
    go_simp
    refine(ae CT).mono ?_
    rintro e W2 ⟨ra,rl,rc,rfl,td⟩
    obtain⟨w1,g1,c1,hrun,cP1,fP1,S1,cE2,cB2,cP2,HF⟩:=ae HRD W2 ra rl rc td
    clear td
    go_wp2_with fail
    refine hK.out _ _ ⟨cE2,cB2⟩ (fun hHeld=>?_)
    clear hK K
    (try simp only[Act.put,List.setIfInBounds_toArray,List.set_cons_zero,List.set_cons_succ])
    refine wpAnyH_ready (rs:=[0,5]) (by kernel_rfl) (by simp) ?_
    refine AllReadyH.cons (o:=_) rfl (fun K hK=>?_) ?_
    ·skip
     go_simp
     refine hK.out _ _ (by assumption) (fun hHeld=>?_)
     clear hK K
     (try simp only[Act.put,List.setIfInBounds_toArray,List.set_cons_zero,List.set_cons_succ])
     refine wpAnyH_ready (rs:=[5]) (by kernel_rfl) (by simp) ?_
     refine AllReadyH.cons (o:=_) rfl (fun K hK=>?_) AllReadyH.nil
     go_simp
     refine hK.out _ _ ⟨aU cE2 _,aU cB2 _⟩ (fun hHeld=>?_)
     clear hK K
     (try simp only[Act.put,List.setIfInBounds_toArray,List.set_cons_zero,List.set_cons_succ])
     refine wpAnyH_ready (rs:=[6]) (by kernel_rfl) (by simp) ?_
     refine AllReadyH.cons (o:=_) rfl (fun K hK=>?_) AllReadyH.nil
     refine aQ rfl (.tmp 18) (.tmp 23) 80 rfl rfl rfl hrun ?_
     refine hK.out _ _ S1 (fun hHeld=>?_)
     clear hK K
     (try simp only[Act.put,List.setIfInBounds_toArray,List.set_cons_zero,List.set_cons_succ])
     refine wpAnyH_ready (rs:=[7]) (by kernel_rfl) (by simp) ?_
     refine AllReadyH.cons (o:=_) rfl (fun K hK=>?_) AllReadyH.nil
     go_simp
     obtain⟨F1,F2,F3⟩:=ae HF
     refine hK.out _ _ ⟨F3.bE.cell,F3.bD.cell⟩ (fun hHeld=>?_)
     clear hK K
     refine wpAnyH_done (by kernel_rfl) ?_ _
     exact⟨by rw[hbase];exact F1,F2,F3⟩
    refine AllReadyH.cons (o:=_) rfl (fun K hK=>?_) AllReadyH.nil
    go_simp
    refine hK.out _ _ ⟨aU cE2 _,aU cB2 _⟩ (fun hHeld=>?_)
    clear hK K
    (try simp only[Act.put,List.setIfInBounds_toArray,List.set_cons_zero,List.set_cons_succ])
    have cP3:=aU cP2 (.cells #[.slice ra rl rc] 29)
    refine wpAnyH_ready (rs:=[0]) (by kernel_rfl) (by simp) ?_
    refine AllReadyH.cons (o:=_) rfl (fun K hK=>?_) AllReadyH.nil
    go_simp
    refine hK.out _ _ (by assumption) (fun hHeld=>?_)
    clear hK K
    (try simp only[Act.put,List.setIfInBounds_toArray,List.set_cons_zero,List.set_cons_succ])
    refine wpAnyH_ready (rs:=[6]) (by kernel_rfl) (by simp) ?_
    refine AllReadyH.cons (o:=_) rfl (fun K hK=>?_) AllReadyH.nil
    refine aQ rfl (.tmp 18) (.tmp 23) 80 rfl rfl rfl hrun ?_
    refine hK.out _ _ S1 (fun hHeld=>?_)
    clear hK K
    (try simp only[Act.put,List.setIfInBounds_toArray,List.set_cons_zero,List.set_cons_succ])
    refine wpAnyH_ready (rs:=[7]) (by kernel_rfl) (by simp) ?_
    refine AllReadyH.cons (o:=_) rfl (fun K hK=>?_) AllReadyH.nil
    go_simp
    obtain⟨F1,F2,F3⟩:=ae HF
    refine hK.out _ _ ⟨F3.bE.cell,F3.bD.cell⟩ (fun hHeld=>?_)
    clear hK K
    refine wpAnyH_done (by kernel_rfl) ?_ _
    exact⟨by rw[hbase];exact F1,F2,F3⟩
   case done=>
    rintro D W5 hD hI5 hDd
    rw[hbase]at hD
    obtain⟨va,vc,g1,c1,w1,x1,hrun,c1',hTI⟩:=TI.step (ae HE) (ae HK).1 (ae HK).2 k3 k4 k5 hms hn hgo k7 (ae HMk) (ae HO) (ae HEr) q1 q2 hnp hI5 hq (by omega) (by omega) hD hDd
    have HTI:=hide hTI
    obtain⟨RV,hRV⟩:∃ RV,(Value.slice (some ⟨g1,0,none⟩) (us.length+1) c1)=RV:=⟨_,rfl⟩
    rw[hRV]at hrun HTI
    have cP:=x1.cell
    have cP':W5.drew.cell? ⟨BP,0,none⟩=some (.slice va q vc):=cP
    have cP2:=aU cP' (.cells #[.slice va q vc] 80)
    have hqn:q<n:=by omega
    clear hTI x1 hI5 I0 hRV hq
    gi_wp2
    refine wpIn_wide.2 ?_
    refine wp_region_noPanic ?_
    refine wp_region_held_drew (S:=fun w'=>w'.cell? ⟨BP,0,none⟩=some (.slice va q vc)) (by kernel_rfl) cP' (fun hHeld=>?_)
    refine wpAnyH_take (i:=0) (oi:=_) (v:=rv) rfl (by kernel_rfl) (by kernel_rfl) (by kernel_rfl) (fun _ _ _ h=>h) (Or.inl ⟨by rfl,?_⟩) (by assumption) ?_
    ·intro w hSw
     (try dsimp only at hSw)
     go_simp
    simp only[Act.put,List.setIfInBounds_toArray,List.set_cons_zero,List.set_cons_succ]
    refine wpAnyH_take (i:=1) (oi:=_) (v:=.slice va q vc) rfl (by kernel_rfl) (by kernel_rfl) (by kernel_rfl) (fun _ _ _ h=>h) (Or.inl ⟨by rfl,?_⟩) (by assumption) ?_
    ·intro w hSw
     (try dsimp only at hSw)
     go_simp
    simp only[Act.put,List.setIfInBounds_toArray,List.set_cons_zero,List.set_cons_succ]
    refine wpAnyH_take (i:=4) (oi:=_) (v:=.slice va q vc) rfl (by kernel_rfl) (by kernel_rfl) (by kernel_rfl) (fun _ _ _ h=>h) (Or.inl ⟨by rfl,?_⟩) (by assumption) ?_
    ·intro w hSw
     (try dsimp only at hSw)
     go_simp
    simp only[Act.put,List.setIfInBounds_toArray,List.set_cons_zero,List.set_cons_succ]
    refine wpAnyH_ready (rs:=[2]) (by kernel_rfl) (by simp) ?_
    refine AllReadyH.cons (o:=_) rfl (fun K hK=>?_) AllReadyH.nil
    go_simp
    refine hK.out _ _ cP2 (fun hHeld=>?_)
    clear hK K
    (try simp only[Act.put,List.setIfInBounds_toArray,List.set_cons_zero,List.set_cons_succ])
    refine wpAnyH_ready (rs:=[3]) (by kernel_rfl) (by simp) ?_
    refine AllReadyH.cons (o:=_) rfl (fun K hK=>?_) AllReadyH.nil
    refine aQ rfl (.tmp 25) (.tmp 27) 118 rfl rfl rfl hrun ?_
    refine hK.out _ _ c1' (fun hHeld=>?_)
    clear hK K
    (try simp only[Act.put,List.setIfInBounds_toArray,List.set_cons_zero,List.set_cons_succ])
    refine wpAnyH_ready (rs:=[5]) (by kernel_rfl) (by simp) ?_
    refine AllReadyH.cons (o:=_) rfl (fun K hK=>?_) AllReadyH.nil
    go_simp
    refine hK.out _ _ c1' (fun hHeld=>?_)
    clear hK K
    (try simp only[Act.put,List.setIfInBounds_toArray,List.set_cons_zero,List.set_cons_succ])
    refine wpAnyH_ready (rs:=[6]) (by kernel_rfl) (by simp) ?_
    refine AllReadyH.cons (o:=_) rfl (fun K hK=>?_) AllReadyH.nil
    go_simp
    refine hK.out _ _ c1' (fun hHeld=>?_)
    clear hK K
    (try simp only[Act.put,List.setIfInBounds_toArray,List.set_cons_zero,List.set_cons_succ])
    refine wpAnyH_done (by kernel_rfl) ?_ _
    refine NoPanic.normal ?_
    exact(show _/\_ from ⟨⟨_,_,_,_,_,_,_,_,_,_,_,_,_,_,_,_,_,_,_,_,_,_,_,rfl,ae HTI⟩,hqn⟩)
  ·have HM:=hide hI.marks
   have HI:=hide hI
   have hg1:¬(1:Int)<(n:Int):=by omega
   clear hI k1 k2 k9
   subst iF
   gi_wp2
   refine jN (ae HM) (fun W' kc o=>?_)
   exact⟨_,results_tmp rfl _ _ _,(ae HI).done (ae HE) (by rw[hln];omega) kc (by rw[hP0]at *;exact o)⟩
end Go.Proofs.YtpdpnomocbehkaaGreatDoor
/- Divides of the landed package div. -/
namespace Go.Proofs.YtpdpnomocbehkaaGreatDoor
open Go.RowKit
set_option maxHeartbeats 1600000 in
theorem oL:kW:=by
 intro w gv gr gd gm gt gk ge g s l m T v gp bp op cp np K vs ns hE _ h0 _ _ _ hv _ _ _ _ _
 have CZ:=hide (cL hv.inW true (by simp))
 obtain⟨gw,lw,cw,rfl⟩:=hv.inW.is
 have HE:=hide hE
 have H0:=hide h0
 clear hE hv h0
 go_enter Tryz.func37,Tryz.ntmps37
 go_wp2_with fail
 with_reducible refine(ae CZ).mono ?_
 rintro e w1 ⟨rfl,hw⟩
 obtain rfl:=hw.symm
 clear hw CZ
 go_wp2
 go_ret2
 exact⟨s,m,rfl,ae HE,⟨ae H0,by omega⟩,Out.refl _ _⟩
theorem aw.rowsH{K:Nat}{w w':World}{gv gr gd gm gt gk ge g:Nat}{s l m:Int}{T:Tab}(h:aw w gv gr gd gm gt gk ge g s l m T)(o:Out (·=g) w w'){gp:Option Addr}{bp op:Nat}{vs:List Value}{ns:List Nat}(r:eb K w gp bp op vs ns):eb K w' gp bp op vs ns:=h.rcp.div.rowsN o r
set_option maxRecDepth 100000 in
set_option maxHeartbeats 3200000 in
theorem uR:nY:=by
 intro w gv gr gd gm gt gk ge g s l m T v C gp bp op cp np K vs ns q hE hT h0 h1 h2 h3 hv hC wC hvl hnp hcp hK hP hq
 have CZ:=hide (cL hv.inW false (by simp;omega))
 have HC:Hid (∀ W,Out (·=g) w W->∀ j,j<np->gp=some ⟨bp,op,none⟩/\W.cell? ⟨bp,op+j,none⟩=some (vs.getD j undef)):=fun W o j hj=>⟨hP.head (by omega),(hE.rowsH o hP).cell j (by omega)⟩
 have wN:∀ j,j<np->wl (ns.getD j 0)<=20:=fun j hj=>by
  obtain⟨_,_,_,_,xs,_,_,hd,hx,hl⟩:=hP.each j (by omega)
  rw[<-hx]
  exact Nat.le_trans (aW hd) (by omega)
 have CD:Hid (∀ W s1 m1 j,aw W gv gr gd gm gt gk ge g s1 l m1 T->s<=s1->s1<=s+1000000->Out (·=g) w W->j<np->Calls Tryz.prog 12 #[.pointer (some ⟨gv,0,none⟩),vs.getD j undef,v] W fun e w'=>∃ qa ql qc r s' m',e=.returned (.tuple #[.slice qa ql qc,r,.int .i64 0])/\ah W.heap.size w' r (ns.getD j 0%C)/\aw w' gv gr gd gm gt gk ge g s' l m' T/\s<=s'/\s'<=s1+26000/\Out (·=g) w w'):=fun W s1 m1 j E k1 k2 o hj=>by
  have:=wN j hj
  refine(jJ W gv gr gd gm gt gk ge g s1 l m1 T _ v (ns.getD j 0) C E (hE.rcp.tb o hT) (by omega) (by omega) h2 h3 (((hE.rowsH o hP).each j (by omega)).toM' (by omega)) (hE.inM o hv) hC (by omega)).mono ?_
  rintro e w' ⟨q,r,gq,gx,s',m',j1,j2,j3,⟨_,j4,j5⟩,j6,j7,j8,_,_,j9⟩
  obtain⟨qa,ql,qc,rfl⟩:=j2.toW.shape
  have hn2:wl (ns.getD j 0)*wl (ns.getD j 0)<=20*20:=Nat.mul_le_mul this this
  exact⟨qa,ql,qc,r,s',m',j1,j3.toW.mono j5,j6,by omega,by omega,o.trans j9⟩
 have wR:∀ x,wl (x%C)<=100:=fun x=>Nat.le_trans (aS (Nat.le_of_lt (Nat.mod_lt x hC))) wC
 have CR:Hid (∀ B W r R,wl R<=100->ah B W r R->Calls Tryz.prog 62 #[r] W fun e w'=>e=.returned (.bool (decide (R=0)))/\w'=W):=fun B W r R hw n=>cL (n.wlW (by omega)) _ rfl
 have HV:Hid (∀ j,j<np->∃ a b c,vs.getD j undef=.slice a b c):=fun j hj=>by
  obtain⟨ga,_,_,cap,xs,e,_⟩:=hP.each j (by omega)
  exact⟨_,_,_,e⟩
 have HQ:=hide hq
 have HE:=hide hE
 have WR:=hide wR
 have H0:=hide h0
 obtain⟨gw,lw,cw,rfl⟩:=hv.inW.is
 clear hE hT h0 h1 h2 h3 hv hC wC hP hq wN wR
 obtain⟨SA,hSA⟩:∃ SA:Value->World->Prop,∀ v w',SA v w'↔∃ s' m',v=.tuple #[.bool q,.int .i64 0]/\aw w' gv gr gd gm gt gk ge g s' l m' T/\s<=s'/\s'<=s+1000000/\Out (·=g) w w':=⟨_,fun _ _=>Iff.rfl⟩
 have HF1:Hid (∀ b W s' m',b=q->aw W gv gr gd gm gt gk ge g s' l m' T->s<=s'->s'<=s+1000000->Out (·=g) w W->SA (.tuple #[.bool b,.int .i64 0]) W):=fun b W s' m' e1 e2 e3 e4 e5=>(hSA _ _).2 ⟨s',m',by rw[e1],e2,e3,e4,e5⟩
 suffices H:Calls Tryz.prog 37 #[.pointer (some ⟨gv,0,none⟩),.slice gw lw cw,.slice gp np cp] w (fun e w'=>∃ v,e=.returned v/\SA v w') from H.mono (fun e w' ⟨v,he,h⟩=>by
  obtain⟨s',m',h1,h2,h3,h4,h5⟩:=(hSA _ _).1 h
  exact⟨s',m',by rw[he,h1],h2,⟨by have:=ae H0;omega,by omega⟩,h5⟩)
 clear hSA
 go_enter Tryz.func37,Tryz.ntmps37
 go_wp2_with fail
 with_reducible refine(ae CZ).mono ?_
 rintro e w1 ⟨rfl,hw⟩
 obtain rfl:=hw.symm
 clear hw CZ
 go_wp2
 go_loopw [17] (fun i wr=>∃(k:Nat) (sp mp:Int),k<=np/\i=.int .i64 (k:Int)/\Hid (∀ j,j<k->ns.getD j 0%C=0)/\Hid (aw wr gv gr gd gm gt gk ge g sp l mp T)/\s<=sp/\sp<=s+26000*(k:Int)/\Hid (Out (·=g) w wr)) (fun i _=>np-(intOf i).toNat)
 case atStart=>exact⟨0,s,m,Nat.zero_le _,rfl,fun j hj=>absurd hj (by omega),HE,Int.le_refl _,by omega,Out.refl _ _⟩
 case round=>
  obtain⟨k,sp,mp,hk,rfl,hN,E,p1,p2,O⟩:=hrel
  have hN:=hide (ae hN)
  by_cases h1:k<np
  ·obtain⟨rfl,ck⟩:=ae HC _ (ae O) k h1
   have CDk:=ae CD _ _ _ k (ae E) p1 (by omega) (ae O) h1
   obtain⟨va,vl,vc,hv⟩:=ae HV k h1
   rw[hv]at ck CDk
   have CDk:=hide CDk
   have hki:(k:Int)<(np:Int):=by omega
   clear hv
   go_wp2_with fail
   with_reducible refine(ae CDk).mono ?_
   rintro e w2 ⟨qa,ql,qc,r,s2,m2,rfl,n2,E2,y1,y2,o2⟩
   have CRk:=ae CR _ _ _ _ (ae WR _) n2
   obtain⟨ra,rl,rc,rfl⟩:=n2.shape
   have HE2:=hide E2
   have HO2:=hide o2
   clear CDk n2 E2 o2
   by_cases hz:ns.getD k 0%C=0
   ·rw[decide_eq_true hz]at CRk
    have CRk:=hide CRk
    have HN2:Hid (∀ j,j<k+1->ns.getD j 0%C=0):=fun j hj=>by
     by_cases e:j=k
     ·subst e;exact hz
     ·exact(ae hN) j (by omega)
    clear hz
    go_wp2_with fail
    with_reducible refine(ae CRk).mono ?_
    rintro e w3 ⟨rfl,hw⟩
    obtain rfl:=hw.symm
    clear hw CRk
    go_wp2
    exact⟨⟨k+1,s2,m2,by omega,by go_num,HN2,HE2,y1,by omega,HO2⟩,by simp[intOf];omega⟩
   ·rw[decide_eq_false hz]at CRk
    have CRk:=hide CRk
    have HF0:false=q:=by
     rcases Bool.eq_false_or_eq_true q with h|h
     ·exact absurd ((ae HQ).1 h k h1) hz
     ·exact h.symm
    have HF:=hide (ae HF1 false _ s2 m2 HF0 (ae HE2) y1 (by omega) (ae HO2))
    clear hz HF0
    go_wp2_with fail
    with_reducible refine(ae CRk).mono ?_
    rintro e w3 ⟨rfl,hw⟩
    obtain rfl:=hw.symm
    clear hw CRk
    go_wp2
    go_ret2
    exact⟨_,rfl,ae HF⟩
  ·have HF0:q=true:=(ae HQ).2 (fun j hj=>(ae hN) j (by omega))
   have HF:=hide (ae HF1 true _ sp mp HF0.symm (ae E) p1 (by omega) (ae O))
   clear HF0
   have hki:¬(k:Int)<(np:Int):=by omega
   clear hN
   go_wp2
   go_ret2
   exact⟨_,rfl,ae HF⟩
end Go.Proofs.YtpdpnomocbehkaaGreatDoor
/- Mod of the landed package div:what holds between two rounds over the tree's rows. -/
namespace Go.Proofs.YtpdpnomocbehkaaGreatDoor
open Go.RowKit Go.Shelf
def oJ(A N:Nat)(ls:List (List Nat))(k:Nat):List Nat:=if k=0 then [A] else (ls.getD (N-k) []).map (A%·)
theorem zv(A N:Nat)(ls:List (List Nat))(k j:Nat)(hk:0<k)(hj:j<(ls.getD (N-k) []).length):(oJ A N ls k).getD j 0=A%(ls.getD (N-k) []).getD j 0:=by
 unfold oJ
 rw[if_neg (by omega)]
 generalize ls.getD (N-k) []=r at *
 simp[List.getD_eq_getElem?_getD,List.getElem?_map,List.getElem?_eq_getElem hj]
theorem oR(A N:Nat)(ls:List (List Nat))(k:Nat)(hk:0<k):(oJ A N ls k).length=(ls.getD (N-k) []).length:=by
 unfold oJ
 rw[if_neg (by omega)]
 simp
theorem Hy(A N:Nat)(ls:List (List Nat))(k j:Nat):(oJ A N ls k).getD j 0<=A:=by
 unfold oJ
 split
 ·cases j with
  |zero=>exact Nat.le_refl _
  |succ j=>simp
 ·rw[List.getD_eq_getElem?_getD,List.getElem?_map]
  cases (ls.getD (N-k) [])[j]? with
  |none=>exact Nat.zero_le _
  |some x=>exact Nat.mod_le _ _
theorem Bf{w W:World}{b0:Nat}{us:List Value}{ls:List (List Nat)}(h:Tr w W b0 us ls):∀ j,j<ls.length->(ls.getD j []).length<=(ls.getD 0 []).length
 |0,_=>Nat.le_refl _
 |j+1,hj=>by
  have h1:=Bf h j (by omega)
  have h2:=(h.link j hj).1
  omega
theorem oU{a b c d:Prop}(h:a\/b)(f:a->c)(k:b->d):c\/d:=by
 rcases h with h|h
 ·exact Or.inl (f h)
 ·exact Or.inr (k h)
def TL(W:World)(b0:Nat)(us:List Value)(ls:List (List Nat)):Prop:=∀ j,j<ls.length->∃ gp bp op cp vs,us.getD j undef=.slice gp (ls.getD j []).length cp/\(ls.getD j []).length<=cp/\PM W gp bp op vs (ls.getD j []) (ls.getD j []).length 760/\(0<(ls.getD j []).length->bp=b0\/∃ cur,W.heap[bp]?=some (.cells cur 29 (0,0)))
theorem Tr.tl{w W:World}{b0:Nat}{us:List Value}{ls:List (List Nat)}(h:Tr w W b0 us ls):TL W b0 us ls:=fun j hj=>by
 obtain⟨gp,bp,op,cp,vs,e,hc,hp,hb,_⟩:=h.lv j hj
 exact⟨gp,bp,op,cp,vs,e,hc,hp,fun h0=>oU (hb h0) (fun h=>h.1) (fun h=>h)⟩
theorem TL.out{W W':World}{b0:Nat}{us:List Value}{ls:List (List Nat)}{gm gt gk ge g:Nat}{s l m:Int}{T:Tab}(h:TL W b0 us ls)(hE:aH W gm gt gk ge g s l m T)(o:Out (·=g) W W'):TL W' b0 us ls:=fun j hj=>by
 obtain⟨gp,bp,op,cp,vs,e,hc,hp,hb⟩:=h j hj
 have iF:=hp.lv
 refine⟨gp,bp,op,cp,vs,e,hc,hp.out hE o,fun h0=>oU (hb h0) (fun h=>h) (fun⟨cur,h1⟩=>⟨cur,(o.block bp (Array.getElem?_eq_some_iff.1 h1).1 (fun e=>?_)).trans h1⟩)⟩
 have hc0:=hp.parts.cell 0 (by omega)
 rw[e]at hc0
 obtain⟨z,hz⟩:=hE.eng.ints _ _ hc0
 obtain⟨_,_,_,hs⟩:=(hp.each 0 h0).noInt
 rw[hs]at hz
 cases hz
theorem TL.kc{W W':World}{b0:Nat}{us:List Value}{ls:List (List Nat)}(h:TL W b0 us ls)(k:Kc W W'):TL W' b0 us ls:=fun j hj=>by
 obtain⟨gp,bp,op,cp,vs,e,hc,hp,hb⟩:=h j hj
 exact⟨gp,bp,op,cp,vs,e,hc,k.pm hp,fun h0=>oU (hb h0) (fun h=>h) (fun⟨cur,h1⟩=>⟨cur,(k _ _ h1 rfl).trans h1⟩)⟩
theorem tW{W:World}{B:Nat}{t:TypeId}{a:Option Addr}{x y:Nat}{v d:Value}{n:Nat}(h:aX W v n)(b:Boxed W B t (.slice a x y)):aX (W.setCell ⟨B,0,none⟩ d) v n:=by
 obtain⟨ga,bb,o,cap,xs,e,hr,hd,hv,hl⟩:=h
 refine⟨ga,bb,o,cap,xs,e,⟨hr.head,hr.room,fun j hj=>?_⟩,hd,hv,hl⟩
 have hc:=hr.cell j hj
 by_cases hB:bb=B
 ·subst hB
  exfalso
  have h2:=b.cell
  rcases Nat.eq_zero_or_pos (o+j)with e0|e0
  ·rw[e0,h2]at hc
   cases hc
  ·have b':W.heap[bb]?=some (.cells #[.slice a x y] t (0,0)):=b
   obtain⟨q,hq⟩:∃ q,o+j=q+1:=⟨o+j-1,by omega⟩
   rw[hq]at hc
   simp[World.cell?,b']at hc
 ·exact(World.cell?_of_block (a:=⟨bb,o+j,none⟩) (heap_setCell_other W ⟨B,0,none⟩ bb _ hB)).trans hc
theorem TL.box{W:World}{b0 B:Nat}{us:List Value}{ls:List (List Nat)}{a:Option Addr}{x y:Nat}(h:TL W b0 us ls)(d:Value)(b:Boxed W B 80 (.slice a x y))(hB:b0≠B):TL (W.setCell ⟨B,0,none⟩ d) b0 us ls:=fun j hj=>by
 obtain⟨gp,bp,op,cp,vs,e,hc,hp,hb⟩:=h j hj
 have hk:0<(ls.getD j []).length->bp≠B:=fun h0 e=>by
  rcases hb h0 with h1|⟨cur,h1⟩
  ·exact hB (h1.symm.trans e)
  ·rw[e]at h1
   have:=h1.symm.trans b
   simp at this
 have iF:=hp.lv
 refine⟨gp,bp,op,cp,vs,e,hc,⟨hp.lv,⟨hp.parts.head,hp.parts.len,fun i hi=>?_,fun i hi=>(tW (hp.each i (by omega)) b).inW⟩,hp.small,fun i hi=>tW (hp.each i hi) b⟩,fun h0=>oU (hb h0) (fun h=>h) (fun⟨cur,h1⟩=>⟨cur,(heap_setCell_other W ⟨B,0,none⟩ bp _ (hk h0)).trans h1⟩)⟩
 exact(World.cell?_of_block (a:=⟨bp,op+i,none⟩) (heap_setCell_other W ⟨B,0,none⟩ bp _ (hk (by omega)))).trans (hp.parts.cell i hi)
structure MI(w:World)(gv gr gd gm gt gk ge g:Nat)(sp l:Int)(T:Tab)(P0 BR Bs b cap b0 A N:Nat)(us:List Value)(ls:List (List Nat))(k:Nat)(W:World):Prop where
 eng:∃ s' m',aw W gv gr gd gm gt gk ge g s' l m' T/\sp<=s'/\s'<=sp+12801280*(k:Int)
 bE:Boxed W P0 26 (.pointer (some ⟨gv,0,none⟩))
 bS:Boxed W Bs 118 (.slice (some ⟨b,0,none⟩) N cap)
 cells:∀ j,j<N->W.cell? ⟨b,0+j,none⟩=some (us.getD j undef)
 tl:TL W b0 us ls
 rest:∃ ga ba oa ca vs,Boxed W BR 80 (.slice ga (oJ A N ls k).length ca)/\(oJ A N ls k).length<=ca/\PM W ga ba oa vs (oJ A N ls k) (oJ A N ls k).length 100/\(0<k->w.heap.size<=ba/\(0<(oJ A N ls k).length->ga=some ⟨ba,oa,none⟩)/\∀ j,j<(oJ A N ls k).length->(ls.getD (N-k) []).getD j 0≠0->ah w.heap.size W (vs.getD j undef) ((oJ A N ls k).getD j 0))
 out:Out (·=g) w W
theorem MI.own{w W0:World}{gv gr gd gm gt gk ge g:Nat}{s0 m0 sp l:Int}{T:Tab}{P0 BR Bs b cap b0 A N:Nat}{us:List Value}{ls:List (List Nat)}(hE:aw w gv gr gd gm gt gk ge g s0 l m0 T)(hb:w.heap.size<=W0.heap.size):
  OwnFrom W0.heap.size (MI w gv gr gd gm gt gk ge g sp l T P0 BR Bs b cap b0 A N us ls):=by
 intro x A B row h hg hr
 have kc:Kc A B:=wU hg hr
 have far:Out (fun j=>w.heap.size<=j) A B:=rT hb hg hr
 obtain⟨s',m',E,q1,q2⟩:=h.eng
 obtain⟨ga,ba,oa,ca,vs,r1,r2,r3,r4⟩:=h.rest
 exact⟨⟨s',m',hE.far E far,q1,q2⟩,kc.boxed h.bE,kc.boxed h.bS,fun j hj=>kc.cell (h.cells j hj),h.tl.kc kc,⟨ga,ba,oa,ca,vs,kc.boxed r1,r2,kc.pm r3,fun hk=>⟨(r4 hk).1,(r4 hk).2.1,fun j hj hz=>kc.newW ((r4 hk).2.2 j hj hz)⟩⟩,h.out.fresh far (fun i hi=>Or.inr hi)⟩
theorem MI.rests{w W:World}{gv gr gd gm gt gk ge g:Nat}{s0 m0 sp l:Int}{T:Tab}{P0 BR Bs b cap b0 A N k:Nat}{us:List Value}{ls:List (List Nat)}{ga:Option Addr}{ba oa ca n:Nat}{vs:List Value}(hE:aw w gv gr gd gm gt gk ge g s0 l m0 T)(hT:TB w)(h0:0<=sp)(h1:sp<=1142000000000000000)(h2:0<=l)(h3:l<=900)(hA:wl A<=100)(hls:ls.length=N)(hk:k<N)(hN:N<=1000)
  (hlast:(ls.getD (N-1) []).length<=1) (hlen:∀ j,j<N->(ls.getD j []).length<=20) (hlink:∀ j,j+1<N->Link (ls.getD j []) (ls.getD (j+1) []))
  (h:MI w gv gr gd gm gt gk ge g sp l T P0 BR Bs b cap b0 A N us ls k W) (hn:(oJ A N ls k).length=n) (r3:PM W ga ba oa vs (oJ A N ls k) n 100):
  Calls Tryz.prog 72 #[.pointer (some ⟨gv,0,none⟩),.slice ga n ca,us.getD (N-1-k) undef] W fun e W2=>∃ us2 s' m',e=.returned (.slice (some ⟨W.heap.size,0,none⟩) (ls.getD (N-1-k) []).length (ls.getD (N-1-k) []).length)/\fM W2 W.heap.size us2 29/\us2.length=(ls.getD (N-1-k) []).length/\(∀ j,j<(ls.getD (N-1-k) []).length->aX W2 (us2.getD j undef) (A%(ls.getD (N-1-k) []).getD j 0)/\((ls.getD (N-1-k) []).getD j 0≠0->ah w.heap.size W2 (us2.getD j undef) (A%(ls.getD (N-1-k) []).getD j 0)))/\aw W2 gv gr gd gm gt gk ge g s' l m' T/\sp<=s'/\s'<=sp+12801280*((k+1:Nat):Int)/\Out (·=g) W W2:=by
 obtain⟨s',m',E,q1,q2⟩:=h.eng
 obtain⟨gp,bp,op,cp,ws,e,hc,hp,_⟩:=h.tl (N-1-k) (by omega)
 have hl20:=hlen (N-1-k) (by omega)
 have hkN:(k:Int)<=1000:=by omega
 have iF:k=0\/(0<k/\(ls.getD (N-k) []).length=((ls.getD (N-1-k) []).length+1)/2/\∀ t,t<(ls.getD (N-1-k) []).length->(ls.getD (N-1-k) []).getD t 0∣(ls.getD (N-k) []).getD (t/2) 0):=by
  rcases Nat.eq_zero_or_pos k with h|h
  ·exact Or.inl h
  ·have:=hlink (N-1-k) (by omega)
   rw[show N-1-k+1=N-k by omega]at this
   exact Or.inr ⟨h,this.1,this.2⟩
 have hix:∀ j,j<(ls.getD (N-1-k) []).length->j/2<n:=fun j hj=>by
  rcases iF with rfl|⟨hk0,e1,_⟩
  ·have e2:(oJ A N ls 0).length=1:=rfl
   rw[Nat.sub_zero]at hj
   omega
  ·rw[oR _ _ _ _ hk0]at hn
   omega
 have hval:∀ j,j<(ls.getD (N-1-k) []).length->(oJ A N ls k).getD (j/2) 0%(ls.getD (N-1-k) []).getD j 0=A%(ls.getD (N-1-k) []).getD j 0:=fun j hj=>by
  rcases iF with rfl|⟨hk0,e1,e2⟩
  ·rw[Nat.sub_zero]at hj
   obtain rfl:j=0:=by omega
   rfl
  ·rw[zv _ _ _ _ _ hk0 (by omega)]
   exact Nat.mod_mod_of_dvd _ (e2 j hj)
 rw[e]
 refine(Et W gv gr gd gm gt gk ge g s' l m' T ga ba oa ca n 100 vs (oJ A N ls k) gp bp op cp _ 760 ws _ E (hE.rcp.tb h.out hT) (by omega) (by omega) h2 h3 r3 hp hix (fun j _=>Nat.le_trans (aS (Hy _ _ _ _ _)) hA) (by omega) ?_ hc).mono ?_
 ·rcases iF with rfl|⟨hk0,e1,_⟩
  ·have e2:(oJ A N ls 0).length=1:=rfl
   omega
  ·rw[oR _ _ _ _ hk0]at hn
   omega
 ·rintro _ W2 ⟨us2,s2,m2,rfl,V,hl2,hv,E2,y1,y2,o⟩
  have hws:=h.out.size
  refine⟨us2,s2,m2,rfl,V,hl2,fun j hj=>?_,E2,by omega,by omega,o⟩
  have hj2:=hv j hj
  rw[hval j hj]at hj2
  exact⟨hj2.1.inM E o,fun hz=>(hj2.2 hz).mono hws⟩
theorem MI.step(B:Nat){w W W2:World}{gv gr gd gm gt gk ge g:Nat}{s0 m0 sp l s' m':Int}{T:Tab}{P0 BR Bs b cap b0 A N k:Nat}{us us2:List Value}{ls:List (List Nat)}{ga:Option Addr}{ca n n2:Nat}(hE:aw w gv gr gd gm gt gk ge g s0 l m0 T)(hA:wl A<=100)(hls:ls.length=N)(hk:k<N)
  (h:MI w gv gr gd gm gt gk ge g sp l T P0 BR Bs b cap b0 A N us ls k W) (hBR:w.heap.size<=BR) (hbB:b≠BR) (hb0:b0≠BR) (r1:Boxed W BR 80 (.slice ga n ca)) (hn2:(ls.getD (N-1-k) []).length=n2)
  (V:fM W2 W.heap.size us2 29) (hl2:us2.length=n2) (hv:∀ j,j<n2->aX W2 (us2.getD j undef) (A%(ls.getD (N-1-k) []).getD j 0)/\((ls.getD (N-1-k) []).getD j 0≠0->ah w.heap.size W2 (us2.getD j undef) (A%(ls.getD (N-1-k) []).getD j 0))) (E2:aw W2 gv gr gd gm gt gk ge g s' l m' T) (y1:sp<=s') (y2:s'<=sp+12801280*((k+1:Nat):Int)) (o:Out (·=g) W W2):
  W2.cell? ⟨P0,0,none⟩=some (.pointer (some ⟨gv,0,none⟩))/\W2.cell? ⟨BR,0,none⟩=some (.slice ga n ca)/\W2.frozen? ⟨BR,0,none⟩=false/\
  Hid (KeepsFrom B W (W2.setCell ⟨BR,0,none⟩ (.slice (some ⟨W.heap.size,0,none⟩) n2 n2))/\nW Bs b 0 N W (W2.setCell ⟨BR,0,none⟩ (.slice (some ⟨W.heap.size,0,none⟩) n2 n2))/\MI w gv gr gd gm gt gk ge g sp l T P0 BR Bs b cap b0 A N us ls (k+1) (W2.setCell ⟨BR,0,none⟩ (.slice (some ⟨W.heap.size,0,none⟩) n2 n2))):=by
 have hg:=hE.met.lt
 obtain⟨_,_,E,_,_⟩:=h.eng
 have away:∀ {B:Nat} {t:TypeId} {v:Value},Boxed W B t v->(∀ z,v≠ .int .i64 z)->¬B=g:=fun hb hv e=>by
  subst e
  obtain⟨z,hz⟩:=E.rcp.div.mul.eng.ints _ _ hb.cell
  exact hv z hz
 have dE:Boxed W2 P0 26 (.pointer (some ⟨gv,0,none⟩)):=aE h.bE o (away h.bE (fun z e=>by cases e))
 have dS:Boxed W2 Bs 118 (.slice (some ⟨b,0,none⟩) N cap):=aE h.bS o (away h.bS (fun z e=>by cases e))
 have dR:Boxed W2 BR 80 (.slice ga n ca):=aE r1 o (away r1 (fun z e=>by cases e))
 obtain⟨R,hR⟩:∃ R,Value.slice (some ⟨W.heap.size,0,none⟩) n2 n2=R:=⟨_,rfl⟩
 rw[hR]
 have hRl:=r1.lt
 have set:Out (·=BR) W2 (W2.setCell ⟨BR,0,none⟩ R):=Out.of_grown (aj _ _ _ _)
 have far:Out (fun j=>w.heap.size<=j) W2 (W2.setCell ⟨BR,0,none⟩ R):=set.mono (fun j hj=>by omega)
 have cs:∀ j,j<N->(W2.setCell ⟨BR,0,none⟩ R).cell? ⟨b,0+j,none⟩=some (us.getD j undef):=fun j hj=>by
  have:=E.rcp.div.mul.cell o (h.cells j hj) rfl (fun z e=>by
   obtain⟨gp,bp,op,cp,vs,e2,_⟩:=h.tl j (by omega)
   rw[e2]at e
   cases e)
  exact(World.cell?_of_block (a:=⟨b,0+j,none⟩) (heap_setCell_other W2 ⟨BR,0,none⟩ b _ hbB)).trans this
 have nE:P0≠BR:=fun e=>by
  subst e
  have:=dE.cell.symm.trans dR.cell
  cases this
 have nS:Bs≠BR:=fun e=>by
  subst e
  have:=(show W2.heap[Bs]?=_ from dS).symm.trans (show W2.heap[Bs]?=_ from dR)
  simp at this
 have xS:=aE dS set nS
 have e1:(oJ A N ls (k+1)).length=n2:=by rw[oR _ _ _ _ (by omega), <-hn2,show N-(k+1)=N-1-k by omega]
 have e2:∀ j,j<n2->(oJ A N ls (k+1)).getD j 0=A%(ls.getD (N-1-k) []).getD j 0:=fun j hj=>by rw[zv _ _ _ _ _ (by omega) (by rw[show N-(k+1)=N-1-k by omega,hn2];exact hj),show N-(k+1)=N-1-k by omega]
 have V3:fM (W2.setCell ⟨BR,0,none⟩ R) W.heap.size us2 29:=V.but (aj _ _ _ _) (by omega)
 have hi:∀ j,j<n2->aX (W2.setCell ⟨BR,0,none⟩ R) (us2.getD j undef) ((oJ A N ls (k+1)).getD j 0):=fun j hj=>by rw[e2 j hj];exact tW (hv j hj).1 dR
 refine⟨dE.cell,dR.cell,dR.frozen,(kK o E.met.c0).trans (kK set dR.cell),⟨xS.cell.trans h.bS.cell.symm,fun j hj=>(cs j hj).trans (h.cells j hj).symm⟩,⟨s',m',hE.far E2 far,y1,y2⟩,aE dE set nE,xS,cs,(h.tl.out E.rcp.div.mul o).box R dR hb0,⟨some ⟨W.heap.size,0,none⟩,W.heap.size,0,n2,us2,?_,by rw[e1];exact Nat.le_refl _,?_,fun _=>⟨h.out.size,fun _=>rfl,fun j hj hz=>?_⟩⟩,(h.out.trans o).fresh far (fun i hi=>Or.inr hi)⟩
 ·rw[e1,hR]
  exact dR.set R
 ·rw[e1]
  refine⟨hl2,⟨fun _=>rfl,by rw[e1,hl2],fun j hj=>?_,fun j hj=>(hi j (by omega)).inW⟩,fun j hj=>?_,hi⟩
  ·rw[Nat.zero_add];exact V3.cell j hj
  ·exact Nat.lt_of_le_of_lt (Hy _ _ _ _ _) (Nat.lt_of_lt_of_le (eU (Nat.le_refl _)) (Nat.pow_le_pow_right (by omega) hA))
 ·rw[e1]at hj
  rw[show N-(k+1)=N-1-k by omega]at hz
  rw[e2 j hj]
  exact((hv j hj).2 hz).turn (fun g' zs hz=>heap_setCell_other W2 ⟨BR,0,none⟩ g' _ (tK hz dR (by decide)))
end Go.Proofs.YtpdpnomocbehkaaGreatDoor
/- Mod of the landed package div:what is left of a number by each of a list,by a tree of products. -/
namespace Go.Proofs.YtpdpnomocbehkaaGreatDoor
open Go.RowKit Go.Shelf
attribute [local go_sem] Oper.semAt_some
set_option linter.unusedSimpArgs false
theorem eb.pm{w:World}{gp:Option Addr}{bp op np K:Nat}{vs:List Value}{ns:List Nat}(h:eb K w gp bp op vs ns)(hv:vs.length=np)(hK:K<=20):PM w gp bp op vs ns np 20:=
 ⟨hv,⟨h.head,h.len,h.cell,fun j hj=>(h.each j hj).toIn (by omega)⟩,fun j hj=>by
  obtain⟨_,_,_,_,xs,_,_,hd,hx,hl⟩:=h.each j (by omega)
  rw[<-hx]
  exact aP (ak hd) (by omega),fun j hj=>(h.each j (by omega)).toM' (by omega)⟩
set_option maxRecDepth 100000 in
set_option maxHeartbeats 3200000 in
theorem uS:po:=by
 intro w gv gr gd gm gt gk ge g s l m T u A gp bp op cp np K vs ns hE hT h0 h1 h2 h3 hu wA hvl hnp hcp hK hP hz
 obtain⟨j0,hj0,hz0⟩:=hz
 have b1:Below w.heap.size w (w.alloc (.cells #[.pointer (some ⟨gv,0,none⟩)] 26)):=(Below.refl _ w).alloc (Nat.le_refl _) _
 obtain⟨W1,hW1⟩:∃ W1,w.alloc (.cells #[.pointer (some ⟨gv,0,none⟩)] 26)=W1:=⟨_,rfl⟩
 rw[hW1]at b1
 have CZ:Hid (∀ j,j<np->Calls Tryz.prog 62 #[vs.getD j undef] W1 fun e w'=>e=.returned (.bool (decide (ns.getD j 0=0)))/\w'=W1):=fun j hj=>cL (((hP.next b1).each j (by omega)).toIn (by omega)) _ rfl
 have HC:Hid (∀ j,j<np->gp=some ⟨bp,op,none⟩/\W1.cell? ⟨bp,op+j,none⟩=some (vs.getD j undef)):=fun j hj=>⟨hP.head (by omega),(hP.next b1).cell j (by omega)⟩
 have HZ:=hide hz0
 have HF:Hid (∃ s' m',aw W1 gv gr gd gm gt gk ge g s' l m' T/\(0<=s'/\s'<=s+9007199254740992)/\Out (·=g) w W1):=⟨s,m,hE.next b1,⟨h0,by omega⟩,Out.of_below b1⟩
 obtain⟨ua,ul,uc,rfl⟩:=hu.noInt
 clear hE hT hP hz0 hu b1
 refine(callsIn_wide (n:=4)).1 ?_
 refine callsIn_of_wp_marks Tryz.func35 rfl trivial ?_ rfl
 simp only[Tryz.ntmps35,List.size_toArray,List.length_cons,List.length_nil,Nat.reduceAdd,Nat.reduceSub,Array.replicate_succ,Array.replicate_zero,List.push_toArray,List.append_toArray,List.nil_append,List.cons_append]
 gi_wp2
 gi_loopw [15] (fun i wr=>∃ k:Nat,k<=np/\i=.int .i64 (k:Int)/\Hid (∀ j,j<k->ns.getD j 0≠0)/\wr=W1) (fun i _=>np-(intOf i).toNat)
 case atStart=>exact⟨0,Nat.zero_le _,rfl,fun j hj=>absurd hj (by omega),rfl⟩
 case round=>
  obtain⟨k,hk,rfl,hN,hw⟩:=hrel
  obtain rfl:=hw.symm
  clear hw
  by_cases h1k:k<np
  ·obtain⟨rfl,ck⟩:=ae HC k h1k
   have CZk:=ae CZ k h1k
   obtain⟨v,hv⟩:∃ v,v=vs.getD k undef:=⟨_,rfl⟩
   rw[<-hv]at ck CZk
   have hki:(k:Int)<(np:Int):=by omega
   by_cases hz:ns.getD k 0=0
   ·rw[decide_eq_true hz]at CZk
    have CZk:=hide CZk
    clear hv hz
    gi_wp2
    refine⟨trivial,?_⟩
    refine(callsIn_wide.2 (ae CZk)).mono ?_
    rintro e w1 ⟨rfl,hw⟩
    obtain rfl:=hw.symm
    clear hw
    gi_wp2
    obtain⟨s',m',hh⟩:=ae HF
    exact⟨_,results_tmp2 rfl _ _ _,_,_,s',m',rfl,hh⟩
   ·rw[decide_eq_false hz]at CZk
    have CZk:=hide CZk
    have HN2:Hid (∀ j,j<k+1->ns.getD j 0≠0):=fun j hj=>by
     by_cases e:j=k
     ·subst e;exact hz
     ·exact hN.out j (by omega)
    clear hv hz
    gi_wp2
    refine⟨trivial,?_⟩
    refine(callsIn_wide.2 (ae CZk)).mono ?_
    rintro e w1 ⟨rfl,hw⟩
    obtain rfl:=hw.symm
    clear hw
    gi_wp2
    exact⟨⟨k+1,by omega,by go_num,HN2,trivial⟩,by simp[intOf];omega⟩
  ·exact absurd (ae HZ) (hN.out j0 (by omega))
set_option maxRecDepth 100000 in
set_option maxHeartbeats 3200000 in
theorem EK:vy:=by
 intro w gv gr gd gm gt gk ge g s l m T u A gp bp op cp np K vs ns hE hT h0 h1 h2 h3 hu wA hvl hnp hcp hK hP hz
 obtain⟨bp,hbp,hP⟩:∃ bp,bp<w.heap.size/\eb K w gp bp op vs ns:=by
  by_cases h:0<np
  ·exact⟨bp,hP.lt (by omega),hP⟩
  ·exact⟨g,hE.met.lt,fun h=>absurd h (by omega),hP.len,fun j hj=>absurd hj (by omega),fun j hj=>absurd hj (by omega)⟩
 have b1:Below w.heap.size w (w.alloc (.cells #[.pointer (some ⟨gv,0,none⟩)] 26)):=(Below.refl _ w).alloc (Nat.le_refl _) _
 have xE:=Boxed.new w 26 (.pointer (some ⟨gv,0,none⟩))
 have xs1:(w.alloc (.cells #[.pointer (some ⟨gv,0,none⟩)] 26)).heap.size=w.heap.size+1:=World.size_alloc _ _
 obtain⟨P0,hP0⟩:∃ P0,w.heap.size=P0:=⟨_,rfl⟩
 obtain⟨W1,hW1⟩:∃ W1,w.alloc (.cells #[.pointer (some ⟨gv,0,none⟩)] 26)=W1:=⟨_,rfl⟩
 rw[hW1]at b1 xE xs1
 rw[hP0]at xE xs1
 have CZ:Hid (∀ j,j<np->Calls Tryz.prog 62 #[vs.getD j undef] W1 fun e w'=>e=.returned (.bool false)/\w'=W1):=fun j hj=>cL (((hP.next b1).each j (by omega)).toIn (by omega)) _ (decide_eq_false (by have:=hz j hj;omega)).symm
 have HC:Hid (∀ j,j<np->gp=some ⟨bp,op,none⟩/\W1.cell? ⟨bp,op+j,none⟩=some (vs.getD j undef)):=fun j hj=>⟨hP.head (by omega),(hP.next b1).cell j (by omega)⟩
 obtain⟨ua,ul,uc,rfl⟩:=hu.noInt
 -- rests := []api.Nat{a}
 obtain⟨W2,hW2⟩:∃ W2,(W1.alloc (.cells #[.slice ua ul uc] 29)).alloc (.cells #[.slice (some ⟨P0+1,0,none⟩) 1 1] 80)=W2:=⟨_,rfl⟩
 have HE:=hide hE
 have HT:=hide hT
 have HB1:=hide b1
 have HU:=hide hu
 have HP:=hide hP
 have HZ:=hide hz
 clear hE hT hP hz hu b1
 refine(callsIn_wide (n:=4)).1 ?_
 refine callsIn_of_wp_marks Tryz.func35 rfl trivial ?_ rfl
 simp only[Tryz.ntmps35,List.size_toArray,List.length_cons,List.length_nil,Nat.reduceAdd,Nat.reduceSub,Array.replicate_succ,Array.replicate_zero,List.push_toArray,List.append_toArray,List.nil_append,List.cons_append]
 gi_wp2
 gi_loopw [15] (fun i wr=>∃ k:Nat,k<=np/\i=.int .i64 (k:Int)/\wr=W1) (fun i _=>np-(intOf i).toNat)
 case atStart=>exact⟨0,Nat.zero_le _,rfl,rfl⟩
 case round=>
  obtain⟨k,hk,rfl,hw⟩:=hrel
  obtain rfl:=hw.symm
  clear hw
  by_cases h1k:k<np
  ·obtain⟨rfl,ck⟩:=ae HC k h1k
   have CZk:=ae CZ k h1k
   obtain⟨v,hv⟩:∃ v,v=vs.getD k undef:=⟨_,rfl⟩
   rw[<-hv]at ck CZk
   have hki:(k:Int)<(np:Int):=by omega
   have CZk:=hide CZk
   clear hv
   gi_wp2
   refine⟨trivial,?_⟩
   refine(callsIn_wide.2 (ae CZk)).mono ?_
   rintro e w1 ⟨rfl,hw⟩
   obtain rfl:=hw.symm
   clear hw
   gi_wp2
   exact⟨⟨k+1,by omega,by go_num,trivial⟩,by simp[intOf];omega⟩
  ·have hki:¬(k:Int)<(np:Int):=by omega
   have b2:Below w.heap.size w W2:=by rw[<-hW2];exact((ae HB1).alloc (by omega) _).alloc (by simp;omega) _
   have xE2:Boxed W2 P0 26 (.pointer (some ⟨gv,0,none⟩)):=by rw[<-hW2];exact(xE.alloc _).alloc _
   have xR2:Boxed W2 (P0+1+1) 80 (.slice (some ⟨P0+1,0,none⟩) 1 1):=by
    have:=Boxed.new (W1.alloc (.cells #[.slice ua ul uc] 29)) 80 (.slice (some ⟨P0+1,0,none⟩) 1 1)
    rw[hW2,World.size_alloc,xs1]at this
    exact this
   have xA2:Boxed W2 (P0+1) 29 (.slice ua ul uc):=by
    have:=(Boxed.new W1 29 (.slice ua ul uc)).alloc (.cells #[.slice (some ⟨P0+1,0,none⟩) 1 1] 80)
    rw[hW2,xs1]at this
    exact this
   have sz2:W2.heap.size=P0+1+1+1:=by rw[<-hW2,World.size_alloc,World.size_alloc,xs1]
   obtain⟨WD,hWD⟩:∃ WD,W2.drew=WD:=⟨_,rfl⟩
   have bD:Below w.heap.size w WD:=by rw[<-hWD];exact b2.drew
   have yE:Boxed WD P0 26 (.pointer (some ⟨gv,0,none⟩)):=by rw[<-hWD];exact xE2
   have yR:Boxed WD (P0+1+1) 80 (.slice (some ⟨P0+1,0,none⟩) 1 1):=by rw[<-hWD];exact xR2
   have yA:Boxed WD (P0+1) 29 (.slice ua ul uc):=by rw[<-hWD];exact xA2
   have szD:WD.heap.size=P0+1+1+1:=by rw[<-hWD];exact sz2
   obtain⟨L,hL,_,CB⟩:=dW ((ae HU).next bD).inW
   have CB:=hide CB
   have CT:=hide (Ju WD gv gr gd gm gt gk ge g s l m T gp bp op cp np (L:Int) vs ns ((ae HE).next bD) ((ae HT).next bD) h0 (by omega) h2 h3 hnp hcp (((ae HP).next bD).pm hvl hK))
   have CK:=hide (fun(ga:Option Addr) (N cap:Nat) (W:World)=>(callsIn_wide (n:=4)).1 (BO 4 ga N cap W))
   have cE:=yE.cell
   have HyE:=hide yE
   have HyR:=hide yR
   have HyA:=hide yA
   have HbD:=hide bD
   clear xE2 xR2 xA2 sz2 b2 yE yR yA bD xE CZ HC
   gi_wp2
   refine wpIn_wide.2 ?_
   refine wp_region_noPanic ?_
   refine wp_region_held_drew (S:=fun w'=>w'.cell? ⟨P0,0,none⟩=some (.pointer (some ⟨gv,0,none⟩))) (by kernel_rfl) (by rw[hWD];exact cE) (fun hHeld=>?_)
   rw[hWD]at hHeld ⊢
   refine wpAnyH_take (i:=0) (oi:=_) (v:=.pointer (some ⟨gv,0,none⟩)) rfl (by kernel_rfl) (by kernel_rfl) (by kernel_rfl) (fun _ _ _ h=>h) (Or.inl ⟨by rfl,?_⟩) (by assumption) ?_
   ·intro w hSw
    (try dsimp only at hSw)
    go_simp
   simp only[Act.put,List.setIfInBounds_toArray,List.set_cons_zero,List.set_cons_succ]
   refine wpAnyH_take (i:=1) (oi:=_) (v:=.slice gp np cp) rfl (by kernel_rfl) (by kernel_rfl) (by kernel_rfl) (fun _ _ _ h=>h) (Or.inl ⟨by rfl,?_⟩) (by assumption) ?_
   ·intro w hSw
    (try dsimp only at hSw)
    go_simp
   simp only[Act.put,List.setIfInBounds_toArray,List.set_cons_zero,List.set_cons_succ]
   refine wpAnyH_take (i:=2) (oi:=_) (v:=.slice ua ul uc) rfl (by kernel_rfl) (by kernel_rfl) (by kernel_rfl) (fun _ _ _ h=>h) (Or.inl ⟨by rfl,?_⟩) (by assumption) ?_
   ·intro w hSw
    (try dsimp only at hSw)
    go_simp
   simp only[Act.put,List.setIfInBounds_toArray,List.set_cons_zero,List.set_cons_succ]
   refine wpAnyH_ready (rs:=[3]) (by kernel_rfl) (by simp) ?_
   refine AllReadyH.cons (o:=_) rfl (fun K hK=>?_) AllReadyH.nil
   go_simp
   refine(ae CB).mono ?_
   rintro e w3 ⟨rfl,hw⟩
   obtain rfl:=hw.symm
   clear hw CB
   go_wp2_with fail
   refine hK.out _ _ cE (fun hHeld=>?_)
   clear hK K
   (try simp only[Act.put,List.setIfInBounds_toArray,List.set_cons_zero,List.set_cons_succ])
   refine wpAnyH_ready (rs:=[4]) (by kernel_rfl) (by simp) ?_
   refine AllReadyH.cons (o:=_) rfl (fun K hK=>?_) AllReadyH.nil
   go_simp
   refine(ae CT).mono ?_
   rintro e W3 ⟨b,cap,us,ls,s3',m3,rfl,hbw,hcs,hTr,hl0,hlN,hl1,hlast,E3,q1,q2,O3⟩
   have hEg:=(ae HyE)
   have nE:¬P0=g:=fun e=>by
    rw[e]at hEg
    obtain⟨z,hz⟩:=((ae HE).next (ae HbD)).rcp.div.mul.eng.ints _ _ hEg.cell
    cases hz
   have cE3:=(aE hEg O3 nE).cell
   go_wp2_with fail
   refine hK.out _ _ cE3 (fun hHeld=>?_)
   clear hK K
   (try simp only[Act.put,List.setIfInBounds_toArray,List.set_cons_zero,List.set_cons_succ])
   refine wpAnyH_ready (rs:=[5]) (by kernel_rfl) (by simp) ?_
   refine AllReadyH.cons (o:=_) rfl (fun K hK=>?_) AllReadyH.nil
   go_simp
   refine(ae CK _ _ _ _).mono ?_
   rintro e W4' ⟨rfl,hx⟩
   obtain⟨W4,hW4⟩:∃ W4,W3.alloc (.cells #[.slice (some ⟨b,0,none⟩) ls.length cap] 118)=W4:=⟨_,rfl⟩
   rw[hW4]at hx
   obtain rfl:=hx.symm
   clear hx
   go_wp2_with fail
   refine hK.out _ _ (by rw[<-hW4];exact aU cE3 _) (fun hHeld=>?_)
   clear hK K
   (try simp only[Act.put,List.setIfInBounds_toArray,List.set_cons_zero,List.set_cons_succ])
   refine wpAnyH_done (by kernel_rfl) ?_ _
   refine NoPanic.normal ?_
   obtain⟨N,hN⟩:∃ N,ls.length=N:=⟨_,rfl⟩
   obtain⟨Bs,hBs⟩:∃ Bs,W3.heap.size=Bs:=⟨_,rfl⟩
   have b4:Below W3.heap.size W3 W4:=by rw[<-hW4];exact(Below.refl _ W3).alloc (Nat.le_refl _) _
   have kc4:Kc W3 W4:=fun j o hj _=>b4.block j (Array.getElem?_eq_some_iff.1 hj).1
   have hgl:=(ae HE).met.lt
   have O4:Out (·=g) w W4:=((Out.of_below (ae HbD)).trans O3).next b4
   have nR:¬P0+1+1=g:=by omega
   have nA:¬P0+1=g:=by omega
   have s3:=O3.size
   rw[szD]at s3 hbw
   have xS4:Boxed W4 Bs 118 (.slice (some ⟨b,0,none⟩) N cap):=by
    have:=Boxed.new W3 118 (.slice (some ⟨b,0,none⟩) ls.length cap)
    rw[hW4,hBs,hN]at this
    exact this
   have hc4:∀ j,j<N->W4.cell? ⟨b,0+j,none⟩=some (us.getD j undef):=fun j hj=>kc4.cell (hcs j (by omega))
   have hu4:aX W4 (.slice ua ul uc) A:=(ae HE).inM O4 (ae HU)
   have hA100:A<18446744073709551616^100:=eU wA
   have I0:MI w gv gr gd gm gt gk ge g s3' l T P0 (P0+1+1) Bs b cap bp A N us ls 0 W4:=by
    refine⟨⟨s3',m3,E3.next b4,Int.le_refl _,by omega⟩,kc4.boxed (aE (ae HyE) O3 nE),xS4,hc4,hTr.tl.kc kc4,⟨some ⟨P0+1,0,none⟩,P0+1,0,1,[.slice ua ul uc],kc4.boxed (aE (ae HyR) O3 nR),Nat.le_refl _,⟨rfl,⟨fun _=>rfl,rfl,fun j hj=>?_,fun j hj=>?_⟩,fun j hj=>?_,fun j hj=>?_⟩,fun h=>absurd h (by omega)⟩,O4⟩
    ·obtain rfl:j=0:=by simp at hj;exact hj
     exact(kc4.boxed (aE (ae HyA) O3 nA)).cell
    ·obtain rfl:j=0:=by simp at hj;exact hj
     exact hu4.inW
    ·obtain rfl:j=0:=by change j<1 at hj;omega
     exact hA100
    ·obtain rfl:j=0:=by change j<1 at hj;omega
     exact hu4
   have hlk:∀ j,j+1<N->Link (ls.getD j []) (ls.getD (j+1) []):=fun j hj=>hTr.link j (by omega)
   have hnl:ns.length=np:=by rw[(ae HP).len,hvl]
   have hlen:∀ j,j<N->(ls.getD j []).length<=20:=fun j hj=>by
    have:=Bf hTr j (by omega)
    rw[hl1,hnl]at this
    omega
   have hsh:∀ j,j<N->∃ x y z,us.getD j undef=.slice x y z:=fun j hj=>by
    obtain⟨gp,_,_,cp,_,e,_⟩:=hTr.lv j (by omega)
    exact⟨_,_,_,e⟩
   rw[hN]at hlast hl0 hlN
   have SQ:=hide (yS 3 (by omega) Bs b 0 N cap (by omega) (fun j=>us.getD j undef) hsh W4 xS4.lt xS4.cell hc4)
   have hbl:b<W4.heap.size:=World.block_lt_of_cell? _ _ (hc4 0 (by omega))
   have hBl:=xS4.lt
   have hbB:b≠P0+1+1:=by omega
   have hb0:bp≠P0+1+1:=by omega
   have HI0:=hide I0
   have HLK:=hide hlk
   have HLN:=hide hlen
   have HSH:=hide hsh
   have HL1:=hide hl1
   have sq1:s3'<=1142000000000000000/\0<=s3':=by omega
   have sq2:s3'<=s+171798691840:=by omega
   have w4:=O4.size
   rw[hN,hBs]
   clear I0 hlk hlen hsh hl1 hc4 hu4 hA100 xS4 O4 kc4 b4 hcs hTr E3 O3 cE3 CT CK hEg
   gi_wp2
   refine qp (by omega) (gf:=96) (lb:=#[.pointer (some ⟨Bs,0,none⟩)]) rfl (enters_of Tryz.func96 (by kernel_rfl) rfl)
    (ae SQ) (Below.refl _ _) AU (K9 hBl hbl) (fun _=>rfl)
    (MI w gv gr gd gm gt gk ge g s3' l T P0 (P0+1+1) Bs b cap bp A N us ls) (MI.own (ae HE) w4) (ae HI0)
    (fun x=>{ tmps:=#[.pointer (some ⟨gv,0,none⟩),.slice ua ul uc,.slice gp np cp,.pointer (some ⟨P0,0,none⟩),undef,undef,u6,u7,undef,u9,.pointer (some ⟨P0+1+1,0,none⟩),undef,us.getD (N-1-x) undef,.slice gp np cp,.int .i64 (np:Int),.int .i64 (k:Int),.bool false,u17,u18,u19,u20,u21,.slice ua ul uc,.slice (some ⟨P0+1,0,none⟩) 1 1,.pointer (some ⟨gv,0,none⟩),.slice gp np cp,.slice ua ul uc,.int .i64 (L:Int),.slice (some ⟨b,0,none⟩) N cap,.func (.func 96) #[] #[.pointer (some ⟨Bs,0,none⟩)],.int .i64 ((N-1-x:Nat):Int),us.getD (N-1-x) undef,undef,undef,undef,undef,undef],defers:=[] }) ?assign ?body ?done
   case assign=>
    intro lp x W5 K hK
    gi_wp2
    exact hK
   case body=>
    rintro lp x W5 hx hI5
    obtain⟨ga,ba,oa,ca,vs5,r1,r2,r3,_⟩:=hI5.rest
    obtain⟨n5,hn5⟩:∃ n,(oJ A N ls x).length=n:=⟨_,rfl⟩
    rw[hn5]at r1 r2 r3
    have CR:=hide (MI.rests (ca:=ca) (ae HE) (ae HT) sq1.2 sq1.1 h2 h3 wA hN hx (by omega) hlast (ae HLN) (ae HLK) hI5 hn5 r3)
    obtain⟨xa,xb,xc,hxv⟩:=ae HSH (N-1-x) (by omega)
    obtain⟨n2,hn2⟩:∃ n2,(ls.getD (N-1-x) []).length=n2:=⟨_,rfl⟩
    have HST:Hid (∀(W6:World) (us2:List Value) (s' m':Int),_->_->_->_->_->_->_->_):=fun W6 us2 s' m' V hl2 hv E2 y1 y2 o=>MI.step W4.heap.size (W2:=W6) (us2:=us2) (s':=s') (m':=m') (ae HE) wA hN hx hI5 (by omega) hbB hb0 r1 hn2 V hl2 hv E2 y1 y2 o
    rw[hn2]at CR
    have cE5:=hI5.bE.cell
    have cR5:=r1.cell
    rw[hxv]at CR ⊢
    obtain⟨P5,hP5⟩:∃ P5,W5.heap.size=P5:=⟨_,rfl⟩
    rw[hP5]at CR HST
    clear hI5 r1 r2 r3 hn5 hxv hn2 SQ HI0
    gi_wp2
    refine⟨trivial,?_⟩
    refine(CallsIn.inRound lp (callsIn_wide.2 (ae CR))).mono ?_
    rintro e W6 ⟨us2,s6,m6,rfl,V,hl2,hv,E2,y1,y2,o⟩
    obtain⟨c1,c2,f2,HF⟩:=ae HST W6 us2 s6 m6 V hl2 hv E2 y1 y2 o
    clear V hl2 hv E2 o HST
    gi_wp2
    exact ae HF
   case done=>
    rintro D W5 hD hI5 hDd
    dsimp only
    obtain⟨s5,m5,E5,y1,y2⟩:=hI5.eng
    obtain⟨ga,ba,oa,ca,vs5,r1,r2,r3,r4⟩:=hI5.rest
    obtain⟨r5,r6,r7⟩:=r4 hl0
    have e0:ls.getD (N-N) []=ns:=by rw[Nat.sub_self];exact ae HL1
    have e1:(oJ A N ls N).length=np:=by rw[oR _ _ _ _ hl0,e0,hnl]
    have e2:∀ j,j<np->(oJ A N ls N).getD j 0=A%ns.getD j 0:=fun j hj=>by rw[zv _ _ _ _ _ hl0 (by rw[e0,hnl];exact hj),e0]
    rw[e1]at r1 r2 r3 r6 r7
    have lv5:=r3.lv
    have c5:=hI5.out.size
    have HANS:Hid (∀ W',Kc W5 W'->Out (fun j=>w.heap.size<=j) W5 W'->FP w gv gr gd gm gt gk ge g s l T A np ns (.returned (.tuple #[.slice ga np ca,.int .i64 0])) W'):=fun W' kc o=>by
     refine⟨ga,ba,oa,ca,fun j=>vs5.getD j undef,s5,m5,rfl,r2,fun h=>⟨r6 h,r5⟩,fun j hj=>⟨kc.cell (r3.parts.cell j (by omega)),?_⟩,(ae HE).far E5 o,⟨by omega,by omega⟩,hI5.out.fresh o (fun i hi=>Or.inr hi)⟩
     have:=r7 j hj (by rw[e0];exact Nat.ne_of_gt (ae HZ j hj))
     rw[e2 j hj]at this
     exact kc.newW this
    have HM:Hid (Marks w.heap.size W5 W5.heap.size [{ target:=.collected D,args:=#[] }]):=⟨D,rfl,by omega,(Array.getElem?_eq_some_iff.1 hDd).1,hDd,trivial⟩
    have cR:=r1.cell
    clear hI5 E5 r1 r2 r3 r4 r6 r7 e0 e1 e2 SQ HI0 hDd lv5
    gi_wp2
    refine jN (ae HM) (fun W' kc o=>?_)
    refine⟨_,results_tmp2 rfl _ _ _,?_⟩
    exact ae HANS W' kc o
end Go.Proofs.YtpdpnomocbehkaaGreatDoor
/- Mod of the reference. -/
namespace Go.Proofs.YtpdpnomocbehkaaGreatDoor
open Go.RowKit
set_option maxHeartbeats 800000 in
theorem iR(w:World)(u v:Value)(a d L:Nat)(hL:L<=1073741824)(ha:a<4294967296^L)(hd:d<4294967296^L)(hpos:0<d)(hu:bu w u a)(hv:bu w v d):
  Calls Tryz.prog 38 #[u,v] w fun e w'=>∃ r,e=.returned r/\bu w' r (a%d)/\Below w.heap.size w w':=by
 have C:=hide (ji w u v a d L hL ha hd hpos hu hv)
 clear ha hd hpos hu hv hL
 generalize a%d=M at *
 go_enter Tryz.func38,Tryz.ntmps38
 go_wp2_with fail
 refine(ae C).mono ?_
 rintro e w1 ⟨q,r,rfl,_,nr,b⟩
 go_wp2
 go_ret
 exact⟨r,rfl,nr,b⟩
end Go.Proofs.YtpdpnomocbehkaaGreatDoor
