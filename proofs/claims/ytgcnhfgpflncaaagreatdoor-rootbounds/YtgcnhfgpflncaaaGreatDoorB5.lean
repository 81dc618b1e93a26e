/- Mul: the product of two naturals. -/
import Derived.Test.YtgcnhfgpflncaaaGreatDoorB3
import Derived.Deep.QuietTactic
import Derived.BigQuiet
import Derived.WalkSmall
import Derived.Test.YtgcnhfgpflncaaaGreatDoorB1
namespace Go.Proofs.YtgcnhfgpflncaaaGreatDoor
open Go.RowKit
theorem fW(xs:List Nat)(k j d:Nat)(hk:k<xs.length):(xs.set k d).getD j 0=if j=k then d else xs.getD j 0:=by
 simp only[List.getD_eq_getElem?_getD,List.getElem?_set]
 by_cases h:k=j
 ·subst h;simp[hk]
 ·have:¬j=k:=fun e=>h e.symm
  simp[h,this]
theorem Ae{xs:List Nat}{k d:Nat}(h:js xs)(hk:k<xs.length)(hd:d<4294967296):js (xs.set k d):=by
 intro j
 rw[fW xs k j d hk]
 split
 ·exact hd
 ·exact h j
theorem uq:∀(xs:List Nat) (k d:Nat),k<xs.length->val (xs.set k d)+4294967296^k*xs.getD k 0=val xs+4294967296^k*d
 |[],k,d,h=>absurd h (by simp)
 |x :: xs,0,d,_=>by simp[val];omega
 |x :: xs,k+1,d,h=>by
  have ih:=uq xs k d (by simpa using h)
  simp only[List.set_cons_succ,val,List.getD_cons_succ,Nat.pow_succ]
  rw[Nat.mul_comm (4294967296^k) 4294967296,Nat.mul_assoc,Nat.mul_assoc]
  omega
def uE(ys o0 os:List Nat)(n i j x c:Nat):Prop:=
 os.length=n/\js os/\c<4294967296/\(∀ t,i+ys.length<=t->os.getD t 0=0)/\val os+4294967296^(i+j)*c=val o0+4294967296^i*(x*val (ys.take j))
def oI(xs ys os:List Nat)(n i:Nat):Prop:=
 os.length=n/\js os/\(∀ t,i+ys.length<=t->os.getD t 0=0)/\val os=val (xs.take i)*val ys
theorem rF(xs ys:List Nat)(n:Nat):oI xs ys (List.replicate n 0) n 0:=by
 have hz:∀ t,(List.replicate n 0).getD t 0=0:=fun t=>by
  simp only[List.getD_eq_getElem?_getD,List.getElem?_replicate];split<;>rfl
 refine⟨by simp,fun j=>by rw[hz];omega,fun t _=>hz t,?_⟩
 have:∀ k,val (List.replicate k 0)=0:=by
  intro k;induction k with
  |zero=>rfl
  |succ k ih=>rw[List.replicate_succ,val,ih]
 rw[this];simp[val]
theorem Ld{xs ys os:List Nat}{n i:Nat}(h:oI xs ys os n i)(x:Nat):uE ys os os n i 0 x 0:=
 ⟨h.1,h.2.1,by omega,h.2.2.1,by simp[val]⟩
theorem kq{o x y c:Nat}(ho:o<4294967296)(hx:x<4294967296)(hy:y<4294967296)(hc:c<4294967296):x*y<=18446744065119617025/\(o+x*y+c)/4294967296<4294967296/\o+x*y+c<18446744073709551616:=by
 have:x*y<=4294967295*4294967295:=Nat.mul_le_mul (by omega) (by omega)
 omega
theorem Ia{ys o0 os:List Nat}{n i j x c:Nat}(h:uE ys o0 os n i j x c)(hx:x<4294967296)(dy:js ys)(hj:j<ys.length)(hn:i+j<n):
  uE ys o0 (os.set (i+j) ((os.getD (i+j) 0+x*ys.getD j 0+c)%4294967296)) n i (j+1) x ((os.getD (i+j) 0+x*ys.getD j 0+c)/4294967296):=by
 obtain⟨h1,h2,h3,h4,h5⟩:=h
 have hb:=kq (h2 (i+j)) hx (dy j) h3
 refine⟨by simp[h1],Ae h2 (by omega) (by omega),hb.2.1,fun t ht=>?_,?_⟩
 ·rw[fW _ _ _ _ (by omega),if_neg (by omega)];exact h4 t ht
 ·have hs:=uq os (i+j) ((os.getD (i+j) 0+x*ys.getD j 0+c)%4294967296) (by omega)
  rw[aD, <-Nat.add_assoc,Nat.pow_succ]
  generalize os.getD (i+j) 0=o at *
  have e1:4294967296^(i+j)*4294967296*((o+x*ys.getD j 0+c)/4294967296)+4294967296^(i+j)*((o+x*ys.getD j 0+c)%4294967296)=4294967296^(i+j)*o+4294967296^(i+j)*(x*ys.getD j 0)+4294967296^(i+j)*c:=by
   rw[Nat.mul_assoc, <-Nat.mul_add,Nat.div_add_mod,Nat.mul_add,Nat.mul_add]
  have e2:4294967296^i*(x*(val (ys.take j)+4294967296^j*ys.getD j 0))=4294967296^i*(x*val (ys.take j))+4294967296^(i+j)*(x*ys.getD j 0):=by
   rw[Nat.mul_add,Nat.mul_add,Nat.pow_add,Nat.mul_left_comm x,Nat.mul_assoc]
  omega
theorem y6{xs ys o0 os:List Nat}{n i c:Nat}(h0:oI xs ys o0 n i)(h:uE ys o0 os n i ys.length (xs.getD i 0) c)(hn:i+ys.length<n):oI xs ys (os.set (i+ys.length) c) n (i+1):=by
 obtain⟨h1,h2,h3,h4,h5⟩:=h
 refine⟨by simp[h1],Ae h2 (by omega) h3,fun t ht=>?_,?_⟩
 ·rw[fW _ _ _ _ (by omega),if_neg (by omega)];exact h4 t (by omega)
 ·have hs:=uq os (i+ys.length) c (by omega)
  rw[h4 _ (Nat.le_refl _)]at hs
  rw[List.take_length]at h5
  rw[aD,Nat.add_mul, <-h0.2.2.2,Nat.mul_assoc]
  omega
theorem qY(os:List Nat)(k d:Nat):(cellsOf os).set k (.int .u64 ((d:Nat):Int))=cellsOf (os.set k d):=by simp[cellsOf,List.map_set]
theorem oS(n:Nat):(madeCells #[Value.int .u64 0] n).toList=cellsOf (List.replicate n 0):=by
 rw[toList_madeCells_one];simp[cellsOf]
theorem Ni{z x y c:Nat}(hz:z<4294967296)(hx:x<4294967296)(hy:y<4294967296)(hc:c<4294967296):
  IntKind.u64.wrap (IntKind.u64.wrap ((z:Int)+IntKind.u64.wrap ((x:Int)*(y:Int)))+(c:Int))=((z+x*y+c:Nat):Int):=by
 obtain⟨b1,_,b3⟩:=kq hz hx hy hc
 have e:(x:Int)*(y:Int)=((x*y:Nat):Int):=(Int.natCast_mul x y).symm
 rw[e]
 generalize x*y=p at *
 rw[IntKind.wrap_u64,IntKind.wrap_u64,IntKind.wrap_u64]
 omega
theorem Dw{ps ys:List Nat}{k q x y z c:Nat}(HZ:z=ps.getD (k+q) 0)(HY:y=ys.getD q 0)(hz:z<4294967296)(hx:x<4294967296)(hy:y<4294967296)(hc:c<4294967296):
  Value.int .u64 (IntKind.u64.wrap ((IntKind.u64.wrap (IntKind.u64.wrap ((z:Int)+IntKind.u64.wrap ((x:Int)*(y:Int)))+(c:Int))).tdiv 4294967296))=.int .u64 (((ps.getD (k+q) 0+x*ys.getD q 0+c)/4294967296:Nat):Int):=by
 rw[Ni hz hx hy hc, <-HZ, <-HY]
 have b:=(kq hz hx hy hc).2.2
 generalize z+x*y+c=s at *
 rw[Int.tdiv_eq_ediv_of_nonneg (by omega),IntKind.wrap_u64]
 congr 1;omega
theorem La{wr:World}{B t g n:Nat}{ps ys:List Nat}{k q x y z c:Nat}(h:wr.ownsRow B t 1 (.slice (some ⟨g,0,none⟩) n n) n (cellsOf ps))(HZ:z=ps.getD (k+q) 0)(HY:y=ys.getD q 0)(hz:z<4294967296)(hx:x<4294967296)(hy:y<4294967296)(hc:c<4294967296)(nq:Nat):
  ((wr.drewN nq).setCell ⟨g,k+q,none⟩ (.int .u64 ((IntKind.u64.wrap (IntKind.u64.wrap ((z:Int)+IntKind.u64.wrap ((x:Int)*(y:Int)))+(c:Int))).tmod 4294967296))).ownsRow B t 1 (.slice (some ⟨g,0,none⟩) n n) n (cellsOf (ps.set (k+q) ((ps.getD (k+q) 0+x*ys.getD q 0+c)%4294967296))):=by
 rw[Ni hz hx hy hc, <-HZ, <-HY,xQ, <-qY]
 have h':(wr.drewN nq).ownsRow B t 1 (.slice (some ⟨g,0,none⟩) n n) n (cellsOf ps):=h
 exact(h'.stored _ _).1
set_option maxHeartbeats 3200000 in
theorem Lc(w:World)(ga gb:Option Addr)(ba oa bb ob ca cb la lb:Nat)(xs ys:List Nat)(hx:xs.length=la)(hy:ys.length=lb)(ha:la<=1073741824)(hb:lb<=1073741824)
  (hA:Rep w ga ba oa ca xs) (hB:Rep w gb bb ob cb ys) (dx:js xs) (dy:js ys):
  Calls Tryz.prog 16 #[.slice ga la ca,.slice gb lb cb] w fun e w'=>∃ v,e=.returned v/\aY w' v (val xs*val ys)/\Below w.heap.size w w':=by
 obtain⟨i0,hi,hz0,hz1,hz2⟩:=info_parts Tryz.infoU
 go_enter Tryz.func16,Tryz.ntmps16
 go_wp2_with (at_make;refine wpList_make_full _ rfl _ _ 32 rfl w.heap.size 41 i0 (.int .u64 0) 1 Tryz.underlying32 hi hz0 hz1 _ _ _ _ (la+lb) rfl rfl ?b0 ?b1 ?b2 ?b3 (Nat.le_refl _) ?_)
 case b0=>omega
 case b1=>omega
 case b2=>rw[hz2];omega
 case b3=>unfold maxLen;omega
 intro w0 hown0 hgrow0
 rw[oS]at hown0
 go_wp2
 go_loopw [6] (fun i wr=>∃(k:Nat) (os:List Nat),k<=la/\i=.int .i64 (k:Int)/\
   wr.ownsRow w.heap.size 41 1 (.slice (some ⟨w.heap.size,0,none⟩) (la+lb) (la+lb)) (la+lb) (cellsOf os)/\Hid (oI xs ys os (la+lb) k)/\Below w.heap.size w wr)
  (fun i _=>la-(intOf i).toNat)
 case atStart=>exact⟨0,_,Nat.zero_le _,rfl,hown0,rF xs ys _,(Below.refl _ _).grown hgrow0 (Nat.le_refl _) (fun k h=>by cases h)⟩
 case round=>
  obtain⟨k,os,hk,rfl,hown,hRow,hnx⟩:=hrel
  by_cases h1:k<la
  ·obtain rfl:=hA.head (by omega)
   obtain⟨x,HX⟩:∃ x:Nat,Hid (x=xs.getD k 0):=⟨_,rfl⟩
   have hx32:x<4294967296:=by rw[HX.out];exact dx k
   go_wp2
   go_loopw [7,8] (fun c j wi=>∃(q cy:Nat) (ps:List Nat),q<=lb/\j=.int .i64 (q:Int)/\c=.int .u64 (cy:Int)/\cy<4294967296/\
     wi.ownsRow w.heap.size 41 1 (.slice (some ⟨w.heap.size,0,none⟩) (la+lb) (la+lb)) (la+lb) (cellsOf ps)/\Hid (uE ys os ps (la+lb) k q x cy)/\Below w.heap.size w wi)
    (fun _ j _=>lb-(intOf j).toNat)
   case atStart=>exact⟨0,0,os,Nat.zero_le _,rfl,rfl,by omega,hown,Ld hRow.out x,hnx⟩
   case round=>
    obtain⟨q,cy,ps,hq,rfl,rfl,hcy,howni,hAt,hni⟩:=hrel
    by_cases h2:q<lb
    ·obtain rfl:=hB.head (by omega)
     obtain⟨y,HY⟩:∃ y:Nat,Hid (y=ys.getD q 0):=⟨_,rfl⟩
     obtain⟨z,HZ⟩:∃ z:Nat,Hid (z=ps.getD (k+q) 0):=⟨_,rfl⟩
     have hy32:y<4294967296:=by rw[HY.out];exact dy q
     have hz32:z<4294967296:=by rw[HZ.out];exact hAt.out.2.1 _
     have cx:wr.cell? ⟨ba,oa+k,none⟩=some (.int .u64 (x:Int)):=by rw[HX.out];exact(hni.cell (by exact hA.lt (by omega))).trans (hA.cell k (by omega))
     have cy':wr.cell? ⟨bb,ob+q,none⟩=some (.int .u64 (y:Int)):=by rw[HY.out];exact(hni.cell (by exact hB.lt (by omega))).trans (hB.cell q (by omega))
     have hrep:=(aP howni).2
     have hl:=(aP howni).1
     have cz:wr.cell? ⟨w.heap.size,k+q,none⟩=some (.int .u64 (z:Int)):=by rw[HZ.out];have:=hrep.cell (k+q) (by omega);rwa [Nat.zero_add]at this
     have fz:=howni.frozenAt (k+q)
     clear hrep hl
     go_wp2
     go_quiet (fail)
     go_wp2
     go_roundw
     case rel=>exact⟨q+1,_,_,by omega,by go_num,Dw HZ.out HY.out hz32 hx32 hy32 hcy,(kq (by rw[<-HZ.out];exact hz32) hx32 (dy q) hcy).2.1,La howni HZ.out HY.out hz32 hx32 hy32 hcy nq,Ia hAt.out hx32 dy (by omega) (by omega),(below_drewN hni nq).setCell (Nat.le_refl _) _⟩
     case measure=>simp[intOf];omega
    ·obtain rfl:q=lb:=by omega
     subst hy
     have hrep:=(aP howni).2
     have hl:=(aP howni).1
     have cz:wr.cell? ⟨w.heap.size,k+ys.length,none⟩=some (.int .u64 ((ps.getD (k+ys.length) 0:Nat):Int)):=by have:=hrep.cell (k+ys.length) (by omega);rwa [Nat.zero_add]at this
     have fz:=howni.frozenAt (k+ys.length)
     have HR:=hide (y6 (c:=cy) hRow.out (by rw[<-HX.out];exact hAt.out) (by omega))
     have HO:=hide (howni.stored (k+ys.length) (.int .u64 (cy:Int))).1
     clear hrep hl
     go_wp2
     go_roundw
     case rel=>exact⟨k+1,_,by omega,by go_num,by have:=HO.out;rwa [qY]at this,HR,hni.setCell (Nat.le_refl _) _⟩
     case measure=>simp[intOf];omega
  ·obtain rfl:k=la:=by omega
   obtain⟨hl,hrep⟩:=aP hown
   have he:=hRow.out.2.2.2
   rw[List.take_of_length_le (by omega)]at he
   have hd:=hRow.out.2.1
   have HE:=hide he
   clear he
   go_wp2_with fail
   refine(jK _ _ _ _ _ _ _ hl (by omega) hrep hd).mono ?_
   rintro e w' ⟨v,rfl,hN,rfl⟩
   go_wp2
   go_ret
   exact⟨v,rfl,by rw[<-HE.out];exact hN,hnx⟩
theorem mul_any(w:World)(u v:Value)(m n L:Nat)(hL:L<=1073741824)(hm:m<4294967296^L)(hn:n<4294967296^L)(hu:aY w u m)(hv:aY w v n):
  Calls Tryz.prog 16 #[u,v] w fun e w'=>∃ r,e=.returned r/\aY w' r (m*n)/\Below w.heap.size w w':=by
 obtain⟨ga,ba,oa,ca,xs,rfl,hA,cA,rfl⟩:=hu
 obtain⟨gb,bb,ob,cb,ys,rfl,hB,cB,rfl⟩:=hv
 have la:=fX cA hm
 have lb:=fX cB hn
 exact Lc w ga gb ba oa bb ob ca cb _ _ xs ys rfl rfl (by omega) (by omega) hA hB cA.1 cB.1
end Go.Proofs.YtgcnhfgpflncaaaGreatDoor
/- Plain mathematics of naturals as rows of words of 64 bits,the lowest first. Nothing of any program here. -/
namespace Go.Proofs.YtgcnhfgpflncaaaGreatDoor
def ao(xs:List Nat):Prop:=∀ j,xs.getD j 0<18446744073709551616
def cn(xs:List Nat):Prop:=ao xs/\(0<xs.length->0<xs.getD (xs.length-1) 0)
theorem qj:ao []:=fun j=>by simp
theorem iI:cn []:=⟨qj,fun h=>absurd h (by simp)⟩
theorem Fa{xs:List Nat}{d:Nat}(h:ao xs)(hd:d<18446744073709551616):ao (xs++[d]):=by
 intro j
 rw[cR]
 split
 ·exact h j
 ·generalize j-xs.length=k
  match k with
  |0=>simpa using hd
  |k+1=>simp
theorem aX{xs:List Nat}(h:ao xs)(k:Nat):ao (xs.take k):=by
 intro j
 simp only[List.getD_eq_getElem?_getD,List.getElem?_take]
 split
 ·have:=h j;simpa [List.getD_eq_getElem?_getD]using this
 ·simp
theorem ck(xs ys:List Nat):af (xs++ys)=af xs+18446744073709551616^xs.length*af ys:=by
 induction xs with
 |nil=>simp[af]
 |cons d ds ih=>
  simp only[List.cons_append,af,ih,List.length_cons,Nat.pow_succ,Nat.mul_add]
  rw[Nat.mul_comm (18446744073709551616^ds.length) 18446744073709551616,Nat.mul_assoc]
  omega
theorem sC(xs:List Nat)(d:Nat):af (xs++[d])=af xs+18446744073709551616^xs.length*d:=by
 rw[ck];simp[af]
theorem ay(xs:List Nat)(k:Nat):af (xs.take (k+1))=af (xs.take k)+18446744073709551616^k*xs.getD k 0:=by
 by_cases h:k<xs.length
 ·rw[take_snoc xs k h,sC,List.length_take,Nat.min_eq_left (by omega)]
 ·rw[List.take_of_length_le (by omega),List.take_of_length_le (by omega),dU (by omega)];simp
theorem aK(xs:List Nat)(k:Nat)(h:xs.length<=k):af (xs.take k)=af xs:=by rw[List.take_of_length_le h]
theorem ei{xs:List Nat}(h:ao xs):∀ k,af (xs.take k)<18446744073709551616^k
 |0=>by simp[af]
 |k+1=>by
  rw[ay]
  have h1:=ei h k
  have h2:=h k
  have h3:18446744073709551616^k*xs.getD k 0<=18446744073709551616^k*18446744073709551615:=Nat.mul_le_mul_left _ (by omega)
  have h4:18446744073709551616^(k+1)=18446744073709551616^k*18446744073709551615+18446744073709551616^k:=by rw[Nat.pow_succ, <-Nat.mul_succ]
  omega
theorem ak{xs:List Nat}(h:ao xs):af xs<18446744073709551616^xs.length:=by
 have:=ei h xs.length
 rwa [List.take_length]at this
theorem bq(xs:List Nat)(k:Nat):af xs=af (xs.take k)+18446744073709551616^k*af (xs.drop k):=by
 by_cases h:k<=xs.length
 ·have:=ck (xs.take k) (xs.drop k)
  rw[List.take_append_drop,List.length_take,Nat.min_eq_left h]at this
  exact this
 ·rw[List.take_of_length_le (by omega),List.drop_eq_nil_of_le (by omega)];simp[af]
theorem oD{xs:List Nat}(h:cn xs)(hl:0<xs.length):18446744073709551616^(xs.length-1)<=af xs:=by
 have h1:=ay xs (xs.length-1)
 rw[show xs.length-1+1=xs.length from by omega,List.take_length]at h1
 have h2:=h.2 hl
 have h3:18446744073709551616^(xs.length-1)*1<=18446744073709551616^(xs.length-1)*xs.getD (xs.length-1) 0:=Nat.mul_le_mul_left _ (by omega)
 omega
theorem kC{xs ys:List Nat}(hx:ao xs)(hy:cn ys)(h:xs.length<ys.length):af xs<af ys:=by
 have h1:=ak hx
 have h2:=oD hy (by omega)
 have h3:18446744073709551616^xs.length<=18446744073709551616^(ys.length-1):=Nat.pow_le_pow_right (by omega) (by omega)
 omega
theorem ji{xs ys:List Nat}(hx:ao xs)(i:Nat)(hd:xs.drop (i+1)=ys.drop (i+1))(h:xs.getD i 0<ys.getD i 0):af xs<af ys:=by
 have h1:=bq xs (i+1)
 have h2:=bq ys (i+1)
 rw[ay]at h1 h2
 have h3:=ei hx i
 have h4:18446744073709551616^i*(xs.getD i 0+1)<=18446744073709551616^i*ys.getD i 0:=Nat.mul_le_mul_left _ (by omega)
 rw[Nat.mul_succ]at h4
 rw[hd]at h1
 omega
theorem jQ{xs ys:List Nat}(hx:cn xs)(hy:cn ys)(h:af xs=af ys):xs=ys:=by
 have hl:xs.length=ys.length:=by
  rcases Nat.lt_trichotomy xs.length ys.length with l|l|l
  ·have:=kC hx.1 hy l;omega
  ·exact l
  ·have:=kC hy.1 hx l;omega
 have key:∀ k,k<=xs.length->xs.drop (xs.length-k)=ys.drop (xs.length-k):=by
  intro k
  induction k with
  |zero=>intro _;rw[Nat.sub_zero,List.drop_eq_nil_of_le (Nat.le_refl _),List.drop_eq_nil_of_le (by omega)]
  |succ k ih=>
   intro hk
   have ih:=ih (by omega)
   have e:xs.length-k=xs.length-(k+1)+1:=by omega
   rw[e]at ih
   refine drop_step _ (by omega) hl ih ?_
   rcases Nat.lt_trichotomy (xs.getD (xs.length-(k+1)) 0) (ys.getD (xs.length-(k+1)) 0)with l|l|l
   ·have:=ji hx.1 _ ih l;omega
   ·exact l
   ·have:=ji hy.1 _ ih.symm l;omega
 have:=key xs.length (Nat.le_refl _)
 simpa using this
theorem kt(xs:List Nat):∀ k,af (xs.take (bY xs k))=af (xs.take k)
 |0=>rfl
 |k+1=>by
  unfold bY;split
  ·rename_i h;rw[kt xs k,ay,h];simp
  ·rfl
theorem cX(xs:List Nat):af (mX xs)=af xs:=by
 have:=kt xs xs.length
 rw[List.take_length]at this;exact this
theorem dB{xs:List Nat}(h:ao xs):cn (mX xs):=by
 refine⟨aX h _,fun hl=>?_⟩
 rw[aI]at hl ⊢
 have h1:=jJ xs xs.length hl
 unfold mX
 rw[List.getD_eq_getElem?_getD,List.getElem?_take,if_pos (by omega)]
 rwa [List.getD_eq_getElem?_getD]at h1
theorem dE{xs:List Nat}(h:cn xs){L:Nat}(hv:af xs<18446744073709551616^L):xs.length<=L:=by
 refine Nat.le_of_not_lt fun hl=>?_
 have h1:=oD h (by omega)
 have h2:18446744073709551616^L<=18446744073709551616^(xs.length-1):=Nat.pow_le_pow_right (by omega) (by omega)
 omega
theorem bG{xs:List Nat}{k d:Nat}(h:ao xs)(hk:k<xs.length)(hd:d<18446744073709551616):ao (xs.set k d):=by
 intro j
 rw[fW xs k j d hk]
 split
 ·exact hd
 ·exact h j
theorem cj:∀(xs:List Nat) (k d:Nat),k<xs.length->af (xs.set k d)+18446744073709551616^k*xs.getD k 0=af xs+18446744073709551616^k*d
 |[],k,d,h=>absurd h (by simp)
 |x :: xs,0,d,_=>by simp[af];omega
 |x :: xs,k+1,d,h=>by
  have ih:=cj xs k d (by simpa using h)
  simp only[List.set_cons_succ,af,List.getD_cons_succ,Nat.pow_succ]
  rw[Nat.mul_comm (18446744073709551616^k) 18446744073709551616,Nat.mul_assoc,Nat.mul_assoc]
  omega
theorem g8(n:Nat):ao (List.replicate n 0)/\af (List.replicate n 0)=0:=by
 constructor
 ·intro j
  have:(List.replicate n 0).getD j 0=0:=by
   simp only[List.getD_eq_getElem?_getD,List.getElem?_replicate];split<;>rfl
  omega
 ·induction n with
  |zero=>rfl
  |succ k ih=>rw[List.replicate_succ,af,ih]
theorem qu(x:Nat):af [x]=x:=by simp[af]
theorem xX{x:Nat}(h:x<18446744073709551616):ao [x]:=fun j=>by
 match j with
 |0=>simpa using h
 |j+1=>simp
theorem fu{xs ys:List Nat}(h:ao xs)(k:ao ys):ao (xs++ys):=by
 intro j;rw[cR];split
 ·exact h j
 ·exact k _
theorem aU{xs:List Nat}(h:ao xs)(k:Nat):ao (xs.drop k):=by
 intro j
 have e:(xs.drop k).getD j 0=xs.getD (k+j) 0:=by simp[List.getD_eq_getElem?_getD]
 rw[e];exact h _
theorem JD{xs:List Nat}(h:ao xs):∀ x ∈ xs,x<18446744073709551616:=by
 intro x hx
 obtain⟨j,hj,rfl⟩:=List.getElem_of_mem hx
 have:=h j
 rwa [getD_lt hj]at this
theorem lF(p:Nat):18446744073709551616^p=4294967296^(2*p):=by
 rw[Nat.pow_mul]
theorem bI(p:Nat):0<18446744073709551616^p:=Nat.pow_pos (by omega)
theorem Lu{m n p:Nat}(hm:m<18446744073709551616^p)(hn:n<18446744073709551616^p):m+n<18446744073709551616^(p+1):=by
 rw[Nat.pow_succ];omega
theorem fB{m p q:Nat}(hm:m<18446744073709551616^p)(h:p<=q):m<18446744073709551616^q:=Nat.lt_of_lt_of_le hm (Nat.pow_le_pow_right (by omega) h)
end Go.Proofs.YtgcnhfgpflncaaaGreatDoor
/- Cmp:how two naturals stand to each other. -/
namespace Go.Proofs.YtgcnhfgpflncaaaGreatDoor
open Go.RowKit
set_option maxHeartbeats 800000 in
theorem J8(w:World)(ga gb:Option Addr)(ca cb la lb:Nat)(_ha:la<=1099511627776)(_hb:lb<=1099511627776)(h:la<lb\/lb<la):
  Calls Tryz.prog 23 #[.slice ga la ca,.slice gb lb cb] w fun e w'=>e=.returned (.int .i64 (if la<lb then -1 else 1))/\w'=w:=by
 rcases h with h|h
 ·have hne:((la:Int)!=(lb:Int))=true:=by rw[bne_iff_ne];omega
  go_enter Tryz.func23,Tryz.ntmps23
  go_wp2
  go_ret
  exact⟨ax rfl,rfl⟩
 ·have hne:((la:Int)!=(lb:Int))=true:=by rw[bne_iff_ne];omega
  have hn:¬la<lb:=by omega
  go_enter Tryz.func23,Tryz.ntmps23
  go_wp2
  go_ret
  exact⟨ax rfl,rfl⟩
set_option maxHeartbeats 1600000 in
theorem J7(w:World)(ga gb:Option Addr)(ba oa bb ob ca cb:Nat)(xs ys:List Nat)(n:Nat)(hx:xs.length=n)(hy:ys.length=n)(ha:n<=1099511627776)
  (hA:Rep w ga ba oa ca xs) (hB:Rep w gb bb ob cb ys) (dx:js xs) (dy:js ys):
  Calls Tryz.prog 23 #[.slice ga n ca,.slice gb n cb] w fun e w'=>e=.returned (.int .i64 (aV (val xs) (val ys)))/\Below w.heap.size w w':=by
 have hne:((n:Int)!=(n:Int))=false:=by simp
 go_enter Tryz.func23,Tryz.ntmps23
 go_wp2
 go_loopw [5] (fun i wr=>∃ k:Nat,k<=n/\i=.int .i64 ((k:Int)-1)/\Hid (xs.drop k=ys.drop k)/\Below w.heap.size w wr) (fun i _=>(intOf i+1).toNat)
 case atStart=>exact⟨n,Nat.le_refl _,rfl,by show xs.drop n=ys.drop n;rw[List.drop_eq_nil_of_le (by omega),List.drop_eq_nil_of_le (by omega)],Below.refl _ _⟩
 case round=>
  obtain⟨k,hk,rfl,hD,hnx⟩:=hrel
  by_cases hlt:0<k
  ·obtain⟨j,rfl⟩:∃ j,k=j+1:=⟨k-1,by omega⟩
   have ej:((j+1:Nat):Int)-1=(j:Int):=by omega
   rw[ej]
   obtain rfl:=hA.head (by omega)
   obtain rfl:=hB.head (by omega)
   obtain⟨x,HX⟩:∃ x:Nat,Hid (x=xs.getD j 0):=⟨_,rfl⟩
   obtain⟨y,HY⟩:∃ y:Nat,Hid (y=ys.getD j 0):=⟨_,rfl⟩
   have cx:wr.cell? ⟨ba,oa+j,none⟩=some (.int .u64 (x:Int)):=by rw[HX.out];exact(hnx.cell (by exact hA.lt (by omega))).trans (hA.cell j (by omega))
   have cy:wr.cell? ⟨bb,ob+j,none⟩=some (.int .u64 (y:Int)):=by rw[HY.out];exact(hnx.cell (by exact hB.lt (by omega))).trans (hB.cell j (by omega))
   rcases Nat.lt_trichotomy x y with l|l|l
   ·have e:=cK (kg dx j hD.out (by rw[<-HX.out, <-HY.out];exact l))
    have E:=hide e
    clear e
    go_wp2
    go_quiet (fail)
    go_wp2
    go_ret
    exact⟨ax (ae E).symm,below_drewN hnx _⟩
   ·have l1:¬x<y:=by omega
    have l2:¬y<x:=by omega
    have H:=hide (drop_step j (by omega) (hx.trans hy.symm) hD.out (by rw[<-HX.out, <-HY.out];exact l))
    clear l
    go_wp2
    go_quiet (fail)
    go_wp2
    go_quiet (fail)
    go_wp2
    go_roundw
    case rel=>exact⟨j,by omega,by go_num,H,below_drewN hnx _⟩
    case measure=>simp[intOf]
   ·have l1:¬x<y:=by omega
    have e:=cJ (kg dy j hD.out.symm (by rw[<-HX.out, <-HY.out];exact l))
    have E:=hide e
    clear e
    go_wp2
    go_quiet (fail)
    go_wp2
    go_quiet (fail)
    go_wp2
    go_ret
    exact⟨ax (ae E).symm,below_drewN (below_drewN hnx _) _⟩
  ·obtain rfl:k=0:=by omega
   have e:=de (congrArg val (by simpa using hD.out:xs=ys))
   have E:=hide e
   clear e
   go_wp2
   go_ret
   exact⟨ax (ae E).symm,hnx⟩
theorem jY(w:World)(u v:Value)(m n L:Nat)(hL:L<=1073741824)(hm:m<4294967296^L)(hn:n<4294967296^L)(hu:aY w u m)(hv:aY w v n):
  Calls Tryz.prog 23 #[u,v] w fun e w'=>e=.returned (.int .i64 (aV m n))/\Below w.heap.size w w':=by
 obtain⟨ga,ba,oa,ca,xs,rfl,hA,cA,rfl⟩:=hu
 obtain⟨gb,bb,ob,cb,ys,rfl,hB,cB,rfl⟩:=hv
 have la:=fX cA hm
 have lb:=fX cB hn
 by_cases h:xs.length=ys.length
 ·rw[h]
  exact J7 w ga gb ba oa bb ob ca cb xs ys ys.length h rfl (by omega) hA hB cA.1 cB.1
 ·refine(J8 w ga gb ca cb xs.length ys.length (by omega) (by omega) (by omega)).mono ?_
  rintro e w' ⟨rfl,rfl⟩
  refine⟨ax ?_,Below.refl _ _⟩
  by_cases hl:xs.length<ys.length
  ·rw[if_pos hl,cK (px cA.1 cB hl)]
  ·rw[if_neg hl,cJ (px cB.1 cA (by omega))]
end Go.Proofs.YtgcnhfgpflncaaaGreatDoor
/- Products in two pieces:plain mathematics. Nothing of any program here. -/
namespace Go.Proofs.YtgcnhfgpflncaaaGreatDoor
theorem ti(a0 a1 b0 b1:Nat):a0*b0+a1*b1<=(a0+a1)*(b0+b1):=by
 have e:(a0+a1)*(b0+b1)=a0*b0+a1*b1+(a0*b1+a1*b0):=by grind
 omega
theorem Cm(a0 a1 b0 b1:Nat):(a0+a1)*(b0+b1)-(a0*b0+a1*b1)=a0*b1+a1*b0:=by
 have e:(a0+a1)*(b0+b1)=a0*b0+a1*b1+(a0*b1+a1*b0):=by grind
 omega
theorem yV(P a0 a1 b0 b1:Nat):a0*b0+P*((a0+a1)*(b0+b1)-(a0*b0+a1*b1))+P*P*(a1*b1)=(a0+P*a1)*(b0+P*b1):=by
 rw[Cm]
 grind
theorem mS(xs ys:List Nat)(h:Nat):af (xs.take h)*af (ys.take h)+18446744073709551616^h*((af (xs.take h)+af (xs.drop h))*(af (ys.take h)+af (ys.drop h))-(af (xs.take h)*af (ys.take h)+af (xs.drop h)*af (ys.drop h)))+18446744073709551616^(2*h)*(af (xs.drop h)*af (ys.drop h))=af xs*af ys:=by
 rw[bq xs h,bq ys h,show 2*h=h+h by omega,Nat.pow_add]
 exact yV _ _ _ _ _
theorem vH{a0 a1 h:Nat}(h0:a0<18446744073709551616^h)(h1:a1<18446744073709551616^h):a0+a1<18446744073709551616^(h+1):=by
 rw[Nat.pow_succ]
 omega
end Go.Proofs.YtgcnhfgpflncaaaGreatDoor
/- Within of keep. -/
namespace Go.Proofs.YtgcnhfgpflncaaaGreatDoor
open Go.RowKit
theorem MJ{v n:Int}(hn:0<n): -n<v.tmod n/\v.tmod n<n/\(0<=v.tmod n->v%n=v.tmod n)/\(v.tmod n<0->v%n=v.tmod n+n):=by
 have h1:=Int.tmod_lt_of_pos v hn
 have h2:=Int.lt_tmod_of_pos v hn
 have e:v%n=v.tmod n%n:=by
  conv=>lhs;rw[<-Int.mul_tdiv_add_tmod v n]
  rw[Int.mul_add_emod_self_left]
 refine⟨h2,h1,fun h=>?_,fun h=>?_⟩
 ·rw[e,Int.emod_eq_of_lt h h1]
 ·rw[e, <-Int.add_emod_right,Int.emod_eq_of_lt (by omega) (by omega)]
set_option maxHeartbeats 800000 in
theorem zI(v n:Int)(w:World)(_h1: -9223372036854775808<=v)(_h2:v<=9223372036854775807)(hn:1<=n)(hn2:n<=4611686018427387904):
  Calls Tryz.prog 29 #[.int .i64 v,.int .i64 n] w fun e w'=>e=.returned (.int .i64 (v%n))/\w'=w:=by
 have hn1:¬n<1:=by omega
 obtain⟨t1,t2,t3,t4⟩:=MJ (v:=v) (n:=n) (by omega)
 have T3:=hide t3
 have T4:=hide t4
 clear t3 t4
 go_enter Tryz.func29,Tryz.ntmps29
 go_wp2
 ·go_ret
  exact⟨ax (by rw[ae T4 (by assumption)]),rfl⟩
 ·go_ret
  exact⟨ax (by rw[ae T3 (by assumption)]),rfl⟩
end Go.Proofs.YtgcnhfgpflncaaaGreatDoor
/- Three primes;sums of naturals. Nothing of any program here. -/
namespace Go.Proofs.YtgcnhfgpflncaaaGreatDoor
def dN:Nat:=180143985094819841
def dC:Nat:=1945555039024054273
def bR:Nat:=4179340454199820289
theorem pd{p x y:Nat}(h:x%p=y%p):p∣x-y:=by
 have:=Nat.sub_mod_eq_zero_of_mod_eq h
 exact Nat.dvd_of_mod_eq_zero this
theorem xN{x y:Nat}(h0:x%dN=y%dN)(h1:x%dC=y%dC)(h2:x%bR=y%bR)(hx:x<dN*dC*bR)(hle:y<=x):x=y:=by
 have d0:=pd h0
 have d1:=pd h1
 have d2:=pd h2
 have c01:Nat.Coprime dN dC:=by unfold Nat.Coprime;decide+kernel
 have c2:Nat.Coprime (dN*dC) bR:=by unfold Nat.Coprime;decide+kernel
 have d:=c2.mul_dvd_of_dvd_of_dvd (c01.mul_dvd_of_dvd_of_dvd d0 d1) d2
 have:=Nat.eq_zero_of_dvd_of_lt d (by omega)
 omega
theorem EU{x y:Nat}(h0:x%dN=y%dN)(h1:x%dC=y%dC)(h2:x%bR=y%bR)(hx:x<dN*dC*bR)(hy:y<dN*dC*bR):x=y:=by
 rcases Nat.le_total y x with h|h
 ·exact xN h0 h1 h2 hx h
 ·exact(xN h0.symm h1.symm h2.symm hy h).symm
def sN:Nat->(Nat->Nat)->Nat
 |0,_=>0
 |n+1,f=>sN n f+f n
theorem PM{n c:Nat}{f:Nat->Nat}(h:∀ j,j<n->f j<=c):sN n f<=n*c:=by
 induction n with
 |zero=>exact Nat.zero_le _
 |succ n ih=>
  have h1:=ih fun j hj=>h j (by omega)
  have h2:=h n (by omega)
  show sN n f+f n<=(n+1)*c
  rw[Nat.add_mul,Nat.one_mul]
  omega
theorem LP{n:Nat}{f:Nat->Nat}(h:∀ j,j<n->f j=0):sN n f=0:=by
 induction n with
 |zero=>rfl
 |succ n ih=>show sN n f+f n=0;rw[ih fun j hj=>h j (by omega),h n (by omega)]
theorem LL{n i c:Nat}{f:Nat->Nat}(hz:∀ j,j<n->j≠i->f j=0)(hc:i<n->f i<=c):sN n f<=c:=by
 induction n with
 |zero=>exact Nat.zero_le _
 |succ n ih=>
  show sN n f+f n<=c
  by_cases hi:n=i
  ·subst hi
   rw[LP fun j hj=>hz j (by omega) (by omega),Nat.zero_add]
   exact hc (by omega)
  ·rw[hz n (by omega) hi,Nat.add_zero]
   exact ih (fun j hj=>hz j (by omega)) fun h=>hc (by omega)
end Go.Proofs.YtgcnhfgpflncaaaGreatDoor
/- A number by its three remainders,digit by digit (Garner's way). Nothing of any program here. -/
namespace Go.Proofs.YtgcnhfgpflncaaaGreatDoor
theorem tq(p a b:Nat):Cg p (ml p a b:Int) ((a:Int)*(b:Int)):=by
 have:=Cg.mod p (a*b)
 rwa [Int.natCast_mul]at this
theorem Hr{p:Nat}(x c:Nat)(h:p%2=1)(hp:p<18446744073709551616):mm p x (ml p c 18446744073709551616)=ml p x c:=by
 have h0:0<p:=by omega
 refine Cg.eq (p:=p) ?_ (Nat.mod_lt _ h0) (Nat.mod_lt _ h0)
 refine(Cg.mod p _).trans (Cg.trans ?_ (tq p x c).symm)
 rw[Int.natCast_mul,Int.natCast_mul]
 have h1:=((Cg.refl p (x:Int)).mul (tq p c 18446744073709551616)).mul (Cg.refl p (ib p:Int))
 refine h1.trans ?_
 have h2:=(Cg.refl p ((x:Int)*(c:Int))).mul (mQ h hp)
 rw[Int.mul_one]at h2
 refine Cg.trans (Cg.of_eq ?_) h2
 show(x:Int)*((c:Int)*(18446744073709551616:Int))*(ib p:Int)=(x:Int)*(c:Int)*((ib p:Int)*18446744073709551616)
 generalize (18446744073709551616:Int)=B
 grind
def gx(r0:Nat):Nat:=rd dN r0
def gy(r0 r1 v:Nat):Nat:=ml dC (sb dC r1 (gx r0)) v
def gz(r0 r1 r2 v v2 v3:Nat):Nat:=ml bR (sb bR (ml bR (sb bR r2 (gx r0)) v2) (gy r0 r1 v)) v3
def gn(r0 r1 r2 v v2 v3:Nat):Nat:=gx r0+dN*(gy r0 r1 v+dC*gz r0 r1 r2 v v2 v3)
theorem MN:0<dN:=by decide
theorem AU:0<dC:=by decide
theorem ui:0<bR:=by decide
theorem MX(r0:Nat):gx r0<dN:=Nat.mod_lt _ MN
theorem MY(r0 r1 v:Nat):gy r0 r1 v<dC:=Nat.mod_lt _ AU
theorem MZ(r0 r1 r2 v v2 v3:Nat):gz r0 r1 r2 v v2 v3<bR:=Nat.mod_lt _ ui
theorem tG{p a v d:Nat}(h:ml p d v=1):Cg p ((d:Int)*(ml p a v:Int)) (a:Int):=by
 have h1:=(Cg.refl p (d:Int)).mul (tq p a v)
 have h2:=tq p d v
 rw[h]at h2
 have h3:=(Cg.refl p (a:Int)).mul h2.symm
 rw[show((1:Nat):Int)=1 from rfl,Int.mul_one]at h3
 exact h1.trans ((Cg.of_eq (by grind)).trans h3)
theorem P9(r0 r1 r2 v v2 v3:Nat):gn r0 r1 r2 v v2 v3%dN=r0%dN:=by
 unfold gn
 rw[Nat.add_mul_mod_self_left]
 exact Nat.mod_mod _ _
theorem Qa{r0 r1 r2 v v2 v3:Nat}(h:ml dC dN v=1):gn r0 r1 r2 v v2 v3%dC=r1%dC:=by
 refine Cg.same ?_
 unfold gn
 have h1:=tG (a:=sb dC r1 (gx r0)) h
 have h2:=pT AU r1 (gx r0)
 have h3:=(Cg.refl dC (gx r0:Int)).add (h1.trans h2)
 rw[Int.natCast_add,Int.natCast_mul,Int.natCast_add,Int.natCast_mul]
 have h4:Cg dC ((gx r0:Int)+(dN:Int)*((gy r0 r1 v:Int)+(dC:Int)*(gz r0 r1 r2 v v2 v3:Int))) ((gx r0:Int)+(dN:Int)*(gy r0 r1 v:Int)):=⟨(dN:Int)*(gz r0 r1 r2 v v2 v3:Int),by grind⟩
 exact h4.trans (h3.trans (Cg.of_eq (by omega)))
theorem Qb{r0 r1 r2 v v2 v3:Nat}(h:ml bR dN v2=1)(h':ml bR dC v3=1):gn r0 r1 r2 v v2 v3%bR=r2%bR:=by
 refine Cg.same ?_
 unfold gn
 rw[Int.natCast_add,Int.natCast_mul,Int.natCast_add,Int.natCast_mul]
 have h1:=tG (a:=sb bR (ml bR (sb bR r2 (gx r0)) v2) (gy r0 r1 v)) h'
 have h2:=pT ui (ml bR (sb bR r2 (gx r0)) v2) (gy r0 r1 v)
 have h3:=(Cg.refl bR (gy r0 r1 v:Int)).add (h1.trans h2)
 have h4:Cg bR ((gy r0 r1 v:Int)+(dC:Int)*(gz r0 r1 r2 v v2 v3:Int)) (ml bR (sb bR r2 (gx r0)) v2:Int):=h3.trans (Cg.of_eq (by omega))
 have h5:=tG (a:=sb bR r2 (gx r0)) h
 have h6:=pT ui r2 (gx r0)
 have h7:=(Cg.refl bR (dN:Int)).mul h4
 have h8:=(Cg.refl bR (gx r0:Int)).add (h7.trans (h5.trans h6))
 exact h8.trans (Cg.of_eq (by omega))
theorem Gm{p q x y:Nat}(hx:x<p)(hy:y<q):x+p*y<p*q:=by
 have:p*(y+1)<=p*q:=Nat.mul_le_mul_left _ hy
 rw[Nat.mul_add,Nat.mul_one]at this
 omega
theorem PC(r0 r1 r2 v v2 v3:Nat):gn r0 r1 r2 v v2 v3<dN*dC*bR:=by
 rw[Nat.mul_assoc]
 exact Gm (MX r0) (Gm (MY r0 r1 v) (MZ r0 r1 r2 v v2 v3))
theorem JI{x y z p q hi lo mid w0 w1 w2:Nat}(h1:hi*18446744073709551616+lo=z*q+y)(h2:mid*18446744073709551616+w0=lo*p+x)(h3:w2*18446744073709551616+w1=hi*p+mid):
  w0+18446744073709551616*(w1+18446744073709551616*w2)=x+p*(y+q*z):=by
 generalize 18446744073709551616=B at *
 have e1:p*(y+q*z)=p*(hi*B)+p*lo:=by rw[<-Nat.mul_add,h1,Nat.mul_comm z q,Nat.add_comm]
 have e2:B*(w1+B*w2)=B*(hi*p+mid):=by rw[<-h3];grind
 rw[e1,e2,Nat.mul_add]
 grind
theorem mA{a b c:Nat}(ha:a<18446744073709551616)(hb:b<18446744073709551616)(hc:c<18446744073709551616):a*b+c<18446744073709551616*18446744073709551616:=by
 have:=Nat.mul_le_mul (show a<=18446744073709551615 by omega) (show b<=18446744073709551615 by omega)
 omega
end Go.Proofs.YtgcnhfgpflncaaaGreatDoor
/- Long division in plain numbers:a guessed word of the quotient,the steps,numbers moved by places. Nothing of any program here. -/
namespace Go.Proofs.YtgcnhfgpflncaaaGreatDoor
theorem Pm{u v uh vh ul vl X:Nat}(hu:u=uh*X+ul)(hl:ul<X)(hv:v=vh*X+vl)(h0:0<vh):u/v<=uh/vh:=by
 rw[Nat.le_div_iff_mul_le h0]
 have h1:u/v*v<=u:=Nat.div_mul_le_self u v
 generalize u/v=q at *
 have h2:q*(vh*X)<=u:=Nat.le_trans (Nat.mul_le_mul_left q (by omega)) h1
 have h3:q*vh*X<(uh+1)*X:=by
  rw[Nat.mul_assoc,Nat.add_mul,Nat.one_mul]
  omega
 have:=Nat.lt_of_mul_lt_mul_right h3
 omega
theorem Pn{u v uh vh ul vl X h e:Nat}(hu:u=uh*X+ul)(hv:v=vh*X+vl)(hvl:vl<X)(hh:h*vh<=uh)(he:h<=e*vh):h<=u/v+e:=by
 have hX:0<X:=by omega
 rcases Nat.eq_zero_or_pos h with h0|h0
 ·rw[h0];exact Nat.zero_le _
 have hvh:0<vh:=by
  rcases Nat.eq_zero_or_pos vh with z|z
  ·subst z;simp at he;omega
  ·exact z
 have v0:0<v:=by have:=Nat.mul_pos hvh hX;omega
 have h1:h*v<u+e*v:=by
  have a1:h*vh*X<=uh*X:=Nat.mul_le_mul_right X hh
  have a2:h*vl<h*X:=Nat.mul_lt_mul_of_pos_left hvl h0
  have a3:h*X<=e*vh*X:=Nat.mul_le_mul_right X he
  have a4:e*vh*X<=e*v:=by rw[Nat.mul_assoc];exact Nat.mul_le_mul_left e (by omega)
  have a5:h*v=h*vh*X+h*vl:=by rw[hv,Nat.mul_add,Nat.mul_assoc]
  omega
 have h2:u+e*v<(u/v+e+1)*v:=by
  have:=Nat.lt_div_mul_add v0 (a:=u)
  have e1:(u/v+e+1)*v=u/v*v+e*v+v:=by rw[Nat.add_mul,Nat.add_mul,Nat.one_mul]
  omega
 have:=Nat.lt_of_mul_lt_mul_right (Nat.lt_trans h1 h2)
 omega
theorem Gk{u v uh vh ul vl X h:Nat}(hu:u=uh*X+ul)(hv:v=vh*X+vl)(hvl:vl<X)(hh:h*vh<=uh)(hb:h<18446744073709551616)(ht:18446744073709551616<=vh):h<=u/v+1:=
 Pn hu hv hvl hh (by omega)
theorem Ku{u v:Nat}(h:u<v*18446744073709551616):u/v<18446744073709551616:=Nat.div_lt_of_lt_mul h
theorem vn(a b s:Nat):(a*2^s)/(b*2^s)=a/b/\(a*2^s)%(b*2^s)=a%b*2^s:=
 ⟨Nat.mul_div_mul_right a b (Nat.two_pow_pos s),Nat.mul_mod_mul_right (2^s) a b⟩
end Go.Proofs.YtgcnhfgpflncaaaGreatDoor
/- A row times a word taken from a piece of another,given back,and the words of a quotient,one by one:plain mathematics. Nothing of any program here. -/
namespace Go.Proofs.YtgcnhfgpflncaaaGreatDoor
def seg(zs:List Nat)(o m:Nat):Nat:=af ((zs.drop o).take m)
theorem oC(zs:List Nat)(o m:Nat):af zs=af (zs.take o)+18446744073709551616^o*(seg zs o m+18446744073709551616^m*af (zs.drop (o+m))):=by
 have h1:=bq zs o
 have h2:=bq (zs.drop o) m
 rw[List.drop_drop]at h2
 rw[h2]at h1
 exact h1
theorem seg_lt{zs:List Nat}(h:ao zs)(o m:Nat):seg zs o m<18446744073709551616^m:=ei (aU h o) m
theorem jN(zs:List Nat)(o m:Nat):seg zs o (m+1)=seg zs o m+18446744073709551616^m*zs.getD (o+m) 0:=by
 unfold seg
 rw[ay]
 congr 2
 simp[List.getD_eq_getElem?_getD]
theorem xt(zs:List Nat)(o m:Nat)(h:o<zs.length):seg zs o (m+1)=zs.getD o 0+18446744073709551616*seg zs (o+1) m:=by
 unfold seg
 rw[List.drop_eq_getElem_cons h,List.take_succ_cons,af]
 congr 1
 rw[List.getD_eq_getElem?_getD,List.getElem?_eq_getElem h];rfl
theorem tV(zs:List Nat)(o m:Nat):seg zs o (m+2)=(zs.getD (o+m+1) 0*18446744073709551616+zs.getD (o+m) 0)*18446744073709551616^m+seg zs o m:=by
 rw[jN,jN,Nat.pow_succ,Nat.add_mul,Nat.add_assoc o m 1]
 have e1:18446744073709551616^m*18446744073709551616*zs.getD (o+(m+1)) 0=zs.getD (o+(m+1)) 0*18446744073709551616*18446744073709551616^m:=by
  rw[Nat.mul_comm (18446744073709551616^m*18446744073709551616),Nat.mul_assoc,Nat.mul_comm (18446744073709551616^m) 18446744073709551616]
 have e2:18446744073709551616^m*zs.getD (o+m) 0=zs.getD (o+m) 0*18446744073709551616^m:=Nat.mul_comm _ _
 omega
theorem Em(zs:List Nat)(o m:Nat):seg zs o (m+3)=(zs.getD (o+m+2) 0*340282366920938463463374607431768211456+zs.getD (o+m+1) 0*18446744073709551616+zs.getD (o+m) 0)*18446744073709551616^m+seg zs o m:=by
 rw[jN zs o (m+2),tV,Nat.add_assoc o m 2]
 have e1:18446744073709551616^(m+2)*zs.getD (o+(m+2)) 0=zs.getD (o+(m+2)) 0*340282366920938463463374607431768211456*18446744073709551616^m:=by
  rw[Nat.pow_add,Nat.mul_comm (18446744073709551616^m),Nat.mul_comm (18446744073709551616^2*18446744073709551616^m), <-Nat.mul_assoc]
 rw[e1,Nat.add_assoc (zs.getD (o+(m+2)) 0*340282366920938463463374607431768211456),Nat.add_mul (zs.getD (o+(m+2)) 0*340282366920938463463374607431768211456)]
 omega
theorem xu(zs:List Nat)(m:Nat)(h:zs.length<=m):seg zs 0 m=af zs:=by unfold seg;rw[List.drop_zero,aK _ _ h]
theorem take_same{xs ys:List Nat}{o:Nat}(hl:xs.length=ys.length)(h:∀ j,j<o->xs.getD j 0=ys.getD j 0):xs.take o=ys.take o:=by
 refine List.ext_getElem (by simp[hl]) (fun j h1 h2=>?_)
 simp at h1 h2
 have:=h j (by omega)
 rw[getD_lt (by omega),getD_lt (by omega)]at this
 simpa using this
theorem ri{xs ys:List Nat}{o:Nat}(hl:xs.length=ys.length)(h:∀ j,o<=j->xs.getD j 0=ys.getD j 0):xs.drop o=ys.drop o:=by
 refine List.ext_getElem (by simp[hl]) (fun j h1 h2=>?_)
 simp at h1 h2
 have:=h (o+j) (by omega)
 rw[getD_lt (by omega),getD_lt (by omega)]at this
 simpa using this
def jl(z0 zs:List Nat)(o m:Nat):Prop:=zs.length=z0.length/\∀ j,j<o\/o+m<=j->zs.getD j 0=z0.getD j 0
theorem jl.seg{z0 zs:List Nat}{o m X c:Nat}(h:jl z0 zs o m)(e:af zs+18446744073709551616^o*X=af z0+18446744073709551616^(o+m)*c):seg zs o m+X=seg z0 o m+18446744073709551616^m*c:=by
 have h1:=oC zs o m
 have h2:=oC z0 o m
 rw[take_same h.1 (fun j hj=>h.2 j (Or.inl hj)),ri h.1 (fun j hj=>h.2 j (Or.inr hj))]at h1
 rw[h1,h2,Nat.pow_add]at e
 have e2:18446744073709551616^o*(Go.Proofs.YtgcnhfgpflncaaaGreatDoor.seg zs o m+18446744073709551616^m*af (z0.drop (o+m))+X)=18446744073709551616^o*(Go.Proofs.YtgcnhfgpflncaaaGreatDoor.seg z0 o m+18446744073709551616^m*af (z0.drop (o+m))+18446744073709551616^m*c):=by
  rw[Nat.mul_add _ _ X,Nat.mul_add _ _ (18446744073709551616^m*c), <-Nat.mul_assoc (18446744073709551616^o) _ c]
  omega
 have:=Nat.eq_of_mul_eq_mul_left (bI o) e2
 omega
def sL(z0 zs ds:List Nat)(y o k c:Nat):Prop:=
 jl z0 zs o k/\ao zs/\c<18446744073709551616/\af zs+18446744073709551616^o*(y*af (ds.take k))=af z0+18446744073709551616^(o+k)*c
theorem Jo{z0:List Nat}(h:ao z0)(ds:List Nat)(y o:Nat):sL z0 z0 ds y o 0 0:=⟨⟨rfl,fun _ _=>rfl⟩,h,by omega,by simp[af]⟩
theorem Jn{b y c r h0 l0 l1 c1 h1 d c2 c3:Nat}(hb:b<18446744073709551616)(hy:y<18446744073709551616)(hc:c<18446744073709551616)(hr:r<18446744073709551616)
  (e0:h0=b*y/18446744073709551616) (e1:l0=b*y%18446744073709551616) (e2:l1=(l0+c+0)%18446744073709551616) (e3:c1=(l0+c+0)/18446744073709551616) (e4:h1=h0+c1)
  (e5:d=(r+18446744073709551616-l1-0)%18446744073709551616) (e6:c2=if r<l1+0 then 1 else 0) (e7:c3=h1+c2):
  h1<18446744073709551616/\c3<18446744073709551616/\d<18446744073709551616/\d+b*y+c=r+18446744073709551616*c3:=by
 have hp:b*y<=18446744073709551615*18446744073709551615:=Nat.mul_le_mul (by omega) (by omega)
 generalize b*y=p at *
 split at e6<;>omega
theorem jl.set{z0 zs:List Nat}{o k:Nat}(h:jl z0 zs o k)(d:Nat):jl z0 (zs.set (o+k) d) o (k+1):=
 ⟨by simpa using h.1,fun j hj=>by
  rw[<-h.2 j (by omega)]
  simp[List.getD_eq_getElem?_getD,show ¬o+k=j by omega]⟩
theorem MI{z0 zs ds:List Nat}{y o k c r b d c3:Nat}(h:sL z0 zs ds y o k c)(hk:o+k<zs.length)(hr:r=zs.getD (o+k) 0)(hb:b=ds.getD k 0)
  (hd:d<18446744073709551616) (hc3:c3<18446744073709551616) (he:d+b*y+c=r+18446744073709551616*c3):sL z0 (zs.set (o+k) d) ds y o (k+1) c3:=by
 obtain⟨h1,h2,h3,h4⟩:=h
 refine⟨h1.set d,bG h2 hk hd,hc3,?_⟩
 have hs:=cj zs (o+k) d hk
 rw[<-hr]at hs
 rw[ay, <-hb,Nat.mul_add y,Nat.mul_left_comm y,Nat.mul_add, <-Nat.mul_assoc (18446744073709551616^o) (18446744073709551616^k), <-Nat.pow_add, <-Nat.add_assoc o k 1,Nat.pow_succ,Nat.mul_assoc (18446744073709551616^(o+k))]
 have e:18446744073709551616^(o+k)*d+18446744073709551616^(o+k)*(y*b)+18446744073709551616^(o+k)*c=18446744073709551616^(o+k)*r+18446744073709551616^(o+k)*(18446744073709551616*c3):=by
  rw[<-Nat.mul_add, <-Nat.mul_add, <-Nat.mul_add, <-he,Nat.mul_comm b y]
 omega
def uG(z0 zs ds:List Nat)(o k c:Nat):Prop:=
 jl z0 zs o k/\ao zs/\c<=1/\af zs+18446744073709551616^(o+k)*c=af z0+18446744073709551616^o*af (ds.take k)
theorem It{z0:List Nat}(h:ao z0)(ds:List Nat)(o:Nat):uG z0 z0 ds o 0 0:=⟨⟨rfl,fun _ _=>rfl⟩,h,by omega,by simp[af]⟩
theorem Lt{z0 zs ds:List Nat}{o k c r b d c3:Nat}(h:uG z0 zs ds o k c)(hk:o+k<zs.length)(hr:r=zs.getD (o+k) 0)(hb:b=ds.getD k 0)
  (hd:d<18446744073709551616) (hc3:c3<=1) (he:d+18446744073709551616*c3=r+b+c):uG z0 (zs.set (o+k) d) ds o (k+1) c3:=by
 obtain⟨h1,h2,h3,h4⟩:=h
 refine⟨h1.set d,bG h2 hk hd,hc3,?_⟩
 have hs:=cj zs (o+k) d hk
 rw[<-hr]at hs
 rw[ay, <-hb,Nat.mul_add, <-Nat.mul_assoc (18446744073709551616^o) (18446744073709551616^k), <-Nat.pow_add, <-Nat.add_assoc o k 1,Nat.pow_succ,Nat.mul_assoc (18446744073709551616^(o+k))]
 have e:18446744073709551616^(o+k)*d+18446744073709551616^(o+k)*(18446744073709551616*c3)=18446744073709551616^(o+k)*r+18446744073709551616^(o+k)*b+18446744073709551616^(o+k)*c:=by
  rw[<-Nat.mul_add,he,Nat.mul_add,Nat.mul_add]
 omega
theorem zx{z0 zs ds:List Nat}{y o m c u D:Nat}(h:sL z0 zs ds y o m c)(hm:ds.length<=m)(hD:D=af ds)(hDm:D<=18446744073709551616^m)(h0:0<D)(hu:u=seg z0 o (m+1))(h1:u/D<=y)(hc:c<=z0.getD (o+m) 0):
  y=u/D/\seg zs o m=u%D:=by
 obtain⟨hs,hd,hcb,he⟩:=h
 rw[aK _ _ hm, <-hD]at he
 have e:=hs.seg he
 rw[jN]at hu
 have hlt:=seg_lt hd o m
 have hmod:=Nat.div_add_mod u D
 have hml:=Nat.mod_lt u h0
 have hy:y*D<=u:=by
  have:18446744073709551616^m*c<=18446744073709551616^m*z0.getD (o+m) 0:=Nat.mul_le_mul_left _ hc
  omega
 have hq:y<=u/D:=(Nat.le_div_iff_mul_le h0).2 hy
 have hyq:y=u/D:=by omega
 refine⟨hyq,?_⟩
 rw[<-hyq,Nat.mul_comm D y]at hmod
 have hct:c=z0.getD (o+m) 0:=by
  rcases Nat.lt_or_ge c (z0.getD (o+m) 0)with l|l
  ·have:18446744073709551616^m*(c+1)<=18446744073709551616^m*z0.getD (o+m) 0:=Nat.mul_le_mul_left _ l
   rw[Nat.mul_succ]at this
   omega
  ·omega
 rw[<-hct]at hu
 omega
theorem EP{z0 zs zs' ds:List Nat}{y o m c c' u D:Nat}(h:sL z0 zs ds y o m c)(hb:uG zs zs' ds o m c')(hm:ds.length<=m)(hD:D=af ds)(hDm:D<=18446744073709551616^m)(h0:0<D)(hu:u=seg z0 o (m+1))(h1:y<=u/D+1)(hc:z0.getD (o+m) 0<c):
  0<y/\y-1=u/D/\seg zs' o m=u%D:=by
 obtain⟨hs,hd,hcb,he⟩:=h
 obtain⟨hs',hd',hcb',he'⟩:=hb
 rw[aK _ _ hm, <-hD]at he he'
 have e:=hs.seg he
 have e':=hs'.seg (X:=0) (z0:=zs) (zs:=zs') (c:=0)
 have hlt:=seg_lt hd o m
 have hlt':=seg_lt hd' o m
 rw[jN]at hu
 have hmod:=Nat.div_add_mod u D
 have hml:=Nat.mod_lt u h0
 -- the row given back
 have g:seg zs' o m+18446744073709551616^m*c'=seg zs o m+D:=by
  have h1:=oC zs' o m
  have h2:=oC zs o m
  rw[take_same hs'.1 (fun j hj=>hs'.2 j (Or.inl hj)),ri hs'.1 (fun j hj=>hs'.2 j (Or.inr hj))]at h1
  rw[h1,h2,Nat.pow_add]at he'
  have e2:18446744073709551616^o*(seg zs' o m+18446744073709551616^m*af (zs.drop (o+m))+18446744073709551616^m*c')=18446744073709551616^o*(seg zs o m+18446744073709551616^m*af (zs.drop (o+m))+D):=by
   rw[Nat.mul_add _ _ (18446744073709551616^m*c'),Nat.mul_add _ _ D, <-Nat.mul_assoc (18446744073709551616^o) _ c']
   omega
  have:=Nat.eq_of_mul_eq_mul_left (bI o) e2
  omega
 clear e'
 have hgt:u<y*D:=by
  have:18446744073709551616^m*(z0.getD (o+m) 0+1)<=18446744073709551616^m*c:=Nat.mul_le_mul_left _ hc
  rw[Nat.mul_succ]at this
  omega
 have hq:u/D<y:=(Nat.div_lt_iff_lt_mul h0).2 hgt
 have hy:y=u/D+1:=by omega
 refine⟨Nat.lt_of_le_of_lt (Nat.zero_le _) hq,by rw[hy];rfl,?_⟩
 rw[hy,Nat.add_mul,Nat.one_mul,Nat.mul_comm (u/D) D]at e
 -- seg zs + D q + D = seg z0 + B^m c ; u = D q + r
 obtain⟨t,ht⟩:∃ t,c=z0.getD (o+m) 0+t:=⟨c-z0.getD (o+m) 0,by omega⟩
 rw[ht,Nat.mul_add]at e
 have e3:seg zs o m+D=u%D+18446744073709551616^m*t:=by omega
 have e4:seg zs' o m+18446744073709551616^m*c'=u%D+18446744073709551616^m*t:=by omega
 have hr:u%D<18446744073709551616^m:=by omega
 have f1:=congrArg (·%18446744073709551616^m) e4
 simp only[Nat.add_mul_mod_self_left]at f1
 rwa [Nat.mod_eq_of_lt hlt',Nat.mod_eq_of_lt hr]at f1
def Fp(u2 u1 u0 d1 d0:Nat):Nat:=if u2<d1\/(u2=d1/\u1<d0) then (u2*340282366920938463463374607431768211456+u1*18446744073709551616+u0)/(d1*18446744073709551616+d0) else 18446744073709551615
theorem GM{u2 u1 u0 d1 d0:Nat}(h1:u1<18446744073709551616)(h0:u0<18446744073709551616)(hd:d0<18446744073709551616):Fp u2 u1 u0 d1 d0<18446744073709551616:=by
 unfold Fp
 split
 ·rename_i h
  refine(Nat.div_lt_iff_lt_mul (by omega)).2 ?_
  omega
 ·omega
theorem Oi{zs ds:List Nat}{o m D u:Nat}(dz:ao zs)(dd:ao ds)(hm:ds.length=m+2)(hD:D=af ds)(ht:9223372036854775808<=ds.getD (m+1) 0)(hu:u=seg zs o (m+2+1))(hlt:u<D*18446744073709551616):
  u/D<=Fp (zs.getD (o+m+2) 0) (zs.getD (o+m+1) 0) (zs.getD (o+m) 0) (ds.getD (m+1) 0) (ds.getD m 0)/\Fp (zs.getD (o+m+2) 0) (zs.getD (o+m+1) 0) (zs.getD (o+m) 0) (ds.getD (m+1) 0) (ds.getD m 0)<=u/D+1:=by
 have e1:=Em zs o m
 have e2:=tV ds 0 m
 rw[xu ds (m+2) (by omega), <-hD]at e2
 rw[show m+3=m+2+1 from rfl, <-hu]at e1
 simp only[Nat.zero_add]at e2
 have l1:=seg_lt dz o m
 have l2:=seg_lt dd 0 m
 have d0l:=dd m
 have d1l:=dd (m+1)
 have z0l:=dz (o+m)
 have z1l:=dz (o+m+1)
 have z2l:=dz (o+m+2)
 generalize zs.getD (o+m+2) 0=u2 at *
 generalize zs.getD (o+m+1) 0=u1 at *
 generalize zs.getD (o+m) 0=u0 at *
 generalize ds.getD (m+1) 0=d1 at *
 generalize ds.getD m 0=d0 at *
 generalize seg zs o m=ul at *
 generalize seg ds 0 m=dl at *
 have hX:=bI m
 generalize 18446744073709551616^m=X at *
 have hg:=GM (u2:=u2) (d1:=d1) z1l z0l d0l
 obtain⟨vh,hvh⟩:∃ vh,vh=d1*18446744073709551616+d0:=⟨_,rfl⟩
 obtain⟨uh,huh⟩:∃ uh,uh=u2*340282366920938463463374607431768211456+u1*18446744073709551616+u0:=⟨_,rfl⟩
 rw[<-hvh]at e2
 rw[<-huh]at e1
 have v0:18446744073709551616<=vh:=by omega
 -- the leading words of u are at most those of B D
 have hle:uh<(vh+1)*18446744073709551616:=by
  have a1:uh*X<(vh+1)*X*18446744073709551616:=by
   have:D<(vh+1)*X:=by rw[Nat.add_mul,Nat.one_mul];omega
   have:D*18446744073709551616<=(vh+1)*X*18446744073709551616:=Nat.mul_le_mul_right _ (by omega)
   omega
  rw[Nat.mul_assoc,Nat.mul_comm X, <-Nat.mul_assoc]at a1
  exact Nat.lt_of_mul_lt_mul_right a1
 by_cases hc:u2<d1\/(u2=d1/\u1<d0)
 ·have hge:Fp u2 u1 u0 d1 d0=uh/vh:=by unfold Fp;rw[if_pos hc, <-huh, <-hvh]
  rw[hge]at hg ⊢
  exact⟨Pm e1 l1 e2 (by omega),Gk e1 e2 l2 (Nat.div_mul_le_self uh vh) hg v0⟩
 ·have hge:Fp u2 u1 u0 d1 d0=18446744073709551615:=by unfold Fp;rw[if_neg hc]
  rw[hge]
  have a2:=Ku hlt
  exact⟨by omega,Gk e1 e2 l2 (by omega) (by omega) v0⟩
def yf(z0 zs qs:List Nat)(m k D:Nat):Prop:=
 (∀ j,j<k->zs.getD j 0=z0.getD j 0)/\seg zs k m<D/\af (z0.drop k)=af (qs.drop k)*D+seg zs k m
theorem IE{z0 qs:List Nat}{m k D:Nat}(hz:z0.length=k+m)(hq:qs.length=k)(h:af (z0.drop k)<D):yf z0 z0 qs m k D:=by
 have e:seg z0 k m=af (z0.drop k):=by unfold seg;rw[aK _ _ (by simp;omega)]
 refine⟨fun _ _=>rfl,by rw[e];exact h,?_⟩
 have e2:qs.drop k=[]:=List.drop_eq_nil_of_le (by omega)
 rw[e2,e];simp[af]
theorem IC{z0 zs qs:List Nat}{m k D:Nat}(h:yf z0 zs qs m (k+1) D)(hk:k<zs.length)(dz:ao zs):seg zs k (m+1)<D*18446744073709551616:=by
 rw[xt zs k m hk]
 have:=dz k
 have h2:=h.2.1
 have:18446744073709551616*(seg zs (k+1) m+1)<=18446744073709551616*D:=Nat.mul_le_mul_left _ h2
 omega
theorem drop_set_self{qs:List Nat}{k q:Nat}(h:k<qs.length):(qs.set k q).drop k=q :: qs.drop (k+1):=by
 rw[List.drop_eq_getElem_cons (by simpa using h)]
 congr 1
 ·simp
 ·rw[List.drop_set];simp
theorem Ly{z0 zs zs' qs:List Nat}{m k D q:Nat}(h:yf z0 zs qs m (k+1) D)(hl:zs.length=z0.length)(hk:k<zs.length)(hkq:k<qs.length)(h0:0<D)(hs:∀ j,j<k->zs'.getD j 0=zs.getD j 0)
  (hq:q=seg zs k (m+1)/D) (hr:seg zs' k m=seg zs k (m+1)%D):yf z0 zs' (qs.set k q) m k D:=by
 obtain⟨h1,h2,h3⟩:=h
 refine⟨fun j hj=>(hs j hj).trans (h1 j (by omega)),by rw[hr];exact Nat.mod_lt _ h0,?_⟩
 rw[drop_set_self hkq,af,List.drop_eq_getElem_cons (by omega),af,h3]
 have e:=h1 k (by omega)
 rw[getD_lt hk,getD_lt (by omega)]at e
 have hmod:=Nat.div_add_mod (seg zs k (m+1)) D
 rw[<-hq, <-hr,xt zs k m hk,getD_lt hk,e]at hmod
 generalize seg zs (k+1) m=s at *
 generalize af (qs.drop (k+1))=Q at *
 rw[Nat.add_mul,Nat.mul_add,Nat.mul_comm q D,Nat.mul_assoc]
 omega
theorem OI{z0 zs qs:List Nat}{m D:Nat}(h:yf z0 zs qs m 0 D):af qs=af z0/D/\af (zs.take m)=af z0%D:=by
 obtain⟨_,h2,h3⟩:=h
 unfold seg at h2 h3
 simp only[List.drop_zero]at h2 h3
 rw[h3]
 constructor
 ·rw[Nat.mul_comm,Nat.mul_add_div (by omega),Nat.div_eq_of_lt h2];rfl
 ·rw[Nat.mul_comm,Nat.mul_add_mod,Nat.mod_eq_of_lt h2]
theorem ID{z0 bs:List Nat}{n m s A:Nat}(cb:cn bs)(hm:bs.length=m+1)(hA:A<18446744073709551616^n)(hz:af z0=A*2^s)(hmn:m+1<=n):af (z0.drop (n-m))<af bs*2^s:=by
 have e1:=ay bs m
 rw[show m+1=bs.length from hm.symm,List.take_length]at e1
 have h1:=bq z0 (n-m)
 have hp:=bI (n-m)
 have hX:=bI m
 have e3:18446744073709551616^n=18446744073709551616^(n-m)*18446744073709551616^m:=by rw[<-Nat.pow_add];congr 1;omega
 rw[hz]at h1
 have h2:A*2^s<18446744073709551616^(n-m)*(18446744073709551616^m*2^s):=by
  rw[<-Nat.mul_assoc, <-e3];exact Nat.mul_lt_mul_of_pos_right hA (Nat.two_pow_pos s)
 have h3:18446744073709551616^(n-m)*af (z0.drop (n-m))<18446744073709551616^(n-m)*(18446744073709551616^m*2^s):=by omega
 have h4:=Nat.lt_of_mul_lt_mul_left h3
 have htop:=cb.2 (by omega)
 rw[show bs.length-1=m by omega]at htop
 have h5:18446744073709551616^m*2^s<=af bs*2^s:=by
  refine Nat.mul_le_mul_right _ ?_
  have:18446744073709551616^m*1<=18446744073709551616^m*bs.getD m 0:=Nat.mul_le_mul_left _ htop
  omega
 omega
end Go.Proofs.YtgcnhfgpflncaaaGreatDoor
