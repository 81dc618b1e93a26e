/- RootRoots: what the law's walk comes to, once the code is what the document asks. Written by gen_root.py. -/
import Derived.Test.YtgcnhfgpflncaaaGreatDoorB40
import Derived.Test.YtgcnhfgpflncaaaGreatDoorB27
import Derived.Test.YtgcnhfgpflncaaaGreatDoorB12
import Derived.Test.YtgcnhfgpflncaaaGreatDoorB14
namespace Go.Proofs.YtgcnhfgpflncaaaGreatDoor
open Go.RowKit
set_option maxRecDepth 100000 in
set_option maxHeartbeats 12800000 in
theorem qK(SN:fS)(SS:fU)(SR:lH)(SX:oK)(T:Tab)(ga:Option Addr)(ba oa ca la:Nat)(xs:List Nat)(w:World)(hxs:xs.length=la)(HrA:Rep w ga ba oa ca xs)(kxs:∀ j,xs.getD j 0<18446744073709551616)(z:Int)(hz1: -9223372036854775808<=z)(hz2:z<=9223372036854775807)(hT:TB w):
  Calls Tryz.prog 5 #[T.val,.slice ga la ca,.int .i64 z] w fun e w'=>e=.returned (.bool true)/\Below w.heap.size w w':=by
 obtain⟨n,hca⟩:∃ k,k=min la 6:=⟨_,rfl⟩
 have Ca:Hid (∀ w,Calls Tryz.prog 8 #[.slice ga la ca,.int .i64 6] w fun e w'=>e=.returned (.slice ga n ca)/\w'=w):=fun w=>lT w ga la ca 6 n (by have:=HrA.room;omega) (by omega) hca
 obtain⟨hla,rA⟩:=lV HrA 6 n (by rw[hxs];exact hca)
 have dx:ao (xs.take n):=gB kxs n
 have hma:n<=6:=by omega
 clear hca HrA kxs hxs
 generalize xs.take n=us at *
 obtain⟨A,hva⟩:∃ k,k=af us:=⟨_,rfl⟩
 have LA:Hid (A<18446744073709551616^6):=by show _<_;rw[hva];exact fB (ak dx) (by omega)
 have BA:Hid (A<4294967296^12):=by have:=ae LA;rw[lF]at this;exact this
 have CFa:=hide (fun W (r:Rep W ga ba oa ca us)=>fN W ga ba oa ca n A us hla (by omega) r dx hva)
 have wlA:wl A<=6:=by rw[hva];exact Nat.le_trans (dq dx) (by omega)
 have HLa:=hide hla
 have HEa:=hide hva
 clear hva hla
 have bl:=Below.refl w.heap.size w
 have hcase:(∃ k:Nat,z=(k:Int)/\1<=k/\k<=64)\/z<1\/64<z:=by
  by_cases h:1<=z/\z<=64
  ·exact Or.inl ⟨z.toNat,by omega,by omega,by omega⟩
  ·exact Or.inr (by omega)
 rcases hcase with⟨k,rfl,k1,k2⟩|hz
 ·obtain⟨S,hS⟩:=fg (k:=k) (by omega) A
  have HSb:Hid (S<18446744073709551616^6):=Nat.lt_of_le_of_lt (pR (by omega) hS) (ae LA)
  have CRt:=hide (fun W v (h:aY W v A)=>nK W v A k S 12 (by omega) (by omega) (ae BA) (by omega) h hS)
  have HSS:=hide hS
  have z1:decide ((k:Int)<1)=false:=decide_eq_false (by omega)
  have z2:decide ((64:Int)<(k:Int))=false:=decide_eq_false (by omega)
  clear hS hz1 hz2
  have b0:Below w.heap.size w (w.alloc (.cells #[.int .i64 T.b,.int .i64 T.t,.int .i64 T.n,.int .i64 T.d,.int .i64 T.r,.int .i64 T.l,.int .i64 T.x,.int .i64 T.p,.int .i64 T.k,.int .i64 T.s,.int .i64 T.e] 23)):=(Below.refl _ _).alloc (Nat.le_refl _) _
  have tA:=dK w T 23
  obtain⟨W1,hW1⟩:∃ W,w.alloc (.cells #[.int .i64 T.b,.int .i64 T.t,.int .i64 T.n,.int .i64 T.d,.int .i64 T.r,.int .i64 T.l,.int .i64 T.x,.int .i64 T.p,.int .i64 T.k,.int .i64 T.s,.int .i64 T.e] 23)=W:=⟨_,rfl⟩
  rw[hW1]at b0 tA
  obtain⟨P0,hP0⟩:∃ P,w.heap.size=P:=⟨_,rfl⟩
  rw[hP0]at tA
  have lP:P0<W1.heap.size:=tA.lt
  have HT:=hide hT
  clear hT
  have rA:=rA.next b0
  have bl:=ag bl b0
  clear b0
  have CN:=hide (fun W=>SN T W)
  have CK:=hide (fun W h=>bM SN SS W h)
  have HR:=hide SR
  have HX:=hide SX
  clear SN SS SR SX
  unfold Tab.val at CN ⊢
  go_enter Tryz.func5,Tryz.ntmps5
  go_wp2_with fail
  refine(ae Ca _).mono ?_
  rintro e wca ⟨rfl,rfl⟩
  clear Ca
  have tX0:=tA
  obtain⟨p0,p1,p2,p3,p4,p5,p6,p7,p8,p9,p10⟩:=tX0
  go_wp2_with fail
  refine(ae CN _).mono ?_
  rintro e w1 ⟨gw,gv,gr,gd,gm,gt,gk,ge,g,rfl,E,hn,b⟩
  clear p0 p1 p2 p3 p4 p5 p6 p7 p8 p9 p10
  have hg:w.heap.size<=g:=by omega
  clear hn tA lP CN
  have rA:=rA.next b
  have bl:=ag bl b
  clear b
  have lg:=E.met.lt
  obtain⟨S1,hS1⟩:∃ S1,S1=w1.heap.size:=⟨_,rfl⟩
  rw[<-hS1]at lg
  have sz:S1<=w1.heap.size:=Nat.le_of_eq hS1
  clear hS1
  have CR:=hide (ae HR _ gw gv gr gd gm gt gk ge g 0 0 0 T _ A S k E ((ae HT).next bl) (by decide) (by decide) (by decide) (by decide) (fb rA dx (ae HLa) (ae HEa) (by omega)) k1 k2 (ae HSS) (by omega))
  go_wp2_with fail
  refine(ae CR).mono ?_
  rintro e w2 ⟨q,s',m',rfl,nq,E2,_,o⟩
  clear CR
  have nq:=nq.mono sz
  have rA:=E.rep o rA
  have sz:=Nat.le_trans sz o.size
  have bl:=bl.trans (o.below (B:=w.heap.size) bl.size (fun k hk=>by rw[hk];exact hg))
  have E:=E2
  clear o E2
  clear E
  obtain⟨qa,ql,qc,rfl⟩:=nq.shape
  go_wp2_with fail
  refine(ae CFa _ rA).mono ?_
  rintro e w3 ⟨v1,rfl,n1,b⟩
  have rA:=rA.next b
  have nq:=nq.next b
  have sz:=Nat.le_trans sz b.size
  have bl:=ag bl b
  clear b
  go_wp2_with fail
  refine(ae CRt _ _ n1).mono ?_
  rintro e w4 ⟨v2,rfl,n2,b⟩
  clear n1
  have rA:=rA.next b
  have nq:=nq.next b
  have sz:=Nat.le_trans sz b.size
  have bl:=ag bl b
  clear b
  go_wp2_with fail
  refine(mz _ _ _ _ _ 6 (by omega) (ae HSb) n2 nq).mono ?_
  rintro e w5 ⟨rfl,b⟩
  clear n2 nq
  have rA:=rA.next b
  have sz:=Nat.le_trans sz b.size
  have bl:=ag bl b
  clear b
  go_wp2_with fail
  refine(ae CK _ ((ae HT).next bl)).mono ?_
  rintro e w6 ⟨rfl,b⟩
  have bl:=ag bl b
  clear b
  go_wp2
  go_ret
  exact⟨rfl,bl⟩
 ·rcases hz with z1|z2
  ·have zz:z<1\/64<z:=Or.inl z1
   have z3:decide (z<1)=true:=decide_eq_true z1
   clear z1
   have b0:Below w.heap.size w (w.alloc (.cells #[.int .i64 T.b,.int .i64 T.t,.int .i64 T.n,.int .i64 T.d,.int .i64 T.r,.int .i64 T.l,.int .i64 T.x,.int .i64 T.p,.int .i64 T.k,.int .i64 T.s,.int .i64 T.e] 23)):=(Below.refl _ _).alloc (Nat.le_refl _) _
   have tA:=dK w T 23
   obtain⟨W1,hW1⟩:∃ W,w.alloc (.cells #[.int .i64 T.b,.int .i64 T.t,.int .i64 T.n,.int .i64 T.d,.int .i64 T.r,.int .i64 T.l,.int .i64 T.x,.int .i64 T.p,.int .i64 T.k,.int .i64 T.s,.int .i64 T.e] 23)=W:=⟨_,rfl⟩
   rw[hW1]at b0 tA
   obtain⟨P0,hP0⟩:∃ P,w.heap.size=P:=⟨_,rfl⟩
   rw[hP0]at tA
   have lP:P0<W1.heap.size:=tA.lt
   have HT:=hide hT
   clear hT
   have rA:=rA.next b0
   have bl:=ag bl b0
   clear b0
   have CN:=hide (fun W=>SN T W)
   have CK:=hide (fun W h=>bM SN SS W h)
   have HR:=hide SR
   have HX:=hide SX
   clear SN SS SR SX
   unfold Tab.val at CN ⊢
   go_enter Tryz.func5,Tryz.ntmps5
   go_wp2_with fail
   refine(ae Ca _).mono ?_
   rintro e wca ⟨rfl,rfl⟩
   clear Ca
   have tX0:=tA
   obtain⟨p0,p1,p2,p3,p4,p5,p6,p7,p8,p9,p10⟩:=tX0
   go_wp2_with fail
   refine(ae CN _).mono ?_
   rintro e w1 ⟨gw,gv,gr,gd,gm,gt,gk,ge,g,rfl,E,hn,b⟩
   clear p0 p1 p2 p3 p4 p5 p6 p7 p8 p9 p10
   have hg:w.heap.size<=g:=by omega
   clear hn tA lP CN
   have rA:=rA.next b
   have bl:=ag bl b
   clear b
   have CR:=hide (ae HX _ gw gv gr gd gm gt gk ge g 0 0 0 T _ A z E (fb rA dx (ae HLa) (ae HEa) (by omega)) zz)
   clear E zz
   go_wp2_with fail
   refine(ae CR).mono ?_
   rintro e w2 ⟨qa,qc,rfl,b⟩
   clear CR
   have rA:=rA.next b
   have bl:=ag bl b
   clear b
   go_wp2_with fail
   refine(ae CK _ ((ae HT).next bl)).mono ?_
   rintro e w3 ⟨rfl,b⟩
   have bl:=ag bl b
   clear b
   go_wp2
   go_ret
   exact⟨rfl,bl⟩
  ·have zz:z<1\/64<z:=Or.inr z2
   have z3:decide (z<1)=false:=decide_eq_false (by omega)
   have z4:decide ((64:Int)<z)=true:=decide_eq_true z2
   clear z2
   have b0:Below w.heap.size w (w.alloc (.cells #[.int .i64 T.b,.int .i64 T.t,.int .i64 T.n,.int .i64 T.d,.int .i64 T.r,.int .i64 T.l,.int .i64 T.x,.int .i64 T.p,.int .i64 T.k,.int .i64 T.s,.int .i64 T.e] 23)):=(Below.refl _ _).alloc (Nat.le_refl _) _
   have tA:=dK w T 23
   obtain⟨W1,hW1⟩:∃ W,w.alloc (.cells #[.int .i64 T.b,.int .i64 T.t,.int .i64 T.n,.int .i64 T.d,.int .i64 T.r,.int .i64 T.l,.int .i64 T.x,.int .i64 T.p,.int .i64 T.k,.int .i64 T.s,.int .i64 T.e] 23)=W:=⟨_,rfl⟩
   rw[hW1]at b0 tA
   obtain⟨P0,hP0⟩:∃ P,w.heap.size=P:=⟨_,rfl⟩
   rw[hP0]at tA
   have lP:P0<W1.heap.size:=tA.lt
   have HT:=hide hT
   clear hT
   have rA:=rA.next b0
   have bl:=ag bl b0
   clear b0
   have CN:=hide (fun W=>SN T W)
   have CK:=hide (fun W h=>bM SN SS W h)
   have HR:=hide SR
   have HX:=hide SX
   clear SN SS SR SX
   unfold Tab.val at CN ⊢
   go_enter Tryz.func5,Tryz.ntmps5
   go_wp2_with fail
   refine(ae Ca _).mono ?_
   rintro e wca ⟨rfl,rfl⟩
   clear Ca
   have tX0:=tA
   obtain⟨p0,p1,p2,p3,p4,p5,p6,p7,p8,p9,p10⟩:=tX0
   go_wp2_with fail
   refine(ae CN _).mono ?_
   rintro e w1 ⟨gw,gv,gr,gd,gm,gt,gk,ge,g,rfl,E,hn,b⟩
   clear p0 p1 p2 p3 p4 p5 p6 p7 p8 p9 p10
   have hg:w.heap.size<=g:=by omega
   clear hn tA lP CN
   have rA:=rA.next b
   have bl:=ag bl b
   clear b
   have CR:=hide (ae HX _ gw gv gr gd gm gt gk ge g 0 0 0 T _ A z E (fb rA dx (ae HLa) (ae HEa) (by omega)) zz)
   clear E zz
   go_wp2_with fail
   refine(ae CR).mono ?_
   rintro e w2 ⟨qa,qc,rfl,b⟩
   clear CR
   have rA:=rA.next b
   have bl:=ag bl b
   clear b
   go_wp2_with fail
   refine(ae CK _ ((ae HT).next bl)).mono ?_
   rintro e w3 ⟨rfl,b⟩
   have bl:=ag bl b
   clear b
   go_wp2
   go_ret
   exact⟨rfl,bl⟩
end Go.Proofs.YtgcnhfgpflncaaaGreatDoor
