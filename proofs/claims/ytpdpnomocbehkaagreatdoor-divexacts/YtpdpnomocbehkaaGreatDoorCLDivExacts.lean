/- DivExacts: what the law's walk comes to, once the code is what the document asks. Written by gen_div.py. -/
import Derived.Test.YtpdpnomocbehkaaGreatDoorB42
import Derived.Test.YtpdpnomocbehkaaGreatDoorB23
import Derived.Test.YtpdpnomocbehkaaGreatDoorB9
import Derived.Test.YtpdpnomocbehkaaGreatDoorB13
import Derived.Test.YtpdpnomocbehkaaGreatDoorB8
namespace Go.Proofs.YtpdpnomocbehkaaGreatDoor
open Go.RowKit
set_option maxRecDepth 100000 in
set_option maxHeartbeats 12800000 in
theorem qU(SN:fw)(SD:df)(SE:mY)(SX:nZ)(T:Tab)(ga:Option Addr)(ba oa ca la:Nat)(xs:List Nat)(gb:Option Addr)(bb ob cb lb:Nat)(ys:List Nat)(w:World)(hxs:xs.length=la)(HrA:Rep w ga ba oa ca xs)(kxs:∀ j,xs.getD j 0<18446744073709551616)(hys:ys.length=lb)(HrB:Rep w gb bb ob cb ys)(kys:∀ j,ys.getD j 0<18446744073709551616)(ev:Bool)(hT:TB w):
  Calls Tryz.prog 6 #[T.val,.slice ga la ca,.slice gb lb cb,.bool ev] w fun e w'=>e=.returned (.bool true)/\Below w.heap.size w w':=by
 obtain⟨n,hca⟩:∃ k,k=min la 30:=⟨_,rfl⟩
 have Ca:Hid (∀ w,Calls Tryz.prog 9 #[.slice ga la ca,.int .i64 30] w fun e w'=>e=.returned (.slice ga n ca)/\w'=w):=fun w=>dG w ga la ca 30 n (by have:=HrA.room;omega) (by omega) hca
 obtain⟨hla,rA⟩:=dH HrA 30 n (by rw[hxs];exact hca)
 have dx:ao (xs.take n):=bq kxs n
 have hma:n<=30:=by omega
 clear hca HrA kxs hxs
 generalize xs.take n=us at *
 obtain⟨m,hcb⟩:∃ k,k=min lb 20:=⟨_,rfl⟩
 have Cb:Hid (∀ w,Calls Tryz.prog 9 #[.slice gb lb cb,.int .i64 20] w fun e w'=>e=.returned (.slice gb m cb)/\w'=w):=fun w=>dG w gb lb cb 20 m (by have:=HrB.room;omega) (by omega) hcb
 obtain⟨hlb,rB⟩:=dH HrB 20 m (by rw[hys];exact hcb)
 have dy:ao (ys.take m):=bq kys m
 have hmb:m<=20:=by omega
 clear hcb HrB kys hys
 generalize ys.take m=vs at *
 obtain⟨A,hva⟩:∃ k,k=af us:=⟨_,rfl⟩
 have LA:Hid (A<18446744073709551616^30):=by show _<_;rw[hva];exact aP (ak dx) (by omega)
 have BA:Hid (A<4294967296^60):=by have:=ae LA;rw[fo]at this;exact this
 have CFa:=hide (fun W (r:Rep W ga ba oa ca us)=>bR W ga ba oa ca n A us hla (by omega) r dx hva)
 have CWa:=hide (fun W (r:Rep W ga ba oa ca us)=>bo W ga ba oa ca n A us hla (by omega) r dx hva)
 have wlA:wl A<=30:=by rw[hva];exact Nat.le_trans (aW dx) (by omega)
 have HLa:=hide hla
 have HEa:=hide hva
 clear hva hla
 obtain⟨D,hvb⟩:∃ k,k=af vs:=⟨_,rfl⟩
 have LD:Hid (D<18446744073709551616^20):=by show _<_;rw[hvb];exact aP (ak dy) (by omega)
 have BD:Hid (D<4294967296^40):=by have:=ae LD;rw[fo]at this;exact this
 have CFb:=hide (fun W (r:Rep W gb bb ob cb vs)=>bR W gb bb ob cb m D vs hlb (by omega) r dy hvb)
 have CWb:=hide (fun W (r:Rep W gb bb ob cb vs)=>bo W gb bb ob cb m D vs hlb (by omega) r dy hvb)
 have wlD:wl D<=20:=by rw[hvb];exact Nat.le_trans (aW dy) (by omega)
 have HLb:=hide hlb
 have HEb:=hide hvb
 clear hvb hlb
 have bl:=Below.refl w.heap.size w
 cases ev
 case false=>
  obtain⟨A2,hA2⟩:∃ A2,A2=A:=⟨_,rfl⟩
  have LA2:Hid (A2<18446744073709551616^50):=by
   show _<_
   rw[hA2]
   exact aP (ae LA) (by omega)
  have BA2:Hid (A2<4294967296^100):=by have:=ae LA2;rw[fo]at this;exact this
  have BD2:Hid (D<4294967296^100):=Nat.lt_of_lt_of_le (ae BD) (Nat.pow_le_pow_right (by omega) (by omega))
  have wlA2:wl A2<=50:=cI _ _ (ae LA2)
  have HA2:=hide hA2
  rcases Nat.eq_zero_or_pos D with hD0|h0
  case inl=>
   clear hA2
   subst hD0
   rw[aZ]at CWb
   have b0:Below w.heap.size w (w.alloc (.cells #[.int .i64 T.b,.int .i64 T.t,.int .i64 T.n,.int .i64 T.d,.int .i64 T.r,.int .i64 T.l,.int .i64 T.x,.int .i64 T.p,.int .i64 T.k,.int .i64 T.s,.int .i64 T.e] 23)):=(Below.refl _ _).alloc (Nat.le_refl _) _
   have tA:=bg w T 23
   obtain⟨W1,hW1⟩:∃ W,w.alloc (.cells #[.int .i64 T.b,.int .i64 T.t,.int .i64 T.n,.int .i64 T.d,.int .i64 T.r,.int .i64 T.l,.int .i64 T.x,.int .i64 T.p,.int .i64 T.k,.int .i64 T.s,.int .i64 T.e] 23)=W:=⟨_,rfl⟩
   rw[hW1]at b0 tA
   obtain⟨P0,hP0⟩:∃ P,w.heap.size=P:=⟨_,rfl⟩
   rw[hP0]at tA
   have lP:P0<W1.heap.size:=tA.lt
   have HT:=hide hT
   clear hT
   have rA:=rA.next b0
   have rB:=rB.next b0
   have bl:=ag bl b0
   clear b0
   have CN:=hide (fun W=>SN T W)
   have CK:=hide (fun W h=>aM SN SD W h)
   have HE:=hide SE
   have HX:=hide SX
   have HD:=hide SD
   clear SN SE SX SD
   unfold Tab.val at CN ⊢
   go_enter Tryz.func6,Tryz.ntmps6
   go_wp2_with fail
   refine(ae Ca _).mono ?_
   rintro e wca ⟨rfl,rfl⟩
   clear Ca
   go_wp2_with fail
   refine(ae Cb _).mono ?_
   rintro e wcb ⟨rfl,rfl⟩
   clear Cb
   have tX0:=tA
   obtain⟨p0,p1,p2,p3,p4,p5,p6,p7,p8,p9,p10⟩:=tX0
   go_wp2_with fail
   refine(ae CN _).mono ?_
   rintro e w1 ⟨gv,gr,gd,gm,gt,gk,ge,g,rfl,E,hn,b⟩
   clear p0 p1 p2 p3 p4 p5 p6 p7 p8 p9 p10
   have hg:w.heap.size<=g:=by omega
   clear hn tA lP CN
   have rA:=rA.next b
   have rB:=rB.next b
   have bl:=ag bl b
   clear b
   have lg:=E.met.lt
   obtain⟨S1,hS1⟩:∃ S1,S1=w1.heap.size:=⟨_,rfl⟩
   rw[<-hS1]at lg
   have sz:S1<=w1.heap.size:=Nat.le_of_eq hS1
   clear hS1
   have ia:=(aF rA dx (ae HLa) (ae HEa) (by omega))
   rw[<-ae HA2]at ia
   have CR:=hide (ae HX _ gv gr gd gm gt gk ge g 0 0 0 T _ _ A2 0 2 E ((ae HT).next bl) (by decide) (by decide) (by decide) (by decide) ia (aF rB dy (ae HLb) (ae HEb) (by omega)) (by omega) (by omega) (Or.inl ⟨rfl,rfl⟩))
   clear ia
   go_wp2_with fail
   refine(ae CR).mono ?_
   rintro e w2 ⟨qa,qc,s1,m1,rfl,E2,_,o⟩
   clear CR
   have rA:=E.rep o rA
   have rB:=E.rep o rB
   have sz:=Nat.le_trans sz o.size
   have bl:=bl.trans (o.below (B:=w.heap.size) bl.size (fun k hk=>by rw[hk];exact hg))
   have E:=E2
   clear o E2
   clear E
   go_wp2_with fail
   refine(ae CWb _ rB).mono ?_
   rintro e wb ⟨rfl,rfl⟩
   go_wp2_with fail
   refine(ae CK _ ((ae HT).next bl)).mono ?_
   rintro e w3 ⟨rfl,b⟩
   have bl:=ag bl b
   clear b
   go_wp2
   go_ret
   exact⟨rfl,bl⟩
  case inr=>
   have hwD:wl D≠0:=fun e=>by have:=ay.1 e;omega
   have hwI:((wl D:Int)==0)=false:=by simp only[beq_eq_false_iff_ne];omega
   obtain⟨Q,hQ⟩:∃ Q,Q=A2/D:=⟨_,rfl⟩
   obtain⟨R,hR⟩:∃ R,R=A2%D:=⟨_,rfl⟩
   have HQb:Hid (Q<18446744073709551616^50):=by show _<_;rw[hQ];exact Nat.lt_of_le_of_lt (Nat.div_le_self _ _) (ae LA2)
   have CM:Hid (∀ w u v,bu w u A2->bu w v D->Calls Tryz.prog 15 #[u,v] w fun e w'=>∃ q r,e=.returned (.tuple #[q,r])/\bu w' q Q/\bu w' r R/\Below w.heap.size w w'):=fun w u v h1 h2=>by rw[hQ,hR];exact ji w u v A2 D 100 (by omega) (ae BA2) (ae BD2) h0 h1 h2
   have HQ:=hide hQ
   have HR:=hide hR
   have H0:=hide h0
   clear hQ hR hA2
   by_cases hR0:R=0
   ·have HR0:=hide hR0
    subst hR0
    have b0:Below w.heap.size w (w.alloc (.cells #[.int .i64 T.b,.int .i64 T.t,.int .i64 T.n,.int .i64 T.d,.int .i64 T.r,.int .i64 T.l,.int .i64 T.x,.int .i64 T.p,.int .i64 T.k,.int .i64 T.s,.int .i64 T.e] 23)):=(Below.refl _ _).alloc (Nat.le_refl _) _
    have tA:=bg w T 23
    obtain⟨W1,hW1⟩:∃ W,w.alloc (.cells #[.int .i64 T.b,.int .i64 T.t,.int .i64 T.n,.int .i64 T.d,.int .i64 T.r,.int .i64 T.l,.int .i64 T.x,.int .i64 T.p,.int .i64 T.k,.int .i64 T.s,.int .i64 T.e] 23)=W:=⟨_,rfl⟩
    rw[hW1]at b0 tA
    obtain⟨P0,hP0⟩:∃ P,w.heap.size=P:=⟨_,rfl⟩
    rw[hP0]at tA
    have lP:P0<W1.heap.size:=tA.lt
    have HT:=hide hT
    clear hT
    have rA:=rA.next b0
    have rB:=rB.next b0
    have bl:=ag bl b0
    clear b0
    have CN:=hide (fun W=>SN T W)
    have CK:=hide (fun W h=>aM SN SD W h)
    have HE:=hide SE
    have HX:=hide SX
    have HD:=hide SD
    clear SN SE SX SD
    unfold Tab.val at CN ⊢
    go_enter Tryz.func6,Tryz.ntmps6
    go_wp2_with fail
    refine(ae Ca _).mono ?_
    rintro e wca ⟨rfl,rfl⟩
    clear Ca
    go_wp2_with fail
    refine(ae Cb _).mono ?_
    rintro e wcb ⟨rfl,rfl⟩
    clear Cb
    have tX0:=tA
    obtain⟨p0,p1,p2,p3,p4,p5,p6,p7,p8,p9,p10⟩:=tX0
    go_wp2_with fail
    refine(ae CN _).mono ?_
    rintro e w1 ⟨gv,gr,gd,gm,gt,gk,ge,g,rfl,E,hn,b⟩
    clear p0 p1 p2 p3 p4 p5 p6 p7 p8 p9 p10
    have hg:w.heap.size<=g:=by omega
    clear hn tA lP CN
    have rA:=rA.next b
    have rB:=rB.next b
    have bl:=ag bl b
    clear b
    have lg:=E.met.lt
    obtain⟨S1,hS1⟩:∃ S1,S1=w1.heap.size:=⟨_,rfl⟩
    rw[<-hS1]at lg
    have sz:S1<=w1.heap.size:=Nat.le_of_eq hS1
    clear hS1
    have ia:=(aF rA dx (ae HLa) (ae HEa) (by omega))
    rw[<-ae HA2]at ia
    have CR:=hide (ae HE _ gv gr gd gm gt gk ge g 0 0 0 T _ _ A2 D E ((ae HT).next bl) (by decide) (by decide) (by decide) (by decide) ia (aF rB dy (ae HLb) (ae HEb) (by omega)) (ae H0) (by omega) (by omega) (ae HR).symm)
    rw[<-ae HQ]at CR
    go_wp2_with fail
    refine(ae CR).mono ?_
    rintro e w2 ⟨q,gq,s1,m1,rfl,nq,hq4,E2,_,o⟩
    clear CR
    have nq:=nq.toW.mono (Nat.le_trans sz hq4)
    clear hq4
    have rA:=E.rep o rA
    have rB:=E.rep o rB
    have ia:=E.inM o ia
    have sz:=Nat.le_trans sz o.size
    have bl:=bl.trans (o.below (B:=w.heap.size) bl.size (fun k hk=>by rw[hk];exact hg))
    have E:=E2
    clear o E2
    clear E
    obtain⟨qa,ql,qc,rfl⟩:=nq.shape
    go_wp2_with fail
    refine(ae CWb _ rB).mono ?_
    rintro e wb ⟨rfl,rfl⟩
    go_wp2_with fail
    refine(pQ _ _ _ ia).mono ?_
    rintro e w3 ⟨v4,rfl,n4,b⟩
    clear ia
    have rA:=rA.next b
    have rB:=rB.next b
    have nq:=nq.next b
    have sz:=Nat.le_trans sz b.size
    have bl:=ag bl b
    clear b
    go_wp2_with fail
    refine(ae CFb _ rB).mono ?_
    rintro e w4 ⟨v5,rfl,n5,b⟩
    have rA:=rA.next b
    have rB:=rB.next b
    have nq:=nq.next b
    have n4:=n4.next b
    have sz:=Nat.le_trans sz b.size
    have bl:=ag bl b
    clear b
    go_wp2_with fail
    refine(ae CM _ _ _ n4 n5).mono ?_
    rintro e w5 ⟨v6,v7,rfl,n6,n7,b⟩
    clear n4 n5
    have rA:=rA.next b
    have rB:=rB.next b
    have nq:=nq.next b
    have sz:=Nat.le_trans sz b.size
    have bl:=ag bl b
    clear b
    have CZ:=hide (iS _ _ _ true (by simp) n7)
    go_wp2_with fail
    refine(ae CZ).mono ?_
    rintro e wz ⟨rfl,hw⟩
    obtain rfl:=hw.symm
    clear hw CZ
    clear n7
    go_wp2_with fail
    refine(eE _ _ _ _ _ 50 (by omega) (ae HQb) n6 nq).mono ?_
    rintro e w6 ⟨rfl,b⟩
    clear n6 nq
    have rA:=rA.next b
    have rB:=rB.next b
    have sz:=Nat.le_trans sz b.size
    have bl:=ag bl b
    clear b
    go_wp2_with fail
    refine(ae CK _ ((ae HT).next bl)).mono ?_
    rintro e w7 ⟨rfl,b⟩
    have bl:=ag bl b
    clear b
    go_wp2
    go_ret
    exact⟨rfl,bl⟩
   ·have HR0:=hide hR0
    have hR0b:¬R=0:=hR0
    clear hR0
    have b0:Below w.heap.size w (w.alloc (.cells #[.int .i64 T.b,.int .i64 T.t,.int .i64 T.n,.int .i64 T.d,.int .i64 T.r,.int .i64 T.l,.int .i64 T.x,.int .i64 T.p,.int .i64 T.k,.int .i64 T.s,.int .i64 T.e] 23)):=(Below.refl _ _).alloc (Nat.le_refl _) _
    have tA:=bg w T 23
    obtain⟨W1,hW1⟩:∃ W,w.alloc (.cells #[.int .i64 T.b,.int .i64 T.t,.int .i64 T.n,.int .i64 T.d,.int .i64 T.r,.int .i64 T.l,.int .i64 T.x,.int .i64 T.p,.int .i64 T.k,.int .i64 T.s,.int .i64 T.e] 23)=W:=⟨_,rfl⟩
    rw[hW1]at b0 tA
    obtain⟨P0,hP0⟩:∃ P,w.heap.size=P:=⟨_,rfl⟩
    rw[hP0]at tA
    have lP:P0<W1.heap.size:=tA.lt
    have HT:=hide hT
    clear hT
    have rA:=rA.next b0
    have rB:=rB.next b0
    have bl:=ag bl b0
    clear b0
    have CN:=hide (fun W=>SN T W)
    have CK:=hide (fun W h=>aM SN SD W h)
    have HE:=hide SE
    have HX:=hide SX
    have HD:=hide SD
    clear SN SE SX SD
    unfold Tab.val at CN ⊢
    go_enter Tryz.func6,Tryz.ntmps6
    go_wp2_with fail
    refine(ae Ca _).mono ?_
    rintro e wca ⟨rfl,rfl⟩
    clear Ca
    go_wp2_with fail
    refine(ae Cb _).mono ?_
    rintro e wcb ⟨rfl,rfl⟩
    clear Cb
    have tX0:=tA
    obtain⟨p0,p1,p2,p3,p4,p5,p6,p7,p8,p9,p10⟩:=tX0
    go_wp2_with fail
    refine(ae CN _).mono ?_
    rintro e w1 ⟨gv,gr,gd,gm,gt,gk,ge,g,rfl,E,hn,b⟩
    clear p0 p1 p2 p3 p4 p5 p6 p7 p8 p9 p10
    have hg:w.heap.size<=g:=by omega
    clear hn tA lP CN
    have rA:=rA.next b
    have rB:=rB.next b
    have bl:=ag bl b
    clear b
    have lg:=E.met.lt
    obtain⟨S1,hS1⟩:∃ S1,S1=w1.heap.size:=⟨_,rfl⟩
    rw[<-hS1]at lg
    have sz:S1<=w1.heap.size:=Nat.le_of_eq hS1
    clear hS1
    have ia:=(aF rA dx (ae HLa) (ae HEa) (by omega))
    rw[<-ae HA2]at ia
    have CR:=hide (ae HX _ gv gr gd gm gt gk ge g 0 0 0 T _ _ A2 D 5 E ((ae HT).next bl) (by decide) (by decide) (by decide) (by decide) ia (aF rB dy (ae HLb) (ae HEb) (by omega)) (by omega) (by omega) (Or.inr ⟨ae H0,fun e=>hR0b (by rw[ae HR];exact e),rfl⟩))
    go_wp2_with fail
    refine(ae CR).mono ?_
    rintro e w2 ⟨qa,qc,s1,m1,rfl,E2,_,o⟩
    clear CR
    have rA:=E.rep o rA
    have rB:=E.rep o rB
    have ia:=E.inM o ia
    have sz:=Nat.le_trans sz o.size
    have bl:=bl.trans (o.below (B:=w.heap.size) bl.size (fun k hk=>by rw[hk];exact hg))
    have E:=E2
    clear o E2
    clear E
    go_wp2_with fail
    refine(ae CWb _ rB).mono ?_
    rintro e wb ⟨rfl,rfl⟩
    go_wp2_with fail
    refine(pQ _ _ _ ia).mono ?_
    rintro e w3 ⟨v4,rfl,n4,b⟩
    clear ia
    have rA:=rA.next b
    have rB:=rB.next b
    have sz:=Nat.le_trans sz b.size
    have bl:=ag bl b
    clear b
    go_wp2_with fail
    refine(ae CFb _ rB).mono ?_
    rintro e w4 ⟨v5,rfl,n5,b⟩
    have rA:=rA.next b
    have rB:=rB.next b
    have n4:=n4.next b
    have sz:=Nat.le_trans sz b.size
    have bl:=ag bl b
    clear b
    go_wp2_with fail
    refine(ae CM _ _ _ n4 n5).mono ?_
    rintro e w5 ⟨v6,v7,rfl,n6,n7,b⟩
    clear n4 n5
    have rA:=rA.next b
    have rB:=rB.next b
    have sz:=Nat.le_trans sz b.size
    have bl:=ag bl b
    clear b
    have CZ:=hide (iS _ _ _ false (by simp[hR0b]) n7)
    go_wp2_with fail
    refine(ae CZ).mono ?_
    rintro e wz ⟨rfl,hw⟩
    obtain rfl:=hw.symm
    clear hw CZ
    clear n7
    clear n6
    go_wp2_with fail
    refine(ae CK _ ((ae HT).next bl)).mono ?_
    rintro e w6 ⟨rfl,b⟩
    have bl:=ag bl b
    clear b
    go_wp2
    go_ret
    exact⟨rfl,bl⟩
 case true=>
  obtain⟨A2,hA2⟩:∃ A2,A2=A*D:=⟨_,rfl⟩
  have LA2:Hid (A2<18446744073709551616^50):=by
   show _<_
   rw[hA2]
   have:=Nat.mul_lt_mul'' (ae LA) (ae LD);rwa [<-Nat.pow_add]at this
  have BA2:Hid (A2<4294967296^100):=by have:=ae LA2;rw[fo]at this;exact this
  have BD2:Hid (D<4294967296^100):=Nat.lt_of_lt_of_le (ae BD) (Nat.pow_le_pow_right (by omega) (by omega))
  have wlA2:wl A2<=50:=cI _ _ (ae LA2)
  have BDm:Hid (D<4294967296^60):=Nat.lt_of_lt_of_le (ae BD) (Nat.pow_le_pow_right (by omega) (by omega))
  have CMu:Hid (∀ W u v,bu W u A->bu W v D->Calls Tryz.prog 30 #[u,v] W fun e w'=>∃ r,e=.returned r/\bu w' r A2/\Below W.heap.size W w'):=fun W u v a b=>by rw[hA2];exact mul_any W u v A D 60 (by omega) (ae BA) (ae BDm) a b
  have HA2:=hide hA2
  rcases Nat.eq_zero_or_pos D with hD0|h0
  case inl=>
   clear hA2 HA2
   subst hD0
   rw[aZ]at CWb
   have b0:Below w.heap.size w (w.alloc (.cells #[.int .i64 T.b,.int .i64 T.t,.int .i64 T.n,.int .i64 T.d,.int .i64 T.r,.int .i64 T.l,.int .i64 T.x,.int .i64 T.p,.int .i64 T.k,.int .i64 T.s,.int .i64 T.e] 23)):=(Below.refl _ _).alloc (Nat.le_refl _) _
   have tA:=bg w T 23
   obtain⟨W1,hW1⟩:∃ W,w.alloc (.cells #[.int .i64 T.b,.int .i64 T.t,.int .i64 T.n,.int .i64 T.d,.int .i64 T.r,.int .i64 T.l,.int .i64 T.x,.int .i64 T.p,.int .i64 T.k,.int .i64 T.s,.int .i64 T.e] 23)=W:=⟨_,rfl⟩
   rw[hW1]at b0 tA
   obtain⟨P0,hP0⟩:∃ P,w.heap.size=P:=⟨_,rfl⟩
   rw[hP0]at tA
   have lP:P0<W1.heap.size:=tA.lt
   have HT:=hide hT
   clear hT
   have rA:=rA.next b0
   have rB:=rB.next b0
   have bl:=ag bl b0
   clear b0
   have CN:=hide (fun W=>SN T W)
   have CK:=hide (fun W h=>aM SN SD W h)
   have HE:=hide SE
   have HX:=hide SX
   have HD:=hide SD
   clear SN SE SX SD
   unfold Tab.val at CN ⊢
   go_enter Tryz.func6,Tryz.ntmps6
   go_wp2_with fail
   refine(ae Ca _).mono ?_
   rintro e wca ⟨rfl,rfl⟩
   clear Ca
   go_wp2_with fail
   refine(ae Cb _).mono ?_
   rintro e wcb ⟨rfl,rfl⟩
   clear Cb
   have tX0:=tA
   obtain⟨p0,p1,p2,p3,p4,p5,p6,p7,p8,p9,p10⟩:=tX0
   go_wp2_with fail
   refine(ae CN _).mono ?_
   rintro e w1 ⟨gv,gr,gd,gm,gt,gk,ge,g,rfl,E,hn,b⟩
   clear p0 p1 p2 p3 p4 p5 p6 p7 p8 p9 p10
   have hg:w.heap.size<=g:=by omega
   clear hn tA lP CN
   have rA:=rA.next b
   have rB:=rB.next b
   have bl:=ag bl b
   clear b
   have lg:=E.met.lt
   obtain⟨S1,hS1⟩:∃ S1,S1=w1.heap.size:=⟨_,rfl⟩
   rw[<-hS1]at lg
   have sz:S1<=w1.heap.size:=Nat.le_of_eq hS1
   clear hS1
   go_wp2_with fail
   refine(ae CFa _ rA).mono ?_
   rintro e w2 ⟨v1,rfl,n1,b⟩
   have rA:=rA.next b
   have rB:=rB.next b
   have E:=E.next b
   have sz:=Nat.le_trans sz b.size
   have bl:=ag bl b
   clear b
   go_wp2_with fail
   refine(ae CFb _ rB).mono ?_
   rintro e w3 ⟨v2,rfl,n2,b⟩
   have rA:=rA.next b
   have rB:=rB.next b
   have E:=E.next b
   have n1:=n1.next b
   have sz:=Nat.le_trans sz b.size
   have bl:=ag bl b
   clear b
   go_wp2_with fail
   refine(ae CMu _ _ _ n1 n2).mono ?_
   rintro e w4 ⟨v3,rfl,n3,b⟩
   clear n1 n2
   have rA:=rA.next b
   have rB:=rB.next b
   have E:=E.next b
   have sz:=Nat.le_trans sz b.size
   have bl:=ag bl b
   clear b
   go_wp2_with fail
   refine(qH _ _ _ 50 (by decide) (ae LA2) n3).mono ?_
   rintro e w5 ⟨rs,rfl,ia,b⟩
   clear n3
   have rA:=rA.next b
   have rB:=rB.next b
   have E:=E.next b
   have sz:=Nat.le_trans sz b.size
   have bl:=ag bl b
   clear b
   obtain⟨ta,tl,tc,rfl⟩:=ia.inW.shp
   have CR:=hide (ae HX _ gv gr gd gm gt gk ge g 0 0 0 T _ _ A2 0 2 E ((ae HT).next bl) (by decide) (by decide) (by decide) (by decide) ia (aF rB dy (ae HLb) (ae HEb) (by omega)) (by omega) (by omega) (Or.inl ⟨rfl,rfl⟩))
   clear ia
   go_wp2_with fail
   refine(ae CR).mono ?_
   rintro e w6 ⟨qa,qc,s1,m1,rfl,E2,_,o⟩
   clear CR
   have rA:=E.rep o rA
   have rB:=E.rep o rB
   have sz:=Nat.le_trans sz o.size
   have bl:=bl.trans (o.below (B:=w.heap.size) bl.size (fun k hk=>by rw[hk];exact hg))
   have E:=E2
   clear o E2
   clear E
   go_wp2_with fail
   refine(ae CWb _ rB).mono ?_
   rintro e wb ⟨rfl,rfl⟩
   go_wp2_with fail
   refine(ae CK _ ((ae HT).next bl)).mono ?_
   rintro e w7 ⟨rfl,b⟩
   have bl:=ag bl b
   clear b
   go_wp2
   go_ret
   exact⟨rfl,bl⟩
  case inr=>
   have hwD:wl D≠0:=fun e=>by have:=ay.1 e;omega
   have hwI:((wl D:Int)==0)=false:=by simp only[beq_eq_false_iff_ne];omega
   obtain⟨Q,hQ⟩:∃ Q,Q=A2/D:=⟨_,rfl⟩
   obtain⟨R,hR⟩:∃ R,R=A2%D:=⟨_,rfl⟩
   have HQb:Hid (Q<18446744073709551616^50):=by show _<_;rw[hQ];exact Nat.lt_of_le_of_lt (Nat.div_le_self _ _) (ae LA2)
   have CM:Hid (∀ w u v,bu w u A2->bu w v D->Calls Tryz.prog 15 #[u,v] w fun e w'=>∃ q r,e=.returned (.tuple #[q,r])/\bu w' q Q/\bu w' r R/\Below w.heap.size w w'):=fun w u v h1 h2=>by rw[hQ,hR];exact ji w u v A2 D 100 (by omega) (ae BA2) (ae BD2) h0 h1 h2
   have HQ:=hide hQ
   have HR:=hide hR
   have H0:=hide h0
   have hR0:R=0:=by rw[hR,hA2];exact Nat.mul_mod_left _ _
   clear hQ hR hA2 HA2
   have HR0:=hide hR0
   subst hR0
   have b0:Below w.heap.size w (w.alloc (.cells #[.int .i64 T.b,.int .i64 T.t,.int .i64 T.n,.int .i64 T.d,.int .i64 T.r,.int .i64 T.l,.int .i64 T.x,.int .i64 T.p,.int .i64 T.k,.int .i64 T.s,.int .i64 T.e] 23)):=(Below.refl _ _).alloc (Nat.le_refl _) _
   have tA:=bg w T 23
   obtain⟨W1,hW1⟩:∃ W,w.alloc (.cells #[.int .i64 T.b,.int .i64 T.t,.int .i64 T.n,.int .i64 T.d,.int .i64 T.r,.int .i64 T.l,.int .i64 T.x,.int .i64 T.p,.int .i64 T.k,.int .i64 T.s,.int .i64 T.e] 23)=W:=⟨_,rfl⟩
   rw[hW1]at b0 tA
   obtain⟨P0,hP0⟩:∃ P,w.heap.size=P:=⟨_,rfl⟩
   rw[hP0]at tA
   have lP:P0<W1.heap.size:=tA.lt
   have HT:=hide hT
   clear hT
   have rA:=rA.next b0
   have rB:=rB.next b0
   have bl:=ag bl b0
   clear b0
   have CN:=hide (fun W=>SN T W)
   have CK:=hide (fun W h=>aM SN SD W h)
   have HE:=hide SE
   have HX:=hide SX
   have HD:=hide SD
   clear SN SE SX SD
   unfold Tab.val at CN ⊢
   go_enter Tryz.func6,Tryz.ntmps6
   go_wp2_with fail
   refine(ae Ca _).mono ?_
   rintro e wca ⟨rfl,rfl⟩
   clear Ca
   go_wp2_with fail
   refine(ae Cb _).mono ?_
   rintro e wcb ⟨rfl,rfl⟩
   clear Cb
   have tX0:=tA
   obtain⟨p0,p1,p2,p3,p4,p5,p6,p7,p8,p9,p10⟩:=tX0
   go_wp2_with fail
   refine(ae CN _).mono ?_
   rintro e w1 ⟨gv,gr,gd,gm,gt,gk,ge,g,rfl,E,hn,b⟩
   clear p0 p1 p2 p3 p4 p5 p6 p7 p8 p9 p10
   have hg:w.heap.size<=g:=by omega
   clear hn tA lP CN
   have rA:=rA.next b
   have rB:=rB.next b
   have bl:=ag bl b
   clear b
   have lg:=E.met.lt
   obtain⟨S1,hS1⟩:∃ S1,S1=w1.heap.size:=⟨_,rfl⟩
   rw[<-hS1]at lg
   have sz:S1<=w1.heap.size:=Nat.le_of_eq hS1
   clear hS1
   go_wp2_with fail
   refine(ae CFa _ rA).mono ?_
   rintro e w2 ⟨v1,rfl,n1,b⟩
   have rA:=rA.next b
   have rB:=rB.next b
   have E:=E.next b
   have sz:=Nat.le_trans sz b.size
   have bl:=ag bl b
   clear b
   go_wp2_with fail
   refine(ae CFb _ rB).mono ?_
   rintro e w3 ⟨v2,rfl,n2,b⟩
   have rA:=rA.next b
   have rB:=rB.next b
   have E:=E.next b
   have n1:=n1.next b
   have sz:=Nat.le_trans sz b.size
   have bl:=ag bl b
   clear b
   go_wp2_with fail
   refine(ae CMu _ _ _ n1 n2).mono ?_
   rintro e w4 ⟨v3,rfl,n3,b⟩
   clear n1 n2
   have rA:=rA.next b
   have rB:=rB.next b
   have E:=E.next b
   have sz:=Nat.le_trans sz b.size
   have bl:=ag bl b
   clear b
   go_wp2_with fail
   refine(qH _ _ _ 50 (by decide) (ae LA2) n3).mono ?_
   rintro e w5 ⟨rs,rfl,ia,b⟩
   clear n3
   have rA:=rA.next b
   have rB:=rB.next b
   have E:=E.next b
   have sz:=Nat.le_trans sz b.size
   have bl:=ag bl b
   clear b
   obtain⟨ta,tl,tc,rfl⟩:=ia.inW.shp
   have CR:=hide (ae HE _ gv gr gd gm gt gk ge g 0 0 0 T _ _ A2 D E ((ae HT).next bl) (by decide) (by decide) (by decide) (by decide) ia (aF rB dy (ae HLb) (ae HEb) (by omega)) (ae H0) (by omega) (by omega) (ae HR).symm)
   rw[<-ae HQ]at CR
   go_wp2_with fail
   refine(ae CR).mono ?_
   rintro e w6 ⟨q,gq,s1,m1,rfl,nq,hq4,E2,_,o⟩
   clear CR
   have nq:=nq.toW.mono (Nat.le_trans sz hq4)
   clear hq4
   have rA:=E.rep o rA
   have rB:=E.rep o rB
   have ia:=E.inM o ia
   have sz:=Nat.le_trans sz o.size
   have bl:=bl.trans (o.below (B:=w.heap.size) bl.size (fun k hk=>by rw[hk];exact hg))
   have E:=E2
   clear o E2
   clear E
   obtain⟨qa,ql,qc,rfl⟩:=nq.shape
   go_wp2_with fail
   refine(ae CWb _ rB).mono ?_
   rintro e wb ⟨rfl,rfl⟩
   go_wp2_with fail
   refine(pQ _ _ _ ia).mono ?_
   rintro e w7 ⟨v4,rfl,n4,b⟩
   clear ia
   have rA:=rA.next b
   have rB:=rB.next b
   have nq:=nq.next b
   have sz:=Nat.le_trans sz b.size
   have bl:=ag bl b
   clear b
   go_wp2_with fail
   refine(ae CFb _ rB).mono ?_
   rintro e w8 ⟨v5,rfl,n5,b⟩
   have rA:=rA.next b
   have rB:=rB.next b
   have nq:=nq.next b
   have n4:=n4.next b
   have sz:=Nat.le_trans sz b.size
   have bl:=ag bl b
   clear b
   go_wp2_with fail
   refine(ae CM _ _ _ n4 n5).mono ?_
   rintro e w9 ⟨v6,v7,rfl,n6,n7,b⟩
   clear n4 n5
   have rA:=rA.next b
   have rB:=rB.next b
   have nq:=nq.next b
   have sz:=Nat.le_trans sz b.size
   have bl:=ag bl b
   clear b
   have CZ:=hide (iS _ _ _ true (by simp) n7)
   go_wp2_with fail
   refine(ae CZ).mono ?_
   rintro e wz ⟨rfl,hw⟩
   obtain rfl:=hw.symm
   clear hw CZ
   clear n7
   go_wp2_with fail
   refine(eE _ _ _ _ _ 50 (by omega) (ae HQb) n6 nq).mono ?_
   rintro e w10 ⟨rfl,b⟩
   clear n6 nq
   have rA:=rA.next b
   have rB:=rB.next b
   have sz:=Nat.le_trans sz b.size
   have bl:=ag bl b
   clear b
   go_wp2_with fail
   refine(ae CK _ ((ae HT).next bl)).mono ?_
   rintro e w11 ⟨rfl,b⟩
   have bl:=ag bl b
   clear b
   go_wp2
   go_ret
   exact⟨rfl,bl⟩
end Go.Proofs.YtpdpnomocbehkaaGreatDoor
