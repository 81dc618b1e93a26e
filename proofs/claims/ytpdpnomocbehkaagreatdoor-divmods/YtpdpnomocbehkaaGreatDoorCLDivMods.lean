/- DivMods: what the law's walk comes to, once the code is what the document asks. Written by gen_div.py. -/
import Derived.Deep.RegionHeld3
import Derived.Test.YtpdpnomocbehkaaGreatDoorB42
import Derived.Test.YtpdpnomocbehkaaGreatDoorB23
import Derived.Test.YtpdpnomocbehkaaGreatDoorB9
import Derived.Test.YtpdpnomocbehkaaGreatDoorB30
import Derived.Test.YtpdpnomocbehkaaGreatDoorB13
namespace Go.Proofs.YtpdpnomocbehkaaGreatDoor
open Go.RowKit
set_option maxRecDepth 100000 in
set_option maxHeartbeats 12800000 in
theorem vZ(SN:fw)(SD:df)(SO:ja)(T:Tab)(ga:Option Addr)(ba oa ca la:Nat)(xs:List Nat)(gb:Option Addr)(bb ob cb lb:Nat)(ys:List Nat)(w:World)(hxs:xs.length=la)(HrA:Rep w ga ba oa ca xs)(kxs:∀ j,xs.getD j 0<18446744073709551616)(hys:ys.length=lb)(HrB:Rep w gb bb ob cb ys)(kys:∀ j,ys.getD j 0<18446744073709551616)(hT:TB w):
  Calls Tryz.prog 3 #[T.val,.slice ga la ca,.slice gb lb cb] w fun e w'=>e=.returned (.bool true)/\Below w.heap.size w w':=by
 obtain⟨n,hca⟩:∃ k,k=min la 60:=⟨_,rfl⟩
 have Ca:Hid (∀ w,Calls Tryz.prog 9 #[.slice ga la ca,.int .i64 60] w fun e w'=>e=.returned (.slice ga n ca)/\w'=w):=fun w=>dG w ga la ca 60 n (by have:=HrA.room;omega) (by omega) hca
 obtain⟨hla,rA⟩:=dH HrA 60 n (by rw[hxs];exact hca)
 have dx:ao (xs.take n):=bq kxs n
 have hma:n<=60:=by omega
 clear hca HrA kxs hxs
 generalize xs.take n=us at *
 obtain⟨m,hcb⟩:∃ k,k=min lb 40:=⟨_,rfl⟩
 have Cb:Hid (∀ w,Calls Tryz.prog 9 #[.slice gb lb cb,.int .i64 40] w fun e w'=>e=.returned (.slice gb m cb)/\w'=w):=fun w=>dG w gb lb cb 40 m (by have:=HrB.room;omega) (by omega) hcb
 obtain⟨hlb,rB⟩:=dH HrB 40 m (by rw[hys];exact hcb)
 have dy:ao (ys.take m):=bq kys m
 have hmb:m<=40:=by omega
 clear hcb HrB kys hys
 generalize ys.take m=vs at *
 obtain⟨A,hva⟩:∃ k,k=af us:=⟨_,rfl⟩
 have LA:Hid (A<18446744073709551616^60):=by show _<_;rw[hva];exact aP (ak dx) (by omega)
 have BA:Hid (A<4294967296^120):=by have:=ae LA;rw[fo]at this;exact this
 have CFa:=hide (fun W (r:Rep W ga ba oa ca us)=>bR W ga ba oa ca n A us hla (by omega) r dx hva)
 have CWa:=hide (fun W (r:Rep W ga ba oa ca us)=>bo W ga ba oa ca n A us hla (by omega) r dx hva)
 have wlA:wl A<=60:=by rw[hva];exact Nat.le_trans (aW dx) (by omega)
 have HLa:=hide hla
 have HEa:=hide hva
 clear hva hla
 obtain⟨D,hvb⟩:∃ k,k=af vs:=⟨_,rfl⟩
 have LD:Hid (D<18446744073709551616^40):=by show _<_;rw[hvb];exact aP (ak dy) (by omega)
 have BD:Hid (D<4294967296^80):=by have:=ae LD;rw[fo]at this;exact this
 have CFb:=hide (fun W (r:Rep W gb bb ob cb vs)=>bR W gb bb ob cb m D vs hlb (by omega) r dy hvb)
 have CWb:=hide (fun W (r:Rep W gb bb ob cb vs)=>bo W gb bb ob cb m D vs hlb (by omega) r dy hvb)
 have wlD:wl D<=40:=by rw[hvb];exact Nat.le_trans (aW dy) (by omega)
 have HLb:=hide hlb
 have HEb:=hide hvb
 clear hvb hlb
 have bl:=Below.refl w.heap.size w
 obtain⟨F,hF⟩:∃ F,F=6148914691236517205:=⟨_,rfl⟩
 have HF:=hide hF
 clear hF
 rcases Nat.eq_zero_or_pos D with hD0|h0
 case inl=>
  subst hD0
  rw[aZ]at CWb
  have b0:Below w.heap.size w (w.alloc (.cells #[.int .i64 T.b,.int .i64 T.t,.int .i64 T.n,.int .i64 T.d,.int .i64 T.r,.int .i64 T.l,.int .i64 T.x,.int .i64 T.p,.int .i64 T.k,.int .i64 T.s,.int .i64 T.e] 23)):=(Below.refl _ _).alloc (Nat.le_refl _) _
  have tA:=bg w T 23
  obtain⟨W1,hW1⟩:∃ W,w.alloc (.cells #[.int .i64 T.b,.int .i64 T.t,.int .i64 T.n,.int .i64 T.d,.int .i64 T.r,.int .i64 T.l,.int .i64 T.x,.int .i64 T.p,.int .i64 T.k,.int .i64 T.s,.int .i64 T.e] 23)=W:=⟨_,rfl⟩
  rw[hW1]at b0 tA
  obtain⟨P0,hP0⟩:∃ P,w.heap.size=P:=⟨_,rfl⟩
  rw[hP0]at tA
  have lP:P0<W1.heap.size:=tA.lt
  have HT:=hide hT
  clear hT
  have rA:=rA.next b0
  have rB:=rB.next b0
  have bl:=ag bl b0
  clear b0
  have CN:=hide (fun W=>SN T W)
  have CK:=hide (fun W h=>aM SN SD W h)
  have HD:=hide SD
  have HN:=hide SO
  clear SN SD SO
  unfold Tab.val at CN ⊢
  go_enter Tryz.func3,Tryz.ntmps3
  go_wp2_with fail
  refine(ae Ca _).mono ?_
  rintro e wca ⟨rfl,rfl⟩
  clear Ca
  go_wp2_with fail
  refine(ae Cb _).mono ?_
  rintro e wcb ⟨rfl,rfl⟩
  clear Cb
  have tX0:=tA
  obtain⟨p0,p1,p2,p3,p4,p5,p6,p7,p8,p9,p10⟩:=tX0
  go_wp2_with fail
  refine(ae CN _).mono ?_
  rintro e w1 ⟨gv,gr,gd,gm,gt,gk,ge,g,rfl,E,hn,b⟩
  clear p0 p1 p2 p3 p4 p5 p6 p7 p8 p9 p10
  have hg:w.heap.size<=g:=by omega
  clear hn tA lP CN
  have rA:=rA.next b
  have rB:=rB.next b
  have bl:=ag bl b
  clear b
  go_wp2_with fail
  refine(my _ ga ba oa ca n us (ae HLa) (by omega) rA F (ae HF)).mono ?_
  rintro e w2 ⟨rfl,ol,b⟩
  obtain⟨rX,tX⟩:=mz ol (ae HLa)
  clear ol
  have rA:=rA.next b
  have rB:=rB.next b
  have E:=E.next b
  have bl:=ag bl b
  clear b
  go_wp2_with fail
  refine(my _ gb bb ob cb m vs (ae HLb) (by omega) rB F (ae HF)).mono ?_
  rintro e w3 ⟨rfl,ol,b⟩
  obtain⟨rY,tY⟩:=mz ol (ae HLb)
  clear ol
  have rA:=rA.next b
  have rB:=rB.next b
  have E:=E.next b
  have rX:=rX.next b
  have tX:=tX.next b
  have bl:=ag bl b
  clear b
  have ix:=aF rX dx (ae HLa) (ae HEa) (by omega)
  have iy:=aF rY dy (ae HLb) (ae HEb) (by omega)
  clear rX rY
  have CL:=hide (ae HN _ gv gr gd gm gt gk ge g 0 0 0 T _ _ A E ((ae HT).next bl) (by decide) (by decide) (by decide) (by decide) ix iy (by omega))
  clear ix iy
  go_wp2_with fail
  refine(ae CL).mono ?_
  rintro e w4 ⟨qa,qc,ra,rc,s',m',rfl,E2,_,o⟩
  clear CL
  have rA:=E.rep o rA
  have rB:=E.rep o rB
  have tX:=E.rep o tX
  have tY:=E.rep o tY
  have bl:=bl.trans (o.below (B:=w.heap.size) bl.size (fun k hk=>by rw[hk];exact hg))
  have E:=E2
  clear o E2
  go_wp2_with fail
  refine(ae CWb _ rB).mono ?_
  rintro e wb ⟨rfl,rfl⟩
  go_wp2_with fail
  refine(ae CK _ ((ae HT).next bl)).mono ?_
  rintro e w5 ⟨rfl,b⟩
  have bl:=ag bl b
  clear b
  go_wp2
  go_ret
  exact⟨rfl,bl⟩
 case inr=>
  have hwD:wl D≠0:=fun e=>by have:=ay.1 e;omega
  have hwI:((wl D:Int)==0)=false:=by simp only[beq_eq_false_iff_ne];omega
  obtain⟨Q,hQ⟩:∃ Q,Q=A/D:=⟨_,rfl⟩
  obtain⟨R,hR⟩:∃ R,R=A%D:=⟨_,rfl⟩
  have HQb:Hid (Q<18446744073709551616^60):=by show _<_;rw[hQ];exact Nat.lt_of_le_of_lt (Nat.div_le_self _ _) (ae LA)
  have HRb:Hid (R<18446744073709551616^60):=by show _<_;rw[hR];exact Nat.lt_of_le_of_lt (Nat.mod_le _ _) (ae LA)
  have BD2:Hid (D<4294967296^120):=by show _<_;exact Nat.lt_of_lt_of_le (ae BD) (Nat.pow_le_pow_right (by omega) (by omega))
  have CM:Hid (∀ w u v,bu w u A->bu w v D->Calls Tryz.prog 15 #[u,v] w fun e w'=>∃ q r,e=.returned (.tuple #[q,r])/\bu w' q Q/\bu w' r R/\Below w.heap.size w w'):=fun w u v h1 h2=>by rw[hQ,hR];exact ji w u v A D 120 (by omega) (ae BA) (ae BD2) h0 h1 h2
  obtain⟨N,hN⟩:∃ N,N=wl A:=⟨_,rfl⟩
  have hNb:N<=60:=by omega
  obtain⟨K,hK⟩:∃ K,K=N*N:=⟨_,rfl⟩
  have hKb:K<=60*60:=by rw[hK];exact Nat.mul_le_mul hNb hNb
  obtain⟨L,hL⟩:∃ L,L=Lib.bitLen N:=⟨_,rfl⟩
  have hLb:L<=16:=by rw[hL];exact jc (by omega)
  have HQ:=hide hQ
  have HR:=hide hR
  have H0:=hide h0
  have HKK:=hide hK
  have HLL:=hide hL
  have HNN:=hide hN
  rw[<-hN]at CWa
  clear hQ hR h0 hK hL hN
  have b0:Below w.heap.size w (w.alloc (.cells #[.int .i64 T.b,.int .i64 T.t,.int .i64 T.n,.int .i64 T.d,.int .i64 T.r,.int .i64 T.l,.int .i64 T.x,.int .i64 T.p,.int .i64 T.k,.int .i64 T.s,.int .i64 T.e] 23)):=(Below.refl _ _).alloc (Nat.le_refl _) _
  have tA:=bg w T 23
  obtain⟨W1,hW1⟩:∃ W,w.alloc (.cells #[.int .i64 T.b,.int .i64 T.t,.int .i64 T.n,.int .i64 T.d,.int .i64 T.r,.int .i64 T.l,.int .i64 T.x,.int .i64 T.p,.int .i64 T.k,.int .i64 T.s,.int .i64 T.e] 23)=W:=⟨_,rfl⟩
  rw[hW1]at b0 tA
  obtain⟨P0,hP0⟩:∃ P,w.heap.size=P:=⟨_,rfl⟩
  rw[hP0]at tA
  have lP:P0<W1.heap.size:=tA.lt
  have HT:=hide hT
  clear hT
  have rA:=rA.next b0
  have rB:=rB.next b0
  have bl:=ag bl b0
  clear b0
  have CN:=hide (fun W=>SN T W)
  have CK:=hide (fun W h=>aM SN SD W h)
  have HD:=hide SD
  have HN:=hide SO
  clear SN SD SO
  unfold Tab.val at CN ⊢
  go_enter Tryz.func3,Tryz.ntmps3
  go_wp2_with fail
  refine(ae Ca _).mono ?_
  rintro e wca ⟨rfl,rfl⟩
  clear Ca
  go_wp2_with fail
  refine(ae Cb _).mono ?_
  rintro e wcb ⟨rfl,rfl⟩
  clear Cb
  have tX0:=tA
  obtain⟨p0,p1,p2,p3,p4,p5,p6,p7,p8,p9,p10⟩:=tX0
  go_wp2_with fail
  refine(ae CN _).mono ?_
  rintro e w1 ⟨gv,gr,gd,gm,gt,gk,ge,g,rfl,E,hn,b⟩
  clear p0 p1 p2 p3 p4 p5 p6 p7 p8 p9 p10
  have hg:w.heap.size<=g:=by omega
  clear hn tA lP CN
  have rA:=rA.next b
  have rB:=rB.next b
  have bl:=ag bl b
  clear b
  go_wp2_with fail
  refine(my _ ga ba oa ca n us (ae HLa) (by omega) rA F (ae HF)).mono ?_
  rintro e w2 ⟨rfl,ol,b⟩
  obtain⟨rX,tX⟩:=mz ol (ae HLa)
  clear ol
  have rA:=rA.next b
  have rB:=rB.next b
  have E:=E.next b
  have bl:=ag bl b
  clear b
  go_wp2_with fail
  refine(my _ gb bb ob cb m vs (ae HLb) (by omega) rB F (ae HF)).mono ?_
  rintro e w3 ⟨rfl,ol,b⟩
  obtain⟨rY,tY⟩:=mz ol (ae HLb)
  clear ol
  have rA:=rA.next b
  have rB:=rB.next b
  have E:=E.next b
  have rX:=rX.next b
  have tX:=tX.next b
  have bl:=ag bl b
  clear b
  have ix:=aF rX dx (ae HLa) (ae HEa) (by omega)
  have iy:=aF rY dy (ae HLb) (ae HEb) (by omega)
  clear rX rY
  have CL:=hide (ae HD _ gv gr gd gm gt gk ge g 0 0 0 T _ _ A D E ((ae HT).next bl) (by decide) (by decide) (by decide) (by decide) ix iy (ae H0) (by omega) (by omega))
  clear ix iy
  rw[<-ae HNN, <-ae HKK, <-ae HLL, <-ae HQ, <-ae HR,Int.zero_add,Int.zero_add]at CL
  obtain⟨g1,hg1⟩:∃ g1,g1=w1.heap.size:=⟨_,rfl⟩
  obtain⟨g2,hg2⟩:∃ g2,g2=w2.heap.size:=⟨_,rfl⟩
  rw[<-hg1]at tX CL ⊢
  rw[<-hg2]at tY CL ⊢
  obtain⟨S4,hS4⟩:∃ S4,S4=w3.heap.size:=⟨_,rfl⟩
  have hl1:g1<S4:=by rw[hS4];exact tX.lt (by simp)
  have hl2:g2<S4:=by rw[hS4];exact tY.lt (by simp)
  have hSw:w.heap.size<=S4:=by rw[hS4];exact bl.size
  have hAb:Hid (0<us.length->ba<S4):=fun h=>by rw[hS4];exact rA.lt h
  have hBb:Hid (0<vs.length->bb<S4):=fun h=>by rw[hS4];exact rB.lt h
  rw[<-hS4]at CL
  clear hg1 hg2 hS4
  go_wp2_with fail
  refine(ae CL).mono ?_
  rintro e w4 ⟨q,r,gq,gx,s',m',rfl,nq,nr,⟨nqr,hq4,hr4⟩,E2,⟨sa,sb⟩,mb,o⟩
  clear CL
  have rA:=E.rep o rA
  have rB:=E.rep o rB
  have tX:=E.rep o tX
  have tY:=E.rep o tY
  have bl:=bl.trans (o.below (B:=w.heap.size) bl.size (fun k hk=>by rw[hk];exact hg))
  have E:=E2
  clear o E2
  have nqW:=nq.toW
  obtain⟨qa,ql,qc,rfl⟩:=nqW.shape
  have nrW:=nr.toW
  obtain⟨ra,rl,rc,rfl⟩:=nrW.shape
  clear nqW nrW
  go_wp2_with fail
  refine(ae CWb _ rB).mono ?_
  rintro e wb ⟨rfl,rfl⟩
  clear CWb
  go_wp2_with fail
  refine(ae CFa _ rA).mono ?_
  rintro e w5 ⟨v1,rfl,n1,b⟩
  have rA:=rA.next b
  have rB:=rB.next b
  have E:=E.next b
  have tX:=tX.next b
  have tY:=tY.next b
  have nq:=nq.next b
  have nr:=nr.next b
  have bl:=ag bl b
  clear b
  go_wp2_with fail
  refine(ae CFb _ rB).mono ?_
  rintro e w6 ⟨v2,rfl,n2,b⟩
  have rA:=rA.next b
  have rB:=rB.next b
  have E:=E.next b
  have tX:=tX.next b
  have tY:=tY.next b
  have nq:=nq.next b
  have nr:=nr.next b
  have n1:=n1.next b
  have bl:=ag bl b
  clear b
  go_wp2_with fail
  refine(ae CM _ _ _ n1 n2).mono ?_
  rintro e w7 ⟨v3,v4,rfl,n3,n4,b⟩
  have rA:=rA.next b
  have rB:=rB.next b
  have E:=E.next b
  have tX:=tX.next b
  have tY:=tY.next b
  have nq:=nq.next b
  have nr:=nr.next b
  have n1:=n1.next b
  have n2:=n2.next b
  have bl:=ag bl b
  clear b
  clear n1 n2
  clear CFa CFb CM
  go_wp2_with fail
  refine(eE _ _ _ _ _ 60 (by omega) (ae HQb) n3 nq.toW).mono ?_
  rintro e w8 ⟨rfl,b⟩
  have rA:=rA.next b
  have rB:=rB.next b
  have E:=E.next b
  have tX:=tX.next b
  have tY:=tY.next b
  have nq:=nq.next b
  have nr:=nr.next b
  have n3:=n3.next b
  have n4:=n4.next b
  have bl:=ag bl b
  clear b
  go_wp2_with fail
  refine(eE _ _ _ _ _ 60 (by omega) (ae HRb) n4 nr.toW).mono ?_
  rintro e w9 ⟨rfl,b⟩
  have rA:=rA.next b
  have rB:=rB.next b
  have E:=E.next b
  have tX:=tX.next b
  have tY:=tY.next b
  have nq:=nq.next b
  have nr:=nr.next b
  have n3:=n3.next b
  have n4:=n4.next b
  have bl:=ag bl b
  clear b
  clear n3 n4
  go_wp2_with fail
  refine(ae CWa _ rA).mono ?_
  rintro e wa ⟨rfl,rfl⟩
  clear CWa
  obtain⟨n1,hn1⟩:∃ n1,n1=64*N:=⟨_,rfl⟩
  obtain⟨n2,hn2⟩:∃ n2,n2=64*K:=⟨_,rfl⟩
  obtain⟨n3,hn3⟩:∃ n3,n3=n2+64:=⟨_,rfl⟩
  have a1:64*(N:Int)=(n1:Int):=by omega
  have a2:IntKind.i64.wrap (n1:Int)=(n1:Int):=by rw[IntKind.wrap_i64];omega
  have a3:(n1:Int)*(N:Int)=(n2:Int):=by
   have e:n1*N=n2:=by rw[hn1,hn2,ae HKK,Nat.mul_assoc]
   rw[<-e];exact(Int.natCast_mul n1 N).symm
  have a4:IntKind.i64.wrap (n2:Int)=(n2:Int):=by rw[IntKind.wrap_i64];omega
  have a5:(n2:Int)+64=(n3:Int):=by omega
  have a6:IntKind.i64.wrap (n3:Int)=(n3:Int):=by rw[IntKind.wrap_i64];omega
  have a7:decide ((n3:Int)<s')=false:=decide_eq_false (by omega)
  obtain⟨d8,hd8⟩:∃ d8,d8=8+4*L:=⟨_,rfl⟩
  have a8:decide ((d8:Int)<m')=false:=decide_eq_false (by omega)
  have hd8b:d8<=80:=by omega
  have hdL:Hid (8+4*Lib.bitLen N=d8):=by show _=_;rw[hd8,ae HLL]
  have HC:Hid (∀ w',Below wa.heap.size wa w'->w'.cell? ⟨gv,0,none⟩=some (.pointer (some ⟨gr,0,none⟩))/\w'.cell? ⟨gr,0,none⟩=some (.pointer (some ⟨gd,0,none⟩))/\w'.cell? ⟨gd,0,none⟩=some (.pointer (some ⟨gm,0,none⟩))/\w'.cell? ⟨gm,0,none⟩=some (.pointer (some ⟨gt,0,none⟩))/\w'.cell? ⟨gt,0,none⟩=some (.pointer (some ⟨gk,0,none⟩))/\w'.cell? ⟨gk,0,none⟩=some (.pointer (some ⟨ge,0,none⟩))/\w'.cell? ⟨ge,0,none⟩=some (.pointer (some ⟨g,0,none⟩))):=fun w' q=>by
   have E:=E.next q
   exact⟨E.ptr,E.rcp.ptr,E.rcp.div.way⟩
  have QE:Hid (∀ W,Below wa.heap.size wa W->Met W g 0 s' 0 m'):=fun W q=>(E.next q).met
  have HRA:=hide rA
  have HRB:=hide rB
  have HTX:=hide tX
  have HTY:=hide tY
  have HNQ:=hide nq
  have HNR:=hide nr
  have HBL:=hide bl
  have b0:Below wa.heap.size wa wa:=Below.refl _ _
  clear hn1 hn2 hn3 hd8 HKK HLL HNN sa sb mb E rA rB tX tY nq nr bl
  go_wp2
  go_loopw [16,17] (fun k a wr=>∃(i q:Nat),a=.int .i64 (i:Int)/\k=.int .i64 (q:Int)/\i<=60/\q+4*Lib.bitLen i=d8/\wr=wa) (fun _ a _=>(intOf a).toNat)
  case atStart=>exact⟨N,8,rfl,rfl,hNb,ae hdL,rfl⟩
  case round=>
   obtain⟨i,q,rfl,rfl,hi,hq,hw⟩:=hrel
   obtain rfl:=hw.symm
   clear hw
   by_cases hi0:i=0
   ·subst hi0
    rw[oe,Nat.mul_zero,Nat.add_zero]at hq
    subst hq
    clear hdL hi
    obtain⟨z0,z1,z2,z3,z4,z5,z6⟩:=ae HC _ (Below.refl _ _)
    go_wp2_with fail
    refine(Ij (ae QE _ (Below.refl _ _))).mono ?_
    rintro e wk ⟨rfl,hw⟩
    obtain rfl:=hw.symm
    clear hw
    go_wp2_with fail
    refine(Gy (ae QE _ (Below.refl _ _))).mono ?_
    rintro e wk ⟨rfl,hw⟩
    obtain rfl:=hw.symm
    clear hw
    go_wp2_with fail
    refine(Lx (ae QE _ (Below.refl _ _))).mono ?_
    rintro e wk ⟨rfl,hw⟩
    obtain rfl:=hw.symm
    clear hw z0 z1 z2 z3 z4 z5 z6
    all_goals
     focus
      have rA:=(ae HRA).next b0
      have rB:=(ae HRB).next b0
      have tX:=(ae HTX).next b0
      have tY:=(ae HTY).next b0
      have nq:=(ae HNQ).next b0
      have nr:=(ae HNR).next b0
      have bl:=ag (ae HBL) b0
      clear b0 HRA HRB HTX HTY HNQ HNR HBL HC QE
      go_wp2_with fail
      refine(sO _ _ _ _ _ nq).mono ?_
      rintro e ws1 ⟨rfl,sp⟩
      have rA:=rA.spoilt sp (fun h=>Or.inl (Nat.lt_of_lt_of_le (ae hAb h) hq4))
      have rB:=rB.spoilt sp (fun h=>Or.inl (Nat.lt_of_lt_of_le (ae hBb h) hq4))
      have tX:=tX.spoilt sp (fun h=>Or.inl (Nat.lt_of_lt_of_le hl1 hq4))
      have tY:=tY.spoilt sp (fun h=>Or.inl (Nat.lt_of_lt_of_le hl2 hq4))
      have nr:=nr.spoilt sp (by omega)
      have bl:=mc bl sp (by omega) bl.size
      clear nq sp
      go_wp2_with fail
      refine(sO _ _ _ _ _ nr).mono ?_
      rintro e ws2 ⟨rfl,sp⟩
      have rA:=rA.spoilt sp (fun h=>Or.inl (Nat.lt_of_lt_of_le (ae hAb h) hr4))
      have rB:=rB.spoilt sp (fun h=>Or.inl (Nat.lt_of_lt_of_le (ae hBb h) hr4))
      have tX:=tX.spoilt sp (fun h=>Or.inl (Nat.lt_of_lt_of_le hl1 hr4))
      have tY:=tY.spoilt sp (fun h=>Or.inl (Nat.lt_of_lt_of_le hl2 hr4))
      have bl:=mc bl sp (by omega) bl.size
      clear nr sp
      go_wp2_with fail
      refine(pR _ ga g1 ba oa ca n us (ae HLa) (by omega) rA F (ae HF) tX).mono ?_
      rintro e wi1 ⟨rfl,b⟩
      have rA:=rA.next b
      have rB:=rB.next b
      have tX:=tX.next b
      have tY:=tY.next b
      have bl:=ag bl b
      clear b
      go_wp2_with fail
      refine(pR _ gb g2 bb ob cb m vs (ae HLb) (by omega) rB F (ae HF) tY).mono ?_
      rintro e wi2 ⟨rfl,b⟩
      have rA:=rA.next b
      have rB:=rB.next b
      have tX:=tX.next b
      have tY:=tY.next b
      have bl:=ag bl b
      clear b
      go_wp2_with fail
      refine(ae CK _ ((ae HT).next bl)).mono ?_
      rintro e w10 ⟨rfl,b⟩
      have bl:=ag bl b
      clear b
      go_wp2
      go_ret
      exact⟨rfl,bl⟩
   ·have hq2:q<=100:=by have:=jc (n:=i) (by omega);omega
    have hb:=Lib.bitLen_half i hi0 (by omega)
    obtain⟨j,hj⟩:∃ j,j=i/2:=⟨_,rfl⟩
    obtain⟨q2,hq2e⟩:∃ q2,q2=q+4:=⟨_,rfl⟩
    have hRl:Hid (∃(i q:Nat),(.int .i64 (j:Int):Value)=.int .i64 (i:Int)/\(.int .i64 (q2:Int):Value)=.int .i64 (q:Int)/\i<=60/\q+4*Lib.bitLen i=d8/\True):=⟨j,q2,rfl,rfl,by omega,by rw[<-hj]at hb;omega,trivial⟩
    have hMs:Hid ((j:Int).toNat<(i:Int).toNat):=by show _<_;omega
    have e1:(i:Int).tdiv 2=(j:Int):=by rw[Int.tdiv_eq_ediv_of_nonneg (by omega)];omega
    have e1':(i:Int)/2=(j:Int):=by omega
    have e2:IntKind.i64.wrap (j:Int)=(j:Int):=by rw[IntKind.wrap_i64];omega
    have e3:(q:Int)+4=(q2:Int):=by omega
    have e4:IntKind.i64.wrap (q2:Int)=(q2:Int):=by rw[IntKind.wrap_i64];omega
    have hp:(0:Int)<(i:Int):=by omega
    clear hj hq2e hb hq hq2 hi hdL hi0
    go_wp2
    go_roundw
    case rel=>exact ae hRl
    case measure=>exact ae hMs
end Go.Proofs.YtpdpnomocbehkaaGreatDoor
