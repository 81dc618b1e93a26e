/- DivTables: what the law's walk comes to, once the code is what the document asks. Written by gen_div.py. -/
import Derived.Deep.RegionHeld3
import Derived.Test.YtpdpnomocbehkaaGreatDoorB42
import Derived.Test.YtpdpnomocbehkaaGreatDoorB9
import Derived.Test.YtpdpnomocbehkaaGreatDoorB13
namespace Go.Proofs.YtpdpnomocbehkaaGreatDoor
open Go.RowKit
set_option maxRecDepth 100000 in
set_option maxHeartbeats 12800000 in
theorem qV(SN:fw)(SD:df)(SO:ja)(T:Tab)(U:Tab)(ga:Option Addr)(ba oa ca la:Nat)(xs:List Nat)(gb:Option Addr)(bb ob cb lb:Nat)(ys:List Nat)(w:World)(hxs:xs.length=la)(HrA:Rep w ga ba oa ca xs)(kxs:∀ j,xs.getD j 0<18446744073709551616)(hys:ys.length=lb)(HrB:Rep w gb bb ob cb ys)(kys:∀ j,ys.getD j 0<18446744073709551616)(hT:TB w):
  Calls Tryz.prog 5 #[T.val,U.val,.slice ga la ca,.slice gb lb cb] w fun e w'=>e=.returned (.bool true)/\Below w.heap.size w w':=by
 obtain⟨n,hca⟩:∃ k,k=min la 120:=⟨_,rfl⟩
 have Ca:Hid (∀ w,Calls Tryz.prog 9 #[.slice ga la ca,.int .i64 120] w fun e w'=>e=.returned (.slice ga n ca)/\w'=w):=fun w=>dG w ga la ca 120 n (by have:=HrA.room;omega) (by omega) hca
 obtain⟨hla,rA⟩:=dH HrA 120 n (by rw[hxs];exact hca)
 have dx:ao (xs.take n):=bq kxs n
 have hma:n<=120:=by omega
 clear hca HrA kxs hxs
 generalize xs.take n=us at *
 obtain⟨m,hcb⟩:∃ k,k=min lb 80:=⟨_,rfl⟩
 have Cb:Hid (∀ w,Calls Tryz.prog 9 #[.slice gb lb cb,.int .i64 80] w fun e w'=>e=.returned (.slice gb m cb)/\w'=w):=fun w=>dG w gb lb cb 80 m (by have:=HrB.room;omega) (by omega) hcb
 obtain⟨hlb,rB⟩:=dH HrB 80 m (by rw[hys];exact hcb)
 have dy:ao (ys.take m):=bq kys m
 have hmb:m<=80:=by omega
 clear hcb HrB kys hys
 generalize ys.take m=vs at *
 obtain⟨A,hva⟩:∃ k,k=af us:=⟨_,rfl⟩
 have LA:Hid (A<18446744073709551616^120):=by show _<_;rw[hva];exact aP (ak dx) (by omega)
 have BA:Hid (A<4294967296^240):=by have:=ae LA;rw[fo]at this;exact this
 have CFa:=hide (fun W (r:Rep W ga ba oa ca us)=>bR W ga ba oa ca n A us hla (by omega) r dx hva)
 have CWa:=hide (fun W (r:Rep W ga ba oa ca us)=>bo W ga ba oa ca n A us hla (by omega) r dx hva)
 have wlA:wl A<=120:=by rw[hva];exact Nat.le_trans (aW dx) (by omega)
 have HLa:=hide hla
 have HEa:=hide hva
 clear hva hla
 obtain⟨D,hvb⟩:∃ k,k=af vs:=⟨_,rfl⟩
 have LD:Hid (D<18446744073709551616^80):=by show _<_;rw[hvb];exact aP (ak dy) (by omega)
 have BD:Hid (D<4294967296^160):=by have:=ae LD;rw[fo]at this;exact this
 have CFb:=hide (fun W (r:Rep W gb bb ob cb vs)=>bR W gb bb ob cb m D vs hlb (by omega) r dy hvb)
 have CWb:=hide (fun W (r:Rep W gb bb ob cb vs)=>bo W gb bb ob cb m D vs hlb (by omega) r dy hvb)
 have wlD:wl D<=80:=by rw[hvb];exact Nat.le_trans (aW dy) (by omega)
 have HLb:=hide hlb
 have HEb:=hide hvb
 clear hvb hlb
 have bl:=Below.refl w.heap.size w
 have b0:Below w.heap.size w ((w.alloc (.cells #[.int .i64 T.b,.int .i64 T.t,.int .i64 T.n,.int .i64 T.d,.int .i64 T.r,.int .i64 T.l,.int .i64 T.x,.int .i64 T.p,.int .i64 T.k,.int .i64 T.s,.int .i64 T.e] 23)).alloc (.cells #[.int .i64 U.b,.int .i64 U.t,.int .i64 U.n,.int .i64 U.d,.int .i64 U.r,.int .i64 U.l,.int .i64 U.x,.int .i64 U.p,.int .i64 U.k,.int .i64 U.s,.int .i64 U.e] 23)):=((Below.refl _ _).alloc (Nat.le_refl _) _).alloc (by simp) _
 have tA:TabAt ((w.alloc (.cells #[.int .i64 T.b,.int .i64 T.t,.int .i64 T.n,.int .i64 T.d,.int .i64 T.r,.int .i64 T.l,.int .i64 T.x,.int .i64 T.p,.int .i64 T.k,.int .i64 T.s,.int .i64 T.e] 23)).alloc (.cells #[.int .i64 U.b,.int .i64 U.t,.int .i64 U.n,.int .i64 U.d,.int .i64 U.r,.int .i64 U.l,.int .i64 U.x,.int .i64 U.p,.int .i64 U.k,.int .i64 U.s,.int .i64 U.e] 23)) w.heap.size T:=(bg w T 23).next ((Below.refl _ _).alloc (Nat.le_refl _) _)
 have uA:=bg (w.alloc (.cells #[.int .i64 T.b,.int .i64 T.t,.int .i64 T.n,.int .i64 T.d,.int .i64 T.r,.int .i64 T.l,.int .i64 T.x,.int .i64 T.p,.int .i64 T.k,.int .i64 T.s,.int .i64 T.e] 23)) U 23
 rw[show(w.alloc (.cells #[.int .i64 T.b,.int .i64 T.t,.int .i64 T.n,.int .i64 T.d,.int .i64 T.r,.int .i64 T.l,.int .i64 T.x,.int .i64 T.p,.int .i64 T.k,.int .i64 T.s,.int .i64 T.e] 23)).heap.size=w.heap.size+1 by simp]at uA
 obtain⟨W1,hW1⟩:∃ W,(w.alloc (.cells #[.int .i64 T.b,.int .i64 T.t,.int .i64 T.n,.int .i64 T.d,.int .i64 T.r,.int .i64 T.l,.int .i64 T.x,.int .i64 T.p,.int .i64 T.k,.int .i64 T.s,.int .i64 T.e] 23)).alloc (.cells #[.int .i64 U.b,.int .i64 U.t,.int .i64 U.n,.int .i64 U.d,.int .i64 U.r,.int .i64 U.l,.int .i64 U.x,.int .i64 U.p,.int .i64 U.k,.int .i64 U.s,.int .i64 U.e] 23)=W:=⟨_,rfl⟩
 rw[hW1]at b0 tA uA
 obtain⟨P0,hP0⟩:∃ P,w.heap.size=P:=⟨_,rfl⟩
 rw[hP0]at tA uA
 have lP:P0+1<W1.heap.size:=uA.lt
 have HT:=hide hT
 clear hT
 have rA:=rA.next b0
 have rB:=rB.next b0
 have bl:=ag bl b0
 clear b0
 have CN:=hide (fun W=>SN T W)
 have CU:=hide (fun W=>SN U W)
 have HD:=hide SD
 have HN:=hide SO
 have CK:=hide (fun W h=>aM SN SD W h)
 clear SN SD SO
 unfold Tab.val at CN CU ⊢
 go_enter Tryz.func5,Tryz.ntmps5
 go_wp2_with fail
 refine(ae Ca _).mono ?_
 rintro e wca ⟨rfl,rfl⟩
 clear Ca
 go_wp2_with fail
 refine(ae Cb _).mono ?_
 rintro e wcb ⟨rfl,rfl⟩
 clear Cb
 have HC:Hid (∀ w',Below wcb.heap.size wcb w'->w'.cell? ⟨P0,0,none⟩=some (.int .i64 T.b)/\w'.cell? ⟨P0,1,none⟩=some (.int .i64 T.t)/\w'.cell? ⟨P0,2,none⟩=some (.int .i64 T.n)/\w'.cell? ⟨P0,3,none⟩=some (.int .i64 T.d)/\w'.cell? ⟨P0,4,none⟩=some (.int .i64 T.r)/\w'.cell? ⟨P0,5,none⟩=some (.int .i64 T.l)/\w'.cell? ⟨P0,6,none⟩=some (.int .i64 T.x)/\w'.cell? ⟨P0,7,none⟩=some (.int .i64 T.p)/\w'.cell? ⟨P0,8,none⟩=some (.int .i64 T.k)/\w'.cell? ⟨P0,9,none⟩=some (.int .i64 T.s)/\w'.cell? ⟨P0,10,none⟩=some (.int .i64 T.e)/\w'.cell? ⟨P0+1,0,none⟩=some (.int .i64 U.b)/\w'.cell? ⟨P0+1,1,none⟩=some (.int .i64 U.t)/\w'.cell? ⟨P0+1,2,none⟩=some (.int .i64 U.n)/\w'.cell? ⟨P0+1,3,none⟩=some (.int .i64 U.d)/\w'.cell? ⟨P0+1,4,none⟩=some (.int .i64 U.r)/\w'.cell? ⟨P0+1,5,none⟩=some (.int .i64 U.l)/\w'.cell? ⟨P0+1,6,none⟩=some (.int .i64 U.x)/\w'.cell? ⟨P0+1,7,none⟩=some (.int .i64 U.p)/\w'.cell? ⟨P0+1,8,none⟩=some (.int .i64 U.k)/\w'.cell? ⟨P0+1,9,none⟩=some (.int .i64 U.s)/\w'.cell? ⟨P0+1,10,none⟩=some (.int .i64 U.e)):=fun w' q=>by
  obtain⟨p0,p1,p2,p3,p4,p5,p6,p7,p8,p9,p10⟩:=tA.next q
  obtain⟨u0,u1,u2,u3,u4,u5,u6,u7,u8,u9,u10⟩:=uA.next q
  exact⟨p0,p1,p2,p3,p4,p5,p6,p7,p8,p9,p10,u0,u1,u2,u3,u4,u5,u6,u7,u8,u9,u10⟩
 obtain⟨p0,p1,p2,p3,p4,p5,p6,p7,p8,p9,p10,u0,u1,u2,u3,u4,u5,u6,u7,u8,u9,u10⟩:=ae HC _ (Below.refl _ _)
 have b0:Below wcb.heap.size wcb wcb.drew:=(Below.refl _ _).drew
 go_wp2
 go_region_held3 (fun w'=>w'.cell? ⟨P0,0,none⟩=some (.int .i64 T.b)/\w'.cell? ⟨P0,1,none⟩=some (.int .i64 T.t)/\w'.cell? ⟨P0,2,none⟩=some (.int .i64 T.n)/\w'.cell? ⟨P0,3,none⟩=some (.int .i64 T.d)/\w'.cell? ⟨P0,4,none⟩=some (.int .i64 T.r)/\w'.cell? ⟨P0,5,none⟩=some (.int .i64 T.l)/\w'.cell? ⟨P0,6,none⟩=some (.int .i64 T.x)/\w'.cell? ⟨P0,7,none⟩=some (.int .i64 T.p)/\w'.cell? ⟨P0,8,none⟩=some (.int .i64 T.k)/\w'.cell? ⟨P0,9,none⟩=some (.int .i64 T.s)/\w'.cell? ⟨P0,10,none⟩=some (.int .i64 T.e)/\w'.cell? ⟨P0+1,0,none⟩=some (.int .i64 U.b)/\w'.cell? ⟨P0+1,1,none⟩=some (.int .i64 U.t)/\w'.cell? ⟨P0+1,2,none⟩=some (.int .i64 U.n)/\w'.cell? ⟨P0+1,3,none⟩=some (.int .i64 U.d)/\w'.cell? ⟨P0+1,4,none⟩=some (.int .i64 U.r)/\w'.cell? ⟨P0+1,5,none⟩=some (.int .i64 U.l)/\w'.cell? ⟨P0+1,6,none⟩=some (.int .i64 U.x)/\w'.cell? ⟨P0+1,7,none⟩=some (.int .i64 U.p)/\w'.cell? ⟨P0+1,8,none⟩=some (.int .i64 U.k)/\w'.cell? ⟨P0+1,9,none⟩=some (.int .i64 U.s)/\w'.cell? ⟨P0+1,10,none⟩=some (.int .i64 U.e)) (first|(with_reducible exact ae HC _ b0)|go_keep) (first
  |(with_reducible refine(ae CN _).mono ?_;rintro e wn1 ⟨gv,gr,gd,gm,gt,gk,ge,g,rfl,E,hn,b⟩;have hg:=Nat.le_trans b0.size hn.2.2.2.2.2.2.2;have b0:=b0.trans (b.mono b0.size);clear b hn)
  |(with_reducible refine(ae CU _).mono ?_;rintro e wn2 ⟨gv',gr',gd',gm',gt',gk',ge',g',rfl,F,hn,b⟩;have hg':=Nat.le_trans b0.size hn.2.2.2.2.2.2.2;have hgg:=Nat.lt_of_lt_of_le E.met.lt hn.2.2.2.2.2.2.2;have E:=E.next b;have b0:=b0.trans (b.mono b0.size);clear b hn)
  |fail)
 clear p0 p1 p2 p3 p4 p5 p6 p7 p8 p9 p10 u0 u1 u2 u3 u4 u5 u6 u7 u8 u9 u10 HC CN CU tA uA
 have bl:=ag bl b0
 have rA:=rA.next b0
 have rB:=rB.next b0
 clear b0
 have hg:w.heap.size<=g:=by omega
 have hg':w.heap.size<=g':=by omega
 have lg:=F.met.lt
 obtain⟨S1,hS1⟩:∃ S1,S1=wn2.heap.size:=⟨_,rfl⟩
 rw[<-hS1]at lg
 have sz:S1<=wn2.heap.size:=Nat.le_of_eq hS1
 have lg0:g<S1:=by rw[hS1];exact E.met.lt
 clear hS1
 rcases Nat.eq_zero_or_pos D with hD0|h0
 case inl=>
  subst hD0
  have CR:=hide (ae HN _ gv gr gd gm gt gk ge g 0 0 0 T _ _ A E ((ae HT).next bl) (by decide) (by decide) (by decide) (by decide) (aF rA dx (ae HLa) (ae HEa) (by omega)) (aF rB dy (ae HLb) (ae HEb) (by omega)) (by omega))
  go_wp2_with fail
  refine(ae CR).mono ?_
  rintro e w1 ⟨qa,qc,ra,rc,s1,m1,rfl,E2,_,o⟩
  clear CR
  have rA:=E.rep o rA
  have rB:=E.rep o rB
  have F:=E.other o F (by omega)
  have sz:=Nat.le_trans sz o.size
  have bl:=bl.trans (o.below (B:=w.heap.size) bl.size (fun k hk=>by rw[hk];exact hg))
  have E:=E2
  clear o E2
  clear E
  have CR:=hide (ae HN _ gv' gr' gd' gm' gt' gk' ge' g' 0 0 0 U _ _ A F ((ae HT).next bl) (by decide) (by decide) (by decide) (by decide) (aF rA dx (ae HLa) (ae HEa) (by omega)) (aF rB dy (ae HLb) (ae HEb) (by omega)) (by omega))
  go_wp2_with fail
  refine(ae CR).mono ?_
  rintro e w2 ⟨xa,xc,ya,yc,s2,m2,rfl,E2,_,o⟩
  clear CR
  have rA:=F.rep o rA
  have rB:=F.rep o rB
  have sz:=Nat.le_trans sz o.size
  have bl:=bl.trans (o.below (B:=w.heap.size) bl.size (fun k hk=>by rw[hk];exact hg'))
  have F:=E2
  clear o E2
  clear F
  go_wp2_with fail
  refine(fV _ qa xa 0 0 qc 0 0 xc 0 [] rfl (by omega) (Rep.nil _ _ _ _ _) (Rep.nil _ _ _ _ _)).mono ?_
  rintro e w3 ⟨rfl,b⟩
  have rA:=rA.next b
  have rB:=rB.next b
  have sz:=Nat.le_trans sz b.size
  have bl:=ag bl b
  clear b
  go_wp2_with fail
  refine(fV _ ra ya 0 0 rc 0 0 yc 0 [] rfl (by omega) (Rep.nil _ _ _ _ _) (Rep.nil _ _ _ _ _)).mono ?_
  rintro e w4 ⟨rfl,b⟩
  have rA:=rA.next b
  have rB:=rB.next b
  have sz:=Nat.le_trans sz b.size
  have bl:=ag bl b
  clear b
  go_wp2_with fail
  refine(ae CK _ ((ae HT).next bl)).mono ?_
  rintro e w5 ⟨rfl,b⟩
  have bl:=ag bl b
  clear b
  go_wp2
  go_ret
  exact⟨rfl,bl⟩
 case inr=>
  obtain⟨Q,hQ⟩:∃ Q,Q=A/D:=⟨_,rfl⟩
  obtain⟨R,hR⟩:∃ R,R=A%D:=⟨_,rfl⟩
  have HQb:Hid (Q<18446744073709551616^120):=by show _<_;rw[hQ];exact Nat.lt_of_le_of_lt (Nat.div_le_self _ _) (ae LA)
  have HRb:Hid (R<18446744073709551616^120):=by show _<_;rw[hR];exact Nat.lt_of_le_of_lt (Nat.mod_le _ _) (ae LA)
  have HQ:=hide hQ
  have HR:=hide hR
  clear hQ hR
  have CR:=hide (ae HD _ gv gr gd gm gt gk ge g 0 0 0 T _ _ A D E ((ae HT).next bl) (by decide) (by decide) (by decide) (by decide) (aF rA dx (ae HLa) (ae HEa) (by omega)) (aF rB dy (ae HLb) (ae HEb) (by omega)) h0 (by omega) (by omega))
  rw[<-ae HQ, <-ae HR]at CR
  go_wp2_with fail
  refine(ae CR).mono ?_
  rintro e w1 ⟨q,r,gq,gx,s1,m1,rfl,nq,nr,⟨_,hq4,hr4⟩,E2,_,_,o⟩
  clear CR
  have nq:=nq.toW.mono (Nat.le_trans sz hq4)
  have nr:=nr.toW.mono (Nat.le_trans sz hr4)
  clear hq4 hr4
  have rA:=E.rep o rA
  have rB:=E.rep o rB
  have F:=E.other o F (by omega)
  have sz:=Nat.le_trans sz o.size
  have bl:=bl.trans (o.below (B:=w.heap.size) bl.size (fun k hk=>by rw[hk];exact hg))
  have E:=E2
  clear o E2
  clear E
  obtain⟨qa,ql,qc,rfl⟩:=nq.shape
  obtain⟨ra,rl,rc,rfl⟩:=nr.shape
  have CR:=hide (ae HD _ gv' gr' gd' gm' gt' gk' ge' g' 0 0 0 U _ _ A D F ((ae HT).next bl) (by decide) (by decide) (by decide) (by decide) (aF rA dx (ae HLa) (ae HEa) (by omega)) (aF rB dy (ae HLb) (ae HEb) (by omega)) h0 (by omega) (by omega))
  rw[<-ae HQ, <-ae HR]at CR
  go_wp2_with fail
  refine(ae CR).mono ?_
  rintro e w2 ⟨x,y,gq2,gx2,s2,m2,rfl,nx,ny,⟨_,hq4,hr4⟩,E2,_,_,o⟩
  clear CR
  have nx:=nx.toW.mono (Nat.le_trans sz hq4)
  have ny:=ny.toW.mono (Nat.le_trans sz hr4)
  clear hq4 hr4
  have rA:=F.rep o rA
  have rB:=F.rep o rB
  have nq:=o.newW nq (fun k e=>by rw[e];exact lg)
  have nr:=o.newW nr (fun k e=>by rw[e];exact lg)
  have sz:=Nat.le_trans sz o.size
  have bl:=bl.trans (o.below (B:=w.heap.size) bl.size (fun k hk=>by rw[hk];exact hg'))
  have F:=E2
  clear o E2
  clear F
  obtain⟨xa,xl,xc,rfl⟩:=nx.shape
  obtain⟨ya,yl,yc,rfl⟩:=ny.shape
  go_wp2_with fail
  refine(fH _ _ _ _ _ _ _ 120 (by omega) (ae HQb) rfl nq nx).mono ?_
  rintro e w3 ⟨rfl,b⟩
  clear nq nx
  have rA:=rA.next b
  have rB:=rB.next b
  have nr:=nr.next b
  have ny:=ny.next b
  have sz:=Nat.le_trans sz b.size
  have bl:=ag bl b
  clear b
  go_wp2_with fail
  refine(fH _ _ _ _ _ _ _ 120 (by omega) (ae HRb) rfl nr ny).mono ?_
  rintro e w4 ⟨rfl,b⟩
  clear nr ny
  have rA:=rA.next b
  have rB:=rB.next b
  have sz:=Nat.le_trans sz b.size
  have bl:=ag bl b
  clear b
  go_wp2_with fail
  refine(ae CK _ ((ae HT).next bl)).mono ?_
  rintro e w5 ⟨rfl,b⟩
  have bl:=ag bl b
  clear b
  go_wp2
  go_ret
  exact⟨rfl,bl⟩
end Go.Proofs.YtpdpnomocbehkaaGreatDoor
