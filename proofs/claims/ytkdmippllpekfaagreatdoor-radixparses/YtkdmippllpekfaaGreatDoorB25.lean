import Derived.Test.YtkdmippllpekfaaGreatDoorB21
import Derived.Test.YtkdmippllpekfaaGreatDoorB16
import Derived.Test.YtkdmippllpekfaaGreatDoorB24
namespace Go.Proofs.YtkdmippllpekfaaGreatDoor
set_option maxRecDepth 100000
set_option maxHeartbeats 6400000
open Go.RowKit
variable{S S' l l' m m' s s':Int}{G H L g gm go gp gt j k n p q r:Nat}{T:Nat->Nat}{a a0 a1 a2 c:Option Addr}{v v0 v1 v2:Value}{w w':World}
def Ou:Nat->Nat
 |0=>lk
 |1=>kA
 |_=>iI
def Aq(w:World)(B L p gt:Nat)(S:Int):Prop:=∃(r gm go gp H:Nat) (s l m:Int),PS w gt gm go 0 gp p r L H/\gQ w go 0 s l m/\0<=s/\s<=S/\B<=go
theorem Aq.next{B:Nat}(h:Aq w B L p gt S)(b:Below w.heap.size w w'):Aq w' B L p gt S:=by obtain⟨r,gm,go,gp,H,s,l,m,P,M,h0,h1,h2⟩:=h;exact⟨r,gm,go,gp,H,s,l,m,P.next b,M.next b,h0,h1,h2⟩
theorem PS.QQ{oo:Nat}(h:PS w gt gm go oo gp p r L H)(hL:1<=L)(hM:gQ w k 0 s l m):gt≠k/\gm≠k/\gp≠k:=by
 have c:=hM.c0;refine⟨?_,?_,?_⟩
 ·rintro rfl;rw[h.c0]at c;injection c with c
  cases c
 ·rintro rfl;rw[h.mw.c0]at c;injection c with c
  cases c
 ·rintro rfl;have hH:1<=H:=by obtain⟨t,rfl⟩:∃t,L=t+1:=⟨L-1,by omega⟩;have:=h.half;rw[aE,iR _ (by decide)]at this;rw[this];exact one_le_two_pow t
  have e:=h.pw.cell 0 (by rw[mG];exact hH);rw[e]at c;injection c with c
  cases c
theorem Aq.spent{B:Nat}(h:Aq w B L p gt S)(hL:1<=L)(hM:gQ w k 0 s l m)(xu:gQ w' k 0 s' l' m')(hT:Touch k 0 3 w w')(h0:0<=s')(h1:s'<=S')(hS:S<=S'):Aq w' B L p gt S':=by
 obtain⟨r,gm,go,gp,H,s1,l1,m1,P,M,a0,a1,a2⟩:=h;obtain⟨n1,n2,n3⟩:=P.QQ hL hM;have P':=P.off hT.grown n1 n2 n3;by_cases e:go=k
 ·subst e;exact⟨r,gm,go,gp,H,s',l',m',P',xu,h0,h1,a2⟩
 ·exact⟨r,gm,go,gp,H,s1,l1,m1,P',M.but hT.grown e,a0,by omega,a2⟩
theorem Qg:∀j,j<3->∃X,Fld (Ou j) X
 |0,_=>⟨3,ace⟩
 |1,_=>⟨5,n_⟩
 |2,_=>⟨3,o_⟩
theorem YA:∀j,j<3->20<=tw (Ou j)
 |0,_=>by decide+kernel
 |1,_=>by decide+kernel
 |2,_=>by decide+kernel
theorem Qh(hj:j<3)(hL:L<=20):(Ou j-1)/2^L*2^L=Ou j-1:=by obtain⟨X,hX⟩:=Qg j hj;have h:=YA j hj;have ho:=hX.KA;exact Ql ho.2.1 (by have:=ho.2.2;omega) (ak hL h)
theorem tP(hM:gQ w G 0 s l m)(hj:j<3)(hL:L<=20)(hT:TB w)(h0:0<=s)(S:Int)(h1:s<=S)(B:Nat)(hB:B<=G):Calls Tryz.prog 191 #[.pointer (some ⟨G,0,none⟩),.int .u64 (Ou j:Int),.int .i64 (L:Int)] w fun e w'=>∃gt,e=.returned (.tuple #[.pointer (some ⟨gt,0,none⟩),.int .i64 0])/\Aq w' B L (Ou j) gt S/\Below w.heap.size w w':=by
 obtain⟨X,hX⟩:=Qg j hj;refine(NJ hM hX hL (ak hL (YA j hj)) hT).mono ?_;rintro e w' ⟨gt,gm,gp,H,rfl,P,_,b⟩;exact⟨gt,rfl,⟨_,gm,G,gp,H,s,l,m,P,hM.next b,h0,h1,hB⟩,b⟩
theorem Aq.box{B:Nat}(h:Aq w B L p gt S)(hL:1<=L)(h0:w.cell? ⟨G,0,none⟩=some (.pointer a))(h2:w.cell? ⟨G,2,none⟩=some (.pointer c))(hb:w.grownBy w' (some G)):Aq w' B L p gt S:=by
 obtain⟨r,gm,go,gp,H,s1,l1,m1,P,M,a0,a1,a2⟩:=h;have n1:gt≠G:=by
  rintro rfl;rw[P.c2]at h2;injection h2 with e
  cases e
 have n2:gm≠G:=by
  rintro rfl;rw[P.mw.c0]at h0;injection h0 with e
  cases e
 have n3:gp≠G:=by
  rintro rfl;have hH:1<=H:=by obtain⟨t,rfl⟩:∃t,L=t+1:=⟨L-1,by omega⟩;have:=P.half;rw[aE,iR _ (by decide)]at this;rw[this];exact one_le_two_pow t
  have e:=P.pw.cell 0 (by rw[mG];exact hH);rw[e]at h0;injection h0 with e
  cases e
 have n4:go≠G:=by
  rintro rfl;rw[M.c0]at h0;injection h0 with e
  cases e
 exact⟨r,gm,go,gp,H,s1,l1,m1,P.off hb n1 n2 n3,M.but hb n4,a0,a1,a2⟩
def lR(w:World)(B L k:Nat)(S:Int)(a0 a1 a2:Option Addr):Prop:=(0<k->∃gt,a0=some ⟨gt,0,none⟩/\Aq w B L lk gt S)/\(1<k->∃gt,a1=some ⟨gt,0,none⟩/\Aq w B L kA gt S)/\(2<k->∃gt,a2=some ⟨gt,0,none⟩/\Aq w B L iI gt S)
theorem lR.next{B:Nat}(h:lR w B L k S a0 a1 a2)(b:Below w.heap.size w w'):lR w' B L k S a0 a1 a2:=by
 refine⟨fun hk=>?_,fun hk=>?_,fun hk=>?_⟩
 ·obtain⟨gt,e,P⟩:=h.1 hk;exact⟨gt,e,P.next b⟩
 ·obtain⟨gt,e,P⟩:=h.2.1 hk;exact⟨gt,e,P.next b⟩
 ·obtain⟨gt,e,P⟩:=h.2.2 hk;exact⟨gt,e,P.next b⟩
theorem lR.box{B:Nat}(h:lR w B L k S a0 a1 a2)(hL:1<=L)(h0:w.cell? ⟨G,0,none⟩=some (.pointer a))(h2:w.cell? ⟨G,2,none⟩=some (.pointer c))(hb:w.grownBy w' (some G)):lR w' B L k S a0 a1 a2:=by
 refine⟨fun hk=>?_,fun hk=>?_,fun hk=>?_⟩
 ·obtain⟨gt,e,P⟩:=h.1 hk;exact⟨gt,e,P.box hL h0 h2 hb⟩
 ·obtain⟨gt,e,P⟩:=h.2.1 hk;exact⟨gt,e,P.box hL h0 h2 hb⟩
 ·obtain⟨gt,e,P⟩:=h.2.2 hk;exact⟨gt,e,P.box hL h0 h2 hb⟩
theorem lR.start(w:World)(B L:Nat)(S:Int)(a0 a1 a2:Option Addr):lR w B L 0 S a0 a1 a2:=⟨fun h=>absurd h (by omega),fun h=>absurd h (by omega),fun h=>absurd h (by omega)⟩
theorem lR.one{B:Nat}(_h:lR w B L 0 S a0 a1 a2)(P:Aq w B L lk gt S):lR w B L 1 S (some ⟨gt,0,none⟩) a1 a2:=⟨fun _=>⟨gt,rfl,P⟩,fun h=>absurd h (by omega),fun h=>absurd h (by omega)⟩
theorem lR.two{B:Nat}(h:lR w B L 1 S a0 a1 a2)(P:Aq w B L kA gt S):lR w B L 2 S a0 (some ⟨gt,0,none⟩) a2:=⟨fun _=>h.1 (by omega),fun _=>⟨gt,rfl,P⟩,fun h=>absurd h (by omega)⟩
theorem lR.three{B:Nat}(h:lR w B L 2 S a0 a1 a2)(P:Aq w B L iI gt S):lR w B L 3 S a0 a1 (some ⟨gt,0,none⟩):=⟨fun _=>h.1 (by omega),fun _=>h.2.1 (by omega),fun _=>⟨gt,rfl,P⟩⟩
theorem VB3.mk(w:World)(t:Nat):ou (w.alloc (.cells #[.pointer none,.pointer none,.pointer none] t)) w.heap.size [.pointer none,.pointer none,.pointer none] t:=aI w _
theorem SH(w:World):(Instr.index 233 (.agg #[.int .u64 180143985094819841,.int .i64 55,.int .u64 6,.int .u64 1945555039024054273,.int .i64 56,.int .u64 5,.int .u64 4179340454199820289,.int .i64 57,.int .u64 3]) (.int .i64 0)).run Tryz.prog w=.ok (.agg #[.int .u64 180143985094819841,.int .i64 55,.int .u64 6]) w:=by kernel_rfl
theorem SI(w:World):(Instr.index 233 (.agg #[.int .u64 180143985094819841,.int .i64 55,.int .u64 6,.int .u64 1945555039024054273,.int .i64 56,.int .u64 5,.int .u64 4179340454199820289,.int .i64 57,.int .u64 3]) (.int .i64 1)).run Tryz.prog w=.ok (.agg #[.int .u64 1945555039024054273,.int .i64 56,.int .u64 5]) w:=by kernel_rfl
theorem SJ(w:World):(Instr.index 233 (.agg #[.int .u64 180143985094819841,.int .i64 55,.int .u64 6,.int .u64 1945555039024054273,.int .i64 56,.int .u64 5,.int .u64 4179340454199820289,.int .i64 57,.int .u64 3]) (.int .i64 2)).run Tryz.prog w=.ok (.agg #[.int .u64 4179340454199820289,.int .i64 57,.int .u64 3]) w:=by kernel_rfl
theorem Fq(w:World)(n L:Nat)(h1:2<=n)(h2:n<=1048576)(hL:L=Lib.bitLen (n-1))(hL2:L<=20)(hT:TB w):Calls Tryz.prog 163 #[.int .i64 (n:Int)] w fun e w'=>∃a0 a1 a2,e=.returned (.agg #[.pointer a0,.pointer a1,.pointer a2])/\lR w' w.heap.size L 3 0 a0 a1 a2/\Below w.heap.size w w':=by
 have CL:Hid (∀w,Calls Tryz.prog 78 #[.int .u64 ((n:Int)-1)] w fun e w'=>e=.returned (.int .i64 (L:Int))/\w'=w):=fun w=>by have:=ti ((n:Int)-1) w (by omega) (by omega);rwa [show((n:Int)-1).toNat=n-1 from by omega, <-hL]at this
 have C3:=ag (fun w=>ss w);have HTB:=ag (fun w' (b:Below w.heap.size w w')=>hT.next b);have b1:Below w.heap.size w (w.alloc (.cells #[.pointer none,.pointer none,.pointer none] 207)):=(aj _ _).alloc (af _) _;have hR:=VB3.mk w 207;have sz1:(w.alloc (.cells #[.pointer none,.pointer none,.pointer none] 207)).heap.size=w.heap.size+1:=by simp
 obtain⟨W1,mP⟩:∃W1,w.alloc (.cells #[.pointer none,.pointer none,.pointer none] 207)=W1:=⟨_,rfl⟩;rw[mP]at b1 hR sz1;have b2:Below W1.heap.size W1 (W1.alloc (.cells #[.pointer none,.pointer none,.pointer none] 207)):=(aj _ _).alloc (af _) _;have hG0:=VB3.mk W1 207;have sz2:(W1.alloc (.cells #[.pointer none,.pointer none,.pointer none] 207)).heap.size=W1.heap.size+1:=by simp
 obtain⟨W2,Ru⟩:∃W2,W1.alloc (.cells #[.pointer none,.pointer none,.pointer none] 207)=W2:=⟨_,rfl⟩;rw[Ru]at b2 hG0 sz2;obtain⟨G,hG⟩:∃G,W1.heap.size=G:=⟨_,rfl⟩;rw[hG]at hG0;have WG:Hid (w.heap.size<=G):=by show _<=_;omega
 obtain⟨R,hR0⟩:∃R,w.heap.size=R:=⟨_,rfl⟩;rw[hR0]at hR;have RG:Hid (R≠G):=by show ¬_;omega
 have WR:Hid (w.heap.size<=R):=gV hR0;have bl:=ag (aJ b1 b2);have HV0:=ag hG0;have HR:=ag (hR.next b2);have Gw:Hid (1<=L):=by show 1<=L;have:=(jQ 20 (n-1) (by omega) (by omega) (by omega)).1;omega
 clear hL hT b1 b2 hR hG0 sz1 sz2;go_enter Tryz.func163,Tryz.ntmps163
 go_wp2_with fail
 refine(ae CL _).mono ?_;rintro e w1 ⟨rfl,hw⟩;obtain rfl:=hw.symm;clear hw CL
 go_wp2_with fail
 refine(ae C3 _).mono ?_;rintro e w3 ⟨rfl,b⟩;have bl:=ag (aJ (ae bl) b);have HV0:=ag ((ae HV0).next b);have HR:=ag ((ae HR).next b);clear C3 b mP Ru hG;go_wp2;clear hR0
 go_loopw [12] (fun iv wr=>∃(k:Nat) (a0 a1 a2:Option Addr),k<=3/\iv=.int .i64 (k:Int)/\ou wr G [.pointer a0,.pointer a1,.pointer a2] 207/\ou wr R [.pointer none,.pointer none,.pointer none] 207/\lR wr w.heap.size L k 0 a0 a1 a2/\Below w.heap.size w wr) (fun iv _=>3-(intOf iv).toNat)
 case atStart=>exact⟨0,none,none,none,by decide,rfl,ae HV0,ae HR,lR.start _ _ _ _ _ _ _,ae bl⟩
 case round=>
  have Gw:=ae Gw;clear HV0 bl;obtain⟨k,a0,a1,a2,hk,rfl,hV,Bv,hP,hb⟩:=hrel;have hk4:k=0\/k=1\/k=2\/k=3:=by omega
  clear hk;rcases hk4 with rfl|rfl|rfl|rfl
  ·have Zg:=SH;have bA:Below wr.heap.size wr (wr.alloc (.cells #[.int .u64 180143985094819841,.int .i64 55,.int .u64 6] 232)):=(aj _ _).alloc (af _) _;have mt:=He (wr.alloc (.cells #[.int .u64 180143985094819841,.int .i64 55,.int .u64 6] 232)) 137;have bB:Below wr.heap.size wr ((wr.alloc (.cells #[.int .u64 180143985094819841,.int .i64 55,.int .u64 6] 232)).alloc (.cells #[.int .i64 0,.int .i64 0,.int .i64 0] 137)):=bA.alloc bA.size _;have e1:(wr.alloc (.cells #[.int .u64 180143985094819841,.int .i64 55,.int .u64 6] 232)).heap.size=wr.heap.size+1:=(by simp);rw[e1]at mt;have hTw:=ae HTB _ (aJ hb bB);have kF:w.heap.size<=wr.heap.size+1:=by have:=hb.size;omega
   have CP:Hid (Calls Tryz.prog 191 #[.pointer (some ⟨wr.heap.size+1,0,none⟩),.int .u64 180143985094819841,.int .i64 (L:Int)] ((wr.alloc (.cells #[.int .u64 180143985094819841,.int .i64 55,.int .u64 6] 232)).alloc (.cells #[.int .i64 0,.int .i64 0,.int .i64 0] 137)) fun e w'=>∃gt,e=.returned (.tuple #[.pointer (some ⟨gt,0,none⟩),.int .i64 0])/\Aq w' w.heap.size L (Ou 0) gt 0/\Below ((wr.alloc (.cells #[.int .u64 180143985094819841,.int .i64 55,.int .u64 6] 232)).alloc (.cells #[.int .i64 0,.int .i64 0,.int .i64 0] 137)).heap.size ((wr.alloc (.cells #[.int .u64 180143985094819841,.int .i64 55,.int .u64 6] 232)).alloc (.cells #[.int .i64 0,.int .i64 0,.int .i64 0] 137)) w'):=tP (j:=0) mt (by decide) hL2 hTw (by decide) 0 (by decide) w.heap.size kF;have BB:=ag bB;have HB:=ag hb;have HV:=ag hV;have HRw:=ag Bv;have HP:=ag hP;clear bA mt bB e1 hTw kF hb hV hP Bv
   go_wp2_with fail
   refine(ae CP).mono ?_;rintro e w5 ⟨gt,rfl,VZ,b5⟩;have b6:=aJ (ae BB) b5;have V6:=(ae HV).next b6;have q0:w5.cell? ⟨G,0,none⟩=some (.pointer a0):=V6.cell 0 (by simp);have q2:w5.cell? ⟨G,2,none⟩=some (.pointer a2):=V6.cell 2 (by simp);have cv:w5.cell? ⟨G,0,none⟩=some (.pointer a0):=V6.cell 0 (by simp);have fv:=V6.frozen 0;have V7:Hid (ou (w5.setCell ⟨G,0,none⟩ (.pointer (some ⟨gt,0,none⟩))) G [.pointer (some ⟨gt,0,none⟩),.pointer a1,.pointer a2] 207):=V6.set 0 (.pointer (some ⟨gt,0,none⟩));have B7:=ag ((aJ (ae HB) b6).setCell (p:=⟨G,0,none⟩) (ae WG) (.pointer (some ⟨gt,0,none⟩)));have P7:=ag ((((ae HP).next b6).one VZ).box Gw q0 q2 (aY _ G 0 (.pointer (some ⟨gt,0,none⟩))));have R7:=ag (((ae HRw).next b6).but (aY w5 G 0 (.pointer (some ⟨gt,0,none⟩))) (ae RG));clear VZ b5 b6 V6 CP BB q0 q2;go_wp2
   go_roundw
   case rel=>exact⟨1,_,_,_,by decide,rfl,ae V7,ae R7,ae P7,ae B7⟩
   case measure=>simp[intOf]
  ·have Zg:=SI;have bA:Below wr.heap.size wr (wr.alloc (.cells #[.int .u64 1945555039024054273,.int .i64 56,.int .u64 5] 232)):=(aj _ _).alloc (af _) _;have mt:=He (wr.alloc (.cells #[.int .u64 1945555039024054273,.int .i64 56,.int .u64 5] 232)) 137;have bB:Below wr.heap.size wr ((wr.alloc (.cells #[.int .u64 1945555039024054273,.int .i64 56,.int .u64 5] 232)).alloc (.cells #[.int .i64 0,.int .i64 0,.int .i64 0] 137)):=bA.alloc bA.size _;have e1:(wr.alloc (.cells #[.int .u64 1945555039024054273,.int .i64 56,.int .u64 5] 232)).heap.size=wr.heap.size+1:=(by simp);rw[e1]at mt;have hTw:=ae HTB _ (aJ hb bB);have kF:w.heap.size<=wr.heap.size+1:=by have:=hb.size;omega
   have CP:Hid (Calls Tryz.prog 191 #[.pointer (some ⟨wr.heap.size+1,0,none⟩),.int .u64 1945555039024054273,.int .i64 (L:Int)] ((wr.alloc (.cells #[.int .u64 1945555039024054273,.int .i64 56,.int .u64 5] 232)).alloc (.cells #[.int .i64 0,.int .i64 0,.int .i64 0] 137)) fun e w'=>∃gt,e=.returned (.tuple #[.pointer (some ⟨gt,0,none⟩),.int .i64 0])/\Aq w' w.heap.size L (Ou 1) gt 0/\Below ((wr.alloc (.cells #[.int .u64 1945555039024054273,.int .i64 56,.int .u64 5] 232)).alloc (.cells #[.int .i64 0,.int .i64 0,.int .i64 0] 137)).heap.size ((wr.alloc (.cells #[.int .u64 1945555039024054273,.int .i64 56,.int .u64 5] 232)).alloc (.cells #[.int .i64 0,.int .i64 0,.int .i64 0] 137)) w'):=tP (j:=1) mt (by decide) hL2 hTw (by decide) 0 (by decide) w.heap.size kF;have BB:=ag bB;have HB:=ag hb;have HV:=ag hV;have HRw:=ag Bv;have HP:=ag hP;clear bA mt bB e1 hTw kF hb hV hP Bv
   go_wp2_with fail
   refine(ae CP).mono ?_;rintro e w5 ⟨gt,rfl,VZ,b5⟩;have b6:=aJ (ae BB) b5;have V6:=(ae HV).next b6;have q0:w5.cell? ⟨G,0,none⟩=some (.pointer a0):=V6.cell 0 (by simp);have q2:w5.cell? ⟨G,2,none⟩=some (.pointer a2):=V6.cell 2 (by simp);have cv:w5.cell? ⟨G,1,none⟩=some (.pointer a1):=V6.cell 1 (by simp);have fv:=V6.frozen 1;have V7:Hid (ou (w5.setCell ⟨G,1,none⟩ (.pointer (some ⟨gt,0,none⟩))) G [.pointer a0,.pointer (some ⟨gt,0,none⟩),.pointer a2] 207):=V6.set 1 (.pointer (some ⟨gt,0,none⟩));have B7:=ag ((aJ (ae HB) b6).setCell (p:=⟨G,1,none⟩) (ae WG) (.pointer (some ⟨gt,0,none⟩)));have P7:=ag ((((ae HP).next b6).two VZ).box Gw q0 q2 (aY _ G 1 (.pointer (some ⟨gt,0,none⟩))));have R7:=ag (((ae HRw).next b6).but (aY w5 G 1 (.pointer (some ⟨gt,0,none⟩))) (ae RG));clear VZ b5 b6 V6 CP BB q0 q2;go_wp2
   go_roundw
   case rel=>exact⟨2,_,_,_,by decide,rfl,ae V7,ae R7,ae P7,ae B7⟩
   case measure=>simp[intOf]
  ·have Zg:=SJ;have bA:Below wr.heap.size wr (wr.alloc (.cells #[.int .u64 4179340454199820289,.int .i64 57,.int .u64 3] 232)):=(aj _ _).alloc (af _) _;have mt:=He (wr.alloc (.cells #[.int .u64 4179340454199820289,.int .i64 57,.int .u64 3] 232)) 137;have bB:Below wr.heap.size wr ((wr.alloc (.cells #[.int .u64 4179340454199820289,.int .i64 57,.int .u64 3] 232)).alloc (.cells #[.int .i64 0,.int .i64 0,.int .i64 0] 137)):=bA.alloc bA.size _;have e1:(wr.alloc (.cells #[.int .u64 4179340454199820289,.int .i64 57,.int .u64 3] 232)).heap.size=wr.heap.size+1:=(by simp);rw[e1]at mt;have hTw:=ae HTB _ (aJ hb bB);have kF:w.heap.size<=wr.heap.size+1:=by have:=hb.size;omega
   have CP:Hid (Calls Tryz.prog 191 #[.pointer (some ⟨wr.heap.size+1,0,none⟩),.int .u64 4179340454199820289,.int .i64 (L:Int)] ((wr.alloc (.cells #[.int .u64 4179340454199820289,.int .i64 57,.int .u64 3] 232)).alloc (.cells #[.int .i64 0,.int .i64 0,.int .i64 0] 137)) fun e w'=>∃gt,e=.returned (.tuple #[.pointer (some ⟨gt,0,none⟩),.int .i64 0])/\Aq w' w.heap.size L (Ou 2) gt 0/\Below ((wr.alloc (.cells #[.int .u64 4179340454199820289,.int .i64 57,.int .u64 3] 232)).alloc (.cells #[.int .i64 0,.int .i64 0,.int .i64 0] 137)).heap.size ((wr.alloc (.cells #[.int .u64 4179340454199820289,.int .i64 57,.int .u64 3] 232)).alloc (.cells #[.int .i64 0,.int .i64 0,.int .i64 0] 137)) w'):=tP (j:=2) mt (by decide) hL2 hTw (by decide) 0 (by decide) w.heap.size kF;have BB:=ag bB;have HB:=ag hb;have HV:=ag hV;have HRw:=ag Bv;have HP:=ag hP;clear bA mt bB e1 hTw kF hb hV hP Bv
   go_wp2_with fail
   refine(ae CP).mono ?_;rintro e w5 ⟨gt,rfl,VZ,b5⟩;have b6:=aJ (ae BB) b5;have V6:=(ae HV).next b6;have q0:w5.cell? ⟨G,0,none⟩=some (.pointer a0):=V6.cell 0 (by simp);have q2:w5.cell? ⟨G,2,none⟩=some (.pointer a2):=V6.cell 2 (by simp);have cv:w5.cell? ⟨G,2,none⟩=some (.pointer a2):=V6.cell 2 (by simp);have fv:=V6.frozen 2;have V7:Hid (ou (w5.setCell ⟨G,2,none⟩ (.pointer (some ⟨gt,0,none⟩))) G [.pointer a0,.pointer a1,.pointer (some ⟨gt,0,none⟩)] 207):=V6.set 2 (.pointer (some ⟨gt,0,none⟩));have B7:=ag ((aJ (ae HB) b6).setCell (p:=⟨G,2,none⟩) (ae WG) (.pointer (some ⟨gt,0,none⟩)));have P7:=ag ((((ae HP).next b6).three VZ).box Gw q0 q2 (aY _ G 2 (.pointer (some ⟨gt,0,none⟩))));have R7:=ag (((ae HRw).next b6).but (aY w5 G 2 (.pointer (some ⟨gt,0,none⟩))) (ae RG));clear VZ b5 b6 V6 CP BB q0 q2;go_wp2
   go_roundw
   case rel=>exact⟨3,_,_,_,by decide,rfl,ae V7,ae R7,ae P7,ae B7⟩
   case measure=>simp[intOf]
  ·have g0:wr.cell? ⟨G,0,none⟩=some (.pointer a0):=hV.cell 0 (by simp);have g1:wr.cell? ⟨G,1,none⟩=some (.pointer a1):=hV.cell 1 (by simp);have g2:wr.cell? ⟨G,2,none⟩=some (.pointer a2):=hV.cell 2 (by simp);have z0:wr.cell? ⟨R,0,none⟩=some (.pointer none):=Bv.cell 0 (by simp);have z1:wr.cell? ⟨R,1,none⟩=some (.pointer none):=Bv.cell 1 (by simp);have z2:wr.cell? ⟨R,2,none⟩=some (.pointer none):=Bv.cell 2 (by simp);have f0:=Bv.frozen 0;have f1:=Bv.frozen 1;have f2:=Bv.frozen 2;have HP:=ag (hP.box Gw z0 z2 (cj (cj (aY wr R 0 (.pointer a0)) (aY _ R 1 (.pointer a1))) (aY _ R 2 (.pointer a2))));have HB:=ag (((hb.setCell (p:=⟨R,0,none⟩) (ae WR) (.pointer a0)).setCell (p:=⟨R,1,none⟩) (ae WR) (.pointer a1)).setCell (p:=⟨R,2,none⟩) (ae WR) (.pointer a2));clear hP hb hV Bv;go_wp2;refine dR (v:=.agg #[.pointer a0,.pointer a1,.pointer a2]) (by simp[results,Tryz.results163,go_sem,z0,z1,z2]) rfl ?_;exact⟨a0,a1,a2,rfl,ae HP,ae HB⟩
theorem Yr(n m ways:Nat)(w:World)(h1:1<=n)(h2:n<=16384)(h3:1<=m)(h4:m<=16384)(h5:ways<=3):Calls Tryz.prog 162 #[.int .i64 (n:Int),.int .i64 (m:Int),.int .i64 (ways:Int)] w fun e w'=>e=.returned (.int .i64 (tf n m ways:Int))/\w'=w:=by
 have:=Di (n:Int) (m:Int) (ways:Int) w;rw[Qb h1 h2 h3 h4 h5]at this;exact this
def ps(xs ys:List Nat)(k:Nat):Nat->Nat
 |0=>0
 |i+1=>ps xs ys k i+if i<=k/\k-i<ys.length then xs.getD i 0*ys.getD (k-i) 0 else 0
theorem TB.iy{o:Nat}(h:TB w)(hM:gQ w g o s l m)(hT:Touch g o 3 w w'):TB w':=
 ⟨fun j hj=>Touch.keep hM hT (h.b j hj) (fun x e=>by cases e),fun j hj=>Touch.keep hM hT (h.d j hj) (fun x e=>by cases e)⟩
theorem Ph(n m:Nat)(w:World)(h1:1<=n)(h2:1<=m)(h3:n+m<=1048576):Calls Tryz.prog 161 #[.int .i64 (n:Int),.int .i64 (m:Int)] w fun e w'=>e=.returned (.bool true)/\w'=w:=by
 obtain⟨t,ht⟩:∃t,t=n+m:=⟨_,rfl⟩;have e1:(n:Int)+(m:Int)=(t:Int):=by omega
 have e2:IntKind.i64.wrap (t:Int)=(t:Int):=by rw[ao];omega
 have q1:(0:Int)<(n:Int):=by omega
 have q2:(0:Int)<(m:Int):=by omega
 have q3:(t:Int)<=1048576:=by omega
 clear ht;go_enter Tryz.func161,Tryz.ntmps161;go_wp2;go_ret;exact⟨rfl,rfl⟩
def vg(w:World)(p q N:Nat)(T:Nat->Nat)(v:Value):Prop:=∃g zs,v=.slice (some ⟨g,0,none⟩) q N/\cW w g zs/\q<=zs.length/\zs.length=N/\∀i,i<q->zs.getD i 0=T i%p
theorem vg.iy{N:Nat}(h:vg w p q N T v)(hq:1<=q)(hM:gQ w k 0 s l m)(hT:Touch k 0 3 w w'):vg w' p q N T v:=by
 obtain⟨g,zs,e,hB,h1,h2,h3⟩:=h;refine⟨g,zs,e,hB.but hT.grown ?_,h1,h2,h3⟩;rintro rfl;have c:=hB.cell 0 (by omega);rw[hM.c0]at c;injection c with c
 cases c
theorem vg.box{N:Nat}{c:Nat}(h:vg w p q N T v)(hq:1<=q)(h0:w.cell? ⟨G,0,none⟩=some (.slice a n c))(hb:w.grownBy w' (some G)):vg w' p q N T v:=by
 obtain⟨g,zs,e,hB,h1,h2,h3⟩:=h;refine⟨g,zs,e,hB.but hb ?_,h1,h2,h3⟩;rintro rfl;have c:=hB.cell 0 (by omega);rw[h0]at c;injection c with c
 cases c
theorem Aq.rows{B:Nat}{c:Nat}(h:Aq w B L p gt S)(hL:1<=L)(h0:w.cell? ⟨G,0,none⟩=some (.slice a n c))(hb:w.grownBy w' (some G)):Aq w' B L p gt S:=by
 obtain⟨r,gm,go,gp,H,s1,l1,m1,P,M,a0,a1,a2⟩:=h;have n1:gt≠G:=by
  rintro rfl;rw[P.c0]at h0;injection h0 with e
  cases e
 have n2:gm≠G:=by
  rintro rfl;rw[P.mw.c0]at h0;injection h0 with e
  cases e
 have n3:gp≠G:=by
  rintro rfl;have hH:1<=H:=by obtain⟨t,rfl⟩:∃t,L=t+1:=⟨L-1,by omega⟩;have:=P.half;rw[aE,iR _ (by decide)]at this;rw[this];exact one_le_two_pow t
  have e:=P.pw.cell 0 (by rw[mG];exact hH);rw[e]at h0;injection h0 with e
  cases e
 have n4:go≠G:=by
  rintro rfl;rw[M.c0]at h0;injection h0 with e
  cases e
 exact⟨r,gm,go,gp,H,s1,l1,m1,P.off hb n1 n2 n3,M.but hb n4,a0,a1,a2⟩
theorem vS{B:Nat}(hP:Aq w B L (Ou j) gt S)(hj:j<3)(N q:Nat)(hN:N=2^L)(ga gb:Option Addr)(b o cap b' o' bM la lb:Nat)(xs ys:List Nat)(hl:xs.length=la)(hR:cH w ga b o cap xs)(Ad:ys.length=lb)(kV:cH w gb b' o' bM ys)(ha:1<=la)(hb:1<=lb)(hn:q+1=la+lb)(Ul:q<=N)(hL2:L<=20)(hS:S<=109951162777600):Calls Tryz.prog 198 #[.pointer (some ⟨gt,0,none⟩),.slice ga la cap,.slice gb lb bM] w fun e w'=>∃v,e=.returned (.tuple #[v,.bool true])/\vg w' (Ou j) q N (cs xs ys) v/\(∃k s l m s' l' m',gQ w k 0 s l m/\gQ w' k 0 s' l' m'/\Touch k 0 3 w w'/\0<=s'/\s'<=S+1099511627776/\B<=k):=by
 obtain⟨r,gm,go,gp,H,s1,l1,m1,P,M,a0,a1,a2⟩:=hP;have zE:=fW P.low;rw[<-hN]at zE;have hHb:H<=1048576:=by have:=P.half;rw[<-hN]at this;omega
 have hsp:=qQ hHb P.low;refine(Vl P M N q hN ga gb b o cap b' o' bM la lb xs ys hl hR Ad kV ha hb hn Ul a0 (by omega)).mono ?_;rintro e w' ⟨g,rfl,hg,hB,M',T'⟩;have hp:=P.mw.low;have hlen:=vT (Ou j) r L (fu N xs) (fu N ys);rw[<-hN]at hlen;refine⟨_,rfl,⟨g,_,rfl,hB,by rw[hlen];exact Ul,hlen,fun i hi=>?_⟩,go,s1,l1,m1,_,l1,m1,M,M',T',?_,?_,a2⟩
 ·have hc:=JM (n:=q) (xs:=xs) (ys:=ys) (by omega) P.rt (Qh hj hL2) (by omega) (by omega) (by omega) (by rw[<-hN];exact Ul);rw[<-hN]at hc;rw[<-rV _ hi,hc];exact O7 (by omega) (by omega) hi
 ·omega
 ·omega
def Sl(v:Value):Prop:=∃a n c,v=.slice a n c
structure DA(w:World)(k q N:Nat)(T:Nat->Nat)(v0 v1 v2:Value):Prop where
 s0:Sl v0
 r0:0<k->vg w lk q N T v0
 r1:1<k->vg w kA q N T v1
 r2:2<k->vg w iI q N T v2
theorem DA.iy{N:Nat}(h:DA w k q N T v0 v1 v2)(hq:1<=q)(hM:gQ w g 0 s l m)(hT:Touch g 0 3 w w'):DA w' k q N T v0 v1 v2:=
 ⟨h.s0,fun hk=>(h.r0 hk).iy hq hM hT,fun hk=>(h.r1 hk).iy hq hM hT,fun hk=>(h.r2 hk).iy hq hM hT⟩
theorem vg.sl{N:Nat}(h:vg w p q N T v):Sl v:=by obtain⟨g,zs,e,_⟩:=h;exact⟨_,_,_,e⟩
theorem DA.box{N:Nat}(h:DA w k q N T v0 v1 v2)(hq:1<=q)(hs:Sl v)(h0:w.cell? ⟨G,0,none⟩=some v)(hb:w.grownBy w' (some G)):DA w' k q N T v0 v1 v2:=by obtain⟨a,n,c,rfl⟩:=hs;exact⟨h.s0,fun hk=>(h.r0 hk).box hq h0 hb,fun hk=>(h.r1 hk).box hq h0 hb,fun hk=>(h.r2 hk).box hq h0 hb⟩
theorem DA.start(w:World)(q N:Nat)(T:Nat->Nat):DA w 0 q N T (.slice none 0 0) (.slice none 0 0) (.slice none 0 0):=
 ⟨⟨_,_,_,rfl⟩,fun h=>absurd h (by omega),fun h=>absurd h (by omega),fun h=>absurd h (by omega)⟩
theorem DA.one{N:Nat}(_h:DA w 0 q N T v0 v1 v2)(r:vg w lk q N T v):DA w 1 q N T v v1 v2:=
 ⟨r.sl,fun _=>r,fun h=>absurd h (by omega),fun h=>absurd h (by omega)⟩
theorem DA.two{N:Nat}(h:DA w 1 q N T v0 v1 v2)(r:vg w kA q N T v):DA w 2 q N T v0 v v2:=
 ⟨h.s0,fun _=>h.r0 (by omega),fun _=>r,fun h=>absurd h (by omega)⟩
theorem DA.three{N:Nat}(h:DA w 2 q N T v0 v1 v2)(r:vg w iI q N T v):DA w 3 q N T v0 v1 v:=
 ⟨h.s0,fun _=>h.r0 (by omega),fun _=>h.r1 (by omega),fun _=>r⟩
theorem lR.spent{B:Nat}(h:lR w B L n S a0 a1 a2)(hL:1<=L)(hM:gQ w k 0 s l m)(xu:gQ w' k 0 s' l' m')(hT:Touch k 0 3 w w')(h0:0<=s')(h1:s'<=S')(hS:S<=S'):lR w' B L n S' a0 a1 a2:=by
 refine⟨fun hk=>?_,fun hk=>?_,fun hk=>?_⟩
 ·obtain⟨gt,e,P⟩:=h.1 hk;exact⟨gt,e,P.spent hL hM xu hT h0 h1 hS⟩
 ·obtain⟨gt,e,P⟩:=h.2.1 hk;exact⟨gt,e,P.spent hL hM xu hT h0 h1 hS⟩
 ·obtain⟨gt,e,P⟩:=h.2.2 hk;exact⟨gt,e,P.spent hL hM xu hT h0 h1 hS⟩
theorem lR.rows{B:Nat}(h:lR w B L n S a0 a1 a2)(hL:1<=L)(hs:Sl v)(h0:w.cell? ⟨G,0,none⟩=some v)(hb:w.grownBy w' (some G)):lR w' B L n S a0 a1 a2:=by
 obtain⟨a,k,c,rfl⟩:=hs;refine⟨fun hk=>?_,fun hk=>?_,fun hk=>?_⟩
 ·obtain⟨gt,e,P⟩:=h.1 hk;exact⟨gt,e,P.rows hL h0 hb⟩
 ·obtain⟨gt,e,P⟩:=h.2.1 hk;exact⟨gt,e,P.rows hL h0 hb⟩
 ·obtain⟨gt,e,P⟩:=h.2.2 hk;exact⟨gt,e,P.rows hL h0 hb⟩
theorem vI{N:Nat}(h:DA w 3 q N T v0 v1 v2)(hT:∀k,T k<lk*kA*iI)(hq:q<=2097152):Calls Tryz.prog 166 #[.agg #[v0,v1,v2]] w fun e w'=>∃g,e=.returned (.slice (some ⟨g,0,none⟩) q q)/\w.heap.size<=g/\qt w' g q T/\Below w.heap.size w w':=by
 obtain⟨g0,z0,rfl,B0,l0,e0,c0⟩:=h.r0 (by decide);obtain⟨g1,z1,rfl,B1,l1,e1,c1⟩:=h.r1 (by decide);obtain⟨g2,z2,rfl,B2,l2,e2,c2⟩:=h.r2 (by decide);have R0:=B0.rep 0 q N (by omega) (by omega);have R1:=B1.rep 0 q N (by omega) (by omega);have R2:=B2.rep 0 q N (by omega) (by omega);rw[dN]at R0 R1 R2;refine Kz T hq R0 R1 R2 (by simp;omega) (by simp;omega) (by simp;omega) fun k hk=>?_;rw[rV _ hk,rV _ hk,rV _ hk,c0 k hk,c1 k hk,c2 k hk];exact⟨(vC _ _).symm,(vC _ _).symm,(vC _ _).symm,hT k⟩
theorem KI(a0 a1 a2:Option Addr)(w:World):(Instr.index 207 (.agg #[.pointer a0,.pointer a1,.pointer a2]) (.int .i64 0)).run Tryz.prog w=.ok (.pointer a0) w:=by kernel_rfl
theorem KJ(a0 a1 a2:Option Addr)(w:World):(Instr.index 207 (.agg #[.pointer a0,.pointer a1,.pointer a2]) (.int .i64 1)).run Tryz.prog w=.ok (.pointer a1) w:=by kernel_rfl
theorem KN(a0 a1 a2:Option Addr)(w:World):(Instr.index 207 (.agg #[.pointer a0,.pointer a1,.pointer a2]) (.int .i64 2)).run Tryz.prog w=.ok (.pointer a2) w:=by kernel_rfl
theorem abA(n m ways:Nat)(h1:1<=n)(h2:n<=16384)(h3:1<=m)(h4:m<=16384)(h5:ways<=3):tf n m ways<=1073741824:=by have h:=(Fe (n+m) (by omega) (by omega)).2.2;exact ak (Lv h h5) (by decide)
theorem TR(w:World)(go oo:Nat)(s l m:Int)(ga gb:Option Addr)(b o cap la b' o' bM lb q:Nat)(xs ys:List Nat)(hT:TB w)(hM:gQ w go oo s l m)(EZ:0<=s)(hs:s<=2305843009213693952)(hl:xs.length=la)(hR:cH w ga b o cap xs)(dx:bG xs)(Ad:ys.length=lb)(kV:cH w gb b' o' bM ys)(dy:bG ys)(ha:1<=la)(GB:la<=16384)(hb:1<=lb)(jA:lb<=16384)(hq:q+1=la+lb):Calls Tryz.prog 169 #[.pointer (some ⟨go,oo,none⟩),.slice ga la cap,.slice gb lb bM] w fun e w'=>∃g,e=.returned (.tuple #[.slice (some ⟨g,0,none⟩) q q,.bool true])/\w.heap.size<=g/\qt w' g q (cs xs ys)/\gQ w' go oo (s+(tf la lb 3:Int)) l m/\Touch go oo 3 w w':=by
 obtain⟨n,hn⟩:∃n,n=la+lb:=⟨_,rfl⟩;obtain⟨L,hL⟩:∃L,L=Lib.bitLen (n-1):=⟨_,rfl⟩;obtain⟨L1,L2,_,L4⟩:=jQ 15 (n-1) (by omega) (by omega) (by omega);rw[<-hL]at L1 L2 L4;obtain⟨N,hN⟩:∃N,N=2^L:=⟨_,rfl⟩;rw[<-hN]at L4;have hqN:q<=N:=by omega
 have CF:=ag (fun w=>Ph la lb w ha hb (by omega));have CT:=ag (fun w=>Yr la lb 3 w ha GB hb jA (by decide));have htf:=abA la lb 3 ha GB hb jA (by decide);have CS:=ag (jU (tf la lb 3:Int) (s+(tf la lb 3:Int)) hM (by omega) (by omega) (by omega));have CP:=ag (fun w hT=>Fq w n L (by omega) (by omega) hL (by omega) hT);have HT:=ag (fun w' (t:Touch go oo 3 w w')=>(hT.iy hM t));have HR:=ag (fun w' (t:Touch go oo 3 w w')=>(hR.iy hM t));have IG:=ag (fun w' (t:Touch go oo 3 w w')=>(kV.iy hM t));have e1:(la:Int)+(lb:Int)=(n:Int):=by omega
 have e2:IntKind.i64.wrap (n:Int)=(n:Int):=by rw[ao];omega
 generalize tf la lb 3=C at *;have HN:=ag hN;have HTL:Hid (∀k,cs xs ys k<lk*kA*iI):=fun k=>abe dx dy (by omega) k;have Qw:=ag L1;have sL:1<=q:=by omega
 have Ab:=hb;have zK:=hq;clear hM hT hR kV hN hL hn htf;go_enter Tryz.func169,Tryz.ntmps169
 go_wp2_with fail
 refine(ae CF _).mono ?_;rintro e w1 ⟨rfl,hw⟩;obtain rfl:=hw.symm;clear hw CF
 go_wp2_with fail
 refine(ae CT _).mono ?_;rintro e w1 ⟨rfl,hw⟩;obtain rfl:=hw.symm;clear hw CT
 go_wp2_with fail
 refine(ae CS).mono ?_;rintro e w1 ⟨rfl,M1,T1⟩;have hT1:=ae HT _ T1;have R1:=ae HR _ T1;have R1':=ae IG _ T1;have b2:Below w1.heap.size w1 (w1.alloc (.cells #[.slice none 0 0,.slice none 0 0,.slice none 0 0] 205)):=(aj _ _).alloc (af _) _;have V2:ou (w1.alloc (.cells #[.slice none 0 0,.slice none 0 0,.slice none 0 0] 205)) w1.heap.size [.slice none 0 0,.slice none 0 0,.slice none 0 0] 205:=aI w1 _;obtain⟨W2,Ru⟩:∃W2,w1.alloc (.cells #[.slice none 0 0,.slice none 0 0,.slice none 0 0] 205)=W2:=⟨_,rfl⟩;rw[Ru]at b2 V2;obtain⟨X,hX⟩:∃X,w1.heap.size=X:=⟨_,rfl⟩;rw[hX]at V2;have CP:=ag (ae CP W2 (hT1.next b2));have WX:Hid (w1.heap.size<=X):=gV hX;have ID:=ag b2;have HV2:=ag V2;have FZ:=ag M1;have OI:=ag T1;have HR1:=ag R1;have abD:=ag R1';clear CS HT HR IG M1 T1 hT1 R1 R1' b2 V2
 go_wp2_with fail
 refine(ae CP).mono ?_;rintro e w3 ⟨a0,a1,a2,rfl,hP,b3⟩;have B3:=ag (aJ (ae ID) b3);have V3:=ag ((ae HV2).next b3);have GU:Hid (w1.heap.size<=W2.heap.size):=(ae ID).size;have Qx:=ag hP;clear CP ID HV2 Ru hX hP b3;go_wp2
 go_loopw [30] (fun iv wr=>∃(k:Nat) (v0 v1 v2:Value),k<=3/\iv=.int .i64 (k:Int)/\ou wr X [v0,v1,v2] 205/\DA wr k q N (cs xs ys) v0 v1 v2/\lR wr W2.heap.size L 3 ((k:Int)*1099511627776) a0 a1 a2/\Below w1.heap.size w1 wr) (fun iv _=>3-(intOf iv).toNat)
 case atStart=>exact⟨0,_,_,_,by decide,rfl,ae V3,DA.start _ _ _ _,ae Qx,ae B3⟩
 case round=>
  clear V3 Qx B3;obtain⟨k,v0,v1,v2,hk,rfl,hV,hW,hP,hb⟩:=hrel;have hk4:k=0\/k=1\/k=2\/k=3:=by omega
  clear hk;rcases hk4 with rfl|rfl|rfl|rfl
  ·obtain⟨gt,ha,P⟩:=hP.1 (by decide);subst ha;have Zg:=KI;have c0:wr.cell? ⟨X,0,none⟩=some v0:=hV.cell 0 (by simp);have CC:=ag (vS (j:=0) P (by decide) N q (ae HN) ga gb b o cap b' o' bM la lb xs ys hl ((ae HR1).next hb) Ad ((ae abD).next hb) ha Ab zK hqN (by omega) (by decide));have HV:=ag hV;have HW:=ag hW;have HP:=ag hP;have HB:=ag hb;clear P hV hW hP hb c0
   go_wp2_with fail
   refine(ae CC).mono ?_;rintro e w5 ⟨v,rfl,hr,kk,s1,l1,m1,s2,l2,m2,hM,xu,tD,p0,p1,pk⟩;have sl:=hr.sl;have V5:ou w5 X [v0,v1,v2] 205:=(ae HV).but tD.grown (by
    rintro rfl;have c:=(ae HV).cell 0 (by simp);rw[hM.c0]at c;obtain⟨_,_,_,e⟩:=(ae HW).s0;subst e;injection c with c
    cases c)
   have q0:w5.cell? ⟨X,0,none⟩=some v0:=V5.cell 0 (by simp);have cv:w5.cell? ⟨X,0,none⟩=some v0:=V5.cell 0 (by simp);have fv:=V5.frozen 0;have B5:=(ae HB).grown tD.grown (ae HB).size (fun k hk=>by cases hk;exact ak (ae GU) pk);have W5:=((ae HW).iy sL hM tD).one hr;have P5:=(ae HP).spent (ae Qw) hM xu tD p0 p1 (by decide);have V7:Hid (ou (w5.setCell ⟨X,0,none⟩ v) X (([v0,v1,v2]:List Value).set 0 v) 205):=V5.set 0 v;have B7:=ag (B5.setCell (p:=⟨X,0,none⟩) (ae WX) v);have W7:=ag (W5.box sL (ae HW).s0 q0 (aY w5 X 0 v));have P7:=ag (P5.rows (ae Qw) (ae HW).s0 q0 (aY w5 X 0 v));clear hr hM xu tD p0 p1 pk V5 q0 B5 W5 P5 CC HV HW HP HB;obtain⟨sa,sn,sc,rfl⟩:=sl;go_wp2
   go_roundw
   case rel=>exact⟨1,_,_,_,by decide,rfl,ae V7,ae W7,ae P7,ae B7⟩
   case measure=>simp[intOf]
  ·obtain⟨gt,ha,P⟩:=hP.2.1 (by decide);subst ha;have Zg:=KJ;have c0:wr.cell? ⟨X,0,none⟩=some v0:=hV.cell 0 (by simp);have CC:=ag (vS (j:=1) P (by decide) N q (ae HN) ga gb b o cap b' o' bM la lb xs ys hl ((ae HR1).next hb) Ad ((ae abD).next hb) ha Ab zK hqN (by omega) (by decide));have HV:=ag hV;have HW:=ag hW;have HP:=ag hP;have HB:=ag hb;clear P hV hW hP hb c0
   go_wp2_with fail
   refine(ae CC).mono ?_;rintro e w5 ⟨v,rfl,hr,kk,s1,l1,m1,s2,l2,m2,hM,xu,tD,p0,p1,pk⟩;have sl:=hr.sl;have V5:ou w5 X [v0,v1,v2] 205:=(ae HV).but tD.grown (by
    rintro rfl;have c:=(ae HV).cell 0 (by simp);rw[hM.c0]at c;obtain⟨_,_,_,e⟩:=(ae HW).s0;subst e;injection c with c
    cases c)
   have q0:w5.cell? ⟨X,0,none⟩=some v0:=V5.cell 0 (by simp);have cv:w5.cell? ⟨X,1,none⟩=some v1:=V5.cell 1 (by simp);have fv:=V5.frozen 1;have B5:=(ae HB).grown tD.grown (ae HB).size (fun k hk=>by cases hk;exact ak (ae GU) pk);have W5:=((ae HW).iy sL hM tD).two hr;have P5:=(ae HP).spent (ae Qw) hM xu tD p0 p1 (by decide);have V7:Hid (ou (w5.setCell ⟨X,1,none⟩ v) X (([v0,v1,v2]:List Value).set 1 v) 205):=V5.set 1 v;have B7:=ag (B5.setCell (p:=⟨X,1,none⟩) (ae WX) v);have W7:=ag (W5.box sL (ae HW).s0 q0 (aY w5 X 1 v));have P7:=ag (P5.rows (ae Qw) (ae HW).s0 q0 (aY w5 X 1 v));clear hr hM xu tD p0 p1 pk V5 q0 B5 W5 P5 CC HV HW HP HB;obtain⟨sa,sn,sc,rfl⟩:=sl;go_wp2
   go_roundw
   case rel=>exact⟨2,_,_,_,by decide,rfl,ae V7,ae W7,ae P7,ae B7⟩
   case measure=>simp[intOf]
  ·obtain⟨gt,ha,P⟩:=hP.2.2 (by decide);subst ha;have Zg:=KN;have c0:wr.cell? ⟨X,0,none⟩=some v0:=hV.cell 0 (by simp);have CC:=ag (vS (j:=2) P (by decide) N q (ae HN) ga gb b o cap b' o' bM la lb xs ys hl ((ae HR1).next hb) Ad ((ae abD).next hb) ha Ab zK hqN (by omega) (by decide));have HV:=ag hV;have HW:=ag hW;have HP:=ag hP;have HB:=ag hb;clear P hV hW hP hb c0
   go_wp2_with fail
   refine(ae CC).mono ?_;rintro e w5 ⟨v,rfl,hr,kk,s1,l1,m1,s2,l2,m2,hM,xu,tD,p0,p1,pk⟩;have sl:=hr.sl;have V5:ou w5 X [v0,v1,v2] 205:=(ae HV).but tD.grown (by
    rintro rfl;have c:=(ae HV).cell 0 (by simp);rw[hM.c0]at c;obtain⟨_,_,_,e⟩:=(ae HW).s0;subst e;injection c with c
    cases c)
   have q0:w5.cell? ⟨X,0,none⟩=some v0:=V5.cell 0 (by simp);have cv:w5.cell? ⟨X,2,none⟩=some v2:=V5.cell 2 (by simp);have fv:=V5.frozen 2;have B5:=(ae HB).grown tD.grown (ae HB).size (fun k hk=>by cases hk;exact ak (ae GU) pk);have W5:=((ae HW).iy sL hM tD).three hr;have P5:=(ae HP).spent (ae Qw) hM xu tD p0 p1 (by decide);have V7:Hid (ou (w5.setCell ⟨X,2,none⟩ v) X (([v0,v1,v2]:List Value).set 2 v) 205):=V5.set 2 v;have B7:=ag (B5.setCell (p:=⟨X,2,none⟩) (ae WX) v);have W7:=ag (W5.box sL (ae HW).s0 q0 (aY w5 X 2 v));have P7:=ag (P5.rows (ae Qw) (ae HW).s0 q0 (aY w5 X 2 v));clear hr hM xu tD p0 p1 pk V5 q0 B5 W5 P5 CC HV HW HP HB;obtain⟨sa,sn,sc,rfl⟩:=sl;go_wp2
   go_roundw
   case rel=>exact⟨3,_,_,_,by decide,rfl,ae V7,ae W7,ae P7,ae B7⟩
   case measure=>simp[intOf]
  ·have CN:=ag (vI hW (ae HTL) (by omega));have g0:wr.cell? ⟨X,0,none⟩=some v0:=hV.cell 0 (by simp);have g1:wr.cell? ⟨X,1,none⟩=some v1:=hV.cell 1 (by simp);have g2:wr.cell? ⟨X,2,none⟩=some v2:=hV.cell 2 (by simp);obtain⟨t0,n0,d0,rfl⟩:=(hW.r0 (by decide)).sl;obtain⟨t1,n1,d1,rfl⟩:=(hW.r1 (by decide)).sl;obtain⟨t2,n2,d2,rfl⟩:=(hW.r2 (by decide)).sl;have HB:=ag hb;clear hV hW hP hb
   go_wp2_with fail
   refine(ae CN).mono ?_;rintro e w5 ⟨g,rfl,hg,Gz,b5⟩;have b6:=aJ (ae HB) b5;have M6:=(ae FZ).next b6;have T6:=(ae OI).then b6 (ae FZ).lt;have Wk:Hid (w.heap.size<=g):=by have h1:=(ae OI).grown.size;have h2:=(ae HB).size;show _<=_;omega
   clear CN g0 g1 g2 hg b5 b6;go_wp2
   go_ret2
   exact⟨g,rfl,ae Wk,Gz,M6,T6⟩
theorem JD(w:World)(go oo:Nat)(s l m:Int)(ga gb:Option Addr)(b o cap la b' o' bM lb:Nat)(xs ys:List Nat)(hT:TB w)(hM:gQ w go oo s l m)(EZ:0<=s)(hs:s<=2305843009213693952)(hl:xs.length=la)(hR:cH w ga b o cap xs)(dx:bG xs)(Ad:ys.length=lb)(kV:cH w gb b' o' bM ys)(dy:bG ys)(ha:1<=la)(GB:la<=16384)(hb:1<=lb)(jA:lb<=16384):Calls Tryz.prog 139 #[.pointer (some ⟨go,oo,none⟩),.slice ga la cap,.slice gb lb bM] w fun e w'=>∃v,e=.returned (.tuple #[v,.bool true])/\aU w.heap.size w' v (aB xs*aB ys)/\gQ w' go oo (s+(tf la lb 3:Int)) l m/\Touch go oo 3 w w':=by
 obtain⟨q,hq⟩:∃q,q+1=la+lb:=⟨la+lb-1,by omega⟩;have CW:=ag (TR w go oo s l m ga gb b o cap la b' o' bM lb q xs ys hT hM EZ hs hl hR dx Ad kV dy ha GB hb jA hq);have HE:=ag (JI (xs:=xs) (ys:=ys) (n:=q) (by omega));have CC:=ag (fun w g (h:qt w g q (cs xs ys))=>Ey w (some ⟨g,0,none⟩) g q q (cs xs ys) (by omega) (fun _=>rfl) (by omega) (af _) h);rw[ae HE]at CC;have HG:=ag hM.lt;clear hT hM hR kV HE hl Ad ha hb GB jA hq dx dy;generalize aB xs*aB ys=V at *;generalize cs xs ys=T at *;generalize tf la lb 3=C at *;go_enter Tryz.func139,Tryz.ntmps139
 go_wp2_with fail
 refine(ae CW).mono ?_;rintro e w1 ⟨g,rfl,hg,Gz,M1,T1⟩;have CC:=ag (ae CC _ _ Gz);have HM:=ag M1;have HT:=ag T1;clear CW Gz hg M1 T1
 go_wp2_with fail
 refine(ae CC).mono ?_;rintro e w2 ⟨r,rfl,nr,b2⟩;have M2:=(ae HM).next b2;have T2:=(ae HT).then b2 (ae HM).lt;have nr:=nr.mono (ae HT).grown.size;clear CC b2;go_wp2
 go_ret2
 exact⟨r,rfl,nr,M2,T2⟩
theorem Ln(P:PS w gt gm go 0 gp p r L H)(hM:gQ w go 0 s l m)(N q:Nat)(hN:N=2^L)(ga:Option Addr)(b o cap la:Nat)(xs:List Nat)(hl:xs.length=la)(hR:cH w ga b o cap xs)(_ha:1<=la)(hn:q+1=la+la)(Ul:q<=N)(EZ:0<=s)(hs:s<=2305843009213693952):Calls Tryz.prog 164 #[.pointer (some ⟨gt,0,none⟩),.slice ga la cap] w fun e w'=>∃g,e=.returned (.slice (some ⟨g,0,none⟩) q N)/\w.heap.size<=g/\cW w' g (JL p r L (fu N xs) (fu N xs))/\gQ w' go 0 (s+((2*(H*L)+N:Nat):Int)) l m/\Touch go 0 3 w w':=by
 have zE:=fW P.low;rw[<-hN]at zE;have CZ:=ag (tW P hN);have qG:=uK N N (N:Int) rfl rfl (by omega);obtain⟨k,hk⟩:∃k,k=min N la:=⟨_,rfl⟩;have hkl:k<=xs.length:=by omega
 have Gy:=hR.take k hkl;have kt:(xs.take k).length=k:=by simp;omega
 have e:fu N xs=xs.take k++List.replicate (N-k) 0:=by unfold fu;rw[hl, <-hk]
 have HC:=ag (fun ob=>rm Gy ob);have HBK:Hid (∀w',w'.heap[w.heap.size]?=some (.cells (splice (dS N) 0 (iU (xs.take k))).toArray 47 (0,0))->cW w' w.heap.size (fu N xs)):=fun w' h=>by show _=_;rw[e, <-Db (xs.take k) N k kt (by omega)];exact h
 have qk:=lL N xs;have hH:=P.half;rw[<-hN]at hH;have Ue:H*L<=20971520:=qQ (by omega) P.low;have nV:=hM.lt;have CF:Hid (∀w',Below w.heap.size w w'->cW w' w.heap.size (fu N xs)->Calls Tryz.prog 193 #[.pointer (some ⟨gt,0,none⟩),.slice (some ⟨w.heap.size,0,none⟩) N N] w' fun e sP=>e=.returned (.tuple #[.slice (some ⟨w'.heap.size,0,none⟩) N N,.bool true])/\cW sP w'.heap.size (fwd p r (fu N xs))/\gQ sP go 0 (s+((H*L:Nat):Int)) l m/\Touch go 0 3 w' sP):=fun w' t B=>
  pA (P.next t) (hM.next t) N hN _ w.heap.size 0 N _ qk (B.whole qk) EZ (by omega)
 have HW:Hid (∀w',Touch go 0 3 w w'->PS w' gt gm go 0 gp p r L H):=fun w' t=>P.but t.grown;have HI:Hid (∀w' g (s':Int) (zs:List Nat),Touch go 0 3 w w'->gQ w' go 0 s' l m->zs.length=N->cW w' g zs->0<=s'->s'<=4611686018427387904->Calls Tryz.prog 195 #[.pointer (some ⟨gt,0,none⟩),.slice (some ⟨g,0,none⟩) N N] w' fun e sP=>e=.returned (.tuple #[.slice (some ⟨w'.heap.size,0,none⟩) N N,.bool true])/\cW sP w'.heap.size (Kf p r L zs)/\gQ sP go 0 (s'+((H*L+N:Nat):Int)) l m/\Touch go 0 3 w' sP):=fun w' g s' zs t M hz hB h0 h1=>
  zL (P.but t.grown) M N hN (some ⟨g,0,none⟩) g 0 N zs hz (hB.whole hz) h0 h1
 have HCY:Hid (JL p r L (fu N xs) (fu N xs)=Kf p r L ((List.range N).map fun i=>ml p ((fwd p r (fu N xs)).getD i 0) ((fwd p r (fu N xs)).getD i 0))):=by show _=_;unfold JL Ku;rw[iB,qk]
 have hfx:(fwd p r (fu N xs)).length=N:=by rw[iB,qk]
 have HCM:=ag (fun w' g (h:MW w' g p) x y=>mul_mod h x y);generalize JL p r L (fu N xs) (fu N xs)=Z at *;generalize fwd p r (fu N xs)=X at *;generalize Kf p r L=I at *;generalize fu N xs=Y at *;generalize H*L=K at *;obtain⟨S,hS⟩:∃S:Int,S=s+((2*K+N:Nat):Int):=⟨_,rfl⟩;rw[<-hS];obtain⟨s1,xB⟩:∃s1:Int,s1=s+(K:Int):=⟨_,rfl⟩;rw[<-xB]at CF;have r2:Hid (0<=s1/\s1<=4611686018427387904/\s1+((K+N:Nat):Int)=S):=by show _/\_;omega
 obtain⟨n2,xA⟩:∃n2,n2=la+la:=⟨_,rfl⟩;have e1:2*(la:Int)=(n2:Int):=by omega
 have e2:IntKind.i64.wrap (n2:Int)=(n2:Int):=by rw[ao];omega
 have e3:(n2:Int)-1=(q:Int):=by omega
 have e4:IntKind.i64.wrap (q:Int)=(q:Int):=by rw[ao];omega
 have e5:(q:Int)<=(N:Int):=by omega
 generalize xs.take k=ys at *;clear hR Gy e hkl hN P hM hS xB xA hH hl qk;go_enter Tryz.func164,Tryz.ntmps164
 go_wp2_with fail
 refine(ae CZ).mono ?_;rintro e w0 ⟨rfl,DV⟩;obtain rfl:=DV.symm;clear DV CZ
 go_wp2_with (refine wpList_copy_splice rfl _ _ 24 24 rfl 47 bm Tryz.pL _ _ N N la cap rfl rfl w.heap.size 0 (dS N) 47 ?h1 (iU ys) ?h2 ?h3 ?h4 (gD _) w.heap.size w ?h5 (af _) ?_)
 case h1=>exact aI w _
 case h2=>rw[dL,kt];exact hk.trans (Nat.min_comm N la)
 case h3=>exact ae HC _
 case h4=>rw[dL,kU,kt];omega
 case h5=>exact(aj _ _).alloc (af _) _
 intro w2 kW jA;have wa:=ae HBK _ kW.out;have CF:=ag (ae CF _ jA wa);have ID:=ag jA;have G2:Hid (go<w2.heap.size):=az nV jA.size;have G3:Hid (w.heap.size<=w2.heap.size):=jA.size;clear kW HC qG HBK jA wa
 go_wp2_with fail
 refine(ae CF).mono ?_;rintro e w3 ⟨rfl,Zc,M3,T3⟩;have T3:=ag (T3.after (ae ID) nV);obtain⟨G,hG⟩:∃G,w2.heap.size=G:=⟨_,rfl⟩;rw[hG]at Zc G2 G3;have hgG:Hid (go≠G):=by have:=ae G2;show _≠_;omega
 have B3:=ag Zc;have M3:=ag M3;clear CF Zc;go_wp2;clear hG
 go_loopw [24] (fun iv wr=>∃(k:Nat) (zs:List Nat),k<=N/\iv=.int .i64 (k:Int)/\Hid (mn (fun i=>ml p (X.getD i 0) (X.getD i 0)) X zs k)/\cW wr G zs/\gQ wr go 0 s1 l m/\Touch go 0 3 w wr) (fun iv _=>N-(intOf iv).toNat)
 case atStart=>exact⟨0,X,aO _,rfl,nY _ X,ae B3,ae M3,ae T3⟩
 case round=>
  clear B3 M3 T3;obtain⟨k,zs,hk,rfl,hV,hB,hM,hT⟩:=hrel;have kG:zs.length=N:=by rw[hV.out.1,hfx]
  by_cases h2:k<N
  ·have DF:(k:Int)<(N:Int):=(by omega);obtain⟨x,hx⟩:∃x,x=X.getD k 0:=⟨_,rfl⟩;have cx:wr.cell? ⟨G,k,none⟩=some (.int .u64 (x:Int)):=by rw[hx, <-uL hV.out (by omega)];exact hB.cell k (by omega)
   have P5:=ae HW _ hT;have c0:=P5.c0;have CMm:=ag (ae HCM wr gm P5.mw x x);have fR:Hid (mn (fun i=>ml p (X.getD i 0) (X.getD i 0)) X (zs.set k (ml p x x)) (k+1)):=by rw[hx];exact pI hV.out (by omega)
   have vH:Hid (N-(k+1)<N-k):=by show _<_;omega
   have HB:=ag hB;have HM:=ag hM;have HT:=ag hT;clear P5 hx hV hB hM hT;generalize ml p x x=v at *
   go_wp2_with fail
   refine(ae CMm).mono ?_;rintro e w6 ⟨rfl,b6⟩;have q_:=(ae HB).next b6;have c6:=q_.cell k (by omega);have f6:=q_.frozen k;have B7:=ag (q_.set k v);have M7:=ag (((ae HM).next b6).but (aY _ G k (.int .u64 (v:Int))) (ae hgG));have T7:=ag (((ae HT).then b6 (ae HM).lt).fresh (aY _ G k (.int .u64 (v:Int))) nV (ae G3));clear q_ b6 c0 cx CMm HB HM HT;go_wp2
   go_roundw
   case rel=>exact⟨k+1,_,by omega,by go_num,fR,ae B7,ae M7,ae T7⟩
   case measure=>simp[intOf];have:=ae vH;omega
  ·obtain rfl:k=N:=(by omega);have RH:=rK (f:=fun i=>ml p (X.getD i 0) (X.getD i 0)) (z0:=X) (zs:=zs) (by rw[hfx];exact hV.out);rw[hfx]at RH;have HZ:Hid (I zs=Z):=by show _=_;rw[ae HCY,RH]
   obtain⟨r21,r22,r23⟩:=ae r2;have CI:=ag (ae HI _ G s1 zs hT hM kG hB r21 r22);have R23:=ag r23;have HT:=ag hT;have hle:Hid (w.heap.size<=wr.heap.size):=hT.grown.size;clear hV RH HCY r21 r22 r23 hB hM hT r2
   go_wp2_with fail
   refine(ae CI).mono ?_;rintro e w8 ⟨rfl,hB8,M8,T8⟩;rw[ae HZ]at hB8;rw[ae R23]at M8;have T9:=(ae HT).trans T8;clear CI T8 R23 HZ;go_wp2;go_ret;exact⟨wr.heap.size,rfl,ae hle,hB8,M8,T9⟩
theorem rT{B:Nat}(hP:Aq w B L (Ou j) gt S)(hj:j<3)(N q:Nat)(hN:N=2^L)(ga:Option Addr)(b o cap la:Nat)(xs:List Nat)(hl:xs.length=la)(hR:cH w ga b o cap xs)(ha:1<=la)(hn:q+1=la+la)(Ul:q<=N)(hL2:L<=20)(hS:S<=109951162777600):Calls Tryz.prog 164 #[.pointer (some ⟨gt,0,none⟩),.slice ga la cap] w fun e w'=>∃v,e=.returned v/\vg w' (Ou j) q N (cs xs xs) v/\(∃k s l m s' l' m',gQ w k 0 s l m/\gQ w' k 0 s' l' m'/\Touch k 0 3 w w'/\0<=s'/\s'<=S+1099511627776/\B<=k):=by
 obtain⟨r,gm,go,gp,H,s1,l1,m1,P,M,a0,a1,a2⟩:=hP;have zE:=fW P.low;rw[<-hN]at zE;have hHb:H<=1048576:=by have:=P.half;rw[<-hN]at this;omega
 have hsp:=qQ hHb P.low;refine(Ln P M N q hN ga b o cap la xs hl hR ha hn Ul a0 (by omega)).mono ?_;rintro e w' ⟨g,rfl,hg,hB,M',T'⟩;have hp:=P.mw.low;have hlen:=vT (Ou j) r L (fu N xs) (fu N xs);rw[<-hN]at hlen;refine⟨_,rfl,⟨g,_,rfl,hB,by rw[hlen];exact Ul,hlen,fun i hi=>?_⟩,go,s1,l1,m1,_,l1,m1,M,M',T',?_,?_,a2⟩
 ·have hc:=JM (n:=q) (xs:=xs) (ys:=xs) (by omega) P.rt (Qh hj hL2) (by omega) (by omega) (by omega) (by rw[<-hN];exact Ul);rw[<-hN]at hc;rw[<-rV _ hi,hc];exact O7 (by omega) (by omega) hi
 ·omega
 ·omega
theorem JG(w:World)(go oo:Nat)(s l m:Int)(ga:Option Addr)(b o cap la:Nat)(xs:List Nat)(hT:TB w)(hM:gQ w go oo s l m)(EZ:0<=s)(hs:s<=2305843009213693952)(hl:xs.length=la)(hR:cH w ga b o cap xs)(dx:bG xs)(ha:1<=la)(GB:la<=16384):Calls Tryz.prog 132 #[.pointer (some ⟨go,oo,none⟩),.slice ga la cap] w fun e w'=>∃v,e=.returned (.tuple #[v,.bool true])/\aU w.heap.size w' v (aB xs*aB xs)/\gQ w' go oo (s+(tf la la 2:Int)) l m/\Touch go oo 3 w w':=by
 obtain⟨q,hq⟩:∃q,q+1=la+la:=⟨la+la-1,by omega⟩;have HE:=ag (JI (xs:=xs) (ys:=xs) (n:=q) (by omega));have CC:=ag (fun w g (h:qt w g q (cs xs xs))=>Ey w (some ⟨g,0,none⟩) g q q (cs xs xs) (by omega) (fun _=>rfl) (by omega) (af _) h);rw[ae HE]at CC;clear HE;generalize aB xs*aB xs=V at *;obtain⟨n,hn⟩:∃n,n=la+la:=⟨_,rfl⟩;obtain⟨L,hL⟩:∃L,L=Lib.bitLen (n-1):=⟨_,rfl⟩;obtain⟨L1,L2,_,L4⟩:=jQ 15 (n-1) (by omega) (by omega) (by omega);rw[<-hL]at L1 L2 L4;obtain⟨N,hN⟩:∃N,N=2^L:=⟨_,rfl⟩;rw[<-hN]at L4;have hqN:q<=N:=by omega
 have CF:=ag (fun w=>Ph la la w ha ha (by omega));have CT:=ag (fun w=>Yr la la 2 w ha GB ha GB (by decide));have htf:=abA la la 2 ha GB ha GB (by decide);have CS:=ag (jU (tf la la 2:Int) (s+(tf la la 2:Int)) hM (by omega) (by omega) (by omega));have CP:=ag (fun w hT=>Fq w n L (by omega) (by omega) hL (by omega) hT);have HT:=ag (fun w' (t:Touch go oo 3 w w')=>(hT.iy hM t));have HR:=ag (fun w' (t:Touch go oo 3 w w')=>(hR.iy hM t));have e1:2*(la:Int)=(n:Int):=by omega
 have e2:IntKind.i64.wrap (n:Int)=(n:Int):=by rw[ao];omega
 generalize tf la la 2=C at *;have HN:=ag hN;have HTL:Hid (∀k,cs xs xs k<lk*kA*iI):=fun k=>abe dx dx (by omega) k;have Qw:=ag L1;have sL:1<=q:=by omega
 have zK:=hq;clear hM hT hR hN hL hn htf;go_enter Tryz.func132,Tryz.ntmps132
 go_wp2_with fail
 refine(ae CF _).mono ?_;rintro e w1 ⟨rfl,hw⟩;obtain rfl:=hw.symm;clear hw CF
 go_wp2_with fail
 refine(ae CT _).mono ?_;rintro e w1 ⟨rfl,hw⟩;obtain rfl:=hw.symm;clear hw CT
 go_wp2_with fail
 refine(ae CS).mono ?_;rintro e w1 ⟨rfl,M1,T1⟩;have hT1:=ae HT _ T1;have R1:=ae HR _ T1;have b2:Below w1.heap.size w1 (w1.alloc (.cells #[.slice none 0 0,.slice none 0 0,.slice none 0 0] 205)):=(aj _ _).alloc (af _) _;have V2:ou (w1.alloc (.cells #[.slice none 0 0,.slice none 0 0,.slice none 0 0] 205)) w1.heap.size [.slice none 0 0,.slice none 0 0,.slice none 0 0] 205:=aI w1 _;obtain⟨W2,Ru⟩:∃W2,w1.alloc (.cells #[.slice none 0 0,.slice none 0 0,.slice none 0 0] 205)=W2:=⟨_,rfl⟩;rw[Ru]at b2 V2;obtain⟨X,hX⟩:∃X,w1.heap.size=X:=⟨_,rfl⟩;rw[hX]at V2;have CP:=ag (ae CP W2 (hT1.next b2));have WX:Hid (w1.heap.size<=X):=gV hX;have ID:=ag b2;have HV2:=ag V2;have FZ:=ag M1;have OI:=ag T1;have HR1:=ag R1;clear CS HT HR M1 T1 hT1 R1 b2 V2
 go_wp2_with fail
 refine(ae CP).mono ?_;rintro e w3 ⟨a0,a1,a2,rfl,hP,b3⟩;have B3:=ag (aJ (ae ID) b3);have V3:=ag ((ae HV2).next b3);have GU:Hid (w1.heap.size<=W2.heap.size):=(ae ID).size;have Qx:=ag hP;clear CP ID HV2 Ru hX hP b3;go_wp2
 go_loopw [26] (fun iv wr=>∃(k:Nat) (v0 v1 v2:Value),k<=3/\iv=.int .i64 (k:Int)/\ou wr X [v0,v1,v2] 205/\DA wr k q N (cs xs xs) v0 v1 v2/\lR wr W2.heap.size L 3 ((k:Int)*1099511627776) a0 a1 a2/\Below w1.heap.size w1 wr) (fun iv _=>3-(intOf iv).toNat)
 case atStart=>exact⟨0,_,_,_,by decide,rfl,ae V3,DA.start _ _ _ _,ae Qx,ae B3⟩
 case round=>
  clear V3 Qx B3;obtain⟨k,v0,v1,v2,hk,rfl,hV,hW,hP,hb⟩:=hrel;have hk4:k=0\/k=1\/k=2\/k=3:=by omega
  clear hk;rcases hk4 with rfl|rfl|rfl|rfl
  ·obtain⟨gt,ha,P⟩:=hP.1 (by decide);subst ha;have Zg:=KI;have c0:wr.cell? ⟨X,0,none⟩=some v0:=hV.cell 0 (by simp);have CC:=ag (rT (j:=0) P (by decide) N q (ae HN) ga b o cap la xs hl ((ae HR1).next hb) ha zK hqN (by omega) (by decide));have HV:=ag hV;have HW:=ag hW;have HP:=ag hP;have HB:=ag hb;clear P hV hW hP hb c0
   go_wp2_with fail
   refine(ae CC).mono ?_;rintro e w5 ⟨v,rfl,hr,kk,s1,l1,m1,s2,l2,m2,hM,xu,tD,p0,p1,pk⟩;have sl:=hr.sl;have V5:ou w5 X [v0,v1,v2] 205:=(ae HV).but tD.grown (by
    rintro rfl;have c:=(ae HV).cell 0 (by simp);rw[hM.c0]at c;obtain⟨_,_,_,e⟩:=(ae HW).s0;subst e;injection c with c
    cases c)
   have q0:w5.cell? ⟨X,0,none⟩=some v0:=V5.cell 0 (by simp);have cv:w5.cell? ⟨X,0,none⟩=some v0:=V5.cell 0 (by simp);have fv:=V5.frozen 0;have B5:=(ae HB).grown tD.grown (ae HB).size (fun k hk=>by cases hk;exact ak (ae GU) pk);have W5:=((ae HW).iy sL hM tD).one hr;have P5:=(ae HP).spent (ae Qw) hM xu tD p0 p1 (by decide);have V7:Hid (ou (w5.setCell ⟨X,0,none⟩ v) X (([v0,v1,v2]:List Value).set 0 v) 205):=V5.set 0 v;have B7:=ag (B5.setCell (p:=⟨X,0,none⟩) (ae WX) v);have W7:=ag (W5.box sL (ae HW).s0 q0 (aY w5 X 0 v));have P7:=ag (P5.rows (ae Qw) (ae HW).s0 q0 (aY w5 X 0 v));clear hr hM xu tD p0 p1 pk V5 q0 B5 W5 P5 CC HV HW HP HB;obtain⟨sa,sn,sc,rfl⟩:=sl;go_wp2
   go_roundw
   case rel=>exact⟨1,_,_,_,by decide,rfl,ae V7,ae W7,ae P7,ae B7⟩
   case measure=>simp[intOf]
  ·obtain⟨gt,ha,P⟩:=hP.2.1 (by decide);subst ha;have Zg:=KJ;have c0:wr.cell? ⟨X,0,none⟩=some v0:=hV.cell 0 (by simp);have CC:=ag (rT (j:=1) P (by decide) N q (ae HN) ga b o cap la xs hl ((ae HR1).next hb) ha zK hqN (by omega) (by decide));have HV:=ag hV;have HW:=ag hW;have HP:=ag hP;have HB:=ag hb;clear P hV hW hP hb c0
   go_wp2_with fail
   refine(ae CC).mono ?_;rintro e w5 ⟨v,rfl,hr,kk,s1,l1,m1,s2,l2,m2,hM,xu,tD,p0,p1,pk⟩;have sl:=hr.sl;have V5:ou w5 X [v0,v1,v2] 205:=(ae HV).but tD.grown (by
    rintro rfl;have c:=(ae HV).cell 0 (by simp);rw[hM.c0]at c;obtain⟨_,_,_,e⟩:=(ae HW).s0;subst e;injection c with c
    cases c)
   have q0:w5.cell? ⟨X,0,none⟩=some v0:=V5.cell 0 (by simp);have cv:w5.cell? ⟨X,1,none⟩=some v1:=V5.cell 1 (by simp);have fv:=V5.frozen 1;have B5:=(ae HB).grown tD.grown (ae HB).size (fun k hk=>by cases hk;exact ak (ae GU) pk);have W5:=((ae HW).iy sL hM tD).two hr;have P5:=(ae HP).spent (ae Qw) hM xu tD p0 p1 (by decide);have V7:Hid (ou (w5.setCell ⟨X,1,none⟩ v) X (([v0,v1,v2]:List Value).set 1 v) 205):=V5.set 1 v;have B7:=ag (B5.setCell (p:=⟨X,1,none⟩) (ae WX) v);have W7:=ag (W5.box sL (ae HW).s0 q0 (aY w5 X 1 v));have P7:=ag (P5.rows (ae Qw) (ae HW).s0 q0 (aY w5 X 1 v));clear hr hM xu tD p0 p1 pk V5 q0 B5 W5 P5 CC HV HW HP HB;obtain⟨sa,sn,sc,rfl⟩:=sl;go_wp2
   go_roundw
   case rel=>exact⟨2,_,_,_,by decide,rfl,ae V7,ae W7,ae P7,ae B7⟩
   case measure=>simp[intOf]
  ·obtain⟨gt,ha,P⟩:=hP.2.2 (by decide);subst ha;have Zg:=KN;have c0:wr.cell? ⟨X,0,none⟩=some v0:=hV.cell 0 (by simp);have CC:=ag (rT (j:=2) P (by decide) N q (ae HN) ga b o cap la xs hl ((ae HR1).next hb) ha zK hqN (by omega) (by decide));have HV:=ag hV;have HW:=ag hW;have HP:=ag hP;have HB:=ag hb;clear P hV hW hP hb c0
   go_wp2_with fail
   refine(ae CC).mono ?_;rintro e w5 ⟨v,rfl,hr,kk,s1,l1,m1,s2,l2,m2,hM,xu,tD,p0,p1,pk⟩;have sl:=hr.sl;have V5:ou w5 X [v0,v1,v2] 205:=(ae HV).but tD.grown (by
    rintro rfl;have c:=(ae HV).cell 0 (by simp);rw[hM.c0]at c;obtain⟨_,_,_,e⟩:=(ae HW).s0;subst e;injection c with c
    cases c)
   have q0:w5.cell? ⟨X,0,none⟩=some v0:=V5.cell 0 (by simp);have cv:w5.cell? ⟨X,2,none⟩=some v2:=V5.cell 2 (by simp);have fv:=V5.frozen 2;have B5:=(ae HB).grown tD.grown (ae HB).size (fun k hk=>by cases hk;exact ak (ae GU) pk);have W5:=((ae HW).iy sL hM tD).three hr;have P5:=(ae HP).spent (ae Qw) hM xu tD p0 p1 (by decide);have V7:Hid (ou (w5.setCell ⟨X,2,none⟩ v) X (([v0,v1,v2]:List Value).set 2 v) 205):=V5.set 2 v;have B7:=ag (B5.setCell (p:=⟨X,2,none⟩) (ae WX) v);have W7:=ag (W5.box sL (ae HW).s0 q0 (aY w5 X 2 v));have P7:=ag (P5.rows (ae Qw) (ae HW).s0 q0 (aY w5 X 2 v));clear hr hM xu tD p0 p1 pk V5 q0 B5 W5 P5 CC HV HW HP HB;obtain⟨sa,sn,sc,rfl⟩:=sl;go_wp2
   go_roundw
   case rel=>exact⟨3,_,_,_,by decide,rfl,ae V7,ae W7,ae P7,ae B7⟩
   case measure=>simp[intOf]
  ·have CN:=ag (vI hW (ae HTL) (by omega));have g0:wr.cell? ⟨X,0,none⟩=some v0:=hV.cell 0 (by simp);have g1:wr.cell? ⟨X,1,none⟩=some v1:=hV.cell 1 (by simp);have g2:wr.cell? ⟨X,2,none⟩=some v2:=hV.cell 2 (by simp);obtain⟨t0,n0,d0,rfl⟩:=(hW.r0 (by decide)).sl;obtain⟨t1,n1,d1,rfl⟩:=(hW.r1 (by decide)).sl;obtain⟨t2,n2,d2,rfl⟩:=(hW.r2 (by decide)).sl;have HB:=ag hb;clear hV hW hP hb
   go_wp2_with fail
   refine(ae CN).mono ?_;rintro e w5 ⟨g,rfl,hg,Gz,b5⟩;have B6:=ag (aJ (ae HB) b5);have CC:=ag (ae CC _ _ Gz);clear CN g0 g1 g2 hg b5 Gz HB
   go_wp2_with fail
   refine(ae CC).mono ?_;rintro e w6 ⟨r,rfl,nr,b6⟩;have b7:=aJ (ae B6) b6;have M6:=(ae FZ).next b7;have T6:=(ae OI).then b7 (ae FZ).lt;have nr:=nr.mono (ak (ae OI).grown.size (ae B6).size);clear CC b6 b7;go_wp2
   go_ret2
   exact⟨r,rfl,nr,M6,T6⟩
theorem Og(CC0:Je):Ji:=by
 intro T w;have CC:=ag (fun w=>CC0 T w);unfold bJ.val at CC ⊢;go_enter Tryz.func111,Tryz.ntmps111
 go_wp2_with fail
 refine(ae CC _).mono ?_;rintro e w1 ⟨gk,ge,g,rfl,E1,EU,pE,hg,b1⟩;have Az:w.heap.size<=g:=ak (by simp) hg;have we:w.heap.size<=ge:=ak (by simp) pE;have yR:w.heap.size<=gk:=ak (by simp) EU;have b0:=ag (aJ ((aj w.heap.size w).alloc (af _) _) b1);have tl:=E1.iG.met.lt;have HE:=ag E1;clear CC b1 hg E1 pE EU;go_wp2;go_ret;refine⟨w1.heap.size,gk,ge,g,rfl,⟨?_,(ae HE).next ((aj _ _).alloc (af _) _),by omega⟩,(ae b0).size,yR,we,Az,(ae b0).alloc (ae b0).size _⟩;exact ay _ w1.heap.size 0 _ _ (0,0) (aI w1 _)
theorem K9(T:bJ)(w:World):Calls Tryz.prog 173 #[T.val] w fun e w'=>∃ge g,e=.returned (.pointer (some ⟨ge,0,none⟩))/\En w' ge g 0/\wW w' g T/\w.heap.size<=g/\w.heap.size<=ge/\Below w.heap.size w w':=by
 have CC:=ag (fun w=>aai T w);unfold bJ.val at CC ⊢;go_enter Tryz.func173,Tryz.ntmps173
 go_wp2_with fail
 refine(ae CC _).mono ?_;rintro e w1 ⟨g,rfl,tn,hg,b1⟩;have Az:w.heap.size<=g:=ak (by simp) hg;have b0:=ag (aJ ((aj w.heap.size w).alloc (af _) _) b1);have tl:=tn.lt;have HT:=ag tn;clear tn CC b1 hg;go_wp2;go_ret;refine⟨w1.heap.size,g,rfl,⟨?_,?_,by omega,?_⟩,(ae HT).next ((aj _ _).alloc (af _) _),Az,(ae b0).size,(ae b0).alloc (ae b0).size _⟩
 ·exact ay _ w1.heap.size 0 _ _ (0,0) (aI w1 _)
 ·exact(ae HT).met.next ((aj _ _).alloc (af _) _)
 ·exact((ae HT).next ((aj _ _).alloc (af _) _)).ints
theorem Tj:Je:=by
 intro T w;have CC:=ag (fun w=>K9 T w);unfold bJ.val at CC ⊢;go_enter Tryz.func141,Tryz.ntmps141
 go_wp2_with fail
 refine(ae CC _).mono ?_;rintro e w1 ⟨ge,g,rfl,E1,tn,hg,pE,b1⟩;have Az:w.heap.size<=g:=ak (by simp) hg;have we:w.heap.size<=ge:=ak (by simp) pE;have b0:=ag (aJ ((aj w.heap.size w).alloc (af _) _) b1);have tl:=tn.lt;have HT:=ag tn;have HE:=ag E1;clear tn CC b1 hg E1 pE;go_wp2;go_ret;refine⟨w1.heap.size,ge,g,rfl,⟨?_,(ae HE).next ((aj _ _).alloc (af _) _),((ae HT).next ((aj _ _).alloc (af _) _)).afB,by omega⟩,(ae b0).size,we,Az,(ae b0).alloc (ae b0).size _⟩;exact ay _ w1.heap.size 0 _ _ (0,0) (aI w1 _)
theorem Tq:Ji:=Og Tj
theorem Tn:UW:=by
 intro T w;have CC:=ag (fun w=>Tq T w);unfold bJ.val at CC ⊢;go_enter Tryz.func89,Tryz.ntmps89
 go_wp2_with fail
 refine(ae CC _).mono ?_;rintro e w1 ⟨gt,gk,ge,g,rfl,E1,GI,EU,pE,hg,b1⟩;have Az:w.heap.size<=g:=ak (by simp) hg;have we:w.heap.size<=ge:=ak (by simp) pE;have yR:w.heap.size<=gk:=ak (by simp) EU;have BG:w.heap.size<=gt:=ak (by simp) GI;have b0:=ag (aJ ((aj w.heap.size w).alloc (af _) _) b1);have tl:=E1.fY.iG.met.lt;have HE:=ag E1;clear CC b1 hg E1 pE EU GI;go_wp2;go_ret;refine⟨w1.heap.size,gt,gk,ge,g,rfl,⟨?_,(ae HE).next ((aj _ _).alloc (af _) _),by omega⟩,⟨(ae b0).size,BG,yR,we,Az⟩,(ae b0).alloc (ae b0).size _⟩;exact ay _ w1.heap.size 0 _ _ (0,0) (aI w1 _)
theorem Ej(w:World)(g o n cap bb ob cb lb y:Nat)(gb:Option Addr)(z0 bs:List Nat)(hz:o+n<=z0.length)(wc:bs.length=lb)(kl:lb<=n)(hn:o+n<=1099511627776)(hy:y<18446744073709551616)(hZ:cW w g z0)(dz:bG z0)(hB:cH w gb bb ob cb bs)(db:bG bs)(hne:0<bs.length->bb≠g):Calls Tryz.prog 147 #[.slice (some ⟨g,o,none⟩) n cap,.slice gb lb cb,.int .u64 (y:Int)] w fun e w'=>∃(c:Nat) (zs:List Nat),e=.returned (.int .u64 (c:Int))/\Gc z0 zs bs y o lb c/\cW w' g zs/\w.grownBy w' (some g):=by
 have UD:=ag hne;clear hne;go_enter Tryz.func147,Tryz.ntmps147;go_wp2
 go_loopw [6,14] (fun c i wr=>∃(k cy:Nat) (zs:List Nat),k<=lb/\c=.int .u64 (cy:Int)/\i=.int .i64 (k:Int)/\cy<18446744073709551616/\cW wr g zs/\Hid (Gc z0 zs bs y o k cy)/\cH wr gb bb ob cb bs/\w.grownBy wr (some g))
  (fun _ i _=>lb-(intOf i).toNat)
 case atStart=>exact⟨0,0,z0,aO _,rfl,rfl,by omega,hZ,Yv dz bs y o,hB,iD _ _⟩
 case round=>
  obtain⟨k,cy,zs,hk,rfl,rfl,zH,ef,fN,xx,hG⟩:=hrel;have kG:o+n<=zs.length:=by rw[fN.out.1.1];exact hz
  by_cases h1:k<lb
  ·obtain rfl:=xx.head (by omega);obtain⟨b,hb⟩:∃b:Nat,b=bs.getD k 0:=⟨_,rfl⟩;have qe:b<18446744073709551616:=by rw[hb];exact db k
   have cb:wr.cell? ⟨bb,ob+k,none⟩=some (.int .u64 (b:Int)):=by rw[hb];exact xx.cell k (by omega)
   obtain⟨r,hr⟩:∃r:Nat,r=zs.getD (o+k) 0:=⟨_,rfl⟩;have Nk:r<18446744073709551616:=by rw[hr];exact fN.out.2.1 _
   have cr:wr.cell? ⟨g,o+k,none⟩=some (.int .u64 (r:Int)):=by rw[hr];exact ef.cell (o+k) (by omega)
   have fr:=ef.frozen (o+k);obtain⟨h0,e0⟩:∃h0,h0=b*y/18446744073709551616:=⟨_,rfl⟩;obtain⟨l0,e1⟩:∃l0,l0=b*y%18446744073709551616:=⟨_,rfl⟩;obtain⟨l1,e2⟩:∃l1,l1=(l0+cy+0)%18446744073709551616:=⟨_,rfl⟩;obtain⟨c1,e3⟩:∃c1,c1=(l0+cy+0)/18446744073709551616:=⟨_,rfl⟩;obtain⟨J1,e4⟩:∃J1,J1=h0+c1:=⟨_,rfl⟩;obtain⟨d,e5⟩:∃d,d=(r+18446744073709551616-l1-0)%18446744073709551616:=⟨_,rfl⟩;obtain⟨c2,e6⟩:∃c2,c2=(if r<l1+0 then 1 else 0):=⟨_,rfl⟩;obtain⟨c3,e7⟩:∃c3,c3=J1+c2:=⟨_,rfl⟩;obtain⟨q1,q2,q3,q4⟩:=Yu qe hy zH Nk e0 e1 e2 e3 e4 e5 e6 e7;have H2:=ag (aaV fN.out (by omega) hr hb q3 q2 q4);have CM:=ag (fun w=>nC b y w qe hy);have CA:=ag (fun w=>lN l0 cy 0 0 w (Or.inl ⟨rfl,rfl⟩));have CB:=ag (fun w=>Dv r l1 0 0 w (Or.inl ⟨rfl,rfl⟩));rw[<-e0, <-e1]at CM;rw[<-e2, <-e3]at CA;rw[<-e5, <-e6]at CB;have E4:(h0:Int)+(c1:Int)=(J1:Int):=(by omega);have E7:(J1:Int)+(c2:Int)=(c3:Int):=(by omega);clear hr hb e0 e1 e2 e3 e4 e5 e6 e7 q4
   go_wp2_with fail
   refine(ae CM _).mono ?_;rintro e w1 ⟨rfl,rfl⟩
   go_wp2_with fail
   refine(ae CA _).mono ?_;rintro e w2 ⟨rfl,rfl⟩
   go_wp2_with fail
   refine(ae CB _).mono ?_;rintro e w3 ⟨rfl,rfl⟩;go_wp2;exact⟨⟨k+1,c3,_,by omega,by first|rfl|exact gi (Value.int .u64) E7,by go_num,q2,ef.set (o+k) d,H2,xx.but (aY _ _ _ _) (ae UD),cj hG (aY _ _ _ _)⟩,by simp[intOf];omega⟩
  ·obtain rfl:k=lb:=(by omega);go_wp2;go_ret;exact⟨cy,zs,rfl,fN.out,ef,hG⟩
theorem KQ(w:World)(g o n cap bb ob cb lb:Nat)(gb:Option Addr)(z0 bs:List Nat)(hz:o+n<=z0.length)(wc:bs.length=lb)(kl:lb<=n)(hn:o+n<=1099511627776)(hZ:cW w g z0)(dz:bG z0)(hB:cH w gb bb ob cb bs)(db:bG bs)(hne:0<bs.length->bb≠g):Calls Tryz.prog 148 #[.slice (some ⟨g,o,none⟩) n cap,.slice gb lb cb] w fun e w'=>∃(c:Nat) (zs:List Nat),e=.returned (.tuple #[])/\Jc z0 zs bs o lb c/\cW w' g zs/\w.grownBy w' (some g):=by
 have UD:=ag hne;clear hne;go_enter Tryz.func148,Tryz.ntmps148;go_wp2
 go_loopw [4,9] (fun c i wr=>∃(k cy:Nat) (zs:List Nat),k<=lb/\c=.int .u64 (cy:Int)/\i=.int .i64 (k:Int)/\cy<=1/\cW wr g zs/\Hid (Jc z0 zs bs o k cy)/\cH wr gb bb ob cb bs/\w.grownBy wr (some g))
  (fun _ i _=>lb-(intOf i).toNat)
 case atStart=>exact⟨0,0,z0,aO _,rfl,rfl,by omega,hZ,XA dz bs o,hB,iD _ _⟩
 case round=>
  obtain⟨k,cy,zs,hk,rfl,rfl,zH,ef,fN,xx,hG⟩:=hrel;have kG:o+n<=zs.length:=by rw[fN.out.1.1];exact hz
  by_cases h1:k<lb
  ·obtain rfl:=xx.head (by omega);obtain⟨b,hb⟩:∃b:Nat,b=bs.getD k 0:=⟨_,rfl⟩;have qe:b<18446744073709551616:=by rw[hb];exact db k
   have cb:wr.cell? ⟨bb,ob+k,none⟩=some (.int .u64 (b:Int)):=by rw[hb];exact xx.cell k (by omega)
   obtain⟨r,hr⟩:∃r:Nat,r=zs.getD (o+k) 0:=⟨_,rfl⟩;have Nk:r<18446744073709551616:=by rw[hr];exact fN.out.2.1 _
   have cr:wr.cell? ⟨g,o+k,none⟩=some (.int .u64 (r:Int)):=by rw[hr];exact ef.cell (o+k) (by omega)
   have fr:=ef.frozen (o+k);obtain⟨d,e5⟩:∃d,d=(r+b+cy)%18446744073709551616:=⟨_,rfl⟩;obtain⟨c3,e6⟩:∃c3,c3=(r+b+cy)/18446744073709551616:=⟨_,rfl⟩;have q1:d<18446744073709551616:=(by omega);have q2:c3<=1:=(by omega);have H2:=ag (aao fN.out (by omega) hr hb q1 q2 (by omega));have CA:=ag (fun w=>lN r b cy cy w (by omega));rw[<-e5, <-e6]at CA;clear hr hb e5 e6
   go_wp2_with fail
   refine(ae CA _).mono ?_;rintro e w2 ⟨rfl,rfl⟩;go_wp2;exact⟨⟨k+1,c3,_,by omega,rfl,by go_num,q2,ef.set (o+k) d,H2,xx.but (aY _ _ _ _) (ae UD),cj hG (aY _ _ _ _)⟩,by simp[intOf];omega⟩
  ·obtain rfl:k=lb:=(by omega);go_wp2
   go_end0
   exact⟨cy,zs,rfl,fN.out,ef,hG⟩
theorem Rn(w:World)(g o n cap bb ob cb m M v h:Nat)(gb:Option Addr)(zs ds:List Nat)(hz:o+n<=zs.length)(wE:ds.length=M)(hM:M=m+2)(kl:M+1<=n)(hn:o+n<=1099511627776)(hZ:cW w g zs)(dz:bG zs)(hB:cH w gb bb ob cb ds)(dd:bG ds)(v9:9223372036854775808<=ds.getD (m+1) 0)(hv:v=inv2 (ds.getD (m+1) 0*18446744073709551616+ds.getD m 0))(hh:h=Ud (zs.getD (o+m+2) 0) (zs.getD (o+m+1) 0) (zs.getD (o+m) 0) (ds.getD (m+1) 0) (ds.getD m 0)):Calls Tryz.prog 146 #[.agg #[.slice gb M cb,.int .u64 (v:Int)],.slice (some ⟨g,o,none⟩) n cap] w fun e w'=>e=.returned (.int .u64 (h:Int))/\Below w.heap.size w w':=by
 obtain rfl:=hB.head (by omega);have bA:Below w.heap.size w (w.alloc (.cells #[.slice (some ⟨bb,ob,none⟩) M cb,.int .u64 (v:Int)] 172)):=(aj _ w).alloc (af _) _;obtain⟨m1,ox⟩:∃m1,m1=m+1:=⟨_,rfl⟩;have z2:=(hZ.next bA).cell (o+M) (by omega);have z1:=(hZ.next bA).cell (o+m1) (by omega);have z0:=(hZ.next bA).cell (o+m) (by omega);have b1:=(hB.next bA).cell m1 (by omega);have b0:=(hB.next bA).cell m (by omega);rw[show o+M=o+m+2 by omega]at z2;rw[show o+m1=o+m+1 by omega]at z1;rw[ox]at b1;have q2:=dz (o+m+2);have q1:=dz (o+m+1);have q0:=dz (o+m);have p1:=dd (m+1);have p0:=dd m;generalize zs.getD (o+m+2) 0=u2 at *;generalize zs.getD (o+m+1) 0=u1 at *;generalize zs.getD (o+m) 0=u0 at *;generalize ds.getD (m+1) 0=d1 at *;generalize ds.getD m 0=d0 at *;rw[show o+m+2=o+M by omega]at z2;rw[show o+m+1=o+m1 by omega]at z1;rw[<-ox]at b1;have i1:(M:Int)-1=(m1:Int):=by omega
 have i2:(M:Int)-2=(m:Int):=by omega
 have j1:M<n/\m1<n/\m<n/\m1<M/\m<M:=by omega
 obtain⟨j1,j2,j3,j4,j5⟩:=j1;have jb:M<=1099511627776:=by omega
 have BA:=ag bA;by_cases hc:u2<d1\/(u2=d1/\u1<d0)
 ·have CD:=ag (fun w=>TQ u2 u1 u0 d1 d0 v _ _ _ _ w v9 p1 p0 rfl hc q1 q0 hv rfl rfl rfl);have hh2:h=(u2*340282366920938463463374607431768211456+u1*18446744073709551616+u0)/(d1*18446744073709551616+d0):=by rw[hh];unfold Ud;rw[aW hc]
  rw[<-hh2]at CD;generalize (u2*340282366920938463463374607431768211456+u1*18446744073709551616+u0)%(d1*18446744073709551616+d0)=R at *;generalize R/18446744073709551616=R1 at *;generalize R%18446744073709551616=R0 at *;clear hh hh2 hv hM ox hZ dz hB dd hc wE bA v9 q2 q1 q0 p1 p0 hz kl hn;go_enter Tryz.func146,Tryz.ntmps146
  go_wp2_with fail
  go_quiet ((go_at_call 179;exact Calls.quiet_of_same (ae CD _)))
  go_wp2;go_ret;exact⟨rfl,below_drewN (ae BA) _⟩
 ·have CD:=ag (fun w=>Iz u2 u1 u0 d1 d0 v w (Or.inr ⟨v9,by omega⟩));have hh2:h=18446744073709551615:=by rw[hh];unfold Ud;rw[aV hc]
  subst hh2;clear hh hv hM ox hZ dz hB dd hc wE bA v9 q2 q1 q0 p1 p0 hz kl hn;go_enter Tryz.func146,Tryz.ntmps146
  go_wp2_with fail
  go_quiet ((go_at_call 179;exact Calls.quiet_of_same (ae CD _)))
  go_wp2;go_ret;exact⟨rfl,below_drewN (ae BA) _⟩
theorem VU(w:World)(n:Nat)(hn:n<=100000):Calls Tryz.prog 123 #[.slice none 0 0,.int .i64 (n:Int)] w fun e w'=>∃v,e=.returned v/\w'.ownsRow w.heap.size 47 1 v 0 []/\Below w.heap.size w w':=by
 have h0:¬(n:Int)<0:=by omega
 have hw:IntKind.i64.wrap (n:Int)=(n:Int):=by rw[ao];omega
 by_cases hp:0<n
 ·have hp':0<(n:Int):=by omega
  obtain⟨i,hi,hz,kF,hby⟩:=fE Tryz.mf;have hr:=Lib.run_append_nil_zeros (P:=Tryz.prog) w 38 3 38 47 i (.int .u64 0) .i64 .i64 dT gI hi hz n hp (by omega) (by omega) (by rw[hby];omega);have pE:=grownCap_ge w n 0 47;have hcm:grownCap w n 0 47<=maxLen:=Me w n 0 47 (by unfold maxLen;omega);have hb:Below w.heap.size w (w.drew.alloc (.cells (Builtin.zeroCells (Value.int .u64 0).cells n++Builtin.zeroCells (Value.int .u64 0).cells (grownCap w n 0 47-n)) 47)):=((aj _ w).drew).alloc (af _) _;have ho:(w.drew.alloc (.cells (Builtin.zeroCells (Value.int .u64 0).cells n++Builtin.zeroCells (Value.int .u64 0).cells (grownCap w n 0 47-n)) 47)).ownsRow w.heap.size 47 1 (.slice (some ⟨w.heap.size,0,none⟩) 0 (grownCap w n 0 47)) 0 []:=
   ⟨rfl,.inr ⟨w.heap.size,_,_,rfl,af _,aI w.drew _,aO _,hcm,by simp[Builtin.zeroCells,Value.cells];omega,by simp⟩⟩
  generalize grownCap w n 0 47=gc at *;generalize w.drew.alloc (.cells (Builtin.zeroCells (Value.int .u64 0).cells n++Builtin.zeroCells (Value.int .u64 0).cells (gc-n)) 47)=W1 at *;have HB:=ag hb;have HO:=ag ho;clear hb ho hcm;go_enter Tryz.func123,Tryz.ntmps123
  go_wp2_with (at_builtin;refine Lib.wpList_append_run _ rfl _ _ _ _ rfl _ _ rfl rfl _ _ hr ?_;clear hr)
  go_ret;exact⟨_,rfl,ae HO,ae HB⟩
 ·have:n=0:=by omega
  subst this;go_enter Tryz.func123,Tryz.ntmps123;go_wp2;go_ret;exact⟨_,rfl,il _ _ _ _,aj _ _⟩
theorem PZ(w:World)(base:Nat)(v:Value)(n m cap:Nat)(xs ys:List Nat)(ga:Option Addr)(b o:Nat)(cV:w.ownsRow base 47 1 v n (cellsOf xs))(hR:cH w ga b o cap ys)(hl:ys.length=m)(hn:n+m<=100000)(hb:base<=w.heap.size):∃v' w',(Builtin.append_ #[38,38] 38 #[v,.slice ga m cap]).run Tryz.prog w=.ok v' w'/\w'.ownsRow base 47 1 v' (n+m) (cellsOf (xs++ys))/\w.grownBy w' v.ownBlock:=by
 obtain⟨i,hi,hz,kF,hby⟩:=fE Tryz.mf;have ht:=dT;cases ga with
 |none=>
  have h0:ys.length=0:=by refine ey fun h=>?_;have:=hR.head (by omega);cases this
  have:ys=[]:=eu h0;subst this;obtain rfl:m=0:=by omega
  refine⟨v,w,?_,by simpa using cV,⟨rfl,rfl,rfl,af _,fun _ _ _=>rfl⟩⟩;rcases cV.2 with⟨rfl,rfl⟩|⟨g,cap,cur,rfl,_,_,hnc,_⟩
  ·simp[Builtin.append_,run_underlying ht,sizeOf,typeInfo,hi,Builtin.lenOf,Builtin.firstCells]
  ·simp[Builtin.append_,run_underlying ht,sizeOf,typeInfo,hi,Builtin.lenOf,Builtin.firstCells,hnc,storeCells]
 |some ad=>
  have hap:cellsOf (xs++ys)=cellsOf xs++cellsOf ys:=by simp[cellsOf]
  obtain⟨v',w',h1,h2,h3,_⟩:=abw (P:=Tryz.prog) w base 38 38 47 i (.int .u64 0) 1 8 ht hi hz kF hby rfl (by omega) v n (cellsOf xs) cV ad m cap (cellsOf ys) (by simp[cellsOf];exact hl) (fun j u hu=>by
   have hj:j<ys.length:=by have:=(fq.1 hu).1;simpa [cellsOf]using this
   obtain rfl:=aZ (hR.head (by omega));have hc:=hR.cell j hj;have e:(⟨b,o,none⟩:Addr).add j=⟨b,o+j,none⟩:=Ao b o j;rw[e,hc];rw[<-hu];simp[cellsOf,List.getElem?_eq_getElem hj,List.getD_eq_getElem?_getD]) (gD _) (by unfold maxLen;omega) (by omega) hb
  exact⟨v',w',h1,by rw[hap];exact h2,h3⟩
theorem Bh(w:World)(bp:Nat)(ga gb:Option Addr)(b o cap la b' o' bM lb:Nat)(xs ys:List Nat)(jw:xs.length=la)(kt:ys.length=lb)(hR:cH w ga b o cap xs)(kV:cH w gb b' o' bM ys)(fA:la<=32768)(kl:lb<=32768)(c0:w.cell? ⟨bp,0,none⟩=some (.slice ga la cap))(c1:w.cell? ⟨bp,1,none⟩=some (.slice gb lb bM)):Calls Tryz.prog 101 #[.slice (some ⟨bp,0,none⟩) 2 2] w fun e w'=>∃v,e=.returned v/\w'.ownsRow w.heap.size 47 1 v (la+lb) (cellsOf (xs++ys))/\Below w.heap.size w w':=by
 obtain⟨N,hN⟩:∃N,la+lb=N:=⟨_,rfl⟩;have CG:=ag (VU w N (by omega));have hbp:=aw _ _ c0;have hi0:(0:Int)+(la:Int)=(la:Int):=by omega
 have Wl:(la:Int)+(lb:Int)=(N:Int):=by omega
 have DV:IntKind.i64.wrap (la:Int)=(la:Int):=by rw[ao];omega
 have DX:IntKind.i64.wrap (N:Int)=(N:Int):=by rw[ao];omega
 have DT:¬(la:Int)<0:=by omega
 have DU:¬(N:Int)<0:=by omega
 go_enter Tryz.func101,Tryz.ntmps101;go_wp2
 go_loopw [3,11] (fun sv iv wr=>∃(k t:Nat),k<=2/\iv=.int .i64 (k:Int)/\sv=.int .i64 (t:Int)/\((k=0/\t=0)\/(k=1/\t=la)\/(k=2/\t=N))/\wr=w) (fun _ iv _=>2-(intOf iv).toNat)
 case atStart=>exact⟨0,0,by omega,rfl,rfl,Or.inl ⟨rfl,rfl⟩,rfl⟩
 case round=>
  obtain⟨k,t,hk,rfl,rfl,hkt,WC⟩:=hrel;obtain rfl:=WC.symm;clear WC;rcases hkt with⟨rfl,rfl⟩|⟨rfl,ht⟩|⟨rfl,ht⟩
  ·clear CG;go_wp2
   go_roundw
   case rel=>exact⟨1,la,by omega,rfl,rfl,Or.inr (Or.inl ⟨rfl,rfl⟩),by trivial⟩
   case measure=>simp[intOf]
  ·obtain rfl:=ht.symm;clear CG ht;go_wp2
   go_roundw
   case rel=>exact⟨2,N,by omega,rfl,rfl,Or.inr (Or.inr ⟨rfl,rfl⟩),by trivial⟩
   case measure=>simp[intOf]
  ·obtain rfl:=ht.symm;clear ht
   go_wp2_with fail
   with_reducible refine(ae CG).mono ?_
   rintro e w1 ⟨v1,rfl,ho1,tE⟩;clear CG;have c0w:=c0;have c1w:=c1;have c0:=(tE.cell (p:=⟨bp,0,none⟩) hbp).trans c0w;have c1:=(tE.cell (p:=⟨bp,1,none⟩) hbp).trans c1w;obtain⟨v2,w2,hr1,qX,Mf⟩:=PZ w1 w.heap.size v1 0 la cap [] xs ga b o ho1 (hR.next tE) jw (by omega) tE.size;rw[bh,nG]at qX;have jA:=im tE ho1 Mf tE.size;obtain⟨v3,w3,Uo,Pr,Rz⟩:=PZ w2 w.heap.size v2 la lb bM xs ys gb b' o' qX (kV.next jA) kt (by omega) jA.size;rw[hN]at Pr;have hb3:=im jA qX Rz jA.size;have c0':=(jA.cell (p:=⟨bp,0,none⟩) hbp).trans c0w;have c1':=(jA.cell (p:=⟨bp,1,none⟩) hbp).trans c1w;have HO1:=ag ho1;have HO2:=ag qX;have HO3:=ag Pr;have HB3:=ag hb3;obtain⟨g1,b1,cp1,rfl,_,_,_⟩:=fS (xs:=[]) ho1;obtain⟨g2,b2,cp2,rfl,_,_,_⟩:=fS qX;obtain⟨g3,b3,cp3,rfl,_,_,_⟩:=fS Pr;clear ho1 qX Pr hb3 Mf Rz hR kV tE jA c0w c1w;go_wp2
   go_loopw [6,27] (fun nv iv wr=>∃k:Nat,k<=2/\iv=.int .i64 (k:Int)/\((k=0/\nv=.slice g1 0 cp1/\wr=w1)\/(k=1/\nv=.slice g2 la cp2/\wr=w2)\/(k=2/\nv=.slice g3 N cp3/\wr=w3))) (fun _ iv _=>2-(intOf iv).toNat)
   case atStart=>exact⟨0,by omega,rfl,Or.inl ⟨rfl,rfl,rfl⟩⟩
   case round=>
    obtain⟨k,hk,rfl,hkt⟩:=hrel;rcases hkt with⟨rfl,rfl,WC⟩|⟨rfl,rfl,WC⟩|⟨rfl,rfl,WC⟩
    ·obtain rfl:=WC.symm;clear WC
     go_wp2_with (at_builtin;refine Lib.wpList_append_run _ rfl _ _ _ _ rfl _ _ rfl rfl _ _ hr1 ?_)
     go_roundw
     case rel=>exact⟨1,by omega,rfl,Or.inr (Or.inl ⟨rfl,rfl,by trivial⟩)⟩
     case measure=>simp[intOf]
    ·obtain rfl:=WC.symm;clear WC
     go_wp2_with (at_builtin;refine Lib.wpList_append_run _ rfl _ _ _ _ rfl _ _ rfl rfl _ _ Uo ?_)
     go_roundw
     case rel=>exact⟨2,by omega,rfl,Or.inr (Or.inr ⟨rfl,rfl,by trivial⟩)⟩
     case measure=>simp[intOf]
    ·obtain rfl:=WC.symm;clear WC;go_wp2;go_ret;refine⟨_,rfl,?_,ae HB3⟩
     first|exact ae HO3|(rw[hN];exact ae HO3)
theorem ME(w:World)(u v:Value)(A C k:Nat)(ga:Option Addr)(b o cap:Nat)(xs:List Nat)(hu:u=.slice ga k cap)(hl:xs.length=k)(hR:cH w ga b o cap xs)(hd:bG xs)(hA:aB xs=A)(hv:fI w v C)(hk:k<=16384)(hc:∀ys,(∃gb b' o' bM,v=.slice gb ys.length bM/\cH w gb b' o' bM ys)->bG ys->aB ys=C->ys.length<=16385):Calls Tryz.prog 101 #[.slice (some ⟨w.heap.size,0,none⟩) 2 2] (w.alloc (.cells #[u,v] 38)) fun e w'=>∃r,e=.returned r/\ft w.heap.size w' r (A+18446744073709551616^k*C)/\Below w.heap.size w w':=by
 obtain⟨gb,b',o',bM,ys,rfl,kV,II,hC',Ad⟩:=hv;subst hu;have kt:=hc ys ⟨gb,b',o',bM,rfl,kV⟩ II hC';have bl:Below w.heap.size w (w.alloc (.cells #[.slice ga k cap,.slice gb ys.length bM] 38)):=(aj _ _).alloc (af _) _;have kk:=aI w (.cells #[.slice ga k cap,.slice gb ys.length bM] 38);have hs:w.heap.size<=(w.alloc (.cells #[.slice ga k cap,.slice gb ys.length bM] 38)).heap.size:=bl.size;refine(Bh (w.alloc (.cells #[.slice ga k cap,.slice gb ys.length bM] 38)) w.heap.size ga gb b o cap k b' o' bM ys.length xs ys hl rfl (hR.next bl) (kV.next bl) (by omega) (by omega) (ay _ w.heap.size 0 _ _ (0,0) kk) (ay _ w.heap.size 1 _ _ (0,0) kk)).mono ?_;rintro e w' ⟨r,rfl,ho,hb⟩;obtain⟨gr,br,cr,rfl,Mh,hRr,hbr⟩:=fS ho;refine⟨_,rfl,⟨gr,br,0,cr,xs++ys,by rw[Mh],hRr,nB hd II,by rw[jk,hl,hA,hC'],by omega,fun h=>ak hs (hbr (by omega))⟩,aJ bl hb⟩
theorem oN(w:World)(z:Int):Calls Tryz.prog 28 #[.int .i64 z] w fun e w'=>e=.returned (.bool (decide (2<=z/\z<=36)))/\w'=w:=by
 by_cases h1:2<=z
 ·by_cases h2:z<=36
  ·rw[bg ⟨h1,h2⟩];go_enter Tryz.func28,Tryz.ntmps28;go_wp2;go_ret;exact⟨rfl,rfl⟩
  ·rw[aM (fun h=>h2 h.2)];go_enter Tryz.func28,Tryz.ntmps28;go_wp2;go_ret;exact⟨rfl,rfl⟩
 ·rw[aM (fun h=>h1 h.1)];go_enter Tryz.func28,Tryz.ntmps28;go_wp2;go_ret;exact⟨rfl,rfl⟩
theorem JP(w:World)(c:Nat)(hc:c<256):Calls Tryz.prog 34 #[.int .u8 (c:Int)] w fun e w'=>e=.returned (.int .u64 (JT c:Int))/\w'=w:=by
 unfold JT;by_cases h1:48<=c/\c<=57
 ·rw[aW h1];obtain⟨h1,h2⟩:=h1;have e1:(c:Int)-48=((c-48:Nat):Int):=by omega
  have e2:IntKind.u8.wrap ((c-48:Nat):Int)=((c-48:Nat):Int):=by rw[IntKind.wrap_u8];omega
  have e3:IntKind.u64.wrap ((c-48:Nat):Int)=((c-48:Nat):Int):=by rw[aK];omega
  have k1:(48:Int)<=(c:Int):=by omega
  have k2:(c:Int)<=57:=by omega
  generalize c-48=d at *;go_enter QK,Jn;go_wp2;go_ret;exact⟨rfl,rfl⟩
 ·rw[aV h1];by_cases h2:97<=c/\c<=122
  ·rw[aW h2];obtain⟨h2,h3⟩:=h2;have e1:(c:Int)-97=((c-97:Nat):Int):=(by omega);have e2:IntKind.u8.wrap ((c-97:Nat):Int)=((c-97:Nat):Int):=by rw[IntKind.wrap_u8];omega
   have e3:IntKind.u64.wrap ((c-97:Nat):Int)=((c-97:Nat):Int):=by rw[aK];omega
   have e4:((c-97:Nat):Int)+10=((c-87:Nat):Int):=(by omega);have e5:IntKind.u64.wrap ((c-87:Nat):Int)=((c-87:Nat):Int):=by rw[aK];omega
   have k0:(48:Int)<=(c:Int):=(by omega);have k1:¬(c:Int)<=57:=(by omega);have k2:(97:Int)<=(c:Int):=(by omega);have k3:(c:Int)<=122:=(by omega);generalize c-97=d at *;generalize c-87=f at *;go_enter QK,Jn;go_wp2;go_ret;exact⟨rfl,rfl⟩
  ·rw[aV h2];by_cases h3:48<=c
   ·by_cases h4:97<=c
    ·have k0:(48:Int)<=(c:Int):=(by omega);have k1:¬(c:Int)<=57:=(by omega);have k2:(97:Int)<=(c:Int):=(by omega);have k3:¬(c:Int)<=122:=(by omega);clear h1 h2 h3 h4;go_enter QK,Jn;go_wp2;go_ret;exact⟨rfl,rfl⟩
    ·have k0:(48:Int)<=(c:Int):=(by omega);have k1:¬(c:Int)<=57:=(by omega);have k2:¬(97:Int)<=(c:Int):=(by omega);clear h1 h2 h3 h4;go_enter QK,Jn;go_wp2;go_ret;exact⟨rfl,rfl⟩
   ·have k0:¬(48:Int)<=(c:Int):=(by omega);have k2:¬(97:Int)<=(c:Int):=(by omega);clear h1 h2 h3;go_enter QK,Jn;go_wp2;go_ret;exact⟨rfl,rfl⟩
theorem rN{b:Nat}(hb:2<=b)(h:b^k<18446744073709551616):k<64:=by refine eI fun hk=>?_;have h1:=aA (n:=2) (by omega) hk;have h2:=di hb k;omega
theorem zy(w:World)(b:Nat)(hb:2<=b)(jA:b<18446744073709551616):Calls Tryz.prog 40 #[.int .u64 (b:Int)] w fun e w'=>∃k p:Nat,e=.returned (.tuple #[.int .i64 (k:Int),.int .u64 (p:Int)])/\p=b^k/\1<=k/\p<18446744073709551616/\4294967296<=p/\w'=w:=by
 have HB:=ag hb;have b0:(0:Int)<(b:Int):=by omega
 have b1:¬(b:Int)=0:=by omega
 obtain⟨Q,hQ⟩:∃Q,Q=18446744073709551615/b:=⟨_,rfl⟩;have eQ:(18446744073709551615:Int)/(b:Int)=(Q:Int):=by rw[hQ];rfl
 have eQ2:IntKind.u64.wrap (Q:Int)=(Q:Int):=by have:=bT 18446744073709551615 b;rw[aK];omega
 have HQ:Hid (∀p,p<=Q->p*b<18446744073709551616):=fun p hp=>by rw[hQ]at hp;have:=(dE (by omega)).1 hp;omega
 have HQ2:Hid (∀p k,¬p<=Q->1<=k->p=b^k->4294967296<=p):=fun p k hp hk he=>by rw[hQ]at hp;have h1:18446744073709551615<p*b:=(aR (by omega)).1 (by omega);have h2:b^1<=b^k:=aA (by omega) hk;rw[fi, <-he]at h2;have h3:p*b<=p*p:=au p h2;refine cG fun h=>?_;have h4:p*p<=4294967295*4294967295:=aP (by omega) (by omega);omega
 clear hb hQ;go_enter Tryz.func40,Tryz.ntmps40;have H0:Hid (b=b^1):=(fi b).symm;go_wp2
 go_loopw [2,3] (fun kv pv wr=>∃k p:Nat,kv=.int .i64 (k:Int)/\pv=.int .u64 (p:Int)/\Hid (p=b^k)/\1<=k/\p<18446744073709551616/\wr=w) (fun kv _ _=>64-(intOf kv).toNat)
 case atStart=>exact⟨1,b,rfl,rfl,H0,af _,jA,rfl⟩
 case round=>
  obtain⟨k,p,rfl,rfl,hp,hk,RN,rfl⟩:=hrel;have hk9:k<64:=rN (ae HB) (by rw[<-ae hp];exact RN);by_cases hc:p<=Q
  ·have h2:=ae HQ p hc;have e1:(p:Int)*(b:Int)=((p*b:Nat):Int):=by push_cast;rfl
   have e2:IntKind.u64.wrap ((p*b:Nat):Int)=((p*b:Nat):Int):=by rw[aK];omega
   have hs:Hid (p*b=b^(k+1)):=by show _=_;rw[ae hp,aE]
   have e5:(p:Int)<=(Q:Int):=(by omega);generalize p*b=pb at *;clear hp;go_wp2
   go_roundw
   case rel=>exact⟨k+1,pb,by go_num,rfl,hs,by omega,h2,by trivial⟩
   case measure=>simp[intOf];omega
  ·have e5:¬(p:Int)<=(Q:Int):=(by omega);have HP:=ag (And.intro hp.out (And.intro hk (And.intro RN (ae HQ2 p k hc hk hp.out))));go_wp2;refine dR (gG (by rfl) _ _ _) rfl ?_;exact⟨k,p,rfl,(ae HP).1,(ae HP).2.1,(ae HP).2.2.1,(ae HP).2.2.2,rfl⟩
theorem FX(w:World)(ga:Option Addr)(b o cap n m:Nat)(xs:List Nat)(hl:xs.length=n)(hn:n<=1099511627776)(hR:cH w ga b o cap xs)(hm:m=fV xs n):Calls Tryz.prog 42 #[.slice ga n cap] w fun e w'=>e=.returned (.slice ga m cap)/\w'=w:=by
 have hmn:m<=n:=by rw[hm];exact fZ xs n
 have ks:n<=cap:=by have:=hR.room;omega
 have CL:=ag (fun w' (h:w'=w)=>h▸pG w ga b o cap n xs hl hn hR);rw[<-hm]at CL;clear hm hR;go_enter Tryz.func42,Tryz.ntmps42
 go_wp2_with fail
 refine(ae CL _ rfl).mono ?_;rintro e w' ⟨rfl,rfl⟩;go_wp2;go_ret;exact⟨fg rfl,rfl⟩
theorem QV(n:Nat)(h:0<n)(h9:n<2^64):2^(Lib.bitLen n-1)<=n/\n<2^Lib.bitLen n/\1<=Lib.bitLen n:=by obtain⟨a,_,b,c⟩:=jQ 64 n h9 h9 h;exact⟨b,c,a⟩
theorem LX(w:World)(n:Nat)(h:2<=n)(h9:n<=1000000):Calls Tryz.prog 69 #[.int .i64 (n:Int)] w fun e w'=>∃i:Nat,e=.returned (.int .i64 (i:Int))/\2^i<=n-1/\n<=2^(i+1)/\w'=w:=by
 have e0:(n:Int)-1=((n-1:Nat):Int):=by omega
 obtain⟨N,hN⟩:∃N,N=n-1:=⟨_,rfl⟩;rw[<-hN]at e0 ⊢;obtain⟨h1,h2,h3⟩:=QV N (by omega) (by omega);have e1:IntKind.u64.wrap (N:Int)=(N:Int):=by rw[aK];omega
 have CB:=ag (fun w=>ti (N:Int) w (by omega) (by omega));rw[dV]at CB;obtain⟨i,hi⟩:∃i,Lib.bitLen N=i+1:=⟨Lib.bitLen N-1,by omega⟩;rw[hi]at CB h1 h2;have e2:((i+1:Nat):Int)-1=(i:Int):=by omega
 have i20:i<64:=by refine eI fun hk=>?_;have:=aA (n:=2) (by omega) hk;rw[dF]at h1;omega
 have e3:IntKind.i64.wrap (i:Int)=(i:Int):=by rw[ao];omega
 have HE:=ag (And.intro h1 h2);have HN:=ag hN;clear h1 h2 h3 hi hN;go_enter Tryz.func69,Tryz.ntmps69
 go_wp2_with fail
 refine(ae CB _).mono ?_;rintro e w' ⟨rfl,hw⟩;obtain rfl:=hw.symm;clear hw CB;go_wp2;go_ret;have:=ae HE;rw[dF]at this;exact⟨i,rfl,this.1,by have:=ae HN;omega,rfl⟩
end Go.Proofs.YtkdmippllpekfaaGreatDoor
