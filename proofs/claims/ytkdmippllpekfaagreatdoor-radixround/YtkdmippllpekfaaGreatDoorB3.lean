import Derived.Test.YtkdmippllpekfaaGreatDoorB1
import Derived.Test.YtkdmippllpekfaaGreatDoorB2
import Derived.Test.YtkdmippllpekfaaGreatDoorA1
namespace Go.Proofs.YtkdmippllpekfaaGreatDoor
set_option maxRecDepth 100000
set_option maxHeartbeats 3200000
variable{S:Int}{xs ys:List Nat}{b c cap g k n o q t y:Nat}{ga:Option Addr}{v:Value}{w w' w1:World}
section
open Go.RowKit
theorem ag{p:Prop}(h:p):Hid p:=h
theorem ae{p:Prop}(h:Hid p):p:=h
structure cH(w:World)(ga:Option Addr)(b o cap:Nat)(xs:List Nat):Prop where
 head:0<xs.length->ga=some ⟨b,o,none⟩
 room:xs.length<=cap
 cell:∀j,j<xs.length->w.cell? ⟨b,o+j,none⟩=some (.int .u64 ((xs.getD j 0:Nat):Int))
theorem cH.lt(h:cH w ga b o cap xs)(hl:0<xs.length):b<w.heap.size:=
 aw _ _ (h.cell 0 hl)
theorem cH.below{B:Nat}(h:cH w ga b o cap xs)(hb:Below B w w')(hB:w.heap.size<=B):cH w' ga b o cap xs:=
 ⟨h.head,h.room,fun j hj=>(hb.cell (p:=⟨b,o+j,none⟩) (by have:=h.lt (by omega);show b<B;omega)).trans (h.cell j hj)⟩
theorem cH.nil(w:World)(ga:Option Addr)(b o cap:Nat):cH w ga b o cap []:=⟨fun h=>absurd h (by simp),aO _,fun j hj=>absurd hj (by simp)⟩
theorem cH.take(h:cH w ga b o cap xs)(k:Nat)(hk:k<=xs.length):cH w ga b o cap (xs.take k):=by
 have hl:(xs.take k).length=k:=by simp;omega
 refine⟨fun h0=>h.head (by omega),by have:=h.room;omega,fun j hj=>?_⟩;have e:(xs.take k).getD j 0=xs.getD j 0:=by rw[aq,aq,iO,aW (by omega)]
 rw[e];exact h.cell j (by omega)
theorem fg{a:Nat}(h:a=b):Ending.returned (.slice ga a cap)=.returned (.slice ga b cap):=by rw[h]
theorem bY{k:IntKind}{a b:Int}(h:a=b):Ending.returned (.int k a)=.returned (.int k b):=by rw[h]
abbrev cellsOf(xs:List Nat):List Value:=xs.map (fun x=>Value.int .u64 ((x:Nat):Int))
theorem gD(xs:List Nat):∀u ∈ cellsOf xs,u.oneCell'=true:=by intro u hu;simp only[cellsOf,List.mem_map]at hu;obtain⟨x,_,rfl⟩:=hu;rfl
theorem fU(w:World)(vs:List Value)(t:TypeId):∀j u,vs[j]?=some u->(w.alloc (.cells vs.toArray t)).cell? ((⟨w.heap.size,0,none⟩:Addr).add j)=some u:=by
 intro j u h;have e:(⟨w.heap.size,0,none⟩:Addr).add j=⟨w.heap.size,j,none⟩:=by
  by_cases h0:j=0
  ·subst h0;simp[Addr.add]
  ·simp[Addr.add,h0]
 rw[e];simp[h]
theorem de{base:Nat}(h:w.ownsRow base t 1 (.slice (some ⟨g,0,none⟩) n cap) n (cellsOf xs)):xs.length=n/\cH w (some ⟨g,0,none⟩) g 0 cap xs:=by
 have hl:xs.length=n:=by simpa using h.1
 refine⟨hl,fun _=>rfl,?_,fun j hj=>?_⟩
 ·rcases h.2 with⟨h,_⟩|⟨g',bM,cur,hv,_,_,hr,_⟩
  ·cases h
  ·cases hv;omega
 ·rw[bh,h.cellAt j (by omega)];simp[List.getElem?_eq_getElem hj]
theorem zh{P:Program}{ops:Array Oper}{o:Oper}{a:Act}{K:Act->World->Prop}{Q:Exit->Act->World->Prop}{E:Prop}(hg:o.guard=none)(s x:Operand)(t:TypeId)(rE:o.op=Op.call { callee:=Callee.builtin Builtin.append,args:=#[s,x],argTypes:=#[t,t] })(base:Nat)(e:TypeId)(i:TypeInfo)(size:Nat)(h1:P.underlying t=some (.slice e))(h2:P.info? e=some i)(h4:i.size=size)(g k cap:Nat)(xs:List Value)(hs:a.eval s=.slice (some ⟨g,0,none⟩) k cap)(cV:w.ownsRow base e size (.slice (some ⟨g,0,none⟩) k cap) k xs)(ad:Addr)(m c:Nat)(news:List Value)(hx:a.eval x=.slice (some ad) m c)(hn:news.length=m*size)(hc:∀j u,news[j]?=some u->w.cell? (ad.add j)=some u)(h1c:∀u ∈ news,u.oneCell'=true)(b1:k+m<=cap)(hK:∀w',w'.ownsRow base e size (.slice (some ⟨g,0,none⟩) (k+m) cap) (k+m) (xs++news)->w.grownBy w' (some g)->K (a.put o.dst (.slice (some ⟨g,0,none⟩) (k+m) cap)) w'):if Region.wanted o (yielded ops a.tmps)=true then Oper.wp P o a w K Q else E:=by
 have hw:Region.wanted o (yielded ops a.tmps)=true:=by simp[Region.wanted,hg]
 rw[aW hw];obtain⟨w',ir,r1,r2⟩:=run_append_fits (P:=P) w base t o.type e i size h1 h2 h4 g k cap xs cV ad m c news hn hc h1c b1;unfold Oper.wp;simp[execOp,rE,resolve,invoke,builtin,hs,hx,ir,Result.andThen];exact hK w' r1 r2
def jO(w:World)(v:Value)(n:Nat):Prop:=∃ga b o cap xs,v=.slice ga xs.length cap/\cH w ga b o cap xs/\Can xs/\val xs=n
theorem jO.below{B:Nat}(h:jO w v n)(hb:Below B w w')(hB:w.heap.size<=B):jO w' v n:=by obtain⟨ga,b,o,cap,xs,hv,hr,hc,hn⟩:=h;exact⟨ga,b,o,cap,xs,hv,hr.below hb hB,hc,hn⟩
theorem jO.next(h:jO w v n)(hb:Below w.heap.size w w'):jO w' v n:=h.below hb (af _)
theorem aJ{w2:World}(h:Below w.heap.size w w1)(k:Below w1.heap.size w1 w2):Below w.heap.size w w2:=h.trans (k.mono h.size)
theorem Fl(xs:List Nat)(k:Nat)(h:0<xs.getD k 0):fV xs (k+1)=k+1:=by unfold fV;rw[aV (by omega)]
theorem PG(xs:List Nat)(k:Nat)(h:xs.getD k 0=0):fV xs (k+1)=fV xs k:=by rw[fV,aW h]
theorem Ky(w:World)(ga:Option Addr)(b o cap:Nat)(xs:List Nat)(hn:xs.length<=1099511627776)(hR:cH w ga b o cap xs):Calls Tryz.prog 51 #[.slice ga xs.length cap] w fun e w'=>e=.returned (.slice ga (fV xs xs.length) cap)/\w'=w:=by
 obtain⟨hh,hr,hc⟩:=hR;go_enter Tryz.func51,Tryz.ntmps51;go_wp2
 go_loop [3] (fun k=>∃q:Nat,q<=xs.length/\k=.int .i64 q/\Hid (fV xs xs.length=fV xs q)) (fun k=>(intOf k).toNat)
 case atStart=>exact⟨xs.length,af _,rfl,rfl⟩
 case round=>
  obtain⟨q,hq,rfl,hN⟩:=hrel;by_cases dh:0<q
  ·obtain⟨k,rfl⟩:∃k,q=k+1:=⟨q-1,by omega⟩;obtain rfl:=hh (by omega);have hk:=hc k (by omega);go_wp2
   ·have hz:xs.getD k 0=0:=by
     have h:(((xs[k]?.getD 0:Nat):Int)==0)=true:=(by assumption);rw[aq];have:=eq_of_beq h;omega
    exact⟨⟨k,by omega,rfl,hN.out.trans (PG xs k hz)⟩,by simp[intOf]⟩
   ·have hz:0<xs.getD k 0:=by
     have h:(((xs[k]?.getD 0:Nat):Int)==0)=false:=(by assumption);rw[aq];have:=ne_of_beq_false h;omega
    have e:=hN.out.trans (Fl xs k hz);go_ret;exact⟨fg e.symm,rfl⟩
  ·obtain rfl:q=0:=(by omega);go_wp2;go_ret;exact⟨fg hN.out.symm,rfl⟩
theorem xL(w:World)(ga:Option Addr)(b o cap n:Nat)(xs:List Nat)(hl:xs.length=n)(hn:n<=1099511627776)(hR:cH w ga b o cap xs)(hd:oI xs):Calls Tryz.prog 51 #[.slice ga n cap] w fun e w'=>∃v,e=.returned v/\jO w v (val xs)/\w'=w:=by
 subst hl;refine(Ky w ga b o cap xs hn hR).mono ?_;rintro e w' ⟨rfl,rfl⟩;exact⟨_,rfl,⟨ga,b,o,cap,yi xs,by rw[ep],hR.take _ (fZ _ _),PH hd,PJ xs⟩,rfl⟩
def xZ:List Nat->List Nat
 |[]=>[]
 |w :: ws=>w%4294967296 :: w/4294967296 :: xZ ws
def aB:List Nat->Nat
 |[]=>0
 |w :: ws=>w+18446744073709551616*aB ws
theorem LP:∀ws:List Nat,val (xZ ws)=aB ws
 |[]=>rfl
 |w :: ws=>by simp only[xZ,val,aB,LP ws];omega
theorem LL:∀ws:List Nat,(∀x ∈ ws,x<18446744073709551616)->oI (xZ ws)
 |[]=>fun _=>xo
 |w :: ws=>fun h=>by
  have ih:=LL ws (fun x hx=>h x (qm _ hx));have hw:=h w sU;intro j
  match j with
  |0=>simp only[xZ,List.getD_cons_zero];omega
  |1=>simp only[xZ,List.getD_cons_succ,List.getD_cons_zero];omega
  |j+2=>simp only[xZ,List.getD_cons_succ];exact ih j
theorem FL:∀(ws:List Nat) (w:Nat),xZ (ws++[w])=xZ ws++[w%4294967296,w/4294967296]
 |[],_=>rfl
 |v :: ws,w=>by simp only[List.cons_append,xZ,FL ws w]
theorem Tryz.mf:(Tryz.prog.info? 47).map (fun i=>(i.zero,i.size,i.bytes))=some (some (.int .u64 0),1,8):=by kernel_rfl
theorem LB(x:Nat):(x:Int).tmod 4294967296=((x%4294967296:Nat):Int):=by rw[UE (by omega)];omega
theorem aav(x:Nat)(h:x<18446744073709551616):IntKind.u64.wrap ((x:Int)/4294967296)=((x/4294967296:Nat):Int):=by rw[aK];omega
theorem Rm{B x:Nat}{ws:List Nat}(hk:k<ws.length)(hx:x=ws.getD k 0)(h:w1.ownsRow B t 1 (.slice (some ⟨g,0,none⟩) (2*k+2) cap) (2*k+2) (cellsOf (xZ (ws.take k))++cellsOf [x%4294967296,x/4294967296])):w1.ownsRow B t 1 (.slice (some ⟨g,0,none⟩) (2*(k+1)) cap) (2*(k+1)) (cellsOf (xZ (ws.take (k+1)))):=by
 rw[zk ws k hk,FL, <-hx];simpa [Nat.mul_succ]using h
theorem JW(w:World)(ga:Option Addr)(b o cap:Nat)(ws:List Nat)(hn:ws.length<=274877906944)(hR:cH w ga b o cap ws)(hw:∀x ∈ ws,x<18446744073709551616):Calls Tryz.prog 32 #[.slice ga ws.length cap] w fun e w'=>∃v,e=.returned v/\jO w' v (aB ws)/\Below w.heap.size w w':=by
 obtain⟨i0,hi,jx,gY,fX⟩:=fE Tryz.mf;go_enter Tryz.func32,Tryz.ntmps32
 go_wp2_with (at_make;refine wpList_make_own _ rfl _ _ 34 rfl w.heap.size 47 i0 (.int .u64 0) 1 fT hi jx gY _ _ _ (2*ws.length) rfl rfl (by omega) ?b2 ?b3 (af _) ?_)
 case b2=>rw[fX];omega
 case b3=>unfold maxLen;omega
 intro w0 EX BF;go_wp2
 go_loopw [3,4] (fun out i wr=>∃k:Nat,k<=ws.length/\i=.int .i64 k/\out=.slice (some ⟨w.heap.size,0,none⟩) (2*k) (2*ws.length)/\
   wr.ownsRow w.heap.size 47 1 (.slice (some ⟨w.heap.size,0,none⟩) (2*k) (2*ws.length)) (2*k) (cellsOf (xZ (ws.take k)))/\Below w.heap.size w wr)
  (fun _ i _=>ws.length-(intOf i).toNat)
 case atStart=>exact⟨0,aO _,rfl,rfl,EX,(aj _ _).grown BF (af _) (fun k h=>by cases h)⟩
 case round=>
  obtain⟨k,hk,rfl,rfl,cV,en⟩:=hrel;by_cases dh:k<ws.length
  ·obtain rfl:=hR.head (by omega);have hb:=hR.lt (by omega);obtain⟨x,hx⟩:∃x:Nat,x=ws.getD k 0:=⟨_,rfl⟩;have Af:x<18446744073709551616:=by rw[hx,iK dh];exact hw _ (gO dh)
   have hck:wr.cell? ⟨b,o+k,none⟩=some (.int .u64 (x:Int)):=by rw[hx];exact(en.cell (by exact hb)).trans (hR.cell k dh)
   have hm:(x:Int).tmod 4294967296=((x%4294967296:Nat):Int):=LB x;have hq:IntKind.u64.wrap ((x:Int)/4294967296)=((x/4294967296:Nat):Int):=aav x Af;have HX:Hid (x=ws.getD k 0):=hx;clear hx Af;have kF:=en.size
   go_wp2_with fail
   go_region_law (refine zh rfl (.tmp 15) (.tmp 26) 34 rfl w.heap.size 47 i0 1 fT hi gY w.heap.size (2*k) (2*ws.length) (cellsOf (xZ (ws.take k))) (by simp[Act.eval]) (by first|exact(cV.alloc _).drew|exact cV.drew.alloc _) ⟨wr.heap.size,0,none⟩ 2 2 (cellsOf [x%4294967296,x/4294967296]) (by simp[Act.eval]) rfl (by exact fU wr (cellsOf [x%4294967296,x/4294967296]) 47) (gD _) (by omega) ?_;intro w1 iq fe)
   all_goals
    go_wp2
    go_roundw
    case rel=>exact⟨k+1,by omega,by go_num,rfl,Rm dh HX.out iq,(en.alloc kF _).drew.grown fe (by simp;omega) (fun j hj=>by cases hj;exact af _)⟩
    case measure=>simp[intOf];omega
  ·obtain rfl:k=ws.length:=(by omega);rw[cf]at cV;obtain⟨hl,ld⟩:=de cV;have hs:=LL ws hw;have hv:=LP ws
   go_wp2_with fail
   refine(xL _ _ _ _ _ _ _ hl (by omega) ld hs).mono ?_;rintro e w' ⟨v,rfl,hN,rfl⟩;go_wp2;go_ret;exact⟨v,rfl,by rw[<-hv];exact hN,en⟩
theorem aay(w:World)(ws:List Nat)(t:TypeId):cH (w.alloc (.cells (cellsOf ws).toArray t)) (some ⟨w.heap.size,0,none⟩) w.heap.size 0 ws.length ws:=
 ⟨fun _=>rfl,af _,fun j hj=>by rw[bh,World.cell?_alloc_new];simp[List.getElem?_eq_getElem hj]⟩
theorem qP(x:Int)(h0:0<=x)(h1:x<18446744073709551616)(w:World):Calls Tryz.prog 38 #[.int .u64 x] w fun e w'=>∃v,e=.returned v/\jO w' v x.toNat/\Below w.heap.size w w':=by
 obtain⟨n,rfl⟩:=dP h0;rw[dV];go_enter Tryz.func38,Tryz.ntmps38
 go_wp2_with fail
 refine(JW _ _ _ _ _ [n] (by simp) (aay w [n] 47) (by intro y hy;simp at hy;omega)).mono ?_;rintro e w' ⟨v,rfl,hN,hb⟩;go_wp2;go_ret;refine⟨v,rfl,by simpa [aB]using hN,?_⟩;exact((aj _ _).alloc (af _) _).trans (hb.mono (by simp))
def IY(xs ys out:List Nat)(k c:Nat):Prop:=out.length=k/\oI out/\c<=1/\val out+4294967296^k*c=val (xs.take k)+val (ys.take k)
theorem QP(xs ys:List Nat):IY xs ys [] 0 0:=⟨rfl,xo,by omega,by simp[val]⟩
theorem xe{out:List Nat}(h:IY xs ys out k c)(hx:xs.getD k 0<4294967296)(hy:ys.getD k 0<4294967296):IY xs ys (out++[(c+xs.getD k 0+ys.getD k 0)%4294967296]) (k+1) ((c+xs.getD k 0+ys.getD k 0)/4294967296):=by
 obtain⟨h1,h2,h3,h4⟩:=h;refine⟨by simp[h1],xp h2 (by omega),by omega,?_⟩;rw[tZ,h1,cO,cO,aE,aF];generalize 4294967296^k=B at *;generalize xs.getD k 0=x at *;generalize ys.getD k 0=y at *;have e:B*((c+x+y)%4294967296)+B*(4294967296*((c+x+y)/4294967296))=B*c+B*x+B*y:=by rw[<-aH,QD,aH,aH]
 omega
theorem ZH{out:List Nat}(h:IY xs ys out k 0)(hx:xs.length<=k)(hy:ys.length<=k):val out=val xs+val ys:=by obtain⟨h1,h2,h3,h4⟩:=h;rw[jj _ _ hx,jj _ _ hy]at h4;simpa using h4
theorem As{B x:Nat}{os:List Nat}(hx:x=xs.getD k 0)(hy:y=ys.getD k 0)(hS:S=((c+x+y:Nat):Int))(h:w1.ownsRow B t 1 (.slice (some ⟨g,0,none⟩) (k+1) cap) (k+1) (cellsOf os++[.int .u64 (S%4294967296)])):w1.ownsRow B t 1 (.slice (some ⟨g,0,none⟩) (k+1) cap) (k+1) (cellsOf (os++[(c+xs.getD k 0+ys.getD k 0)%4294967296])):=by
 have e:S%4294967296=(((c+xs.getD k 0+ys.getD k 0)%4294967296:Nat):Int):=by rw[hS, <-hx, <-hy];omega
 rw[e]at h;simpa using h
theorem ur{x:Nat}(hx:x=xs.getD k 0)(hy:y=ys.getD k 0)(hS:S=((c+x+y:Nat):Int)):Value.int .u64 (S/4294967296)=.int .u64 (((c+xs.getD k 0+ys.getD k 0)/4294967296:Nat):Int):=by rw[hS, <-hx, <-hy];congr 1
theorem ZI(w:World)(ga gb:Option Addr)(ba oa bb ob ca cb la lb:Nat)(xs ys:List Nat)(hx:xs.length=la)(hy:ys.length=lb)(ha:la<=1073741824)(hb:lb<=1073741824)(hA:cH w ga ba oa ca xs)(hB:cH w gb bb ob cb ys)(dx:oI xs)(dy:oI ys):Calls Tryz.prog 36 #[.slice ga la ca,.slice gb lb cb] w fun e w'=>∃v,e=.returned v/\jO w' v (val xs+val ys)/\Below w.heap.size w w':=by
 obtain⟨i0,hi,jx,gY,fX⟩:=fE Tryz.mf;obtain⟨mx,hmx,hma,hmb,afV⟩:∃mx:Nat,((la<lb/\mx=lb)\/(¬la<lb/\mx=la))/\la<=mx/\lb<=mx/\mx<=1073741824:=⟨max la lb,by omega,by omega,by omega,by omega⟩;rcases hmx with⟨dh,hm⟩|⟨dh,hm⟩
 all_goals
  have HM:=ag hm;clear hm;go_enter Tryz.func36,Tryz.ntmps36
  go_wp2_with (at_make;refine wpList_make_own _ rfl _ _ 34 rfl w.heap.size 47 i0 (.int .u64 0) 1 fT hi jx gY _ _ _ (mx+1) rfl rfl ?b1 ?b2 ?b3 (af _) ?_)
  case b1=>have:=HM.out;omega
  case b2=>rw[fX];omega
  case b3=>unfold maxLen;omega
  intro w0 EX BF;go_wp2
  go_loopw [5,6,7] (fun out c i wr=>∃(k cy:Nat) (os:List Nat),k<=mx+1/\c=.int .u64 (cy:Int)/\i=.int .i64 (k:Int)/\out=.slice (some ⟨w.heap.size,0,none⟩) k (mx+1)/\
    wr.ownsRow w.heap.size 47 1 (.slice (some ⟨w.heap.size,0,none⟩) k (mx+1)) k (cellsOf os)/\Hid (IY xs ys os k cy)/\cy<=1/\Hid (k=mx+1->cy=0)/\Below w.heap.size w wr)
   (fun _ _ i _=>mx+1-(intOf i).toNat)
  case atStart=>exact⟨0,0,[],aO _,rfl,rfl,rfl,EX,QP xs ys,by omega,fun _=>rfl,(aj _ _).grown BF (af _) (fun k h=>by cases h)⟩
  case round=>
   obtain⟨k,cy,os,hk,rfl,rfl,rfl,cV,fN,zH,aeb,en⟩:=hrel;obtain⟨x,HX⟩:∃x:Nat,Hid (x=xs.getD k 0):=⟨_,rfl⟩;obtain⟨y,HY⟩:∃y:Nat,Hid (y=ys.getD k 0):=⟨_,rfl⟩;have tI:x<4294967296:=by rw[HX.out];exact dx k
   have DY:y<4294967296:=by rw[HY.out];exact dy k
   have kF:=en.size;by_cases h1:k<la
   ·obtain rfl:=hA.head (by omega);have cx:wr.cell? ⟨ba,oa+k,none⟩=some (.int .u64 (x:Int)):=by rw[HX.out];exact(en.cell (by exact hA.lt (by omega))).trans (hA.cell k (by omega))
    by_cases h2:k<lb
    ·obtain rfl:=hB.head (by omega);have Pc:wr.cell? ⟨bb,ob+k,none⟩=some (.int .u64 (y:Int)):=by rw[HY.out];exact(en.cell (by exact hB.lt (by omega))).trans (hB.cell k (by omega))
     go_wp2_with (at_builtin;refine vK _ rfl (.tmp 51) (.tmp 54) 34 rfl w.heap.size 47 i0 1 fT hi gY w.heap.size k (mx+1) _ rfl (cV.alloc _) ⟨wr.heap.size,0,none⟩ 1 1 [.int .u64 (((cy:Int)+(x:Int)+(y:Int))%4294967296)] rfl rfl (by exact fU wr [.int .u64 (((cy:Int)+(x:Int)+(y:Int))%4294967296)] 47) (by intro u hu;simp at hu;subst hu;rfl) (by omega) ?_;intro w1 iq fe)
     go_wp2
     go_roundw
     case rel=>exact⟨k+1,_,_,by omega,ur HX.out HY.out (by omega),by go_num,rfl,As HX.out HY.out (by omega) iq,xe fN.out (by rw[<-HX.out];exact tI) (by rw[<-HY.out];exact DY),by rw[<-HX.out, <-HY.out];omega,fun h=>absurd h (by omega),(en.alloc kF _).grown fe (by simp;omega) (fun j hj=>by cases hj;exact af _)⟩
     case measure=>simp[intOf];omega
    ·try (exfalso;omega)
     all_goals
      have Ag:y=0:=by rw[HY.out];exact jo (by omega)
      have OK:=ag Ag;clear Ag
      go_wp2_with (at_builtin;refine vK _ rfl (.tmp 51) (.tmp 54) 34 rfl w.heap.size 47 i0 1 fT hi gY w.heap.size k (mx+1) _ rfl (cV.alloc _) ⟨wr.heap.size,0,none⟩ 1 1 [.int .u64 (((cy:Int)+(x:Int))%4294967296)] rfl rfl (by exact fU wr [.int .u64 (((cy:Int)+(x:Int))%4294967296)] 47) (by intro u hu;simp at hu;subst hu;rfl) (by omega) ?_;intro w1 iq fe)
      go_wp2
      go_roundw
      case rel=>exact⟨k+1,_,_,by omega,ur HX.out HY.out (by have:=OK.out;omega),by go_num,rfl,As HX.out HY.out (by have:=OK.out;omega) iq,xe fN.out (by rw[<-HX.out];exact tI) (by rw[<-HY.out];exact DY),by rw[<-HX.out, <-HY.out];omega,fun h=>absurd h (by omega),(en.alloc kF _).grown fe (by simp;omega) (fun j hj=>by cases hj;exact af _)⟩
      case measure=>simp[intOf];omega
   ·have Ml:x=0:=by rw[HX.out];exact jo (by omega)
    have LY:=ag Ml;clear Ml;by_cases h2:k<lb
    ·try (exfalso;omega)
     all_goals
      obtain rfl:=hB.head (by omega);have Pc:wr.cell? ⟨bb,ob+k,none⟩=some (.int .u64 (y:Int)):=by rw[HY.out];exact(en.cell (by exact hB.lt (by omega))).trans (hB.cell k (by omega))
      go_wp2_with (at_builtin;refine vK _ rfl (.tmp 51) (.tmp 54) 34 rfl w.heap.size 47 i0 1 fT hi gY w.heap.size k (mx+1) _ rfl (cV.alloc _) ⟨wr.heap.size,0,none⟩ 1 1 [.int .u64 (((cy:Int)+(y:Int))%4294967296)] rfl rfl (by exact fU wr [.int .u64 (((cy:Int)+(y:Int))%4294967296)] 47) (by intro u hu;simp at hu;subst hu;rfl) (by omega) ?_;intro w1 iq fe)
      go_wp2
      go_roundw
      case rel=>exact⟨k+1,_,_,by omega,ur HX.out HY.out (by have:=LY.out;omega),by go_num,rfl,As HX.out HY.out (by have:=LY.out;omega) iq,xe fN.out (by rw[<-HX.out];exact tI) (by rw[<-HY.out];exact DY),by rw[<-HX.out, <-HY.out];omega,fun h=>absurd h (by omega),(en.alloc kF _).grown fe (by simp;omega) (fun j hj=>by cases hj;exact af _)⟩
      case measure=>simp[intOf];omega
    ·have Ag:y=0:=by rw[HY.out];exact jo (by omega)
     have OK:=ag Ag;clear Ag;by_cases h3:0<cy
     ·have hkm:k<=mx:=by
       have:=aeb.out;omega
      go_wp2_with (at_builtin;refine vK _ rfl (.tmp 51) (.tmp 54) 34 rfl w.heap.size 47 i0 1 fT hi gY w.heap.size k (mx+1) _ rfl (cV.alloc _) ⟨wr.heap.size,0,none⟩ 1 1 [.int .u64 (((cy:Int))%4294967296)] rfl rfl (by exact fU wr [.int .u64 (((cy:Int))%4294967296)] 47) (by intro u hu;simp at hu;subst hu;rfl) (by omega) ?_;intro w1 iq fe)
      go_wp2
      go_roundw
      case rel=>exact⟨k+1,_,_,by omega,ur HX.out HY.out (by have:=LY.out;have:=OK.out;omega),by go_num,rfl,As HX.out HY.out (by have:=LY.out;have:=OK.out;omega) iq,xe fN.out (by rw[<-HX.out];exact tI) (by rw[<-HY.out];exact DY),by rw[<-HX.out, <-HY.out];omega,fun _=>by rw[<-HX.out, <-HY.out];have:=LY.out;have:=OK.out;omega,(en.alloc kF _).grown fe (by simp;omega) (fun j hj=>by cases hj;exact af _)⟩
      case measure=>simp[intOf];omega
     ·obtain rfl:cy=0:=(by omega);obtain⟨hl,ld⟩:=de cV;have he:=ZH fN.out (by omega) (by omega);have hd:=fN.out.2.1;have HE:=ag he;clear he
      go_wp2_with fail
      refine(xL _ _ _ _ _ _ _ hl (by omega) ld hd).mono ?_;rintro e w' ⟨v,rfl,hN,rfl⟩;go_wp2;go_ret;exact⟨v,rfl,by rw[<-HE.out];exact hN,en⟩
theorem OO(w:World)(u v:Value)(m n L:Nat)(hL:L<=1073741824)(hm:m<4294967296^L)(hn:n<4294967296^L)(hu:jO w u m)(hv:jO w v n):Calls Tryz.prog 36 #[u,v] w fun e w'=>∃r,e=.returned r/\jO w' r (m+n)/\Below w.heap.size w w':=by
 obtain⟨ga,ba,oa,ca,xs,rfl,hA,cA,rfl⟩:=hu;obtain⟨gb,bb,ob,cb,ys,rfl,hB,cB,rfl⟩:=hv;have la:=oQ cA hm;have lb:=oQ cB hn;exact ZI w ga gb ba oa bb ob ca cb _ _ xs ys rfl rfl (by omega) (by omega) hA hB cA.1 cB.1
end
section
open Go.RowKit
end
section
open Go.RowKit
theorem PM(k:Nat):4294967296^k=2^(32*k):=by rw[dH]
theorem ML:∀(xs:List Nat) (j:Nat),oI xs->xs.getD j 0=val xs/4294967296^j%4294967296
 |[],j,_=>by simp[val]
 |x :: xs,0,h=>by have:=h 0;simp only[List.getD_cons_zero]at this ⊢;simp only[val,Nat.pow_zero,Nat.div_one];omega
 |x :: xs,j+1,h=>by have h0:=h 0;simp only[List.getD_cons_zero]at h0;have ih:=ML xs j (fun k=>by simpa using h (k+1));rw[List.getD_cons_succ,ih];simp only[val,Nat.pow_succ];rw[aC (4294967296^j), <-cI,show(x+4294967296*val xs)/4294967296=val xs from by omega]
theorem abU(h:oI xs)(i:Nat):xs.getD (i/32) 0/2^(i%32)%2=val xs/2^i%2:=by
 rw[ML xs (i/32) h,PM];have e:2^i=2^(32*(i/32))*2^(i%32):=by rw[<-aQ,aS]
 rw[e, <-cI];generalize val xs/2^(32*(i/32))=y;have ht:i%32<32:=aD _ (by omega);generalize i%32=t at *;have e2:(4294967296:Nat)=2^t*(2*2^(31-t)):=by rw[<-ZC, <-aQ,show t+(31-t).succ=32 from by omega]
 rw[e2,UK,Nat.mod_mul_right_mod]
theorem Va(hd:oI xs)(hl:0<xs.length)(h:xs.getD (xs.length-1) 0<2^t):val xs<2^(32*(xs.length-1)+t):=by have h1:=cO xs (xs.length-1);rw[show xs.length-1+1=xs.length from by omega,cf]at h1;have h2:=Dn hd (xs.length-1);rw[h1,aQ, <-PM];have h3:4294967296^(xs.length-1)*(xs.getD (xs.length-1) 0+1)<=4294967296^(xs.length-1)*2^t:=au _ h;rw[aH]at h3;omega
theorem Rx{x:Nat}(h:x/2^t=q):x/2^(t+1)=q/2:=by rw[aE, <-cI,h]
theorem V8{x:Nat}(h:x/2^t=0):x<2^t:=by
 rcases Nat.div_eq_zero_iff.1 h with h|h
 ·have:0<2^t:=bR (by omega);omega
 ·exact h
theorem Rw{x:Nat}(h:x/2^t=q)(hq:0<q)(hx:x<4294967296):t<32:=by refine eI fun ht=>?_;have h1:2^32<=2^t:=aA (by omega) ht;have:x/2^t=0:=bq (by omega);omega
theorem U9(w:World)(ga:Option Addr)(b o cap n:Nat)(xs:List Nat)(hl:xs.length=n)(hn:n<=1073741824)(hR:cH w ga b o cap xs)(hd:oI xs):Calls Tryz.prog 59 #[.slice ga n cap] w fun e w'=>∃k:Nat,e=.returned (.int .i64 (k:Int))/\k<=32*n/\val xs<2^k/\w'=w:=by
 by_cases h0:n=0
 ·have hb:((n:Int)==0)=true:=by rw[h0];rfl
  go_enter Tryz.func59,Tryz.ntmps59;go_wp2;go_ret;refine⟨0,bY rfl,by omega,?_,rfl⟩;rw[dQ.1 (hl.trans h0)];simp[val]
 ·have hb:((n:Int)==0)=false:=by rw[dn];omega
  obtain rfl:=hR.head (by omega);obtain⟨x,HX⟩:∃x:Nat,Hid (x=xs.getD (n-1) 0):=⟨_,rfl⟩;have tI:x<4294967296:=by rw[HX.out];exact hd _
  obtain⟨m,hm⟩:∃m,n=m+1:=⟨n-1,by omega⟩;have cx:w.cell? ⟨b,o+m,none⟩=some (.int .u64 (x:Int)):=by have e:m=n-1:=(by omega);rw[HX.out,e];exact hR.cell (n-1) (by omega)
  have em:(n:Int)-1=(m:Int):=by omega
  have HM:=ag hm;have hmn:m<n:=by omega
  clear hm;go_enter Tryz.func59,Tryz.ntmps59;go_wp2
  go_loop [3,4] (fun c d=>∃t q:Nat,c=.int .i64 (32*(m:Int)+(t:Int))/\d=.int .u64 (q:Int)/\q<4294967296/\t<=32/\Hid (x/2^t=q)) (fun _ d=>(intOf d).toNat)
  case atStart=>exact⟨0,x,by go_num,rfl,tI,by omega,by show x/2^0=x;simp⟩
  case round=>
   obtain⟨t,q,rfl,rfl,hq,ht,hT⟩:=hrel;by_cases hp:0<q
   ·have hr:=Rw hT.out hp tI;have H2:=ag (Rx hT.out);go_wp2;exact⟨⟨t+1,q/2,by go_num,by go_num,by omega,by omega,H2⟩,by simp[intOf];omega⟩
   ·obtain rfl:q=0:=(by omega);have he:=ag (V8 hT.out);go_wp2;go_ret;refine⟨32*m+t,bY (by omega),by omega,?_,rfl⟩;have:=Va hd (by omega) (t:=t) (by rw[hl, <-HX.out];exact ae he);rw[show 32*m+t=32*(xs.length-1)+t from by have:=ae HM;omega];exact this
theorem ZP(w:World)(ga:Option Addr)(b o cap n i:Nat)(xs:List Nat)(hl:xs.length=n)(hn:n<=1073741824)(hi:i<32*n)(hR:cH w ga b o cap xs)(hd:oI xs):Calls Tryz.prog 61 #[.slice ga n cap,.int .i64 (i:Int)] w fun e w'=>e=.returned (.int .u64 ((val xs/2^i%2:Nat):Int))/\w'=w:=by
 obtain rfl:=hR.head (by omega);have hb:=abU hd i;have hc:=hR.cell (i/32) (by omega);have hx:=hd (i/32);generalize val xs/2^i%2=r at *;generalize xs.getD (i/32) 0=x at *;have ej:(i:Int)/32=((i/32:Nat):Int):=by omega
 have et:(i:Int)%32=((i%32:Nat):Int):=by omega
 have hj:i/32<n:=by omega
 have ht:i%32<32:=by omega
 generalize i/32=j at *;generalize i%32=t at *;have es:=nQ x t;have hy:x/2^t<4294967296:=aN (bT _ _) hx;have hm:=qV (x/2^t) 1 (by omega) (by omega);have e1:x/2^t&&& 1=x/2^t%2:=Nat.and_one_is_mod _;rw[e1,hb]at hm;clear hb e1;generalize x/2^t=y at *;go_enter Tryz.func61,Tryz.ntmps61;go_wp2;go_ret;exact⟨bY hm,rfl⟩
end
section
open Go.RowKit
end
section
open Go.RowKit
theorem ss(w:World):Calls Tryz.prog 190 #[] w fun e w'=>e=.returned (.agg #[.int .u64 180143985094819841,.int .i64 55,.int .u64 6,.int .u64 1945555039024054273,.int .i64 56,.int .u64 5,.int .u64 4179340454199820289,.int .i64 57,.int .u64 3])/\Below w.heap.size w w':=by
 go_enter Tryz.func190,Tryz.ntmps190;go_wp2;refine dR (v:=.agg #[.int .u64 180143985094819841,.int .i64 55,.int .u64 6,.int .u64 1945555039024054273,.int .i64 56,.int .u64 5,.int .u64 4179340454199820289,.int .i64 57,.int .u64 3]) (by simp[results,Tryz.results190,go_sem]) rfl ⟨rfl,?_⟩;exact(aj _ _).alloc (af _) _
end
end Go.Proofs.YtkdmippllpekfaaGreatDoor
