/- Rows of words in memory, as the walks read them. -/
import Derived.Test.YtgcnhfgpflncaaaGreatDoorChecked
import Derived.Test.YtgcnhfgpflncaaaGreatDoorB1
import Derived.WalkKit
import Derived.Deep.RegionLaw
namespace Go.Proofs.YtgcnhfgpflncaaaGreatDoor
open Go.RowKit
theorem hide{p:Prop}(h:p):Hid p:=h
theorem ae{p:Prop}(h:Hid p):p:=h
structure Rep(w:World)(ga:Option Addr)(b o cap:Nat)(xs:List Nat):Prop where
 head:0<xs.length->ga=some ⟨b,o,none⟩
 room:xs.length<=cap
 cell:∀ j,j<xs.length->w.cell? ⟨b,o+j,none⟩=some (.int .u64 ((xs.getD j 0:Nat):Int))
theorem Rep.lt{w:World}{ga:Option Addr}{b o cap:Nat}{xs:List Nat}(h:Rep w ga b o cap xs)(hl:0<xs.length):b<w.heap.size:=
 World.block_lt_of_cell? _ _ (h.cell 0 hl)
theorem Rep.below{w w':World}{B:Nat}{ga:Option Addr}{b o cap:Nat}{xs:List Nat}(h:Rep w ga b o cap xs)(hb:Below B w w')(hB:w.heap.size<=B):Rep w' ga b o cap xs:=
 ⟨h.head,h.room,fun j hj=>(hb.cell (p:=⟨b,o+j,none⟩) (by have:=h.lt (by omega);show b<B;omega)).trans (h.cell j hj)⟩
theorem Rep.nil(w:World)(ga:Option Addr)(b o cap:Nat):Rep w ga b o cap []:=⟨fun h=>absurd h (by simp),Nat.zero_le _,fun j hj=>absurd hj (by simp)⟩
theorem Rep.take{w:World}{ga:Option Addr}{b o cap:Nat}{xs:List Nat}(h:Rep w ga b o cap xs)(k:Nat)(hk:k<=xs.length):Rep w ga b o cap (xs.take k):=by
 have hl:(xs.take k).length=k:=by simp;omega
 refine⟨fun h0=>h.head (by omega),by have:=h.room;omega,fun j hj=>?_⟩
 have e:(xs.take k).getD j 0=xs.getD j 0:=by
  rw[List.getD_eq_getElem?_getD,List.getD_eq_getElem?_getD,List.getElem?_take,if_pos (by omega)]
 rw[e];exact h.cell j (by omega)
theorem aQ{ga:Option Addr}{a b cap:Nat}(h:a=b):Ending.returned (.slice ga a cap)=.returned (.slice ga b cap):=by rw[h]
theorem ax{k:IntKind}{a b:Int}(h:a=b):Ending.returned (.int k a)=.returned (.int k b):=by rw[h]
abbrev cellsOf(xs:List Nat):List Value:=xs.map (fun x=>Value.int .u64 ((x:Nat):Int))
theorem cells_one(xs:List Nat):∀ u ∈ cellsOf xs,u.oneCell'=true:=by
 intro u hu
 simp only[cellsOf,List.mem_map]at hu
 obtain⟨x,_,rfl⟩:=hu
 rfl
theorem aZ(w:World)(vs:List Value)(t:TypeId):∀ j u,vs[j]?=some u->(w.alloc (.cells vs.toArray t)).cell? ((⟨w.heap.size,0,none⟩:Addr).add j)=some u:=by
 intro j u h
 have e:(⟨w.heap.size,0,none⟩:Addr).add j=⟨w.heap.size,j,none⟩:=by
  by_cases h0:j=0
  ·subst h0;simp[Addr.add]
  ·simp[Addr.add,h0]
 rw[e]
 simp[h]
theorem aP{w:World}{base t g n cap:Nat}{xs:List Nat}(h:w.ownsRow base t 1 (.slice (some ⟨g,0,none⟩) n cap) n (cellsOf xs)):xs.length=n/\Rep w (some ⟨g,0,none⟩) g 0 cap xs:=by
 have hl:xs.length=n:=by simpa using h.1
 refine⟨hl,fun _=>rfl,?_,fun j hj=>?_⟩
 ·rcases h.2 with⟨h,_⟩|⟨g',cap',cur,hv,_,_,hr,_⟩
  ·cases h
  ·cases hv;omega
 ·rw[Nat.zero_add,h.cellAt j (by omega)]
  simp[List.getElem?_eq_getElem hj]
theorem ni{P:Program}{ops:Array Oper}{o:Oper}{a:Act}{w:World}{K:Act->World->Prop}{Q:Exit->Act->World->Prop}{E:Prop}
  (hg:o.guard=none) (s x:Operand) (t:TypeId) (hop:o.op=Op.call { callee:=Callee.builtin Builtin.append,args:=#[s,x],argTypes:=#[t,t] })
  (base:Nat) (e:TypeId) (i:TypeInfo) (size:Nat) (h1:P.underlying t=some (.slice e)) (h2:P.info? e=some i) (h4:i.size=size)
  (g k cap:Nat) (xs:List Value) (hs:a.eval s=.slice (some ⟨g,0,none⟩) k cap) (hown:w.ownsRow base e size (.slice (some ⟨g,0,none⟩) k cap) k xs) (ad:Addr) (m c:Nat) (news:List Value) (hx:a.eval x=.slice (some ad) m c) (hn:news.length=m*size)
  (hc:∀ j u,news[j]?=some u->w.cell? (ad.add j)=some u) (h1c:∀ u ∈ news,u.oneCell'=true) (b1:k+m<=cap)
  (hK:∀ w',w'.ownsRow base e size (.slice (some ⟨g,0,none⟩) (k+m) cap) (k+m) (xs++news)->w.grownBy w' (some g)->K (a.put o.dst (.slice (some ⟨g,0,none⟩) (k+m) cap)) w'):
  if Region.wanted o (yielded ops a.tmps)=true then Oper.wp P o a w K Q else E:=by
 have hw:Region.wanted o (yielded ops a.tmps)=true:=by simp[Region.wanted,hg]
 rw[if_pos hw]
 obtain⟨w',hrun,r1,r2⟩:=run_append_fits (P:=P) w base t o.type e i size h1 h2 h4 g k cap xs hown ad m c news hn hc h1c b1
 unfold Oper.wp
 simp[execOp,hop,resolve,invoke,builtin,hs,hx,hrun,Result.andThen]
 exact hK w' r1 r2
def aY(w:World)(v:Value)(n:Nat):Prop:=∃ ga b o cap xs,v=.slice ga xs.length cap/\Rep w ga b o cap xs/\Can xs/\val xs=n
theorem aY.below{w w':World}{B n:Nat}{v:Value}(h:aY w v n)(hb:Below B w w')(hB:w.heap.size<=B):aY w' v n:=by
 obtain⟨ga,b,o,cap,xs,hv,hr,hc,hn⟩:=h
 exact⟨ga,b,o,cap,xs,hv,hr.below hb hB,hc,hn⟩
theorem aY.next{w w':World}{n:Nat}{v:Value}(h:aY w v n)(hb:Below w.heap.size w w'):aY w' v n:=h.below hb (Nat.le_refl _)
theorem ag{w w1 w2:World}(h:Below w.heap.size w w1)(k:Below w1.heap.size w1 w2):Below w.heap.size w w2:=h.trans (k.mono h.size)
end Go.Proofs.YtgcnhfgpflncaaaGreatDoor
/- norm:noughts on top are cut off. -/
namespace Go.Proofs.YtgcnhfgpflncaaaGreatDoor
open Go.RowKit
theorem rK(xs:List Nat)(k:Nat)(h:0<xs.getD k 0):bY xs (k+1)=k+1:=by unfold bY;rw[if_neg (by omega)]
theorem As(xs:List Nat)(k:Nat)(h:xs.getD k 0=0):bY xs (k+1)=bY xs k:=by rw[bY,if_pos h]
set_option maxHeartbeats 400000 in
theorem Io(w:World)(ga:Option Addr)(b o cap:Nat)(xs:List Nat)(hn:xs.length<=1099511627776)(hR:Rep w ga b o cap xs):
  Calls Tryz.prog 39 #[.slice ga xs.length cap] w fun e w'=>e=.returned (.slice ga (bY xs xs.length) cap)/\w'=w:=by
 obtain⟨hh,hr,hc⟩:=hR
 go_enter Tryz.func39,Tryz.ntmps39
 go_wp2
 go_loop [3] (fun k=>∃ q:Nat,q<=xs.length/\k=.int .i64 q/\Hid (bY xs xs.length=bY xs q)) (fun k=>(intOf k).toNat)
 case atStart=>exact⟨xs.length,Nat.le_refl _,rfl,rfl⟩
 case round=>
  obtain⟨q,hq,rfl,hN⟩:=hrel
  by_cases hlt:0<q
  ·obtain⟨k,rfl⟩:∃ k,q=k+1:=⟨q-1,by omega⟩
   obtain rfl:=hh (by omega)
   have hk:=hc k (by omega)
   go_wp2
   ·have hz:xs.getD k 0=0:=by
     have h:(((xs[k]?.getD 0:Nat):Int)==0)=true:=by assumption
     rw[List.getD_eq_getElem?_getD];have:=eq_of_beq h;omega
    exact⟨⟨k,by omega,rfl,hN.out.trans (As xs k hz)⟩,by simp[intOf]⟩
   ·have hz:0<xs.getD k 0:=by
     have h:(((xs[k]?.getD 0:Nat):Int)==0)=false:=by assumption
     rw[List.getD_eq_getElem?_getD];have:=ne_of_beq_false h;omega
    have e:=hN.out.trans (rK xs k hz)
    go_ret
    exact⟨aQ e.symm,rfl⟩
  ·obtain rfl:q=0:=by omega
   go_wp2
   go_ret
   exact⟨aQ hN.out.symm,rfl⟩
theorem jK(w:World)(ga:Option Addr)(b o cap n:Nat)(xs:List Nat)(hl:xs.length=n)(hn:n<=1099511627776)(hR:Rep w ga b o cap xs)(hd:js xs):
  Calls Tryz.prog 39 #[.slice ga n cap] w fun e w'=>∃ v,e=.returned v/\aY w v (val xs)/\w'=w:=by
 subst hl
 refine(Io w ga b o cap xs hn hR).mono ?_
 rintro e w' ⟨rfl,rfl⟩
 exact⟨_,rfl,⟨ga,b,o,cap,mX xs,by rw[aI],hR.take _ (bo _ _),Ll hd,Ln xs⟩,rfl⟩
end Go.Proofs.YtgcnhfgpflncaaaGreatDoor
/- From:words become digits of 32 bits. -/
namespace Go.Proofs.YtgcnhfgpflncaaaGreatDoor
open Go.RowKit
def mC:List Nat->List Nat
 |[]=>[]
 |w :: ws=>w%4294967296 :: w/4294967296 :: mC ws
def af:List Nat->Nat
 |[]=>0
 |w :: ws=>w+18446744073709551616*af ws
theorem xZ:∀ ws:List Nat,val (mC ws)=af ws
 |[]=>rfl
 |w :: ws=>by simp only[mC,val,af,xZ ws];omega
theorem xY:∀ ws:List Nat,(∀ x ∈ ws,x<18446744073709551616)->js (mC ws)
 |[]=>fun _=>om
 |w :: ws=>fun h=>by
  have ih:=xY ws (fun x hx=>h x (List.mem_cons_of_mem _ hx))
  have hw:=h w List.mem_cons_self
  intro j
  match j with
  |0=>simp only[mC,List.getD_cons_zero];omega
  |1=>simp only[mC,List.getD_cons_succ,List.getD_cons_zero];omega
  |j+2=>simp only[mC,List.getD_cons_succ];exact ih j
theorem sk:∀(ws:List Nat) (w:Nat),mC (ws++[w])=mC ws++[w%4294967296,w/4294967296]
 |[],_=>rfl
 |v :: ws,w=>by simp only[List.cons_append,mC,sk ws w]
theorem Tryz.infoU:(Tryz.prog.info? 41).map (fun i=>(i.zero,i.size,i.bytes))=some (some (.int .u64 0),1,8):=by kernel_rfl
theorem xQ(x:Nat):(x:Int).tmod 4294967296=((x%4294967296:Nat):Int):=by
 rw[Int.tmod_eq_emod_of_nonneg (by omega)];omega
theorem LC(x:Nat)(h:x<18446744073709551616):IntKind.u64.wrap ((x:Int)/4294967296)=((x/4294967296:Nat):Int):=by
 rw[IntKind.wrap_u64];omega
theorem BM{w1:World}{B t g cap k x:Nat}{ws:List Nat}(hk:k<ws.length)(hx:x=ws.getD k 0)(h:w1.ownsRow B t 1 (.slice (some ⟨g,0,none⟩) (2*k+2) cap) (2*k+2) (cellsOf (mC (ws.take k))++cellsOf [x%4294967296,x/4294967296])):
  w1.ownsRow B t 1 (.slice (some ⟨g,0,none⟩) (2*(k+1)) cap) (2*(k+1)) (cellsOf (mC (ws.take (k+1)))):=by
 rw[take_snoc ws k hk,sk, <-hx]
 simpa [Nat.mul_succ]using h
set_option maxHeartbeats 800000 in
theorem vt(w:World)(ga:Option Addr)(b o cap:Nat)(ws:List Nat)(hn:ws.length<=274877906944)(hR:Rep w ga b o cap ws)(hw:∀ x ∈ ws,x<18446744073709551616):
  Calls Tryz.prog 38 #[.slice ga ws.length cap] w fun e w'=>∃ v,e=.returned v/\aY w' v (af ws)/\Below w.heap.size w w':=by
 obtain⟨i0,hi,hz0,hz1,hz2⟩:=info_parts Tryz.infoU
 go_enter Tryz.func38,Tryz.ntmps38
 go_wp2_with (at_make;refine wpList_make_own _ rfl _ _ 32 rfl w.heap.size 41 i0 (.int .u64 0) 1 Tryz.underlying32 hi hz0 hz1 _ _ _ (2*ws.length) rfl rfl (by omega) ?b2 ?b3 (Nat.le_refl _) ?_)
 case b2=>rw[hz2];omega
 case b3=>unfold maxLen;omega
 intro w0 hown0 hgrow0
 go_wp2
 go_loopw [3,4] (fun out i wr=>∃ k:Nat,k<=ws.length/\i=.int .i64 k/\out=.slice (some ⟨w.heap.size,0,none⟩) (2*k) (2*ws.length)/\
   wr.ownsRow w.heap.size 41 1 (.slice (some ⟨w.heap.size,0,none⟩) (2*k) (2*ws.length)) (2*k) (cellsOf (mC (ws.take k)))/\Below w.heap.size w wr)
  (fun _ i _=>ws.length-(intOf i).toNat)
 case atStart=>exact⟨0,Nat.zero_le _,rfl,rfl,hown0,(Below.refl _ _).grown hgrow0 (Nat.le_refl _) (fun k h=>by cases h)⟩
 case round=>
  obtain⟨k,hk,rfl,rfl,hown,hnx⟩:=hrel
  by_cases hlt:k<ws.length
  ·obtain rfl:=hR.head (by omega)
   have hb:=hR.lt (by omega)
   obtain⟨x,hx⟩:∃ x:Nat,x=ws.getD k 0:=⟨_,rfl⟩
   have hx64:x<18446744073709551616:=by rw[hx,getD_lt hlt];exact hw _ (List.getElem_mem hlt)
   have hck:wr.cell? ⟨b,o+k,none⟩=some (.int .u64 (x:Int)):=by rw[hx];exact(hnx.cell (by exact hb)).trans (hR.cell k hlt)
   have hm:(x:Int).tmod 4294967296=((x%4294967296:Nat):Int):=xQ x
   have hq:IntKind.u64.wrap ((x:Int)/4294967296)=((x/4294967296:Nat):Int):=LC x hx64
   have HX:Hid (x=ws.getD k 0):=hx
   clear hx hx64
   have hsz:=hnx.size
   go_wp2_with fail
   go_region_law (refine ni rfl (.tmp 15) (.tmp 26) 32 rfl w.heap.size 41 i0 1 Tryz.underlying32 hi hz1 w.heap.size (2*k) (2*ws.length) (cellsOf (mC (ws.take k))) (by simp[Act.eval]) (by first|exact(hown.alloc _).drew|exact hown.drew.alloc _) ⟨wr.heap.size,0,none⟩ 2 2 (cellsOf [x%4294967296,x/4294967296]) (by simp[Act.eval]) rfl (by exact aZ wr (cellsOf [x%4294967296,x/4294967296]) 41) (cells_one _) (by omega) ?_;intro w1 hown1 hgrow1)
   all_goals
    go_wp2
    go_roundw
    case rel=>exact⟨k+1,by omega,by go_num,rfl,BM hlt HX.out hown1,(hnx.alloc hsz _).drew.grown hgrow1 (by simp;omega) (fun j hj=>by cases hj;exact Nat.le_refl _)⟩
    case measure=>simp[intOf];omega
  ·obtain rfl:k=ws.length:=by omega
   rw[List.take_length]at hown
   obtain⟨hl,hrep⟩:=aP hown
   have hs:=xY ws hw
   have hv:=xZ ws
   go_wp2_with fail
   refine(jK _ _ _ _ _ _ _ hl (by omega) hrep hs).mono ?_
   rintro e w' ⟨v,rfl,hN,rfl⟩
   go_wp2
   go_ret
   exact⟨v,rfl,by rw[<-hv];exact hN,hnx⟩
end Go.Proofs.YtgcnhfgpflncaaaGreatDoor
/- Small,and words as naturals. -/
namespace Go.Proofs.YtgcnhfgpflncaaaGreatDoor
open Go.RowKit
theorem LH(w:World)(ws:List Nat)(t:TypeId):Rep (w.alloc (.cells (cellsOf ws).toArray t)) (some ⟨w.heap.size,0,none⟩) w.heap.size 0 ws.length ws:=
 ⟨fun _=>rfl,Nat.le_refl _,fun j hj=>by
  rw[Nat.zero_add,World.cell?_alloc_new]
  simp[List.getElem?_eq_getElem hj]⟩
set_option maxHeartbeats 400000 in
theorem iw(x:Int)(h0:0<=x)(h1:x<18446744073709551616)(w:World):
  Calls Tryz.prog 21 #[.int .u64 x] w fun e w'=>∃ v,e=.returned v/\aY w' v x.toNat/\Below w.heap.size w w':=by
 obtain⟨n,rfl⟩:=Int.eq_ofNat_of_zero_le h0
 rw[Int.toNat_natCast]
 go_enter Tryz.func21,Tryz.ntmps21
 go_wp2_with fail
 refine(vt _ _ _ _ _ [n] (by simp) (LH w [n] 41) (by intro y hy;simp at hy;omega)).mono ?_
 rintro e w' ⟨v,rfl,hN,hb⟩
 go_wp2
 go_ret
 refine⟨v,rfl,by simpa [af]using hN,?_⟩
 exact((Below.refl _ _).alloc (Nat.le_refl _) _).trans (hb.mono (by simp))
end Go.Proofs.YtgcnhfgpflncaaaGreatDoor
/- Add:the sum of two naturals. -/
namespace Go.Proofs.YtgcnhfgpflncaaaGreatDoor
open Go.RowKit
def uC(xs ys out:List Nat)(k c:Nat):Prop:=out.length=k/\js out/\c<=1/\val out+4294967296^k*c=val (xs.take k)+val (ys.take k)
theorem Bl(xs ys:List Nat):uC xs ys [] 0 0:=⟨rfl,om,by omega,by simp[val]⟩
theorem lL{xs ys out:List Nat}{k c:Nat}(h:uC xs ys out k c)(hx:xs.getD k 0<4294967296)(hy:ys.getD k 0<4294967296):
  uC xs ys (out++[(c+xs.getD k 0+ys.getD k 0)%4294967296]) (k+1) ((c+xs.getD k 0+ys.getD k 0)/4294967296):=by
 obtain⟨h1,h2,h3,h4⟩:=h
 refine⟨by simp[h1],jA h2 (by omega),by omega,?_⟩
 rw[iG,h1,aD,aD,Nat.pow_succ,Nat.mul_assoc]
 generalize 4294967296^k=B at *
 generalize xs.getD k 0=x at *
 generalize ys.getD k 0=y at *
 have e:B*((c+x+y)%4294967296)+B*(4294967296*((c+x+y)/4294967296))=B*c+B*x+B*y:=by
  rw[<-Nat.mul_add,Nat.mod_add_div,Nat.mul_add,Nat.mul_add]
 omega
theorem JV{xs ys out:List Nat}{k:Nat}(h:uC xs ys out k 0)(hx:xs.length<=k)(hy:ys.length<=k):val out=val xs+val ys:=by
 obtain⟨h1,h2,h3,h4⟩:=h
 rw[dM _ _ hx,dM _ _ hy]at h4
 simpa using h4
theorem oe{w1:World}{B t g cap k c x y:Nat}{xs ys os:List Nat}{S:Int}(hx:x=xs.getD k 0)(hy:y=ys.getD k 0)(hS:S=((c+x+y:Nat):Int))(h:w1.ownsRow B t 1 (.slice (some ⟨g,0,none⟩) (k+1) cap) (k+1) (cellsOf os++[.int .u64 (S%4294967296)])):
  w1.ownsRow B t 1 (.slice (some ⟨g,0,none⟩) (k+1) cap) (k+1) (cellsOf (os++[(c+xs.getD k 0+ys.getD k 0)%4294967296])):=by
 have e:S%4294967296=(((c+xs.getD k 0+ys.getD k 0)%4294967296:Nat):Int):=by rw[hS, <-hx, <-hy];omega
 rw[e]at h
 simpa using h
theorem jV{c x y:Nat}{xs ys:List Nat}{k:Nat}{S:Int}(hx:x=xs.getD k 0)(hy:y=ys.getD k 0)(hS:S=((c+x+y:Nat):Int)):Value.int .u64 (S/4294967296)=.int .u64 (((c+xs.getD k 0+ys.getD k 0)/4294967296:Nat):Int):=by
 rw[hS, <-hx, <-hy];congr 1
set_option maxHeartbeats 3200000 in
theorem JW(w:World)(ga gb:Option Addr)(ba oa bb ob ca cb la lb:Nat)(xs ys:List Nat)(hx:xs.length=la)(hy:ys.length=lb)(ha:la<=1073741824)(hb:lb<=1073741824)
  (hA:Rep w ga ba oa ca xs) (hB:Rep w gb bb ob cb ys) (dx:js xs) (dy:js ys):
  Calls Tryz.prog 22 #[.slice ga la ca,.slice gb lb cb] w fun e w'=>∃ v,e=.returned v/\aY w' v (val xs+val ys)/\Below w.heap.size w w':=by
 obtain⟨i0,hi,hz0,hz1,hz2⟩:=info_parts Tryz.infoU
 obtain⟨mx,hmx,hma,hmb,hmxb⟩:∃ mx:Nat,((la<lb/\mx=lb)\/(¬la<lb/\mx=la))/\la<=mx/\lb<=mx/\mx<=1073741824:=⟨max la lb,by omega,by omega,by omega,by omega⟩
 rcases hmx with⟨hlt,hm⟩|⟨hlt,hm⟩
 all_goals
  have HM:=hide hm
  clear hm
  go_enter Tryz.func22,Tryz.ntmps22
  go_wp2_with (at_make;refine wpList_make_own _ rfl _ _ 32 rfl w.heap.size 41 i0 (.int .u64 0) 1 Tryz.underlying32 hi hz0 hz1 _ _ _ (mx+1) rfl rfl ?b1 ?b2 ?b3 (Nat.le_refl _) ?_)
  case b1=>have:=HM.out;omega
  case b2=>rw[hz2];omega
  case b3=>unfold maxLen;omega
  intro w0 hown0 hgrow0
  go_wp2
  go_loopw [5,6,7] (fun out c i wr=>∃(k cy:Nat) (os:List Nat),k<=mx+1/\c=.int .u64 (cy:Int)/\i=.int .i64 (k:Int)/\out=.slice (some ⟨w.heap.size,0,none⟩) k (mx+1)/\
    wr.ownsRow w.heap.size 41 1 (.slice (some ⟨w.heap.size,0,none⟩) k (mx+1)) k (cellsOf os)/\Hid (uC xs ys os k cy)/\cy<=1/\Hid (k=mx+1->cy=0)/\Below w.heap.size w wr)
   (fun _ _ i _=>mx+1-(intOf i).toNat)
  case atStart=>exact⟨0,0,[],Nat.zero_le _,rfl,rfl,rfl,hown0,Bl xs ys,by omega,fun _=>rfl,(Below.refl _ _).grown hgrow0 (Nat.le_refl _) (fun k h=>by cases h)⟩
  case round=>
   obtain⟨k,cy,os,hk,rfl,rfl,rfl,hown,hAt,hcy,hlast,hnx⟩:=hrel
   obtain⟨x,HX⟩:∃ x:Nat,Hid (x=xs.getD k 0):=⟨_,rfl⟩
   obtain⟨y,HY⟩:∃ y:Nat,Hid (y=ys.getD k 0):=⟨_,rfl⟩
   have hx32:x<4294967296:=by rw[HX.out];exact dx k
   have hy32:y<4294967296:=by rw[HY.out];exact dy k
   have hsz:=hnx.size
   by_cases h1:k<la
   ·obtain rfl:=hA.head (by omega)
    have cx:wr.cell? ⟨ba,oa+k,none⟩=some (.int .u64 (x:Int)):=by rw[HX.out];exact(hnx.cell (by exact hA.lt (by omega))).trans (hA.cell k (by omega))
    by_cases h2:k<lb
    ·obtain rfl:=hB.head (by omega)
     have cy':wr.cell? ⟨bb,ob+k,none⟩=some (.int .u64 (y:Int)):=by rw[HY.out];exact(hnx.cell (by exact hB.lt (by omega))).trans (hB.cell k (by omega))
     go_wp2_with (at_builtin;refine wpList_append_fits _ rfl (.tmp 51) (.tmp 54) 32 rfl w.heap.size 41 i0 1 Tryz.underlying32 hi hz1 w.heap.size k (mx+1) _ rfl (hown.alloc _) ⟨wr.heap.size,0,none⟩ 1 1 [.int .u64 (((cy:Int)+(x:Int)+(y:Int))%4294967296)] rfl rfl (by exact aZ wr [.int .u64 (((cy:Int)+(x:Int)+(y:Int))%4294967296)] 41) (by intro u hu;simp at hu;subst hu;rfl) (by omega) ?_;intro w1 hown1 hgrow1)
     go_wp2
     go_roundw
     case rel=>exact⟨k+1,_,_,by omega,jV HX.out HY.out (by omega),by go_num,rfl,oe HX.out HY.out (by omega) hown1,lL hAt.out (by rw[<-HX.out];exact hx32) (by rw[<-HY.out];exact hy32),by rw[<-HX.out, <-HY.out];omega,fun h=>absurd h (by omega),(hnx.alloc hsz _).grown hgrow1 (by simp;omega) (fun j hj=>by cases hj;exact Nat.le_refl _)⟩
     case measure=>simp[intOf];omega
    ·try (exfalso;omega)
     all_goals
      have hy0:y=0:=by rw[HY.out];exact dU (by omega)
      have HY0:=hide hy0
      clear hy0
      go_wp2_with (at_builtin;refine wpList_append_fits _ rfl (.tmp 51) (.tmp 54) 32 rfl w.heap.size 41 i0 1 Tryz.underlying32 hi hz1 w.heap.size k (mx+1) _ rfl (hown.alloc _) ⟨wr.heap.size,0,none⟩ 1 1 [.int .u64 (((cy:Int)+(x:Int))%4294967296)] rfl rfl (by exact aZ wr [.int .u64 (((cy:Int)+(x:Int))%4294967296)] 41) (by intro u hu;simp at hu;subst hu;rfl) (by omega) ?_;intro w1 hown1 hgrow1)
      go_wp2
      go_roundw
      case rel=>exact⟨k+1,_,_,by omega,jV HX.out HY.out (by have:=HY0.out;omega),by go_num,rfl,oe HX.out HY.out (by have:=HY0.out;omega) hown1,lL hAt.out (by rw[<-HX.out];exact hx32) (by rw[<-HY.out];exact hy32),by rw[<-HX.out, <-HY.out];omega,fun h=>absurd h (by omega),(hnx.alloc hsz _).grown hgrow1 (by simp;omega) (fun j hj=>by cases hj;exact Nat.le_refl _)⟩
      case measure=>simp[intOf];omega
   ·have hx0:x=0:=by rw[HX.out];exact dU (by omega)
    have HX0:=hide hx0
    clear hx0
    by_cases h2:k<lb
    ·try (exfalso;omega)
     all_goals
      obtain rfl:=hB.head (by omega)
      have cy':wr.cell? ⟨bb,ob+k,none⟩=some (.int .u64 (y:Int)):=by rw[HY.out];exact(hnx.cell (by exact hB.lt (by omega))).trans (hB.cell k (by omega))
      go_wp2_with (at_builtin;refine wpList_append_fits _ rfl (.tmp 51) (.tmp 54) 32 rfl w.heap.size 41 i0 1 Tryz.underlying32 hi hz1 w.heap.size k (mx+1) _ rfl (hown.alloc _) ⟨wr.heap.size,0,none⟩ 1 1 [.int .u64 (((cy:Int)+(y:Int))%4294967296)] rfl rfl (by exact aZ wr [.int .u64 (((cy:Int)+(y:Int))%4294967296)] 41) (by intro u hu;simp at hu;subst hu;rfl) (by omega) ?_;intro w1 hown1 hgrow1)
      go_wp2
      go_roundw
      case rel=>exact⟨k+1,_,_,by omega,jV HX.out HY.out (by have:=HX0.out;omega),by go_num,rfl,oe HX.out HY.out (by have:=HX0.out;omega) hown1,lL hAt.out (by rw[<-HX.out];exact hx32) (by rw[<-HY.out];exact hy32),by rw[<-HX.out, <-HY.out];omega,fun h=>absurd h (by omega),(hnx.alloc hsz _).grown hgrow1 (by simp;omega) (fun j hj=>by cases hj;exact Nat.le_refl _)⟩
      case measure=>simp[intOf];omega
    ·have hy0:y=0:=by rw[HY.out];exact dU (by omega)
     have HY0:=hide hy0
     clear hy0
     by_cases h3:0<cy
     ·have hkm:k<=mx:=by
       have:=hlast.out
       omega
      go_wp2_with (at_builtin;refine wpList_append_fits _ rfl (.tmp 51) (.tmp 54) 32 rfl w.heap.size 41 i0 1 Tryz.underlying32 hi hz1 w.heap.size k (mx+1) _ rfl (hown.alloc _) ⟨wr.heap.size,0,none⟩ 1 1 [.int .u64 (((cy:Int))%4294967296)] rfl rfl (by exact aZ wr [.int .u64 (((cy:Int))%4294967296)] 41) (by intro u hu;simp at hu;subst hu;rfl) (by omega) ?_;intro w1 hown1 hgrow1)
      go_wp2
      go_roundw
      case rel=>exact⟨k+1,_,_,by omega,jV HX.out HY.out (by have:=HX0.out;have:=HY0.out;omega),by go_num,rfl,oe HX.out HY.out (by have:=HX0.out;have:=HY0.out;omega) hown1,lL hAt.out (by rw[<-HX.out];exact hx32) (by rw[<-HY.out];exact hy32),by rw[<-HX.out, <-HY.out];omega,fun _=>by rw[<-HX.out, <-HY.out];have:=HX0.out;have:=HY0.out;omega,(hnx.alloc hsz _).grown hgrow1 (by simp;omega) (fun j hj=>by cases hj;exact Nat.le_refl _)⟩
      case measure=>simp[intOf];omega
     ·obtain rfl:cy=0:=by omega
      obtain⟨hl,hrep⟩:=aP hown
      have he:=JV hAt.out (by omega) (by omega)
      have hd:=hAt.out.2.1
      have HE:=hide he
      clear he
      go_wp2_with fail
      refine(jK _ _ _ _ _ _ _ hl (by omega) hrep hd).mono ?_
      rintro e w' ⟨v,rfl,hN,rfl⟩
      go_wp2
      go_ret
      exact⟨v,rfl,by rw[<-HE.out];exact hN,hnx⟩
theorem add_any(w:World)(u v:Value)(m n L:Nat)(hL:L<=1073741824)(hm:m<4294967296^L)(hn:n<4294967296^L)(hu:aY w u m)(hv:aY w v n):
  Calls Tryz.prog 22 #[u,v] w fun e w'=>∃ r,e=.returned r/\aY w' r (m+n)/\Below w.heap.size w w':=by
 obtain⟨ga,ba,oa,ca,xs,rfl,hA,cA,rfl⟩:=hu
 obtain⟨gb,bb,ob,cb,ys,rfl,hB,cB,rfl⟩:=hv
 have la:=fX cA hm
 have lb:=fX cB hn
 exact JW w ga gb ba oa bb ob ca cb _ _ xs ys rfl rfl (by omega) (by omega) hA hB cA.1 cB.1
end Go.Proofs.YtgcnhfgpflncaaaGreatDoor
/- Sub:the difference of two naturals. -/
namespace Go.Proofs.YtgcnhfgpflncaaaGreatDoor
open Go.RowKit
theorem mf{w1:World}{B t g cap k d:Nat}{os:List Nat}(h:w1.ownsRow B t 1 (.slice (some ⟨g,0,none⟩) (k+1) cap) (k+1) (cellsOf os++[.int .u64 ((d:Nat):Int)])):
  w1.ownsRow B t 1 (.slice (some ⟨g,0,none⟩) (k+1) cap) (k+1) (cellsOf (os++[d])):=by simpa using h
set_option maxRecDepth 100000 in
set_option maxHeartbeats 3200000 in
theorem MB(w:World)(ga gb:Option Addr)(ba oa bb ob ca cb la lb:Nat)(xs ys:List Nat)(hx:xs.length=la)(hy:ys.length=lb)(ha:la<=1073741824)(hb:lb<=la)
  (hA:Rep w ga ba oa ca xs) (hB:Rep w gb bb ob cb ys) (dx:js xs) (dy:js ys) (hle:val ys<=val xs):
  Calls Tryz.prog 15 #[.slice ga la ca,.slice gb lb cb] w fun e w'=>∃ v,e=.returned v/\aY w' v (val xs-val ys)/\Below w.heap.size w w':=by
 obtain⟨i0,hi,hz0,hz1,hz2⟩:=info_parts Tryz.infoU
 go_enter Tryz.func15,Tryz.ntmps15
 go_wp2_with (at_make;refine wpList_make_own _ rfl _ _ 32 rfl w.heap.size 41 i0 (.int .u64 0) 1 Tryz.underlying32 hi hz0 hz1 _ _ _ la rfl rfl ?b1 ?b2 ?b3 (Nat.le_refl _) ?_)
 case b1=>rfl
 case b2=>rw[hz2];omega
 case b3=>unfold maxLen;omega
 intro w0 hown0 hgrow0
 go_wp2
 go_loopw [5,6,7] (fun out c i wr=>∃(k cy:Nat) (os:List Nat),k<=la/\c=.int .u64 (cy:Int)/\i=.int .i64 (k:Int)/\out=.slice (some ⟨w.heap.size,0,none⟩) k la/\cy<=1/\
   wr.ownsRow w.heap.size 41 1 (.slice (some ⟨w.heap.size,0,none⟩) k la) k (cellsOf os)/\Hid (oM xs ys os k cy)/\Below w.heap.size w wr)
  (fun _ _ i _=>la-(intOf i).toNat)
 case atStart=>exact⟨0,0,[],Nat.zero_le _,rfl,rfl,rfl,by omega,hown0,EO xs ys,(Below.refl _ _).grown hgrow0 (Nat.le_refl _) (fun k h=>by cases h)⟩
 case round=>
  obtain⟨k,cy,os,hk,rfl,rfl,rfl,hcy,hown,hAt,hnx⟩:=hrel
  obtain⟨x,HX⟩:∃ x:Nat,Hid (x=xs.getD k 0):=⟨_,rfl⟩
  obtain⟨y,HY⟩:∃ y:Nat,Hid (y=ys.getD k 0):=⟨_,rfl⟩
  have hx32:x<4294967296:=by rw[HX.out];exact dx k
  have hy32:y<4294967296:=by rw[HY.out];exact dy k
  have hsz:=hnx.size
  by_cases h1:k<la
  ·obtain rfl:=hA.head (by omega)
   have cx:wr.cell? ⟨ba,oa+k,none⟩=some (.int .u64 (x:Int)):=by rw[HX.out];exact(hnx.cell (by exact hA.lt (by omega))).trans (hA.cell k (by omega))
   by_cases h2:k<lb
   ·obtain rfl:=hB.head (by omega)
    have cy':wr.cell? ⟨bb,ob+k,none⟩=some (.int .u64 (y:Int)):=by rw[HY.out];exact(hnx.cell (by exact hB.lt (by omega))).trans (hB.cell k (by omega))
    by_cases h5:cy+y<=x
    ·have h3:((cy:Int)+(y:Int))<=(x:Int):=by omega
     have ed:(x:Int)-((cy:Int)+(y:Int))=((x-(cy+y):Nat):Int):=by omega
     have H2:=hide (Je hAt.out (dx k) (by rw[<-HX.out, <-HY.out];omega))
     rw[<-HX.out, <-HY.out]at H2
     generalize x-(cy+y)=d at *
     clear h5
     go_wp2_with (at_builtin;refine wpList_append_fits _ rfl (.tmp 35) (.tmp 42) 32 rfl w.heap.size 41 i0 1 Tryz.underlying32 hi hz1 w.heap.size k la _ rfl (hown.alloc _) ⟨wr.heap.size,0,none⟩ 1 1 [.int .u64 (d:Int)] rfl rfl (by exact aZ wr [.int .u64 (d:Int)] 41) (by intro u hu;simp at hu;subst hu;rfl) (by omega) ?_;intro w1 hown1 hgrow1)
     go_wp2
     go_roundw
     case rel=>exact⟨k+1,0,os++[d],by omega,rfl,by go_num,rfl,by omega,mf hown1,H2,(hnx.alloc hsz _).grown hgrow1 (by simp;omega) (fun j hj=>by cases hj;exact Nat.le_refl _)⟩
     case measure=>simp[intOf];omega
    ·have h3:¬((cy:Int)+(y:Int))<=(x:Int):=by omega
     have ed:(x:Int)+4294967296-((cy:Int)+(y:Int))=((x+(4294967296-(cy+y)):Nat):Int):=by omega
     have H2:=hide (AN hAt.out (dy k) (by rw[<-HX.out, <-HY.out];omega))
     rw[<-HX.out, <-HY.out]at H2
     generalize x+(4294967296-(cy+y))=d at *
     clear h5
     go_wp2_with (at_builtin;refine wpList_append_fits _ rfl (.tmp 44) (.tmp 52) 32 rfl w.heap.size 41 i0 1 Tryz.underlying32 hi hz1 w.heap.size k la _ rfl (hown.alloc _) ⟨wr.heap.size,0,none⟩ 1 1 [.int .u64 (d:Int)] rfl rfl (by exact aZ wr [.int .u64 (d:Int)] 41) (by intro u hu;simp at hu;subst hu;rfl) (by omega) ?_;intro w1 hown1 hgrow1)
     go_wp2
     go_roundw
     case rel=>exact⟨k+1,1,os++[d],by omega,rfl,by go_num,rfl,by omega,mf hown1,H2,(hnx.alloc hsz _).grown hgrow1 (by simp;omega) (fun j hj=>by cases hj;exact Nat.le_refl _)⟩
     case measure=>simp[intOf];omega
   ·have hy0:y=0:=by rw[HY.out];exact dU (by omega)
    by_cases h5:cy+y<=x
    ·have h3:(cy:Int)<=(x:Int):=by omega
     have ed:(x:Int)-(cy:Int)=((x-(cy+y):Nat):Int):=by omega
     have H2:=hide (Je hAt.out (dx k) (by rw[<-HX.out, <-HY.out];omega))
     rw[<-HX.out, <-HY.out]at H2
     generalize x-(cy+y)=d at *
     clear h5
     subst hy0
     go_wp2_with (at_builtin;refine wpList_append_fits _ rfl (.tmp 35) (.tmp 42) 32 rfl w.heap.size 41 i0 1 Tryz.underlying32 hi hz1 w.heap.size k la _ rfl (hown.alloc _) ⟨wr.heap.size,0,none⟩ 1 1 [.int .u64 (d:Int)] rfl rfl (by exact aZ wr [.int .u64 (d:Int)] 41) (by intro u hu;simp at hu;subst hu;rfl) (by omega) ?_;intro w1 hown1 hgrow1)
     go_wp2
     go_roundw
     case rel=>exact⟨k+1,0,os++[d],by omega,rfl,by go_num,rfl,by omega,mf hown1,H2,(hnx.alloc hsz _).grown hgrow1 (by simp;omega) (fun j hj=>by cases hj;exact Nat.le_refl _)⟩
     case measure=>simp[intOf];omega
    ·have h3:¬(cy:Int)<=(x:Int):=by omega
     have ed:(x:Int)+4294967296-(cy:Int)=((x+(4294967296-(cy+y)):Nat):Int):=by omega
     have H2:=hide (AN hAt.out (dy k) (by rw[<-HX.out, <-HY.out];omega))
     rw[<-HX.out, <-HY.out]at H2
     generalize x+(4294967296-(cy+y))=d at *
     clear h5
     subst hy0
     go_wp2_with (at_builtin;refine wpList_append_fits _ rfl (.tmp 44) (.tmp 52) 32 rfl w.heap.size 41 i0 1 Tryz.underlying32 hi hz1 w.heap.size k la _ rfl (hown.alloc _) ⟨wr.heap.size,0,none⟩ 1 1 [.int .u64 (d:Int)] rfl rfl (by exact aZ wr [.int .u64 (d:Int)] 41) (by intro u hu;simp at hu;subst hu;rfl) (by omega) ?_;intro w1 hown1 hgrow1)
     go_wp2
     go_roundw
     case rel=>exact⟨k+1,1,os++[d],by omega,rfl,by go_num,rfl,by omega,mf hown1,H2,(hnx.alloc hsz _).grown hgrow1 (by simp;omega) (fun j hj=>by cases hj;exact Nat.le_refl _)⟩
     case measure=>simp[intOf];omega
  ·obtain rfl:k=la:=by omega
   obtain⟨hl,hrep⟩:=aP hown
   have he:=MA hAt.out (by omega) (by omega) hle
   have hd:=hAt.out.2.1
   have HE:=hide he
   clear he
   go_wp2_with fail
   refine(jK _ _ _ _ _ _ _ hl (by omega) hrep hd).mono ?_
   rintro e w' ⟨v,rfl,hN,rfl⟩
   go_wp2
   go_ret
   exact⟨v,rfl,by rw[<-HE.out];exact hN,hnx⟩
theorem AM(w:World)(u v:Value)(m n L:Nat)(hL:L<=1073741824)(hm:m<4294967296^L)(hle:n<=m)(hu:aY w u m)(hv:aY w v n):
  Calls Tryz.prog 15 #[u,v] w fun e w'=>∃ r,e=.returned r/\aY w' r (m-n)/\Below w.heap.size w w':=by
 obtain⟨ga,ba,oa,ca,xs,rfl,hA,cA,rfl⟩:=hu
 obtain⟨gb,bb,ob,cb,ys,rfl,hB,cB,rfl⟩:=hv
 have la:=fX cA hm
 have lb:ys.length<=xs.length:=Nat.le_of_not_lt fun h=>by have:=px cA.1 cB h;omega
 exact MB w ga gb ba oa bb ob ca cb _ _ xs ys rfl rfl (by omega) lb hA hB cA.1 cB.1 hle
end Go.Proofs.YtgcnhfgpflncaaaGreatDoor
/- Low of a number that is low already:Shr and Shl at what comes to nothing. -/
namespace Go.Proofs.YtgcnhfgpflncaaaGreatDoor
open Go.RowKit
theorem G7(w:World):aY w (.slice none 0 0) 0:=⟨none,0,0,0,[],rfl,Rep.nil _ _ _ _ _,sP,rfl⟩
set_option maxHeartbeats 800000 in
theorem I4(w:World)(ga:Option Addr)(cap:Nat)(n:Int):
  Calls Tryz.prog 47 #[.slice ga 0 cap,.int .i64 n] w fun e w'=>e=.returned (.slice none 0 0)/\w'=w:=by
 go_enter Tryz.func47,Tryz.ntmps47
 go_wp2
 go_ret
 exact⟨rfl,rfl⟩
end Go.Proofs.YtgcnhfgpflncaaaGreatDoor
