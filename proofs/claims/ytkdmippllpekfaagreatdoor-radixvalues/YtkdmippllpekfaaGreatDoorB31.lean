import Derived.Test.YtkdmippllpekfaaGreatDoorB26
import Derived.Test.YtkdmippllpekfaaGreatDoorB4
import Derived.Test.YtkdmippllpekfaaGreatDoorB17
import Derived.Test.YtkdmippllpekfaaGreatDoorB30
namespace Go.Proofs.YtkdmippllpekfaaGreatDoor
set_option maxRecDepth 100000
set_option maxHeartbeats 3200000
variable{l m s:Int}{ns pre xs ys z0 zs:List Nat}{us:List Value}{BP Bn Bs C L M P P0 b b' bM base cap g ge gk gm gt k la lb n n1 o o' q:Nat}{ga gb:Option Addr}{r u v vb vs:Value}{W W' W2 WB a w:World}
section
open Go.RowKit Go.Shelf
theorem iT{D:Nat->Prop}{B:Nat}{t:TypeId}(h:Boxed W B t v)(o:Out D W W')(hd:¬D B):Boxed W' B t v:=(o.block B h.lt hd).trans h
theorem aU.turn{B:Nat}(h:aU B W v n)(hb:∀g zs,cW W g zs->W'.heap[g]?=W.heap[g]?):aU B W' v n:=by
 obtain⟨xs,hc,hv,r|⟨g,ys,hg,rfl,hk,hl⟩⟩:=h
 ·exact⟨xs,hc,hv,Or.inl r⟩
 ·exact⟨xs,hc,hv,Or.inr ⟨g,ys,hg,rfl,(hb g _ hk).trans hk,hl⟩⟩
def PR(B:Nat)(W:World)(us:List Value)(ns:List Nat):Prop:=ns.length=us.length/\∀j,j<us.length->aU B W (us.getD j undef) (ns.getD j 0)
theorem PR.nil(B:Nat)(W:World):PR B W [] []:=⟨rfl,fun j hj=>absurd hj (by simp)⟩
theorem PR.turn{B:Nat}(h:PR B W us ns)(hb:∀g zs,cW W g zs->W'.heap[g]?=W.heap[g]?):PR B W' us ns:=⟨h.1,fun j hj=>(h.2 j hj).turn hb⟩
theorem PR.out{B:Nat}(h:PR B W us ns)(o:Out (·=g) W W')(hg:g<B):PR B W' us ns:=⟨h.1,fun j hj=>o.mb (h.2 j hj) (fun k e=>by rw[e];exact hg)⟩
theorem PR.snoc{B:Nat}(h:PR B W us ns)(hu:aU B W u n):PR B W (us++[u]) (ns++[n]):=by
 refine⟨by simp[h.1],fun j hj=>?_⟩;rw[bU,kD]at hj;rw[zC,JY,h.1];by_cases dh:j<us.length
 ·rw[aW dh,aW dh];exact h.2 j dh
 ·rw[aV dh,aV dh,aW (by omega),aW (by omega)];exact hu
def Ai(T:bJ)(k n:Nat)(pre:List Nat):Nat:=(pre.map fun j=>lS T.B T.D T.N k (min k (n-k*j))).sum
theorem Fs(T:bJ)(k n:Nat)(pre:List Nat)(x:Nat):Ai T k n (pre++[x])=Ai T k n pre+lS T.B T.D T.N k (min k (n-k*x)):=by simp[Ai]
theorem PO(T:bJ)(k n:Nat)(hk:k<=16384):∀(pre:List Nat),Ai T k n pre<=pre.length*2147483648
 |[]=>by simp[Ai]
 |x :: pre=>by
  have:=PO T k n hk pre;have:=rp T.MP (n:=k) (m:=min k (n-k*x)) (by omega) hk;simp only[Ai,List.map_cons,List.sum_cons,List.length_cons]at *
  omega
theorem Cj(T:bJ)(k n:Nat):∀q,Ai T k n (List.range q)=zZ T.B T.D T.N n k q
 |0=>by simp[Ai,zZ]
 |q+1=>by rw[Qz,Fs,Cj T k n q,zZ]
structure BI(w:World)(gm gt gk ge g:Nat)(s l m:Int)(T:bJ)(L P0 PB BP Bs Bn base:Nat)(vb vs:Value)(k n C:Nat)(xs pre:List Nat)(W:World):Prop where
 iG:∃m1:Int,dI W gm gt gk ge g (s+(Ai T k n pre:Nat)) (l+1) m1 T/\max m (l+1)<=m1/\m1<=max m (l+1+(L:Nat))
 bE:Boxed W P0 121 (.pointer (some ⟨gm,0,none⟩))
 bB:Boxed W PB 38 vb
 bS:Boxed W Bs 38 vs
 bN:Boxed W Bn 3 (.int .i64 (k:Int))
 prod:∃v us,Boxed W BP 115 v/\W.ownsRow base 38 1 v pre.length us/\PR w.heap.size W us (pre.map fun j=>aB (chunk xs k j)*C)
 out:Out (·=g) w W
theorem BI.own{T:bJ}{PB:Nat}(hE:dI w gm gt gk ge g s l m T)(hb:w.heap.size<=base):OwnFrom base (BI w gm gt gk ge g s l m T L P0 PB BP Bs Bn base vb vs k n C xs):=by
 intro pre A B row h hg hr;have kept:∀(j:Nat) (o:Obj),A.heap[j]?=some o->o.isCells=true->B.heap[j]?=A.heap[j]?:=fun j o hj ho=>
  hg.block j (ah.1 hj).1 (fun e=>by obtain⟨_,o',h1,h2⟩:=hr j e.symm;rw[hj]at h1;cases h1;rw[ho]at h2;cases h2)
 have vV:Out (fun j=>w.heap.size<=j) A B:=⟨hg.os,hg.tape,hg.output,hg.size,fun j hj hn=>hg.block j hj (fun e=>by have:=(hr j e.symm).1;omega)⟩;obtain⟨m1,E,q1,q2⟩:=h.iG;obtain⟨v,us,b1,b2,b3⟩:=h.prod;refine⟨⟨m1,hE.vV E vV,q1,q2⟩,(kept _ _ h.bE rfl).trans h.bE,(kept _ _ h.bB rfl).trans h.bB,(kept _ _ h.bS rfl).trans h.bS,(kept _ _ h.bN rfl).trans h.bN,⟨v,us,(kept _ _ b1 rfl).trans b1,?_,b3.turn (fun g zs hk=>kept _ _ hk rfl)⟩,h.out.fresh vV (fun i hi=>Or.inr hi)⟩;refine b2.kept hg ?_;rcases b2.2 with⟨rfl,_⟩|⟨g',cap,cur,rfl,_,yQ,_⟩
 ·exact .inl rfl
 ·refine .inr fun e'=>?_;obtain⟨_,o,ho,hc⟩:=hr g' (by simpa [Value.ownBlock]using e'.symm);rw[yQ]at ho;cases ho;cases hc
theorem BI.called{T:bJ}{PB:Nat}(hg:g<w.heap.size)(hb:w.heap.size<=base)(h0:w.heap.size<=P0)(h1:w.heap.size<=PB)(h2:w.heap.size<=BP)(h3:w.heap.size<=Bs)(h4:w.heap.size<=Bn)(h:BI w gm gt gk ge g s l m T L P0 PB BP Bs Bn base vb vs k n C xs pre W)(o:Out (·=g) W W2):Boxed W2 P0 121 (.pointer (some ⟨gm,0,none⟩))/\Boxed W2 PB 38 vb/\Boxed W2 Bs 38 vs/\Boxed W2 Bn 3 (.int .i64 (k:Int))/\Out (·=g) w W2/\∀v us,Boxed W BP 115 v->W.ownsRow base 38 1 v pre.length us->PR w.heap.size W us (pre.map fun j=>aB (chunk xs k j)*C)->Boxed W2 BP 115 v/\W2.ownsRow base 38 1 v pre.length us/\PR w.heap.size W2 us (pre.map fun j=>aB (chunk xs k j)*C):=by
 refine⟨iT h.bE o (fun(e:P0=g)=>by omega),iT h.bB o (fun(e:PB=g)=>by omega),iT h.bS o (fun(e:Bs=g)=>by omega),iT h.bN o (fun(e:Bn=g)=>by omega),h.out.trans o,fun v us b1 b2 b3=>⟨iT b1 o (fun(e:BP=g)=>by omega),?_,b3.out o hg⟩⟩;refine b2.kept o.grown ?_;rcases b2.2 with⟨rfl,_⟩|⟨g',cap,cur,rfl,Pm,yQ,_⟩
 ·exact .inl rfl
 ·refine .inr fun e'=>?_;have:g'=g:=by simpa [Value.ownBlock]using e'
  omega
theorem Sz{B:Nat}(o:Out (·=g) W W')(hc:W.cell? ⟨g,0,none⟩=some v):KeepsFrom B W W':=
 ⟨o.size,fun k ob _ hk ho=>(o.block k (ah.1 hk).1 (fun e=>by
  subst e;simp[World.cell?,hk]at hc;cases ob with
  |cells=>cases ho
  |_=>simp at hc)).trans hk⟩
theorem SY(h:cH w (some ⟨b,o,none⟩) b o cap xs)(k j:Nat):cH w (some ⟨b,o+k*j,none⟩) b (o+k*j) (min k (xs.length-k*j)) (chunk xs k j):=by
 refine⟨fun _=>rfl,by rw[nX];exact af _,fun i hi=>?_⟩;rw[nX]at hi;have hc:=h.cell (k*j+i) (by omega);rw[<-dt]at hc;rw[hc];have e:(chunk xs k j).getD i 0=xs.getD (k*j+i) 0:=by simp only[chunk,List.getD_eq_getElem?_getD];rw[Zz (by omega),F6]
 rw[e]
def TD(w:World)(gm gt gk ge g:Nat)(s l m:Int)(T:bJ)(L k n C:Nat)(xs pre:List Nat)(x:Nat)(W:World)(r:Value)(W2:World):Prop:=
 aU w.heap.size W2 r (aB (chunk xs k x)*C)/\(∃m1:Int,dI W2 gm gt gk ge g (s+(Ai T k n (pre++[x]):Nat)) (l+1) m1 T/\max m (l+1)<=m1/\m1<=max m (l+1+(L:Nat)))/\Out (·=g) W W2
theorem BI.times{T:bJ}{PB:Nat}(IH:kK k)(hk:k<=16384)(hE:dI w gm gt gk ge g s l m T)(hT:TB w)(h0:0<=s)(h1:s+35184372088832*((k:Int)+2)<=2305843009213693952)(h2:0<=l)(h3:l+1+(k:Int)<=100000)(hR:cH w (some ⟨b,o,none⟩) b o cap xs)(jw:xs.length=n)(hd:bG xs)(kV:cH w gb b' o' bM ys)(kt:ys.length=k)(II:bG ys)(hq:q<=16384)(hb:BI w gm gt gk ge g s l m T (sr k) P0 PB BP Bs Bn base vb vs k n (aB ys) xs pre W)(x:Nat)(hp:pre.length<q):Calls Tryz.prog 87 #[.pointer (some ⟨gm,0,none⟩),jq b o n k x,.slice gb k bM] W fun e W2=>∃r,e=.returned r/\TD w gm gt gk ge g s l m T (sr k) k n (aB ys) xs pre x W r W2:=by
 obtain⟨m1,E,q1,q2⟩:=hb.iG;have r1:=SY (hE.rep hb.out hR) k x;have r2:=hE.rep hb.out kV;rw[jw]at r1;have hc:=PO T k n hk pre;have rC:pre.length*2147483648<=16384*2147483648:=ax _ (by omega);have hcl:(chunk xs k x).length=min k (n-k*x):=by rw[nX,jw]
 refine(IH W gm gt gk ge g _ _ _ T _ gb b _ _ _ b' o' bM k (chunk xs k x) ys E (hE.tb hb.out hT) (by omega) (by omega) (by omega) (by omega) hcl r1 (Ez hd k x) kt r2 II (by omega) (af _)).mono ?_;rintro e W2 ⟨r,m2,rfl,nr,E2,q3,q4,oo⟩;have e1:max (min k (n-k*x)) k=k:=by omega
 have e2:min (min k (n-k*x)) k=min k (n-k*x):=by omega
 rw[e1]at q4;rw[e1,e2]at E2;refine⟨r,rfl,nr.mono hb.out.size,⟨m2,?_,by omega,by omega⟩,oo⟩;rw[Fs,fL, <-Zx];exact E2
theorem BI.drew{T:bJ}{PB:Nat}(hE:dI w gm gt gk ge g s l m T)(hb:w.heap.size<=base)(h:BI w gm gt gk ge g s l m T L P0 PB BP Bs Bn base vb vs k n C xs pre W):BI w gm gt gk ge g s l m T L P0 PB BP Bs Bn base vb vs k n C xs pre W.drew:=
 BI.own hE hb pre W W.drew none h (vW W) (fun r e=>by cases e)
theorem ZQ{B:Nat}{t:TypeId}(h:cW W g zs)(k:Boxed W B t v)(ht:t≠47):g≠B:=by rintro rfl;have:=(show W.heap[g]?=_ from h).symm.trans k;simp at this;exact ht this.2.symm
theorem BI.done{w1:World}{T:bJ}{PB:Nat}{v':Value}{x:Nat}{tmp:Obj}(hE:dI w gm gt gk ge g s l m T)(hb:w.heap.size<=base)(h0:w.heap.size<=P0/\P0<base)(h1:w.heap.size<=PB/\PB<base)(h2:w.heap.size<=BP/\BP<base)(h3:w.heap.size<=Bs/\Bs<base)(h4:w.heap.size<=Bn/\Bn<base)(n0:P0≠BP)(n1:PB≠BP)(n3:Bs≠BP)(n4:Bn≠BP)(h:BI w gm gt gk ge g s l m T L P0 PB BP Bs Bn base vb vs k n C xs pre W)(t:TD w gm gt gk ge g s l m T L k n C xs pre x W.drew r W2)(hbs:base<=W.heap.size)(b1:Boxed W BP 115 v)(b2:W.ownsRow base 38 1 v pre.length us)(b3:PR w.heap.size W us (pre.map fun j=>aB (chunk xs k j)*C))(cV:w1.ownsRow base 38 1 v' (pre.length+1) (us++[r]))(ji:(W2.alloc tmp).grownBy w1 v.ownBlock):Boxed w1 BP 115 v/\(Boxed w1 P0 121 (.pointer (some ⟨gm,0,none⟩))/\Boxed w1 PB 38 vb)/\KeepsFrom base W (w1.setCell ⟨BP,0,none⟩ v')/\pn Bs Bn W (w1.setCell ⟨BP,0,none⟩ v')/\BI w gm gt gk ge g s l m T L P0 PB BP Bs Bn base vb vs k n C xs (pre++[x]) (w1.setCell ⟨BP,0,none⟩ v'):=by
 obtain⟨nr,⟨m1,E,q1,q2⟩,oo⟩:=t;have hd:=h.drew hE hb;obtain⟨cE,cB,cS,cN,co,cp⟩:=BI.called hE.met.lt hb h0.1 h1.1 h2.1 h3.1 h4.1 hd oo;obtain⟨d1,d2,d3⟩:=cp v us b1 (by exact b2.kept (vW W) (by rcases b2.2 with⟨rfl,_⟩|⟨g',cap,cur,rfl,_⟩;exact .inl rfl;exact .inr (by simp[Value.ownBlock]))) (b3.turn (fun _ _ _=>rfl));have hg:=hE.met.lt;have zF:W2.grownBy (W2.alloc tmp) none:=nI W2 tmp none;have d2':=d2.alloc tmp
 -- the row's own block
 have hob:∀j,v.ownBlock=some j->base<=j/\∃cur:Array Value,(W2.alloc tmp).heap[j]?=some (.cells cur 38 (0,0)):=fun j ej=>by
  rcases d2'.2 with⟨rfl,_⟩|⟨g',cap,cur,rfl,Pm,yQ,_⟩
  ·simp[Value.ownBlock]at ej
  ·obtain rfl:g'=j:=(by simpa [Value.ownBlock]using ej);exact⟨Pm,cur,yQ⟩
 have low:∀j,j<base->some j≠v.ownBlock:=fun j hj e=>by have:=(hob j e.symm).1;omega
 have GU:base<=W2.heap.size:=ak hbs oo.size
 -- W2 to w1
 have k1:∀j,j<base->w1.heap[j]?=W2.heap[j]?:=fun j hj=>(ji.block j (by simp;omega) (low j hj)).trans (zF.block j (by omega) (by simp));have kB:∀g' zs,cW W2 g' zs->w1.heap[g']?=W2.heap[g']?:=fun g' zs hz=>(ji.block g' (by have:=hz.lt;simp;omega) (fun e=>by obtain⟨_,cur,hc⟩:=hob g' e.symm;have:=hc.symm.trans ((zF.block g' hz.lt (by simp)).trans hz);simp at this)).trans (zF.block g' hz.lt (by simp));have f1:Boxed w1 BP 115 v:=(k1 BP h2.2).trans d1;have f2:Boxed w1 P0 121 (.pointer (some ⟨gm,0,none⟩)):=(k1 P0 h0.2).trans cE;have f3:Boxed w1 PB 38 vb:=(k1 PB h1.2).trans cB;have f4:Boxed w1 Bs 38 vs:=(k1 Bs h3.2).trans cS;have f5:Boxed w1 Bn 3 (.int .i64 (k:Int)):=(k1 Bn h4.2).trans cN;have f6:=(d3.turn kB).snoc (nr.turn kB);have Nl:∀j,j≠BP->(w1.setCell ⟨BP,0,none⟩ v').heap[j]?=w1.heap[j]?:=fun j hj=>bo w1 ⟨BP,0,none⟩ j v' hj;have Mg:=grownBy_setCell' w1 BP v';have o1:Out (fun j=>w.heap.size<=j) W2 w1:=⟨ji.os.trans zF.os,ji.tape.trans zF.tape,ji.output.trans zF.output,ak zF.size ji.size,fun j _ hn=>k1 j (by omega)⟩;have o2:Out (fun j=>w.heap.size<=j) w1 (w1.setCell ⟨BP,0,none⟩ v'):=⟨Mg.os,Mg.tape,Mg.output,Mg.size,fun j _ hn=>Nl j (by omega)⟩;have o3:=o1.trans o2;have g4:Boxed (w1.setCell ⟨BP,0,none⟩ v') Bs 38 vs:=(Nl Bs n3).trans f4;have g5:Boxed (w1.setCell ⟨BP,0,none⟩ v') Bn 3 (.int .i64 (k:Int)):=(Nl Bn n4).trans f5;refine⟨f1,⟨f2,f3⟩,?_,⟨g4.cell.trans h.bS.cell.symm,g5.cell.trans h.bN.cell.symm⟩,⟨m1,hE.vV E o3,q1,q2⟩,(Nl P0 n0).trans f2,(Nl PB n1).trans f3,g4,g5,⟨v',us++[r],Boxed.set v' f1,?_,?_⟩,co.fresh o3 (fun i hi=>Or.inr hi)⟩
 ·obtain⟨_,E0,_⟩:=hd.iG;have k0:KeepsFrom base W.drew W2:=Sz oo E0.met.c0;have k2:KeepsFrom base W2 (w1.setCell ⟨BP,0,none⟩ v'):=⟨o3.size,fun j ob hB hj ho=>(Nl j (by omega)).trans ((ji.block j (by have:=(ah.1 hj).1;simp;omega) (fun e=>by obtain⟨_,cur,hc⟩:=hob j e.symm;have:=hc.symm.trans ((zF.block j (ah.1 hj).1 (by simp)).trans hj);cases aZ this;cases ho)).trans ((zF.block j (ah.1 hj).1 (by simp)).trans hj))⟩;have k00:KeepsFrom base W W.drew:=⟨af _,fun _ _ _ hk _=>hk⟩;exact(k00.trans k0).trans k2
 ·rw[bU,kD];refine cV.kept Mg ?_;rcases cV.2 with⟨rfl,_⟩|⟨g',cap,cur,rfl,Pm,yQ,_⟩
  ·exact .inl rfl
  ·refine .inr fun e'=>?_;have:g'=BP:=(by simpa [Value.ownBlock]using e');omega
 ·rw[rh,List.map_singleton];exact f6.turn (fun g' zs hz=>Nl g' (ZQ hz f1 (by decide)))
theorem BI.round{T:bJ}{PB:Nat}{gv:Option Addr}{x cv:Nat}(hE:dI w gm gt gk ge g s l m T)(hb:w.heap.size<=base)(h0:w.heap.size<=P0/\P0<base)(h1:w.heap.size<=PB/\PB<base)(h2:w.heap.size<=BP/\BP<base)(h3:w.heap.size<=Bs/\Bs<base)(h4:w.heap.size<=Bn/\Bn<base)(n0:P0≠BP)(n1:PB≠BP)(n3:Bs≠BP)(n4:Bn≠BP)(h:BI w gm gt gk ge g s l m T L P0 PB BP Bs Bn base vb vs k n C xs pre W)(hbs:base<=W.heap.size)(hp:pre.length<=16384)(b1:Boxed W BP 115 (.slice gv pre.length cv))(b2:W.ownsRow base 38 1 (.slice gv pre.length cv) pre.length us)(b3:PR w.heap.size W us (pre.map fun j=>aB (chunk xs k j)*C))(W2:World)(ra:Option Addr)(rl rc:Nat)(t:TD w gm gt gk ge g s l m T L k n C xs pre x W.drew (.slice ra rl rc) W2):∃w1 g1 c1,(Builtin.append_ #[115,115] 115 #[.slice gv pre.length cv,.slice (some ⟨W2.heap.size,0,none⟩) 1 1]).run Tryz.prog (W2.alloc (.cells #[.slice ra rl rc] 38))=.ok (.slice (some ⟨g1,0,none⟩) (pre.length+1) c1) w1/\w1.cell? ⟨BP,0,none⟩=some (.slice gv pre.length cv)/\w1.frozen? ⟨BP,0,none⟩=false/\(w1.cell? ⟨P0,0,none⟩=some (.pointer (some ⟨gm,0,none⟩))/\w1.cell? ⟨PB,0,none⟩=some vb)/\W2.cell? ⟨P0,0,none⟩=some (.pointer (some ⟨gm,0,none⟩))/\W2.cell? ⟨PB,0,none⟩=some vb/\W2.cell? ⟨BP,0,none⟩=some (.slice gv pre.length cv)/\Hid (KeepsFrom base W (w1.setCell ⟨BP,0,none⟩ (.slice (some ⟨g1,0,none⟩) (pre.length+1) c1))/\pn Bs Bn W (w1.setCell ⟨BP,0,none⟩ (.slice (some ⟨g1,0,none⟩) (pre.length+1) c1))/\BI w gm gt gk ge g s l m T L P0 PB BP Bs Bn base vb vs k n C xs (pre++[x]) (w1.setCell ⟨BP,0,none⟩ (.slice (some ⟨g1,0,none⟩) (pre.length+1) c1))):=by
 obtain⟨i0,hi,jx,gY,fX⟩:=rG Tryz.G4;have hd:=h.drew hE hb;obtain⟨cE,cB,cS,cN,co,cp⟩:=BI.called hE.met.lt hb h0.1 h1.1 h2.1 h3.1 h4.1 hd t.2.2;obtain⟨d1,d2,d3⟩:=cp _ us b1 b2 (b3.turn (fun _ _ _=>rfl));have GU:base<=W2.heap.size:=ak hbs t.2.2.size;obtain⟨v',w1,ir,cV,ji,_⟩:=abw (P:=Tryz.prog) (W2.alloc (.cells #[.slice ra rl rc] 38)) base 115 115 38 i0 (.slice none 0 0) 1 24 ZF hi jx gY fX rfl (by omega) (.slice gv pre.length cv) pre.length us (d2.alloc _) ⟨W2.heap.size,0,none⟩ 1 1 [.slice ra rl rc] rfl
  (by exact fU W2 [.slice ra rl rc] 38) (by intro u hu;simp at hu;subst hu;rfl) (by unfold maxLen;omega) (by omega) (by simp;omega)
 obtain⟨f1,⟨f5,f6⟩,f2,f3,f4⟩:=BI.done hE hb h0 h1 h2 h3 h4 n0 n1 n3 n4 h t hbs b1 b2 b3 cV ji;obtain⟨g1,c1,rfl⟩:=ownsRow_succ cV;exact⟨w1,g1,c1,ir,f1.cell,f1.frozen,⟨f5.cell,f6.cell⟩,cE.cell,cB.cell,d1.cell,f2,f3,f4⟩
theorem Fc(n:Nat)(k:Int)(u:FrameMode)(h:gQ w g o s l m)(hk:k=max (l-1) 0)(h1:0<=l)(h2:l<=9223372036854775807):CallsDIn Fence.wide n Tryz.prog 125 #[.pointer (some ⟨g,o,none⟩)] u w fun e u' w'=>u'=u/\(e=.returned (.int .i64 k)/\gQ w' g o s k m/\Touch g o 3 w w'):=by
 have H:=ag h;obtain⟨c0,c1,c2,f0,f1,f2⟩:=h;have e:max (l-1) 0=k:=hk.symm;clear hk;refine callsDIn_of_wp Tryz.func125 rfl trivial ?_;simp only[Tryz.ntmps125,List.size_toArray,List.length_cons,List.length_nil,Nat.reduceAdd,Nat.reduceSub,Array.replicate_succ,Array.replicate_zero,List.push_toArray,List.append_toArray,List.nil_append,List.cons_append]
 gi_wp2
 go_ret;exact⟨rfl,(ae H).Oe _,Touch.set g o 3 1 w _ (by omega)⟩
theorem BI.parts{T:bJ}{PB:Nat}(hd:bG xs)(II:bG ys)(kt:ys.length=k)(hk:k<=16384)(h:BI w gm gt gk ge g s l m T L P0 PB BP Bs Bn base vb vs k n (aB ys) xs (List.range q) W):∃gv bv cv us,Boxed W BP 115 (.slice gv q cv)/\us.length=q/\wO W gv bv 0 us ((List.range q).map fun j=>aB (chunk xs k j)*aB ys):=by
 obtain⟨v,us,p1,p2,p3⟩:=h.prod;rw[List.length_range]at p2;obtain⟨gv,bv,cv,rfl,hl,hh,hc⟩:=uS p2;refine⟨gv,bv,cv,us,p1,hl,fun h0=>(hh (by omega)).1,p3.1,fun j hj=>?_,fun j hj=>?_⟩
 ·exact hc j (by omega)
 ·refine(p3.2 j hj).kj (p:=k+k) ?_ (by omega);have e:((List.range q).map fun j=>aB (chunk xs k j)*aB ys).getD j 0=aB (chunk xs k j)*aB ys:=by have:j<q:=(by omega);simp[List.getD_eq_getElem?_getD,List.getElem?_range this]
  rw[e,aQ];have a1:=bF (Ez hd k j);have a2:=bF II;rw[kt]at a2;refine eU (oX a1 ?_) a2;rw[nX];omega
theorem Bg(h1:xs.length<=k*q)(h2:k*q<xs.length+k):mC k ((List.range q).map fun j=>aB (chunk xs k j)*C) q=aB xs*C:=by rw[zM (xs:=xs) (C:=C) (fun j hj=>by simp[List.getD_eq_getElem?_getD,List.getElem?_range hj]) (fun j hj=>?_) q (af _),eZ _ _ h1];have:k*(j+1)<=k*q:=au k hj;rw[cJ]at this;omega
theorem BI.six{W5:World}{T:bJ}{PB D:Nat}(ob:Obj)(hE:dI w gm gt gk ge g s l m T)(h:BI w gm gt gk ge g s l m T L P0 PB BP Bs Bn base vb vs k n C xs (List.range q) W)(hb:w.heap.size<=base)(hD:base<=D)(hK:W5.heap[D]?=some (.deferred (some [])))(b5:Below W.heap.size W W5)(nr:aU W.heap.size W5 r P):∃m1:Int,dI (W5.putObj D ob) gm gt gk ge g (s+(zZ T.B T.D T.N n k q:Nat)) (l+1) m1 T/\max m (l+1)<=m1/\m1<=max m (l+1+(L:Nat))/\aU W.heap.size (W5.putObj D ob) r P/\Out (·=g) w (W5.putObj D ob):=by
 obtain⟨m1,E,q1,q2⟩:=h.iG;rw[Cj]at E;have hp:∀j,j≠D->(W5.putObj D ob).heap[j]?=W5.heap[j]?:=fun j hj=>World.putObj_heap_other hj;have hg:=grownBy_putObj' W5 D ob;have vV:Out (fun j=>w.heap.size<=j) W5 (W5.putObj D ob):=⟨hg.os,hg.tape,hg.output,hg.size,fun j _ hn=>hp j (by omega)⟩;refine⟨m1,hE.vV (E.next b5) vV,q1,q2,nr.turn (fun g' zs hz=>hp g' (fun e=>?_)),(h.out.next b5).fresh vV (fun i hi=>Or.inr hi)⟩;subst e;have:=(show W5.heap[g']?=_ from hz).symm.trans hK;simp at this
theorem Kj{W6 W7:World}{m1:Int}{T:bJ}{B:Nat}(hE:dI w gm gt gk ge g s l m T)(E6:dI W6 gm gt gk ge g (s+(C:Nat)) (l+1) m1 T)(q1:max m (l+1)<=m1)(q2:m1<=max m (l+1+(L:Nat)))(nr:aU B W6 r P)(hB:w.heap.size<=B)(o6:Out (·=g) w W6)(M7:gQ W7 g 0 (s+(C:Nat)) l m1)(T7:Touch g 0 3 W6 W7):ik w gm gt gk ge g s l m T P C (L+1) r W7:=by
 have o7:=Out.bX T7.grown;have hg:=hE.met.lt;exact⟨m1,(o7.mb nr (fun k e=>by rw[e];omega)).mono hB,E6.step M7 T7,by omega,by omega,o6.trans o7⟩
end
section
open Go.RowKit Go.Shelf
attribute [local go_sem] Oper.semAt_some
set_option linter.unusedSimpArgs false
theorem QX(w:World)(gm gt gk ge g:Nat)(s l m:Int)(T:bJ)(gb:Option Addr)(b o cap n b' o' bM k q:Nat)(xs ys:List Nat)(IH:kK k)(hk:k<=16384)(sj:0<k)(hn:n<=16384)(hnk:k<=n)(hE:dI w gm gt gk ge g s l m T)(hT:TB w)(h0:0<=s)(h1:s+35184372088832*((k:Int)+2)<=2305843009213693952)(h2:0<=l)(h3:l+1+(k:Int)<=100000)(hR:cH w (some ⟨b,o,none⟩) b o cap xs)(jw:xs.length=n)(hd:bG xs)(kV:cH w gb b' o' bM ys)(kt:ys.length=k)(II:bG ys)(sL:n<=k*q)(AA:k*q<n+k)(hq3:q<=16384):Calls Tryz.prog 108 #[.pointer (some ⟨gm,0,none⟩),.slice (some ⟨b,o,none⟩) n cap,.slice gb k bM,.int .i64 (k:Int)] w fun e w'=>∃r,e=.returned r/\ik w gm gt gk ge g s l m T (aB xs*aB ys) (nN T.B T.D T.N 2 n k) (sr k+1) r w':=by
 have CE:=ag (fun W (M:gQ W g 0 s l m)=>jS (l+1) (max m (l+1)) M rfl rfl (by omega) (by omega));have CC:=ag (fun W=>yN 3 (some ⟨b,o,none⟩) n cap k W sj);have aft:¬(n:Int)<(k:Int):=by omega
 obtain⟨i0,hi,jx,gY,fX⟩:=rG Tryz.G4;have HT:=ag hT;have HE:=ag hE;have HR:=ag hR;have IG:=ag kV;have bE:=Boxed.new w 121 (.pointer (some ⟨gm,0,none⟩));have bB:=Boxed.new (w.alloc (.cells #[.pointer (some ⟨gm,0,none⟩)] 121)) 38 (.slice gb k bM);rw[aL]at bB;replace bE:=bE.alloc (.cells #[.slice gb k bM] 38);have b1:Below w.heap.size w ((w.alloc (.cells #[.pointer (some ⟨gm,0,none⟩)] 121)).alloc (.cells #[.slice gb k bM] 38)):=((aj _ w).alloc (af _) _).alloc (by simp) _;obtain⟨W1,mP⟩:∃W1,(w.alloc (.cells #[.pointer (some ⟨gm,0,none⟩)] 121)).alloc (.cells #[.slice gb k bM] 38)=W1:=⟨_,rfl⟩;rw[mP]at bE bB b1;obtain⟨P0,ke⟩:∃P0,w.heap.size=P0:=⟨_,rfl⟩;rw[ke]at bE bB;have lP:=bB.lt;have nV:=hE.met.lt;have E1:=hE.next b1;obtain⟨e0,e1,e2,e3⟩:=E1.way;have cE:=bE.cell;have cB:=bB.cell;clear hE hT hR kV;refine(du (n:=4)).1 ?_;refine callsIn_of_wp_marks Tryz.func108 rfl trivial ?_ rfl;simp only[Tryz.ntmps108,List.size_toArray,List.length_cons,List.length_nil,Nat.reduceAdd,Nat.reduceSub,Array.replicate_succ,Array.replicate_zero,List.push_toArray,List.append_toArray,List.nil_append,List.cons_append]
 gi_wp2_with (refine⟨trivial,?_⟩;gi_at_call 124;refine(du.2 (ae CE _ E1.met)).mono ?_;rintro e W2 ⟨rfl,M2,T2⟩;have E2:=E1.step M2 T2;have o2:=Out.bX T2.grown;have U3:=iT bE o2 (by omega);have U2:=iT bB o2 (by omega);obtain⟨e0,e1,e2,e3⟩:=E2.way;obtain⟨BP,Rp⟩:∃BP,W2.heap.size=BP:=⟨_,rfl⟩;have cE:=U3.cell;have cB:=U2.cell;clear E1 bE bB M2 T2)
 refine⟨trivial,?_⟩;have b3:Below W2.heap.size W2 (((W2.alloc (.cells #[.slice none 0 0] 115)).alloc (.cells #[.slice (some ⟨b,o,none⟩) n cap] 38)).alloc (.cells #[.int .i64 (k:Int)] 3)):=(((aj _ W2).alloc (af _) _).alloc (by simp) _).alloc (by simp;omega) _;have bP:=((Boxed.new W2 115 (.slice none 0 0)).alloc (.cells #[.slice (some ⟨b,o,none⟩) n cap] 38)).alloc (.cells #[.int .i64 (k:Int)] 3);have bS:=(Boxed.new (W2.alloc (.cells #[.slice none 0 0] 115)) 38 (.slice (some ⟨b,o,none⟩) n cap)).alloc (.cells #[.int .i64 (k:Int)] 3);have bN:=Boxed.new ((W2.alloc (.cells #[.slice none 0 0] 115)).alloc (.cells #[.slice (some ⟨b,o,none⟩) n cap] 38)) 3 (.int .i64 (k:Int));have Zq:=ag (ae CC (W2.alloc (.cells #[.slice none 0 0] 115)));have kF:(((W2.alloc (.cells #[.slice none 0 0] 115)).alloc (.cells #[.slice (some ⟨b,o,none⟩) n cap] 38)).alloc (.cells #[.int .i64 (k:Int)] 3)).heap.size=BP+1+1+1:=by simp[Rp]
 rw[aL,aL,Rp]at bN;rw[aL,Rp]at bS;rw[Rp]at bP;rw[aL,Rp]at Zq;have ZM:=(((U3.alloc (.cells #[.slice none 0 0] 115)).alloc (.cells #[.slice (some ⟨b,o,none⟩) n cap] 38)).alloc (.cells #[.int .i64 (k:Int)] 3));have ZL:=(((U2.alloc (.cells #[.slice none 0 0] 115)).alloc (.cells #[.slice (some ⟨b,o,none⟩) n cap] 38)).alloc (.cells #[.int .i64 (k:Int)] 3));have E4:=E2.next b3;obtain⟨W4,wb⟩:∃W4,((W2.alloc (.cells #[.slice none 0 0] 115)).alloc (.cells #[.slice (some ⟨b,o,none⟩) n cap] 38)).alloc (.cells #[.int .i64 (k:Int)] 3)=W4:=⟨_,rfl⟩;rw[wb]at b3 bP bS bN Zq kF ZM ZL E4;have o4:Out (·=g) w W4:=((Out.bQ b1).trans o2).next b3;have lB:=U3.lt;have lB':=U2.lt;rw[Rp]at lB lB';obtain⟨base,tF⟩:∃base,W4.heap.size=base:=⟨_,rfl⟩;have I0:Hid (BI w gm gt gk ge g s l m T (sr k) P0 (P0+1) BP (BP+1) (BP+1+1) base (.slice gb k bM) (.slice (some ⟨b,o,none⟩) n cap) k n (aB ys) xs [] W4):=⟨⟨_,by rw[show Ai T k n []=0 from rfl,gN,fK];exact E4,dK _,by omega⟩,ZM,ZL,bS,bN,⟨_,[],bP,il _ _ _ _,PR.nil _ _⟩,o4⟩;refine(ae Zq).mono ?_;rintro e W4' ⟨rfl,hx⟩;obtain rfl:=hx.symm;clear hx CC Zq CE
 gi_wp2
 have ks:=(ae HR).room;rw[jw]at ks;refine wpIn_rangeFunc_ownG rfl (by omega) (gf:=63) (lb:=#[.pointer (some ⟨BP+1,0,none⟩),.pointer (some ⟨BP+1+1,0,none⟩)]) rfl trivial (enters_of QM (by kernel_rfl) rfl)
  (zA 3 (by omega) (BP+1) (BP+1+1) b o n cap k q sj hk hn ks sL AA W4 bS.lt bN.lt bS.cell bN.cell) Ha (G9 bS.lt bN.lt) (aj _ _) (fun _=>rfl)
  (BI w gm gt gk ge g s l m T (sr k) P0 (P0+1) BP (BP+1) (BP+1+1) base (.slice gb k bM) (.slice (some ⟨b,o,none⟩) n cap) k n (aB ys) xs) (fun _ _ _=>False)
  (by rw[tF];exact BI.own (ae HE) (by omega)) (fun _ _ _ _ _ hs _ _=>hs) (ae I0)
  (fun x=>{ tmps:=#[.pointer (some ⟨gm,0,none⟩),.slice (some ⟨b,o,none⟩) n cap,.slice gb k bM,.int .i64 (k:Int),.pointer (some ⟨P0,0,none⟩),undef,.pointer (some ⟨P0+1,0,none⟩),undef,.slice none 0 0,.pointer (some ⟨BP,0,none⟩),jq b o n k x,.slice (some ⟨b,o,none⟩) n cap,.int .i64 (n:Int),.slice gb k bM,.int .i64 (k:Int),.bool false,undef,undef,.pointer (some ⟨gm,0,none⟩),.pointer (some ⟨gm,0,none⟩),.pointer (some ⟨gm,0,none⟩),.pointer (some ⟨gt,0,none⟩),.pointer (some ⟨gt,0,none⟩),.pointer (some ⟨gt,0,none⟩),.pointer (some ⟨gk,0,none⟩),.pointer (some ⟨gk,0,none⟩),.pointer (some ⟨gk,0,none⟩),.pointer (some ⟨ge,0,none⟩),.pointer (some ⟨ge,0,none⟩),.pointer (some ⟨ge,0,none⟩),.pointer (some ⟨g,0,none⟩),.pointer (some ⟨g,0,none⟩),.pointer (some ⟨g,0,none⟩),.int .i64 (l+1),.pointer (some ⟨gm,0,none⟩),.pointer (some ⟨gm,0,none⟩),.pointer (some ⟨gm,0,none⟩),.pointer (some ⟨gt,0,none⟩),.pointer (some ⟨gt,0,none⟩),.pointer (some ⟨gt,0,none⟩),.pointer (some ⟨gk,0,none⟩),.pointer (some ⟨gk,0,none⟩),.pointer (some ⟨gk,0,none⟩),.pointer (some ⟨ge,0,none⟩),.pointer (some ⟨ge,0,none⟩),.pointer (some ⟨ge,0,none⟩),.pointer (some ⟨g,0,none⟩),.pointer (some ⟨g,0,none⟩),.pointer (some ⟨g,0,none⟩),.slice (some ⟨b,o,none⟩) n cap,.int .i64 (k:Int),.func (.func 63) #[] #[.pointer (some ⟨BP+1,0,none⟩),.pointer (some ⟨BP+1+1,0,none⟩)],jq b o n k x,undef,undef,undef,undef,undef,undef,undef,undef,undef,undef],defers:=[] }) ?assign ?body ?done ?stop
 case assign=>
  intro l x W K hK
  gi_wp2
  exact hK
 case body=>
  rintro lp pre x W hI dh;have hb:w.heap.size<=base:=by omega
  have HD:=ag (hI.drew (ae HE) hb);have CT:=ag (BI.times IH hk (ae HE) (ae HT) h0 h1 h2 h3 (ae HR) jw hd (ae IG) kt II hq3 (ae HD) x dh);obtain⟨v,us,p1,p2,p3⟩:=hI.prod;obtain⟨gv,bv,cv,rfl,_,_,_⟩:=uS p2;have HRD:=ag (BI.round (x:=x) (ae HE) hb (by omega) (by omega) (by omega) (by omega) (by omega) (by omega) (by omega) (by omega) (by omega) hI (by have:=hI.bN.lt;omega) (by omega) p1 p2 p3);have cP:=p1.cell;have fP:=p1.frozen;have cE:=hI.bE.cell;have cB:=hI.bB.cell;clear hI p1 p2 p3 IH E2 E4 I0 U3 U2 ZM ZL bP bS bN
  gi_wp2
  -- round
  refine rS (fun w'=>w'.cell? ⟨P0,0,none⟩=some (.pointer (some ⟨gm,0,none⟩))/\w'.cell? ⟨P0+1,0,none⟩=some (.slice gb k bM)) (by kernel_rfl) (by kernel_rfl) (fun⟨_,_,h⟩=>h) ⟨cE,cB⟩ (fun hHeld=>?_);refine wpAnyH_take (i:=1) (oi:=_) (v:=.pointer (some ⟨gm,0,none⟩)) rfl (by kernel_rfl) (by kernel_rfl) (by kernel_rfl) (fun _ _ _ h=>h) (Or.inl ⟨by rfl,?_⟩) (by assumption) ?_
  ·intro w hSw
   (try dsimp only at hSw)
   go_simp
  simp only[Act.put,List.setIfInBounds_toArray,List.set_cons_zero,List.set_cons_succ];refine wpAnyH_take (i:=2) (oi:=_) (v:=jq b o n k x) rfl (by kernel_rfl) (by kernel_rfl) (by kernel_rfl) (fun _ _ _ h=>h) (Or.inl ⟨by rfl,?_⟩) (by assumption) ?_
  ·intro w hSw
   (try dsimp only at hSw)
   go_simp
  simp only[Act.put,List.setIfInBounds_toArray,List.set_cons_zero,List.set_cons_succ];refine wpAnyH_take (i:=3) (oi:=_) (v:=.slice gb k bM) rfl (by kernel_rfl) (by kernel_rfl) (by kernel_rfl) (fun _ _ _ h=>h) (Or.inl ⟨by rfl,?_⟩) (by assumption) ?_
  ·intro w hSw
   (try dsimp only at hSw)
   go_simp
  simp only[Act.put,List.setIfInBounds_toArray,List.set_cons_zero,List.set_cons_succ];refine wpAnyH_ready (rs:=[0,4]) (by kernel_rfl) (by simp) ?_;refine AllReadyH.cons (o:=_) rfl (fun K hK=>?_) ?_
  ·skip
   go_simp;refine hK.out _ _ (by assumption) (fun hHeld=>?_);clear hK K
   (try simp only[Act.put,List.setIfInBounds_toArray,List.set_cons_zero,List.set_cons_succ])
   refine wpAnyH_ready (rs:=[4]) (by kernel_rfl) (by simp) ?_;refine AllReadyH.cons (o:=_) rfl (fun K hK=>?_) AllReadyH.nil;go_simp;refine(ae CT).mono ?_;rintro e W2 ⟨r,rfl,td⟩;obtain⟨ra,rl,rc,rfl⟩:=td.1.shape;obtain⟨w1,g1,c1,ir,cP1,fP1,S1,Q7,Q6,cP2,HF⟩:=ae HRD W2 ra rl rc td;clear td
   go_wp2_with fail
   refine hK.out _ _ ⟨Q7,Q6⟩ (fun hHeld=>?_);clear hK K
   (try simp only[Act.put,List.setIfInBounds_toArray,List.set_cons_zero,List.set_cons_succ])
   refine wpAnyH_ready (rs:=[5]) (by kernel_rfl) (by simp) ?_;refine AllReadyH.cons (o:=_) rfl (fun K hK=>?_) AllReadyH.nil;go_simp;refine hK.out _ _ ⟨fF Q7 _,fF Q6 _⟩ (fun hHeld=>?_);clear hK K
   (try simp only[Act.put,List.setIfInBounds_toArray,List.set_cons_zero,List.set_cons_succ])
   refine wpAnyH_ready (rs:=[6]) (by kernel_rfl) (by simp) ?_;refine AllReadyH.cons (o:=_) rfl (fun K hK=>?_) AllReadyH.nil;refine fH rfl (.tmp 53) (.tmp 58) 115 rfl rfl rfl ir ?_;refine hK.out _ _ S1 (fun hHeld=>?_);clear hK K
   (try simp only[Act.put,List.setIfInBounds_toArray,List.set_cons_zero,List.set_cons_succ])
   refine wpAnyH_ready (rs:=[7]) (by kernel_rfl) (by simp) ?_;refine AllReadyH.cons (o:=_) rfl (fun K hK=>?_) AllReadyH.nil;go_simp;obtain⟨F1,F2,F3⟩:=ae HF;refine hK.out _ _ ⟨F3.bE.cell,F3.bB.cell⟩ (fun hHeld=>?_);clear hK K;refine wpAnyH_done (by kernel_rfl) ?_ _;exact⟨by rw[tF];exact F1,F2,F3⟩
  refine AllReadyH.cons (o:=_) rfl (fun K hK=>?_) AllReadyH.nil;go_simp;refine(ae CT).mono ?_;rintro e W2 ⟨r,rfl,td⟩;obtain⟨ra,rl,rc,rfl⟩:=td.1.shape;obtain⟨w1,g1,c1,ir,cP1,fP1,S1,Q7,Q6,cP2,HF⟩:=ae HRD W2 ra rl rc td;clear td
  go_wp2_with fail
  refine hK.out _ _ ⟨Q7,Q6⟩ (fun hHeld=>?_);clear hK K
  (try simp only[Act.put,List.setIfInBounds_toArray,List.set_cons_zero,List.set_cons_succ])
  refine wpAnyH_ready (rs:=[0,5]) (by kernel_rfl) (by simp) ?_;refine AllReadyH.cons (o:=_) rfl (fun K hK=>?_) ?_
  ·skip
   go_simp;refine hK.out _ _ (by assumption) (fun hHeld=>?_);clear hK K
   (try simp only[Act.put,List.setIfInBounds_toArray,List.set_cons_zero,List.set_cons_succ])
   refine wpAnyH_ready (rs:=[5]) (by kernel_rfl) (by simp) ?_;refine AllReadyH.cons (o:=_) rfl (fun K hK=>?_) AllReadyH.nil;go_simp;refine hK.out _ _ ⟨fF Q7 _,fF Q6 _⟩ (fun hHeld=>?_);clear hK K
   (try simp only[Act.put,List.setIfInBounds_toArray,List.set_cons_zero,List.set_cons_succ])
   refine wpAnyH_ready (rs:=[6]) (by kernel_rfl) (by simp) ?_;refine AllReadyH.cons (o:=_) rfl (fun K hK=>?_) AllReadyH.nil;refine fH rfl (.tmp 53) (.tmp 58) 115 rfl rfl rfl ir ?_;refine hK.out _ _ S1 (fun hHeld=>?_);clear hK K
   (try simp only[Act.put,List.setIfInBounds_toArray,List.set_cons_zero,List.set_cons_succ])
   refine wpAnyH_ready (rs:=[7]) (by kernel_rfl) (by simp) ?_;refine AllReadyH.cons (o:=_) rfl (fun K hK=>?_) AllReadyH.nil;go_simp;obtain⟨F1,F2,F3⟩:=ae HF;refine hK.out _ _ ⟨F3.bE.cell,F3.bB.cell⟩ (fun hHeld=>?_);clear hK K;refine wpAnyH_done (by kernel_rfl) ?_ _;exact⟨by rw[tF];exact F1,F2,F3⟩
  refine AllReadyH.cons (o:=_) rfl (fun K hK=>?_) AllReadyH.nil;go_simp;refine hK.out _ _ ⟨fF Q7 _,fF Q6 _⟩ (fun hHeld=>?_);clear hK K
  (try simp only[Act.put,List.setIfInBounds_toArray,List.set_cons_zero,List.set_cons_succ])
  have cP3:=fF cP2 (.cells #[.slice ra rl rc] 38);refine wpAnyH_ready (rs:=[0]) (by kernel_rfl) (by simp) ?_;refine AllReadyH.cons (o:=_) rfl (fun K hK=>?_) AllReadyH.nil;go_simp;refine hK.out _ _ (by assumption) (fun hHeld=>?_);clear hK K
  (try simp only[Act.put,List.setIfInBounds_toArray,List.set_cons_zero,List.set_cons_succ])
  refine wpAnyH_ready (rs:=[6]) (by kernel_rfl) (by simp) ?_;refine AllReadyH.cons (o:=_) rfl (fun K hK=>?_) AllReadyH.nil;refine fH rfl (.tmp 53) (.tmp 58) 115 rfl rfl rfl ir ?_;refine hK.out _ _ S1 (fun hHeld=>?_);clear hK K
  (try simp only[Act.put,List.setIfInBounds_toArray,List.set_cons_zero,List.set_cons_succ])
  refine wpAnyH_ready (rs:=[7]) (by kernel_rfl) (by simp) ?_;refine AllReadyH.cons (o:=_) rfl (fun K hK=>?_) AllReadyH.nil;go_simp;obtain⟨F1,F2,F3⟩:=ae HF;refine hK.out _ _ ⟨F3.bE.cell,F3.bB.cell⟩ (fun hHeld=>?_);clear hK K;refine wpAnyH_done (by kernel_rfl) ?_ _;exact⟨by rw[tF];exact F1,F2,F3⟩
  -- end
 case done=>
  rintro D zs W hD rfl hI hK;obtain⟨gv,bv,cv,us,p1,Pt,hP⟩:=hI.parts hd II kt hk;have CJ:=ag (yU W gv bv 0 cv q k (k:Int) us _ Pt (by omega) (by omega) hP);rw[Bg (by omega) (by omega)]at CJ;have acn:zZ T.B T.D T.N n k q=nN T.B T.D T.N 2 n k:=by rw[Jy _ _ _ _ _ _ sj sL AA];simp[nN]
  have cP:=p1.cell;have HI:=ag hI;rw[tF]at hD;have hDl:D<W.heap.size:=(ah.1 hK).1;clear hI p1 hP IH E2 E4 I0 U3 U2 ZM ZL bP bS bN
  gi_wp2_with (refine⟨trivial,?_⟩;gi_at_call 135;refine(du.2 (ae CJ)).mono ?_;rintro e W5 ⟨r,rfl,nr,b5⟩)
  have hK5:=(b5.block D hDl).trans hK;obtain⟨m1,E6,q1,q2,nr6,o6⟩:=BI.six (.deferred none) (ae HE) (ae HI) (by omega) hD hK5 b5 nr;rw[acn]at E6;refine⟨by simp,.inl ⟨_,_,rfl,run_takeDeferred hK5,?_⟩⟩;refine⟨by simp,.inr ⟨fun h=>by simp[Fence.wide]at h,_,_,125,#[.pointer (some ⟨g,0,none⟩)],rfl,by simp[go_sem],fun _ _=>trivial,?_⟩⟩;refine(Fc _ l .returning E6.met (by omega) (by omega) (by omega)).mono ?_;rintro e u' W7 ⟨rfl,rfl,M7,T7⟩;exact⟨_,results_tmp rfl _ _ _,r,rfl,Kj (ae HE) E6 q1 q2 nr6 (by have:=(ae HI).out.size;omega) o6 M7 T7⟩
 case stop=>rintro D c pre W _ _ h _;exact h.elim
theorem QY(w:World)(gm gt gk ge g:Nat)(s l m:Int)(T:bJ)(gb:Option Addr)(b o cap n b' o' bM k q:Nat)(xs ys:List Nat)(IH:kK k)(hk:k<=16384)(sj:0<k)(hn:n<=16384)(hnk:k<n)(hE:dI w gm gt gk ge g s l m T)(hT:TB w)(h0:0<=s)(h1:s+35184372088832*((k:Int)+2)<=2305843009213693952)(h2:0<=l)(h3:l+1+(k:Int)<=100000)(hR:cH w (some ⟨b,o,none⟩) b o cap xs)(jw:xs.length=n)(hd:bG xs)(kV:cH w gb b' o' bM ys)(kt:ys.length=k)(II:bG ys)(sL:n<=k*q)(AA:k*q<n+k)(hq3:q<=16384):Calls Tryz.prog 108 #[.pointer (some ⟨gm,0,none⟩),.slice gb k bM,.slice (some ⟨b,o,none⟩) n cap,.int .i64 (k:Int)] w fun e w'=>∃r,e=.returned r/\ik w gm gt gk ge g s l m T (aB xs*aB ys) (nN T.B T.D T.N 2 n k) (sr k+1) r w':=by
 have CE:=ag (fun W (M:gQ W g 0 s l m)=>jS (l+1) (max m (l+1)) M rfl rfl (by omega) (by omega));have CC:=ag (fun W=>yN 3 (some ⟨b,o,none⟩) n cap k W sj);have aft:(k:Int)<(n:Int):=by omega
 obtain⟨i0,hi,jx,gY,fX⟩:=rG Tryz.G4;have HT:=ag hT;have HE:=ag hE;have HR:=ag hR;have IG:=ag kV;have bE:=Boxed.new w 121 (.pointer (some ⟨gm,0,none⟩));have bB:=Boxed.new (w.alloc (.cells #[.pointer (some ⟨gm,0,none⟩)] 121)) 38 (.slice (some ⟨b,o,none⟩) n cap);rw[aL]at bB;replace bE:=bE.alloc (.cells #[.slice (some ⟨b,o,none⟩) n cap] 38);have b0:Below w.heap.size w ((w.alloc (.cells #[.pointer (some ⟨gm,0,none⟩)] 121)).alloc (.cells #[.slice (some ⟨b,o,none⟩) n cap] 38)):=((aj _ w).alloc (af _) _).alloc (by simp) _;obtain⟨W0,GA⟩:∃W0,(w.alloc (.cells #[.pointer (some ⟨gm,0,none⟩)] 121)).alloc (.cells #[.slice (some ⟨b,o,none⟩) n cap] 38)=W0:=⟨_,rfl⟩;rw[GA]at bE bB b0;obtain⟨P0,ke⟩:∃P0,w.heap.size=P0:=⟨_,rfl⟩;rw[ke]at bE bB;have cB0:=bB.cell;have fB0:=bB.frozen;have b1:Below w.heap.size w (W0.setCell ⟨P0+1,0,none⟩ (.slice gb k bM)):=b0.setCell (p:=⟨P0+1,0,none⟩) (by simp;omega) _;replace bB:=Boxed.set (.slice gb k bM) bB;replace bE:Boxed (W0.setCell ⟨P0+1,0,none⟩ (.slice gb k bM)) P0 121 (.pointer (some ⟨gm,0,none⟩)):=(bo W0 ⟨P0+1,0,none⟩ P0 _ (by simp)).trans bE;obtain⟨W1,mP⟩:∃W1,W0.setCell ⟨P0+1,0,none⟩ (.slice gb k bM)=W1:=⟨_,rfl⟩;rw[mP]at bE bB b1;have lP:=bB.lt;have nV:=hE.met.lt;have E1:=hE.next b1;obtain⟨e0,e1,e2,e3⟩:=E1.way;have cE:=bE.cell;have cB:=bB.cell;clear hE hT hR kV;refine(du (n:=4)).1 ?_;refine callsIn_of_wp_marks Tryz.func108 rfl trivial ?_ rfl;simp only[Tryz.ntmps108,List.size_toArray,List.length_cons,List.length_nil,Nat.reduceAdd,Nat.reduceSub,Array.replicate_succ,Array.replicate_zero,List.push_toArray,List.append_toArray,List.nil_append,List.cons_append]
 gi_wp2_with (refine⟨trivial,?_⟩;gi_at_call 124;refine(du.2 (ae CE _ E1.met)).mono ?_;rintro e W2 ⟨rfl,M2,T2⟩;have E2:=E1.step M2 T2;have o2:=Out.bX T2.grown;have U3:=iT bE o2 (by omega);have U2:=iT bB o2 (by omega);obtain⟨e0,e1,e2,e3⟩:=E2.way;obtain⟨BP,Rp⟩:∃BP,W2.heap.size=BP:=⟨_,rfl⟩;have cE:=U3.cell;have cB:=U2.cell;clear E1 bE bB M2 T2)
 refine⟨trivial,?_⟩;have b3:Below W2.heap.size W2 (((W2.alloc (.cells #[.slice none 0 0] 115)).alloc (.cells #[.slice (some ⟨b,o,none⟩) n cap] 38)).alloc (.cells #[.int .i64 (k:Int)] 3)):=(((aj _ W2).alloc (af _) _).alloc (by simp) _).alloc (by simp;omega) _;have bP:=((Boxed.new W2 115 (.slice none 0 0)).alloc (.cells #[.slice (some ⟨b,o,none⟩) n cap] 38)).alloc (.cells #[.int .i64 (k:Int)] 3);have bS:=(Boxed.new (W2.alloc (.cells #[.slice none 0 0] 115)) 38 (.slice (some ⟨b,o,none⟩) n cap)).alloc (.cells #[.int .i64 (k:Int)] 3);have bN:=Boxed.new ((W2.alloc (.cells #[.slice none 0 0] 115)).alloc (.cells #[.slice (some ⟨b,o,none⟩) n cap] 38)) 3 (.int .i64 (k:Int));have Zq:=ag (ae CC (W2.alloc (.cells #[.slice none 0 0] 115)));have kF:(((W2.alloc (.cells #[.slice none 0 0] 115)).alloc (.cells #[.slice (some ⟨b,o,none⟩) n cap] 38)).alloc (.cells #[.int .i64 (k:Int)] 3)).heap.size=BP+1+1+1:=by simp[Rp]
 rw[aL,aL,Rp]at bN;rw[aL,Rp]at bS;rw[Rp]at bP;rw[aL,Rp]at Zq;have ZM:=(((U3.alloc (.cells #[.slice none 0 0] 115)).alloc (.cells #[.slice (some ⟨b,o,none⟩) n cap] 38)).alloc (.cells #[.int .i64 (k:Int)] 3));have ZL:=(((U2.alloc (.cells #[.slice none 0 0] 115)).alloc (.cells #[.slice (some ⟨b,o,none⟩) n cap] 38)).alloc (.cells #[.int .i64 (k:Int)] 3));have E4:=E2.next b3;obtain⟨W4,wb⟩:∃W4,((W2.alloc (.cells #[.slice none 0 0] 115)).alloc (.cells #[.slice (some ⟨b,o,none⟩) n cap] 38)).alloc (.cells #[.int .i64 (k:Int)] 3)=W4:=⟨_,rfl⟩;rw[wb]at b3 bP bS bN Zq kF ZM ZL E4;have o4:Out (·=g) w W4:=((Out.bQ b1).trans o2).next b3;have lB:=U3.lt;have lB':=U2.lt;rw[Rp]at lB lB';obtain⟨base,tF⟩:∃base,W4.heap.size=base:=⟨_,rfl⟩;have I0:Hid (BI w gm gt gk ge g s l m T (sr k) P0 (P0+1) BP (BP+1) (BP+1+1) base (.slice gb k bM) (.slice (some ⟨b,o,none⟩) n cap) k n (aB ys) xs [] W4):=⟨⟨_,by rw[show Ai T k n []=0 from rfl,gN,fK];exact E4,dK _,by omega⟩,ZM,ZL,bS,bN,⟨_,[],bP,il _ _ _ _,PR.nil _ _⟩,o4⟩;refine(ae Zq).mono ?_;rintro e W4' ⟨rfl,hx⟩;obtain rfl:=hx.symm;clear hx CC Zq CE
 gi_wp2
 have ks:=(ae HR).room;rw[jw]at ks;refine wpIn_rangeFunc_ownG rfl (by omega) (gf:=63) (lb:=#[.pointer (some ⟨BP+1,0,none⟩),.pointer (some ⟨BP+1+1,0,none⟩)]) rfl trivial (enters_of QM (by kernel_rfl) rfl)
  (zA 3 (by omega) (BP+1) (BP+1+1) b o n cap k q sj hk hn ks sL AA W4 bS.lt bN.lt bS.cell bN.cell) Ha (G9 bS.lt bN.lt) (aj _ _) (fun _=>rfl)
  (BI w gm gt gk ge g s l m T (sr k) P0 (P0+1) BP (BP+1) (BP+1+1) base (.slice gb k bM) (.slice (some ⟨b,o,none⟩) n cap) k n (aB ys) xs) (fun _ _ _=>False)
  (by rw[tF];exact BI.own (ae HE) (by omega)) (fun _ _ _ _ _ hs _ _=>hs) (ae I0)
  (fun x=>{ tmps:=#[.pointer (some ⟨gm,0,none⟩),.slice (some ⟨b,o,none⟩) n cap,.slice (some ⟨b,o,none⟩) n cap,.int .i64 (k:Int),.pointer (some ⟨P0,0,none⟩),undef,.pointer (some ⟨P0+1,0,none⟩),undef,.slice none 0 0,.pointer (some ⟨BP,0,none⟩),jq b o n k x,.slice gb k bM,.int .i64 (k:Int),.slice (some ⟨b,o,none⟩) n cap,.int .i64 (n:Int),.bool true,.slice (some ⟨b,o,none⟩) n cap,.slice gb k bM,.pointer (some ⟨gm,0,none⟩),.pointer (some ⟨gm,0,none⟩),.pointer (some ⟨gm,0,none⟩),.pointer (some ⟨gt,0,none⟩),.pointer (some ⟨gt,0,none⟩),.pointer (some ⟨gt,0,none⟩),.pointer (some ⟨gk,0,none⟩),.pointer (some ⟨gk,0,none⟩),.pointer (some ⟨gk,0,none⟩),.pointer (some ⟨ge,0,none⟩),.pointer (some ⟨ge,0,none⟩),.pointer (some ⟨ge,0,none⟩),.pointer (some ⟨g,0,none⟩),.pointer (some ⟨g,0,none⟩),.pointer (some ⟨g,0,none⟩),.int .i64 (l+1),.pointer (some ⟨gm,0,none⟩),.pointer (some ⟨gm,0,none⟩),.pointer (some ⟨gm,0,none⟩),.pointer (some ⟨gt,0,none⟩),.pointer (some ⟨gt,0,none⟩),.pointer (some ⟨gt,0,none⟩),.pointer (some ⟨gk,0,none⟩),.pointer (some ⟨gk,0,none⟩),.pointer (some ⟨gk,0,none⟩),.pointer (some ⟨ge,0,none⟩),.pointer (some ⟨ge,0,none⟩),.pointer (some ⟨ge,0,none⟩),.pointer (some ⟨g,0,none⟩),.pointer (some ⟨g,0,none⟩),.pointer (some ⟨g,0,none⟩),.slice (some ⟨b,o,none⟩) n cap,.int .i64 (k:Int),.func (.func 63) #[] #[.pointer (some ⟨BP+1,0,none⟩),.pointer (some ⟨BP+1+1,0,none⟩)],jq b o n k x,undef,undef,undef,undef,undef,undef,undef,undef,undef,undef],defers:=[] }) ?assign ?body ?done ?stop
 case assign=>
  intro l x W K hK
  gi_wp2
  exact hK
 case body=>
  rintro lp pre x W hI dh;have hb:w.heap.size<=base:=by omega
  have HD:=ag (hI.drew (ae HE) hb);have CT:=ag (BI.times IH hk (ae HE) (ae HT) h0 h1 h2 h3 (ae HR) jw hd (ae IG) kt II hq3 (ae HD) x dh);obtain⟨v,us,p1,p2,p3⟩:=hI.prod;obtain⟨gv,bv,cv,rfl,_,_,_⟩:=uS p2;have HRD:=ag (BI.round (x:=x) (ae HE) hb (by omega) (by omega) (by omega) (by omega) (by omega) (by omega) (by omega) (by omega) (by omega) hI (by have:=hI.bN.lt;omega) (by omega) p1 p2 p3);have cP:=p1.cell;have fP:=p1.frozen;have cE:=hI.bE.cell;have cB:=hI.bB.cell;clear hI p1 p2 p3 IH E2 E4 I0 U3 U2 ZM ZL bP bS bN
  gi_wp2
  -- round
  refine rS (fun w'=>w'.cell? ⟨P0,0,none⟩=some (.pointer (some ⟨gm,0,none⟩))/\w'.cell? ⟨P0+1,0,none⟩=some (.slice gb k bM)) (by kernel_rfl) (by kernel_rfl) (fun⟨_,_,h⟩=>h) ⟨cE,cB⟩ (fun hHeld=>?_);refine wpAnyH_take (i:=1) (oi:=_) (v:=.pointer (some ⟨gm,0,none⟩)) rfl (by kernel_rfl) (by kernel_rfl) (by kernel_rfl) (fun _ _ _ h=>h) (Or.inl ⟨by rfl,?_⟩) (by assumption) ?_
  ·intro w hSw
   (try dsimp only at hSw)
   go_simp
  simp only[Act.put,List.setIfInBounds_toArray,List.set_cons_zero,List.set_cons_succ];refine wpAnyH_take (i:=2) (oi:=_) (v:=jq b o n k x) rfl (by kernel_rfl) (by kernel_rfl) (by kernel_rfl) (fun _ _ _ h=>h) (Or.inl ⟨by rfl,?_⟩) (by assumption) ?_
  ·intro w hSw
   (try dsimp only at hSw)
   go_simp
  simp only[Act.put,List.setIfInBounds_toArray,List.set_cons_zero,List.set_cons_succ];refine wpAnyH_take (i:=3) (oi:=_) (v:=.slice gb k bM) rfl (by kernel_rfl) (by kernel_rfl) (by kernel_rfl) (fun _ _ _ h=>h) (Or.inl ⟨by rfl,?_⟩) (by assumption) ?_
  ·intro w hSw
   (try dsimp only at hSw)
   go_simp
  simp only[Act.put,List.setIfInBounds_toArray,List.set_cons_zero,List.set_cons_succ];refine wpAnyH_ready (rs:=[0,4]) (by kernel_rfl) (by simp) ?_;refine AllReadyH.cons (o:=_) rfl (fun K hK=>?_) ?_
  ·skip
   go_simp;refine hK.out _ _ (by assumption) (fun hHeld=>?_);clear hK K
   (try simp only[Act.put,List.setIfInBounds_toArray,List.set_cons_zero,List.set_cons_succ])
   refine wpAnyH_ready (rs:=[4]) (by kernel_rfl) (by simp) ?_;refine AllReadyH.cons (o:=_) rfl (fun K hK=>?_) AllReadyH.nil;go_simp;refine(ae CT).mono ?_;rintro e W2 ⟨r,rfl,td⟩;obtain⟨ra,rl,rc,rfl⟩:=td.1.shape;obtain⟨w1,g1,c1,ir,cP1,fP1,S1,Q7,Q6,cP2,HF⟩:=ae HRD W2 ra rl rc td;clear td
   go_wp2_with fail
   refine hK.out _ _ ⟨Q7,Q6⟩ (fun hHeld=>?_);clear hK K
   (try simp only[Act.put,List.setIfInBounds_toArray,List.set_cons_zero,List.set_cons_succ])
   refine wpAnyH_ready (rs:=[5]) (by kernel_rfl) (by simp) ?_;refine AllReadyH.cons (o:=_) rfl (fun K hK=>?_) AllReadyH.nil;go_simp;refine hK.out _ _ ⟨fF Q7 _,fF Q6 _⟩ (fun hHeld=>?_);clear hK K
   (try simp only[Act.put,List.setIfInBounds_toArray,List.set_cons_zero,List.set_cons_succ])
   refine wpAnyH_ready (rs:=[6]) (by kernel_rfl) (by simp) ?_;refine AllReadyH.cons (o:=_) rfl (fun K hK=>?_) AllReadyH.nil;refine fH rfl (.tmp 53) (.tmp 58) 115 rfl rfl rfl ir ?_;refine hK.out _ _ S1 (fun hHeld=>?_);clear hK K
   (try simp only[Act.put,List.setIfInBounds_toArray,List.set_cons_zero,List.set_cons_succ])
   refine wpAnyH_ready (rs:=[7]) (by kernel_rfl) (by simp) ?_;refine AllReadyH.cons (o:=_) rfl (fun K hK=>?_) AllReadyH.nil;go_simp;obtain⟨F1,F2,F3⟩:=ae HF;refine hK.out _ _ ⟨F3.bE.cell,F3.bB.cell⟩ (fun hHeld=>?_);clear hK K;refine wpAnyH_done (by kernel_rfl) ?_ _;exact⟨by rw[tF];exact F1,F2,F3⟩
  refine AllReadyH.cons (o:=_) rfl (fun K hK=>?_) AllReadyH.nil;go_simp;refine(ae CT).mono ?_;rintro e W2 ⟨r,rfl,td⟩;obtain⟨ra,rl,rc,rfl⟩:=td.1.shape;obtain⟨w1,g1,c1,ir,cP1,fP1,S1,Q7,Q6,cP2,HF⟩:=ae HRD W2 ra rl rc td;clear td
  go_wp2_with fail
  refine hK.out _ _ ⟨Q7,Q6⟩ (fun hHeld=>?_);clear hK K
  (try simp only[Act.put,List.setIfInBounds_toArray,List.set_cons_zero,List.set_cons_succ])
  refine wpAnyH_ready (rs:=[0,5]) (by kernel_rfl) (by simp) ?_;refine AllReadyH.cons (o:=_) rfl (fun K hK=>?_) ?_
  ·skip
   go_simp;refine hK.out _ _ (by assumption) (fun hHeld=>?_);clear hK K
   (try simp only[Act.put,List.setIfInBounds_toArray,List.set_cons_zero,List.set_cons_succ])
   refine wpAnyH_ready (rs:=[5]) (by kernel_rfl) (by simp) ?_;refine AllReadyH.cons (o:=_) rfl (fun K hK=>?_) AllReadyH.nil;go_simp;refine hK.out _ _ ⟨fF Q7 _,fF Q6 _⟩ (fun hHeld=>?_);clear hK K
   (try simp only[Act.put,List.setIfInBounds_toArray,List.set_cons_zero,List.set_cons_succ])
   refine wpAnyH_ready (rs:=[6]) (by kernel_rfl) (by simp) ?_;refine AllReadyH.cons (o:=_) rfl (fun K hK=>?_) AllReadyH.nil;refine fH rfl (.tmp 53) (.tmp 58) 115 rfl rfl rfl ir ?_;refine hK.out _ _ S1 (fun hHeld=>?_);clear hK K
   (try simp only[Act.put,List.setIfInBounds_toArray,List.set_cons_zero,List.set_cons_succ])
   refine wpAnyH_ready (rs:=[7]) (by kernel_rfl) (by simp) ?_;refine AllReadyH.cons (o:=_) rfl (fun K hK=>?_) AllReadyH.nil;go_simp;obtain⟨F1,F2,F3⟩:=ae HF;refine hK.out _ _ ⟨F3.bE.cell,F3.bB.cell⟩ (fun hHeld=>?_);clear hK K;refine wpAnyH_done (by kernel_rfl) ?_ _;exact⟨by rw[tF];exact F1,F2,F3⟩
  refine AllReadyH.cons (o:=_) rfl (fun K hK=>?_) AllReadyH.nil;go_simp;refine hK.out _ _ ⟨fF Q7 _,fF Q6 _⟩ (fun hHeld=>?_);clear hK K
  (try simp only[Act.put,List.setIfInBounds_toArray,List.set_cons_zero,List.set_cons_succ])
  have cP3:=fF cP2 (.cells #[.slice ra rl rc] 38);refine wpAnyH_ready (rs:=[0]) (by kernel_rfl) (by simp) ?_;refine AllReadyH.cons (o:=_) rfl (fun K hK=>?_) AllReadyH.nil;go_simp;refine hK.out _ _ (by assumption) (fun hHeld=>?_);clear hK K
  (try simp only[Act.put,List.setIfInBounds_toArray,List.set_cons_zero,List.set_cons_succ])
  refine wpAnyH_ready (rs:=[6]) (by kernel_rfl) (by simp) ?_;refine AllReadyH.cons (o:=_) rfl (fun K hK=>?_) AllReadyH.nil;refine fH rfl (.tmp 53) (.tmp 58) 115 rfl rfl rfl ir ?_;refine hK.out _ _ S1 (fun hHeld=>?_);clear hK K
  (try simp only[Act.put,List.setIfInBounds_toArray,List.set_cons_zero,List.set_cons_succ])
  refine wpAnyH_ready (rs:=[7]) (by kernel_rfl) (by simp) ?_;refine AllReadyH.cons (o:=_) rfl (fun K hK=>?_) AllReadyH.nil;go_simp;obtain⟨F1,F2,F3⟩:=ae HF;refine hK.out _ _ ⟨F3.bE.cell,F3.bB.cell⟩ (fun hHeld=>?_);clear hK K;refine wpAnyH_done (by kernel_rfl) ?_ _;exact⟨by rw[tF];exact F1,F2,F3⟩
  -- end
 case done=>
  rintro D zs W hD rfl hI hK;obtain⟨gv,bv,cv,us,p1,Pt,hP⟩:=hI.parts hd II kt hk;have CJ:=ag (yU W gv bv 0 cv q k (k:Int) us _ Pt (by omega) (by omega) hP);rw[Bg (by omega) (by omega)]at CJ;have acn:zZ T.B T.D T.N n k q=nN T.B T.D T.N 2 n k:=by rw[Jy _ _ _ _ _ _ sj sL AA];simp[nN]
  have cP:=p1.cell;have HI:=ag hI;rw[tF]at hD;have hDl:D<W.heap.size:=(ah.1 hK).1;clear hI p1 hP IH E2 E4 I0 U3 U2 ZM ZL bP bS bN
  gi_wp2_with (refine⟨trivial,?_⟩;gi_at_call 135;refine(du.2 (ae CJ)).mono ?_;rintro e W5 ⟨r,rfl,nr,b5⟩)
  have hK5:=(b5.block D hDl).trans hK;obtain⟨m1,E6,q1,q2,nr6,o6⟩:=BI.six (.deferred none) (ae HE) (ae HI) (by omega) hD hK5 b5 nr;rw[acn]at E6;refine⟨by simp,.inl ⟨_,_,rfl,run_takeDeferred hK5,?_⟩⟩;refine⟨by simp,.inr ⟨fun h=>by simp[Fence.wide]at h,_,_,125,#[.pointer (some ⟨g,0,none⟩)],rfl,by simp[go_sem],fun _ _=>trivial,?_⟩⟩;refine(Fc _ l .returning E6.met (by omega) (by omega) (by omega)).mono ?_;rintro e u' W7 ⟨rfl,rfl,M7,T7⟩;exact⟨_,results_tmp rfl _ _ _,r,rfl,Kj (ae HE) E6 q1 q2 nr6 (by have:=(ae HI).out.size;omega) o6 M7 T7⟩
 case stop=>rintro D c pre W _ _ h _;exact h.elim
end
section
open Go.RowKit
theorem Ko(a b:Int)(w:World):(Builtin.min2 (.int .i64 a) (.int .i64 b)).run Tryz.prog w=.ok (.int .i64 (min a b)) w:=by unfold Builtin.min2;simp[go_sem];omega
theorem Se(a b c d:Int)(h:d=min (min a b) c)(w:World):(Builtin.min_ #[3,3,3] 3 #[.int .i64 a,.int .i64 b,.int .i64 c]).run Tryz.prog w=.ok (.int .i64 d) w:=by subst h;simp[Builtin.min_,go_sem];rw[Ko];show Sem.run Tryz.prog (Builtin.min2 (Value.int IntKind.i64 (min a b)) (Value.int IntKind.i64 c)) w=_;rw[Ko];congr 2;omega
theorem mQ(fn:Fn)(first cap:Array Value)(w:World):(Instr.makeFunc fn first cap).run Tryz.prog w=.ok (.func fn first cap) w:=rfl
theorem ZW(w:World)(gm:Nat)(u v:Value)(r:Int)(h:r<1\/5<r):Calls Tryz.prog 109 #[.pointer (some ⟨gm,0,none⟩),.int .i64 r,u,v] w fun e w'=>e=.returned (.tuple #[.slice none 0 0,.bool false])/\w'=w:=by
 have h1:(r==1)=false:=by simp;omega
 have h2:(r==2)=false:=by simp;omega
 have h3:(r==3)=false:=by simp;omega
 have h4:(r==4)=false:=by simp;omega
 have h5:(r==5)=false:=by simp;omega
 clear h;go_enter yH,vF;go_wp2
 go_ret2
 exact⟨rfl,rfl⟩
theorem abW{T:bJ}(hE:dI w gm gt gk ge g s l m T){Q:Value->World->Prop}(C:Calls Tryz.prog 136 #[.pointer (some ⟨ge,0,none⟩),u,v] w fun e w'=>∃r,e=.returned r/\Q r w'):Calls Tryz.prog 109 #[.pointer (some ⟨gm,0,none⟩),.int .i64 1,u,v] w fun e w'=>∃r,e=.returned (.tuple #[r,.bool true])/\Q r w':=by
 have HC:=ag C;obtain⟨e0,e1,e2,e3⟩:=hE.way;have Zj:=mQ;clear C hE;go_enter yH,vF
 go_wp2_with fail
 refine(ae HC).mono ?_;rintro e w1 ⟨r,rfl,h⟩;have H:=ag h;clear h HC;go_wp2
 go_ret2
 exact⟨_,rfl,ae H⟩
theorem abX{T:bJ}(hE:dI w gm gt gk ge g s l m T){Q:Value->World->Prop}(hk:k=min la lb)(fA:la<=16384)(kl:lb<=16384)(C:Calls Tryz.prog 108 #[.pointer (some ⟨gm,0,none⟩),.slice ga la cap,.slice gb lb bM,.int .i64 (k:Int)] w fun e w'=>∃r,e=.returned r/\Q r w'):Calls Tryz.prog 109 #[.pointer (some ⟨gm,0,none⟩),.int .i64 2,.slice ga la cap,.slice gb lb bM] w fun e w'=>∃r,e=.returned (.tuple #[r,.bool true])/\Q r w':=by
 have HC:=ag C;obtain⟨e0,e1,e2,e3⟩:=hE.way;have Zj:=mQ;have m1:=Se (la:Int) (lb:Int) 16384 (k:Int) (by omega);clear hk fA kl;clear C hE;go_enter yH,vF
 go_wp2_with fail
 refine(ae HC).mono ?_;rintro e w1 ⟨r,rfl,h⟩;have H:=ag h;clear h HC;go_wp2
 go_ret2
 exact⟨_,rfl,ae H⟩
theorem Vg{T:bJ}(hE:dI w gm gt gk ge g s l m T){Q:Value->Bool->World->Prop}(C:Calls Tryz.prog 137 #[.pointer (some ⟨gk,0,none⟩),u,v,.func (.func 87) #[.pointer (some ⟨gm,0,none⟩)] #[]] w fun e w'=>∃r b,e=.returned (.tuple #[r,.bool b])/\Q r b w'):Calls Tryz.prog 109 #[.pointer (some ⟨gm,0,none⟩),.int .i64 3,u,v] w fun e w'=>∃r b,e=.returned (.tuple #[r,.bool b])/\Q r b w':=by
 have HC:=ag C;obtain⟨e0,e1,e2,e3⟩:=hE.way;have Zj:=mQ;clear C hE;go_enter yH,vF
 go_wp2_with fail
 refine(ae HC).mono ?_;rintro e w1 ⟨r,b,rfl,h⟩;have H:=ag h;clear h HC;go_wp2
 go_ret2
 exact⟨_,_,rfl,ae H⟩
theorem ZV{T:bJ}(hE:dI w gm gt gk ge g s l m T){Q:Value->Bool->World->Prop}(C:Calls Tryz.prog 138 #[.pointer (some ⟨gt,0,none⟩),u,v,.func (.func 87) #[.pointer (some ⟨gm,0,none⟩)] #[]] w fun e w'=>∃r b,e=.returned (.tuple #[r,.bool b])/\Q r b w'):Calls Tryz.prog 109 #[.pointer (some ⟨gm,0,none⟩),.int .i64 4,u,v] w fun e w'=>∃r b,e=.returned (.tuple #[r,.bool b])/\Q r b w':=by
 have HC:=ag C;obtain⟨e0,e1,e2,e3⟩:=hE.way;have Zj:=mQ;clear C hE;go_enter yH,vF
 go_wp2_with fail
 refine(ae HC).mono ?_;rintro e w1 ⟨r,b,rfl,h⟩;have H:=ag h;clear h HC;go_wp2
 go_ret2
 exact⟨_,_,rfl,ae H⟩
theorem ZU{T:bJ}(hE:dI w gm gt gk ge g s l m T){Q:Value->Bool->World->Prop}(C:Calls Tryz.prog 139 #[.pointer (some ⟨g,0,none⟩),u,v] w fun e w'=>∃r b,e=.returned (.tuple #[r,.bool b])/\Q r b w'):Calls Tryz.prog 109 #[.pointer (some ⟨gm,0,none⟩),.int .i64 5,u,v] w fun e w'=>∃r b,e=.returned (.tuple #[r,.bool b])/\Q r b w':=by
 have HC:=ag C;obtain⟨e0,e1,e2,e3⟩:=hE.way;have Zj:=mQ;clear C hE;go_enter yH,vF
 go_wp2_with fail
 refine(ae HC).mono ?_;rintro e w1 ⟨r,b,rfl,h⟩;have H:=ag h;clear h HC;go_wp2
 go_ret2
 exact⟨_,_,rfl,ae H⟩
theorem ab1(hk:0<k)(hn:0<n):∃q,n<=k*q/\k*q<n+k/\q<=n:=by
 refine⟨(n+k-1)/k,?_,?_,?_⟩
 ·have h1:=aS (n+k-1) k;have h2:=aD (n+k-1) hk;omega
 ·have h1:=aS (n+k-1) k;omega
 ·refine Ja ((aR hk).2 ?_);have:n*1<=n*k:=au n hk;rw[dJ];omega
theorem Jw{T:bJ}(hE:dI w gm gt gk ge g s l m T)(hT:TB w)(IH:kK k)(h0:0<=s)(h1:s+35184372088832*((k:Int)+2)<=2305843009213693952)(h2:0<=l)(h3:l+1+(k:Int)<=100000)(jw:xs.length=la)(hR:cH w ga b o cap xs)(mB:bG xs)(kt:ys.length=lb)(kV:cH w gb b' o' bM ys)(vm:bG ys)(fA:la<=16384)(kl:lb<=16384)(ha:1<=la)(hb:1<=lb)(hk:k=min la lb):Calls Tryz.prog 108 #[.pointer (some ⟨gm,0,none⟩),.slice ga la cap,.slice gb lb bM,.int .i64 (k:Int)] w fun e w'=>∃r,e=.returned r/\ik w gm gt gk ge g s l m T (aB xs*aB ys) (nN T.B T.D T.N 2 (max la lb) (min la lb)) (sr k+1) r w':=by
 obtain⟨q,q1,q2,q3⟩:=ab1 (n:=max la lb) (k:=k) (by omega) (by omega);by_cases Wt:la<lb
 ·have e1:k=la:=by omega
  have e2:max la lb=lb:=by omega
  have e3:min la lb=la:=by omega
  rw[e2]at q1 q2 q3;rw[e2,e3];subst e1;obtain rfl:=kV.head (by omega);rw[aC];exact QY w gm gt gk ge g s l m T ga b' o' bM lb b o cap k q ys xs IH fA (by omega) kl Wt hE hT h0 h1 h2 h3 kV kt vm hR jw mB q1 q2 (by omega)
 ·have e1:k=lb:=by omega
  have e2:max la lb=la:=by omega
  have e3:min la lb=lb:=by omega
  rw[e2]at q1 q2 q3;rw[e2,e3];subst e1;obtain rfl:=hR.head (by omega);exact QX w gm gt gk ge g s l m T gb b o cap la b' o' bM k q xs ys IH kl (by omega) fA (by omega) hE hT h0 h1 h2 h3 hR jw mB kV kt vm q1 q2 (by omega)
theorem ac8(T:bJ)(n m:Int):Ed T.bD n m=Ed T n m:=by unfold Ed;rw[T.Zo,T.Zt,T.ZA]
theorem kT{T:bJ}(h:wU w g T)(n m:Int):Calls Tryz.prog 110 #[.pointer (some ⟨g,0,none⟩),.int .i64 n,.int .i64 m] w fun e w'=>e=.returned (.int .i64 (Ed T n m))/\Below w.heap.size w w':=by
 have CR:=ag (fun w=>Om T.bD n m w);rw[ac8]at CR;have c3:w.cell? ⟨g,3,none⟩=some (.int .i64 T.bD.b):=h 0 (by decide);have c4:w.cell? ⟨g,4,none⟩=some (.int .i64 T.bD.t):=h 1 (by decide);have c5:w.cell? ⟨g,5,none⟩=some (.int .i64 T.bD.n):=h 2 (by decide);have c6:w.cell? ⟨g,6,none⟩=some (.int .i64 T.bD.d):=h 3 (by decide);have c7:w.cell? ⟨g,7,none⟩=some (.int .i64 T.bD.r):=h 4 (by decide);have c8:w.cell? ⟨g,8,none⟩=some (.int .i64 T.bD.l):=h 5 (by decide);have c9:w.cell? ⟨g,9,none⟩=some (.int .i64 T.bD.x):=h 6 (by decide);have Vh:w.cell? ⟨g,10,none⟩=some (.int .i64 T.bD.p):=h 7 (by decide);have c11:w.cell? ⟨g,11,none⟩=some (.int .i64 T.bD.k):=h 8 (by decide);have c12:w.cell? ⟨g,12,none⟩=some (.int .i64 T.bD.s):=h 9 (by decide);have c13:w.cell? ⟨g,13,none⟩=some (.int .i64 T.bD.e):=h 10 (by decide);clear h;unfold bJ.val at CR;generalize T.bD.b=t0 at CR c3;generalize T.bD.t=t1 at CR c4;generalize T.bD.n=t2 at CR c5;generalize T.bD.d=t3 at CR c6;generalize T.bD.r=t4 at CR c7;generalize T.bD.l=t5 at CR c8;generalize T.bD.x=t6 at CR c9;generalize T.bD.p=t7 at CR Vh;generalize T.bD.k=t8 at CR c11;generalize T.bD.s=t9 at CR c12;generalize T.bD.e=t10 at CR c13;go_enter Tryz.func110,Tryz.ntmps110
 go_wp2_with (go_at_call 140;refine(ae CR _).mono ?_;rintro e w1 ⟨rfl,b1⟩)
 go_ret;exact⟨rfl,b1⟩
theorem Oq{T:bJ}(hE:dI w gm gt gk ge g s l m T)(fA:la<=16384)(kl:lb<=16384){Q:Value->World->Prop}(C:∀W,Below w.heap.size w W->Calls Tryz.prog 109 #[.pointer (some ⟨gm,0,none⟩),.int .i64 (Ed T (la:Int) (lb:Int)),.slice ga la cap,.slice gb lb bM] W fun e w'=>∃r b,e=.returned (.tuple #[r,.bool b])/\Q r w'):Calls Tryz.prog 87 #[.pointer (some ⟨gm,0,none⟩),.slice ga la cap,.slice gb lb bM] w fun e w'=>∃r,e=.returned r/\Q r w':=by
 have HC:=ag C;have CR:=ag (kT hE.jf.fY.tab (la:Int) (lb:Int));obtain⟨e0,e1,e2,e3⟩:=hE.way;obtain⟨M,hM⟩:∃M,max la lb=M:=⟨_,rfl⟩;have m1:max (la:Int) (lb:Int)=(M:Int):=by omega
 have m2:¬16384<(M:Int):=by omega
 generalize Ed T (la:Int) (lb:Int)=R at *;clear C hE fA kl hM;go_enter Tryz.func87,Tryz.ntmps87
 go_wp2_with fail
 refine(ae CR).mono ?_;rintro e w1 ⟨rfl,b1⟩;clear CR
 go_wp2_with fail
 refine(ae HC _ b1).mono ?_;rintro e w2 ⟨r,b,rfl,h⟩;have H:=ag h;clear h HC;go_wp2;go_ret;exact⟨_,rfl,ae H⟩
theorem aac{T:bJ}(hE:dI w gm gt gk ge g s l m T)(h:Ed T (la:Int) (la:Int)=1){Q:Value->World->Prop}(C:∀W,Below w.heap.size w W->Calls Tryz.prog 129 #[.pointer (some ⟨ge,0,none⟩),.slice ga la cap] W fun e w'=>∃r,e=.returned r/\Q r w'):Calls Tryz.prog 106 #[.pointer (some ⟨gm,0,none⟩),.slice ga la cap] w fun e w'=>∃r,e=.returned r/\Q r w':=by
 have HC:=ag C;have CR:=ag (kT hE.jf.fY.tab (la:Int) (la:Int));rw[h]at CR;have HE:=ag (fun W (b:Below w.heap.size w W)=>(hE.next b).way);obtain⟨e0,e1,e2,e3⟩:=hE.way;have Zj:=mQ;clear C hE h;go_enter Jk,DL
 go_wp2_with fail
 refine(ae CR).mono ?_;rintro e w1 ⟨rfl,b1⟩;clear CR e0 e1 e2 e3;obtain⟨e0,e1,e2,e3⟩:=ae HE _ b1
 go_wp2_with fail
 refine(ae HC _ b1).mono ?_;rintro e w2 ⟨r,rfl,h⟩;have H:=ag h;clear h HC;go_wp2;go_ret;exact⟨_,rfl,ae H⟩
theorem Sm{T:bJ}(hE:dI w gm gt gk ge g s l m T)(h:Ed T (la:Int) (la:Int)=3){Q:Value->World->Prop}(C:∀W,Below w.heap.size w W->Calls Tryz.prog 130 #[.pointer (some ⟨gk,0,none⟩),.slice ga la cap,.func (.func 106) #[.pointer (some ⟨gm,0,none⟩)] #[]] W fun e w'=>∃r b,e=.returned (.tuple #[r,.bool b])/\Q r w'):Calls Tryz.prog 106 #[.pointer (some ⟨gm,0,none⟩),.slice ga la cap] w fun e w'=>∃r,e=.returned r/\Q r w':=by
 have HC:=ag C;have CR:=ag (kT hE.jf.fY.tab (la:Int) (la:Int));rw[h]at CR;have HE:=ag (fun W (b:Below w.heap.size w W)=>(hE.next b).way);obtain⟨e0,e1,e2,e3⟩:=hE.way;have Zj:=mQ;clear C hE h;go_enter Jk,DL
 go_wp2_with fail
 refine(ae CR).mono ?_;rintro e w1 ⟨rfl,b1⟩;clear CR e0 e1 e2 e3;obtain⟨e0,e1,e2,e3⟩:=ae HE _ b1
 go_wp2_with fail
 refine(ae HC _ b1).mono ?_;rintro e w2 ⟨r,b,rfl,h⟩;have H:=ag h;clear h HC;go_wp2;go_ret;exact⟨_,rfl,ae H⟩
theorem Xj{T:bJ}(hE:dI w gm gt gk ge g s l m T)(h:Ed T (la:Int) (la:Int)=4){Q:Value->World->Prop}(C:∀W,Below w.heap.size w W->Calls Tryz.prog 131 #[.pointer (some ⟨gt,0,none⟩),.slice ga la cap,.func (.func 106) #[.pointer (some ⟨gm,0,none⟩)] #[]] W fun e w'=>∃r b,e=.returned (.tuple #[r,.bool b])/\Q r w'):Calls Tryz.prog 106 #[.pointer (some ⟨gm,0,none⟩),.slice ga la cap] w fun e w'=>∃r,e=.returned r/\Q r w':=by
 have HC:=ag C;have CR:=ag (kT hE.jf.fY.tab (la:Int) (la:Int));rw[h]at CR;have HE:=ag (fun W (b:Below w.heap.size w W)=>(hE.next b).way);obtain⟨e0,e1,e2,e3⟩:=hE.way;have Zj:=mQ;clear C hE h;go_enter Jk,DL
 go_wp2_with fail
 refine(ae CR).mono ?_;rintro e w1 ⟨rfl,b1⟩;clear CR e0 e1 e2 e3;obtain⟨e0,e1,e2,e3⟩:=ae HE _ b1
 go_wp2_with fail
 refine(ae HC _ b1).mono ?_;rintro e w2 ⟨r,b,rfl,h⟩;have H:=ag h;clear h HC;go_wp2;go_ret;exact⟨_,rfl,ae H⟩
theorem Xi{T:bJ}(hE:dI w gm gt gk ge g s l m T)(h:Ed T (la:Int) (la:Int)=5){Q:Value->World->Prop}(C:∀W,Below w.heap.size w W->Calls Tryz.prog 132 #[.pointer (some ⟨g,0,none⟩),.slice ga la cap] W fun e w'=>∃r b,e=.returned (.tuple #[r,.bool b])/\Q r w'):Calls Tryz.prog 106 #[.pointer (some ⟨gm,0,none⟩),.slice ga la cap] w fun e w'=>∃r,e=.returned r/\Q r w':=by
 have HC:=ag C;have CR:=ag (kT hE.jf.fY.tab (la:Int) (la:Int));rw[h]at CR;have HE:=ag (fun W (b:Below w.heap.size w W)=>(hE.next b).way);obtain⟨e0,e1,e2,e3⟩:=hE.way;have Zj:=mQ;clear C hE h;go_enter Jk,DL
 go_wp2_with fail
 refine(ae CR).mono ?_;rintro e w1 ⟨rfl,b1⟩;clear CR e0 e1 e2 e3;obtain⟨e0,e1,e2,e3⟩:=ae HE _ b1
 go_wp2_with fail
 refine(ae HC _ b1).mono ?_;rintro e w2 ⟨r,b,rfl,h⟩;have H:=ag h;clear h HC;go_wp2;go_ret;exact⟨_,rfl,ae H⟩
theorem Xk{T:bJ}(hE:dI w gm gt gk ge g s l m T)(h:Ed T (la:Int) (la:Int)=0){Q:Value->World->Prop}(C:∀W,Below w.heap.size w W->Calls Tryz.prog 87 #[.pointer (some ⟨gm,0,none⟩),.slice ga la cap,.slice ga la cap] W fun e w'=>∃r,e=.returned r/\Q r w'):Calls Tryz.prog 106 #[.pointer (some ⟨gm,0,none⟩),.slice ga la cap] w fun e w'=>∃r,e=.returned r/\Q r w':=by
 have HC:=ag C;have CR:=ag (kT hE.jf.fY.tab (la:Int) (la:Int));rw[h]at CR;have HE:=ag (fun W (b:Below w.heap.size w W)=>(hE.next b).way);obtain⟨e0,e1,e2,e3⟩:=hE.way;have Zj:=mQ;clear C hE h;go_enter Jk,DL
 go_wp2_with fail
 refine(ae CR).mono ?_;rintro e w1 ⟨rfl,b1⟩;clear CR e0 e1 e2 e3;obtain⟨e0,e1,e2,e3⟩:=ae HE _ b1
 go_wp2_with fail
 refine(ae HC _ b1).mono ?_;rintro e w2 ⟨r,rfl,h⟩;have H:=ag h;clear h HC;go_wp2;go_ret;exact⟨_,rfl,ae H⟩
theorem ik.back{w':World}{T:bJ}{C' L':Nat}(b:Below w.heap.size w W)(h:ik W gm gt gk ge g s l m T P C L r w')(hC:C=C')(hL:L<=L'):ik w gm gt gk ge g s l m T P C' L' r w':=by obtain⟨m',h1,h2,h3,h4,h5⟩:=h;subst hC;exact⟨m',h1.mono b.size,h2,h3,by omega,(Out.bQ b).trans h5⟩
theorem XQ(T:bJ){m:Nat}(hn:n<=16384)(hm:m<=16384):Ed T (n:Int) (m:Int)=(rt T.B T.D T.N (max n m) (min n m):Int):=by
 by_cases h:m<=n
 ·rw[nH h,iF h,Hx T h hn]
 ·rw[pX (by omega),bu (by omega),K5,Hx T (by omega) hm]
theorem FF(N:Nat):N<=16384->kK N:=by
 induction N using Nat.strongRecOn with
 |_ N ih=>
  intro hN w gm gt gk ge g s l m T ga gb b o cap la b' o' bM lb xs ys hE hT h0 h1 h2 h3 jw hR mB kt kV vm fA kl;refine(Oq hE (by omega) (by omega) (Q:=ik w gm gt gk ge g s l m T (aB xs*aB ys) (lS T.B T.D T.N (max la lb) (min la lb)) (sr (max la lb))) (fun W bl=>?_)).mono ?_
  ·have E:=hE.next bl;have tb:=hT.next bl;have rX:=hR.next bl;have rY:=kV.next bl;have hc:=U6 (n:=max la lb) (m:=min la lb) T.MP (by omega);have b1:=T.MP.b1;have t1:=T.MP.t1;rw[XQ T (by omega) (by omega)];rcases om (max la lb) (min la lb) (by omega) T.MP with⟨r,k1⟩|⟨r,k1,k2⟩|⟨r,k1,k2⟩|⟨r,k1,k2⟩|⟨r,k1,_,k2⟩|⟨r,k1,k2,k3,k4⟩
   ·rw[r]at hc ⊢;refine(ZW W gm _ _ _ (by omega)).mono ?_;rintro e w' ⟨rfl,rfl⟩;have hz:aB xs*aB ys=0:=by
     rcases(show la=0\/lb=0 by omega)with h|h
     ·rw[dQ.1 (by omega:xs.length=0)];simp[aB]
     ·rw[dQ.1 (by omega:ys.length=0)];simp[aB]
    refine⟨_,_,rfl,ik.back bl (C:=0) (L:=0) ⟨m,by rw[hz];exact tQ _ _,by rw[gN,fK];exact E,dK _,by omega,Out.refl _ _⟩ (by rw[<-hc];simp[nN]) (aO _)⟩
   ·rw[r]at hc ⊢;refine(abW E (Ib E h0 (by omega) jw rX mB kt rY vm (by omega) (by omega))).mono ?_;rintro e w' ⟨v,rfl,hd⟩;exact⟨v,true,rfl,hd.back bl hc (aO _)⟩
   ·rw[r]at hc ⊢;refine(abX E rfl (by omega) (by omega) (Jw E tb (ih (min la lb) (by omega) (by omega)) h0 (by omega) h2 (by omega) jw rX mB kt rY vm (by omega) (by omega) (by omega) (by omega) rfl)).mono ?_;rintro e w' ⟨v,rfl,hd⟩;exact⟨v,true,rfl,hd.back bl hc (tM (by omega) (by omega) (by omega))⟩
   ·rw[r]at hc ⊢;refine(Vg E (Q:=fun v b w'=>b=true/\ik W gm gt gk ge g s l m T (aB xs*aB ys) (nN T.B T.D T.N 3 (max la lb) (min la lb)) (sr ((max la lb+1)/2+1)+1) v w') ((Nw (ih ((max la lb+1)/2+1) (by omega) (by omega)) (by omega) E tb h0 (by omega) h2 (by omega) jw rX mB kt rY vm (by omega) (by omega) rfl (by omega) (af _)).mono fun e w' hd=>?_)).mono ?_
    ·obtain⟨v,rfl,hz⟩:=mA hd;exact⟨v,true,rfl,rfl,hz⟩
    ·rintro e w' ⟨v,bb,rfl,rfl,hd⟩;exact⟨v,true,rfl,hd.back bl hc (tM (by omega) (by omega) (by omega))⟩
   ·rw[r]at hc ⊢;refine(ZV E (Q:=fun v b w'=>b=true/\ik W gm gt gk ge g s l m T (aB xs*aB ys) (nN T.B T.D T.N 4 (max la lb) (min la lb)) (sr ((max la lb+2)/3+1)+1) v w') ((Ot (ih ((max la lb+2)/3+1) (by omega) (by omega)) (by omega) E tb h0 (by omega) h2 (by omega) jw rX mB kt rY vm (by omega) (by omega) rfl (by omega) (af _)).mono fun e w' hd=>?_)).mono ?_
    ·obtain⟨v,rfl,hz⟩:=mA hd;exact⟨v,true,rfl,rfl,hz⟩
    ·rintro e w' ⟨v,bb,rfl,rfl,hd⟩;exact⟨v,true,rfl,hd.back bl hc (tM (by omega) (by omega) (by omega))⟩
   ·rw[r]at hc ⊢;refine(ZU E (Q:=fun v b w'=>b=true/\ik W gm gt gk ge g s l m T (aB xs*aB ys) (nN T.B T.D T.N 5 (max la lb) (min la lb)) 0 v w') ((MF E tb h0 (by omega) jw rX mB kt rY vm (by omega) (by omega) (by omega) (by omega)).mono fun e w' hd=>?_)).mono ?_
    ·obtain⟨v,rfl,hz⟩:=mA hd;exact⟨v,true,rfl,rfl,hz⟩
    ·rintro e w' ⟨v,bb,rfl,rfl,hd⟩;exact⟨v,true,rfl,hd.back bl hc (aO _)⟩
  ·rintro e w' ⟨r,rfl,m',hd⟩;exact⟨r,m',rfl,hd⟩
theorem Vf{B D N:Nat}(e:AP B D N):vQ B D N (rt B D N n n) n=qZ B D N n:=by
 have e1:=e.b1;unfold vQ;rcases om n n (af _) e with⟨r,_⟩|⟨r,_,_⟩|⟨r,h1,h2⟩|⟨r,h1,h2⟩|⟨r,h1,_,h2⟩|⟨r,_,_,_,_⟩
 ·rw[Ll (Or.inl r),r];simp
 ·rw[P9 r,r];simp
 ·omega
 ·rw[Fy e r h1,r];simp
 ·rw[Lk e r h1,r];simp
 ·rw[Lj r,r];simp
theorem Oh(N:Nat):N<=16384->rj N:=by
 induction N using Nat.strongRecOn with
 |_ N ih=>
  intro hN w gm gt gk ge g s l m T ga b o cap la xs hE hT h0 h1 h2 h3 jw hR mB fA;suffices H:Calls Tryz.prog 106 #[.pointer (some ⟨gm,0,none⟩),.slice ga la cap] w fun e w'=>∃r,e=.returned r/\ik w gm gt gk ge g s l m T (aB xs*aB xs) (qZ T.B T.D T.N la) (sr la) r w' by refine H.mono ?_;rintro e w' ⟨r,rfl,m',hd⟩;exact⟨r,m',rfl,hd⟩
  have hc:=Vf (n:=la) T.MP;have b1:=T.MP.b1;have t1:=T.MP.t1;have yf:=XQ T (n:=la) (m:=la) (by omega) (by omega);rw[abK,Jb]at yf;rcases om la la (af _) T.MP with⟨r,k1⟩|⟨r,k1,k2⟩|⟨r,k1,k2⟩|⟨r,k1,k2⟩|⟨r,k1,_,k2⟩|⟨r,k1,k2,k3,k4⟩
  ·rw[r]at hc yf;refine Xk hE yf (fun W bl=>?_);refine(FF N hN W gm gt gk ge g s l m T ga ga b o cap la b o cap la xs xs (hE.next bl) (hT.next bl) h0 h1 h2 h3 jw (hR.next bl) mB jw (hR.next bl) mB fA fA).mono ?_;rintro e w' ⟨v,m',rfl,hd⟩;refine⟨v,rfl,ik.back bl ⟨m',hd⟩ ?_ (by rw[abK];exact af _)⟩;rw[<-hc,abK,Jb,tq r];simp[vQ]
  ·rw[r]at hc yf;refine aac hE yf (fun W bl=>?_);refine(S9 (hE.next bl) h0 (by omega) jw (hR.next bl) mB (by omega)).mono ?_;rintro e w' ⟨v,rfl,hd⟩;exact⟨v,rfl,hd.back bl hc (aO _)⟩
  ·omega
  ·rw[r]at hc yf;refine Sm hE yf (fun W bl=>?_);refine(T_ (ih ((la+1)/2+1) (by omega) (by omega)) (by omega) (hE.next bl) (hT.next bl) h0 (by omega) h2 (by omega) jw (hR.next bl) mB (by omega) rfl (by omega) (af _)).mono ?_;intro e w' hd;obtain⟨v,rfl,hz⟩:=mA hd;exact⟨v,true,rfl,hz.back bl hc (tM (by omega) (by omega) (by omega))⟩
  ·rw[r]at hc yf;refine Xj hE yf (fun W bl=>?_);refine(aaZ (ih ((la+2)/3+1) (by omega) (by omega)) (by omega) (hE.next bl) (hT.next bl) h0 (by omega) h2 (by omega) jw (hR.next bl) mB (by omega) rfl (by omega) (af _)).mono ?_;intro e w' hd;obtain⟨v,rfl,hz⟩:=mA hd;exact⟨v,true,rfl,hz.back bl hc (tM (by omega) (by omega) (by omega))⟩
  ·rw[r]at hc yf;refine Xi hE yf (fun W bl=>?_);refine(Z8 (hE.next bl) (hT.next bl) h0 (by omega) jw (hR.next bl) mB (by omega) (by omega)).mono ?_;intro e w' hd;obtain⟨v,rfl,hz⟩:=mA hd;exact⟨v,true,rfl,hz.back bl hc (aO _)⟩
theorem Sn(w:World)(ga:Option Addr)(b o cap n m:Nat)(xs:List Nat)(hl:xs.length=n)(hn:n<=1099511627776)(hR:cH w ga b o cap xs)(hm:m=fV xs n):Calls Tryz.prog 88 #[.slice ga n cap] w fun e w'=>e=.returned (.slice ga m cap)/\w'=w:=by
 have hmn:m<=n:=by rw[hm];exact fZ xs n
 have ks:n<=cap:=by have:=hR.room;omega
 have CL:=ag (fun w' (h:w'=w)=>h▸pG w ga b o cap n xs hl hn hR);rw[<-hm]at CL;clear hm hR;go_enter Tryz.func88,Tryz.ntmps88
 go_wp2_with fail
 refine(ae CL _ rfl).mono ?_;rintro e w' ⟨rfl,rfl⟩;go_wp2;go_ret;exact⟨rfl,rfl⟩
theorem BS(h:jg w v n):∃ga b o cap xs,xs.length=wl n/\cH w ga b o cap xs/\bG xs/\aB xs=n/\wl n<=16384/\(∃l,v=.slice ga l cap)/\Calls Tryz.prog 88 #[v] w fun e w'=>e=.returned (.slice ga (wl n) cap)/\w'=w:=by obtain⟨ga,b,o,cap,xs,rfl,hr,hd,hv,hl⟩:=h;have e:=Hj hd;have hle:=mN hd;rw[hv]at e hle;refine⟨ga,b,o,cap,xs.take (wl n),by simp;omega,hr.take _ hle,gH hd _,?_,by omega,⟨_,rfl⟩,Sn w ga b o cap xs.length (wl n) xs rfl (by omega) hr e.symm⟩;rw[<-e,uO,cf,hv]
theorem Q9(T:bJ){m:Nat}(hn:n<=16384)(hm:m<=16384):qB T (n:Int) (m:Int)=(lS T.B T.D T.N (max n m) (min n m):Nat):=by
 by_cases h:m<=n
 ·rw[nH h,iF h,EE T h hn]
 ·rw[pX (by omega),bu (by omega),MG,EE T (by omega) hm]
theorem Kr(w:World)(gm gt gk ge g:Nat)(s l m:Int)(T:bJ)(u v:Value)(A C:Nat)(hE:dI w gm gt gk ge g s l m T)(hT:TB w)(h0:0<=s)(h1:s<=1154047404513689600)(h2:0<=l)(h3:l<=1000)(hu:jg w u A)(hv:jg w v C):Calls Tryz.prog 74 #[.pointer (some ⟨gm,0,none⟩),u,v] w fun e w'=>∃r m',e=.returned r/\aU w.heap.size w' r (A*C)/\dI w' gm gt gk ge g (s+qB T (wl A:Int) (wl C:Int)) l m' T/\m<=m'/\m'<=max m (l+(jP (max (wl A) (wl C)):Int))/\Out (·=g) w w':=by
 obtain⟨ga,b,o,cap,xs,xl,rX,dX,vX,lX,⟨lu,rfl⟩,CX⟩:=BS hu;obtain⟨gb,b',o',bM,ys,yl,rY,dY,vY,lY,⟨lv,rfl⟩,CY⟩:=BS hv;have CT:=ag (FF 16384 (by omega) w gm gt gk ge g s l m T ga gb b o cap (wl A) b' o' bM (wl C) xs ys hE hT h0 (by omega) h2 (by omega) xl rX dX yl rY dY lX lY);have HCX:=ag CX;have HCY:=ag CY;rw[vX,vY, <-Q9 T lX lY]at CT;have hd:=PC (n:=max (wl A) (wl C)) (by omega);suffices H:Calls Tryz.prog 74 #[.pointer (some ⟨gm,0,none⟩),.slice ga lu cap,.slice gb lv bM] w fun e w'=>∃r m',e=.returned r/\aU w.heap.size w' r (A*C)/\dI w' gm gt gk ge g (s+qB T (wl A:Int) (wl C:Int)) l m' T/\m<=m'/\m'<=max m (l+(sr (max (wl A) (wl C)):Nat))/\Out (·=g) w w' by refine H.mono ?_;rintro e w' ⟨r,m',k1,k2,k3,k4,k5,k6⟩;exact⟨r,m',k1,k2,k3,k4,by omega,k6⟩
 generalize qB T (wl A:Int) (wl C:Int)=K at *;generalize sr (max (wl A) (wl C))=L at *;generalize wl A=la at *;generalize wl C=lb at *;clear hu hv rX rY dX dY vX vY CX CY xl yl hd hE hT h0 h1 h2 h3;go_enter Tryz.func74,Tryz.ntmps74
 go_wp2_with fail
 refine(ae HCX).mono ?_;rintro e w1 ⟨rfl,hw⟩;obtain rfl:=hw.symm;clear hw
 go_wp2_with fail
 refine(ae HCY).mono ?_;rintro e w1 ⟨rfl,hw⟩;obtain rfl:=hw.symm;clear hw
 go_wp2_with fail
 refine(ae CT).mono ?_;rintro e w1 ⟨r,m',rfl,h⟩;have H:=ag h;clear h CT;go_wp2;go_ret;exact⟨r,m',rfl,ae H⟩
theorem Tm:Jg:=fun w gm gt gk ge g s l m T u v A C hE hT h0 h1 h2 h3 hu hv=>Kr w gm gt gk ge g s l m T u v A C hE hT h0 (by omega) h2 h3 hu hv
theorem To:Jh:=by
 intro w gm gt gk ge g s l m T u A hE hT h0 h1 h2 h3 hu;obtain⟨ga,b,o,cap,xs,xl,rX,dX,vX,lX,⟨lu,rfl⟩,CX⟩:=BS hu;have CT:=ag (Oh 16384 (by omega) w gm gt gk ge g s l m T ga b o cap (wl A) xs hE hT h0 (by omega) h2 (by omega) xl rX dX lX);have HCX:=ag CX;rw[vX, <-P8 T lX]at CT;have hd:=PC (n:=wl A) (by omega);suffices H:Calls Tryz.prog 84 #[.pointer (some ⟨gm,0,none⟩),.slice ga lu cap] w fun e w'=>∃r m',e=.returned r/\aU w.heap.size w' r (A*A)/\dI w' gm gt gk ge g (s+sqT T (wl A:Int)) l m' T/\m<=m'/\m'<=max m (l+(sr (wl A):Nat))/\Out (·=g) w w' by refine H.mono ?_;rintro e w' ⟨r,m',k1,k2,k3,k4,k5,k6⟩;exact⟨r,m',k1,k2,k3,k4,by omega,k6⟩
 generalize sqT T (wl A:Int)=K at *;generalize sr (wl A)=L at *;generalize wl A=la at *;clear hu rX dX vX CX xl hd hE hT h0 h1 h2 h3;go_enter Tryz.func84,Tryz.ntmps84
 go_wp2_with fail
 refine(ae HCX).mono ?_;rintro e w1 ⟨rfl,hw⟩;obtain rfl:=hw.symm;clear hw
 go_wp2_with fail
 refine(ae CT).mono ?_;rintro e w1 ⟨r,m',rfl,h⟩;have H:=ag h;clear h CT;go_wp2;go_ret;exact⟨r,m',rfl,ae H⟩
end
section
open Go.RowKit Go.Shelf
theorem jI{B:Nat}{t:TypeId}(h:Boxed W B t v)(b:Below W.heap.size W W'):Boxed W' B t v:=(b.block B h.lt).trans h
theorem jl{D:Nat->Prop}{B:Nat}{t:TypeId}(h:Boxed W B t v)(o:Out D W W')(hd:¬D B):Boxed W' B t v:=(o.block B h.lt hd).trans h
structure QI(WB:World)(PR PQ N n1 M D:Nat)(z0:List Nat)(pre:List (Fin N×Nat))(W:World):Prop where
 out:Out (fun j=>j=PR\/j=PQ) WB W
 rows:∃zs qs,cW W PR zs/\zs.length=n1/\bG zs/\cW W PQ qs/\qs.length=N/\bG qs/\(Down N pre->Mq z0 zs qs M (N-pre.length) D)
theorem Sy{D:Nat->Prop}{b c:World}{row:Option Nat}(h:Out D a b)(g:b.grownBy c row)(hr:∀r,row=some r->a.heap.size<=r):Out D a c:=
 ⟨g.os.trans h.os,g.tape.trans h.tape,g.output.trans h.output,ak h.size g.size,fun i hi hn=>(g.block i (az hi h.size) (fun e=>by have:=hr i e.symm;omega)).trans (h.block i hi hn)⟩
theorem QI.own{PR PQ N D:Nat}(h1:PR<WB.heap.size)(h2:PQ<WB.heap.size):OwnFrom WB.heap.size (QI WB PR PQ N n1 M D z0):=fun pre A B row hs hg hr=>by obtain⟨o,zs,qs,k1,l1,d1,k2,l2,d2,hq⟩:=hs;exact⟨Sy o hg (fun r e=>(hr r e).1),zs,qs,(hg.block PR k1.lt (fun e=>by have:=(hr PR e.symm).1;omega)).trans k1,l1,d1,(hg.block PQ k2.lt (fun e=>by have:=(hr PQ e.symm).1;omega)).trans k2,l2,d2,hq⟩
theorem Cb{D:Nat->Prop}{b:World}(h:Out D a.drew b):Out D a b:=⟨h.os,h.tape,h.output,h.size,h.block⟩
theorem QI.step{PR PQ N D:Nat}{pre:List (Fin N×Nat)}{x:Fin N×Nat}{qs:List Nat}{e:Ending}(h1:PR<WB.heap.size)(h2:PQ<WB.heap.size)(hB:Bs<WB.heap.size)(h3:PR≠PQ)(sG:Bs≠PR)(wa:Bs≠PQ)(jx:z0.length=n1)(hD:0<D)(hN:N<n1)(o:Out (fun j=>j=PR\/j=PQ) WB W)(k1:cW W PR zs)(l1:zs.length=n1)(d1:bG zs)(k2:cW W PQ qs)(l2:qs.length=N)(d2:bG qs)(hq:Down N pre->Mq z0 zs qs M (N-pre.length) D)(hT:OM W.drew PR x.1.1 M D zs e W2):∃q:Nat,e=.returned (.int .u64 (q:Int))/\q<18446744073709551616/\Out (·=PR) W W2/\W2.cell? ⟨PQ,x.1.1,none⟩=some (.int .u64 ((qs.getD x.1.1 0:Nat):Int))/\W2.frozen? ⟨PQ,x.1.1,none⟩=false/\(KeepsFrom WB.heap.size W (W2.setCell ⟨PQ,x.1.1,none⟩ (.int .u64 (q:Int)))/\wJ Bs PQ N W (W2.setCell ⟨PQ,x.1.1,none⟩ (.int .u64 (q:Int)))/\QI WB PR PQ N n1 M D z0 (pre++[x]) (W2.setCell ⟨PQ,x.1.1,none⟩ (.int .u64 (q:Int)))):=by
 obtain⟨q,sM,rfl,Wq,hs,dz',hk',hO,hA⟩:=hT;have hx:=x.1.2;replace hO:=Cb hO;have IL:=hO.kM k2 (by show ¬PQ=PR;omega);have oo:Out (fun j=>j=PR\/j=PQ) W (W2.setCell ⟨PQ,x.1.1,none⟩ (.int .u64 (q:Int))):=(hO.mono (fun k hk=>Or.inl hk)).trans ((Out.bX (aY _ _ _ _)).mono (fun k hk=>Or.inr hk));refine⟨q,rfl,Wq,hO,IL.cell _ (by omega),IL.frozen _,⟨oo.size,fun k ob hk h0 _=>?_⟩,⟨?_,?_⟩,⟨o.trans oo,sM,qs.set x.1.1 q,?_,by rw[hs.1,l1],dz',IL.set _ q,by simpa using l2,iX d2 (by omega) Wq,fun hd=>?_⟩⟩
 ·refine(oo.block k (ah.1 h0).1 (fun hk=>?_)).trans h0;rcases hk with rfl|rfl<;>omega
 ·exact cZ (a:=⟨Bs,0,none⟩) (oo.block Bs (az hB o.size) (fun hk=>by rcases hk with hk|hk;exact sG hk;exact wa hk))
 ·exact fun _=>⟨qs.set x.1.1 q,by simpa using l2,IL.set _ q⟩
 ·exact(bo _ _ _ _ (fun e=>h3 e)).trans hk'
 ·obtain⟨hp,hi⟩:=Ri hd;have h:=hq hp;rw[show N-pre.length=x.1.1+1 by omega]at h;obtain⟨t1,t2⟩:=hA (XI h (by omega) d1);rw[bU,kD,show N-(pre.length+1)=x.1.1 by omega];exact aau h (by rw[l1,jx]) (by omega) (by omega) hD (fun j hj=>hs.2 j (Or.inl hj)) t1 t2
theorem aak(W:World)(P0 D:Nat)(v:Value)(o:Obj):Out (fun j=>j=P0\/j=D) W ((W.setCell ⟨P0,0,none⟩ v).putObj D o):=
 ((Out.bX (aY _ _ _ _)).mono (fun _ h=>Or.inl h)).trans ((Out.bX (grownBy_putObj' _ D o)).mono (fun _ h=>Or.inr h))
theorem Xu{l A:Nat}(h:cW w g zs)(hd:bG zs)(hl:zs.length=n)(hn:n<=1099511627776)(e:l=fV zs n)(hA:aB zs=A):gh g (g+1) w (.slice (some ⟨g,0,none⟩) l n) A:=by
 subst hl e hA;refine⟨yi zs,ku hd,jN zs,Or.inr ⟨g,zs.drop (fV zs zs.length),af _,by omega,?_,?_,?_⟩⟩
 ·rw[ep];congr 1;unfold yi;rw[eW]
 ·unfold yi;rw[eW];exact h
 ·rw[ep];have:=fZ zs zs.length;simp;omega
theorem mF{B:Nat}(h:aU B w v n):∃g,B<=g/\gh g (g+1) w v n:=by
 obtain⟨xs,hc,hv,h|⟨g,ys,hg,rfl,hk,hl⟩⟩:=h
 ·exact⟨B,af _,xs,hc,hv,Or.inl h⟩
 ·exact⟨g,hg,xs,hc,hv,Or.inr ⟨g,ys,af _,by omega,rfl,hk,hl⟩⟩
end
section
open Go.RowKit Go.Shelf
attribute [local go_sem] Oper.semAt_some
set_option linter.unusedSimpArgs false
theorem Mz(w:World)(ga:Option Addr)(ba oa ca n:Nat)(us:List Nat)(gb:Option Addr)(bb ob cb m M:Nat)(vs:List Nat)(hA:cH w ga ba oa ca us)(cA:iS us)(zF:us.length=n)(hB:cH w gb bb ob cb vs)(cB:iS vs)(wc:vs.length=M)(hM:M=m+2)(hmn:M<=n)(hn:n<=16384):Calls Tryz.prog 96 #[.slice ga n ca,.slice gb M cb] w fun e w'=>∃q r gq gr,e=.returned (.tuple #[q,r])/\gh gq (gq+1) w' q (aB us/aB vs)/\gh gr (gr+1) w' r (aB us%aB vs)/\(gq≠gr/\w.heap.size<=gq/\w.heap.size<=gr)/\Below w.heap.size w w':=by
 obtain rfl:=hB.head (by omega);obtain⟨P0,ke⟩:∃P0,w.heap.size=P0:=⟨_,rfl⟩;obtain⟨m1,ox⟩:∃m1,m1=m+1:=⟨_,rfl⟩;obtain⟨t,ht⟩:∃t,t=vs.getD m1 0:=⟨_,rfl⟩;have Nm:0<t:=by have:=cB.2 (by omega);rw[wc,show M-1=m1 by omega]at this;omega
 have G':t<18446744073709551616:=by rw[ht];exact cB.1 m1
 have b1:=hB.cell m1 (by omega);rw[<-ht]at b1;have HA:=ag hA;have HB:=ag hB;have CLz:=ag (fun W=>NC (t:Int) W (by omega) (by omega));have CSb:Hid (∀W (s:Nat),s<=63->Below w.heap.size w W->Calls Tryz.prog 104 #[.slice (some ⟨bb,ob,none⟩) M cb,.int .i64 (s:Int)] W fun e w'=>∃r,e=.returned r/\aU W.heap.size w' r (aB vs*2^s)/\Below W.heap.size W w'):=fun W s hs b=>
  zS W _ (s:Int) (aB vs) s (by omega) ⟨_,_,_,_,vs,by rw[wc],(hB.next b),cB.1,rfl,by omega⟩
 have CSa:Hid (∀W (s:Nat),s<=63->Below w.heap.size w W->Calls Tryz.prog 104 #[.slice ga n ca,.int .i64 (s:Int)] W fun e w'=>∃r,e=.returned r/\aU W.heap.size w' r (aB us*2^s)/\Below W.heap.size W w'):=fun W s hs b=>
  zS W _ (s:Int) (aB us) s (by omega) ⟨_,_,_,_,us,by rw[zF],(hA.next b),cA.1,rfl,by omega⟩
 have i1:(M:Int)-1=(m1:Int):=by omega
 have k1:IntKind.i64.wrap (m1:Int)=(m1:Int):=by rw[ao];omega
 have j1:m1<M:=by omega
 have bx:Below w.heap.size w ((w.alloc (.cells #[.slice none 0 0] 38)).alloc (.cells #[.int .i64 (M:Int)] 3)):=((aj _ w).alloc (af _) _).alloc (by simp) _;have xq:=(Boxed.new w 38 (.slice none 0 0)).alloc (.cells #[.int .i64 (M:Int)] 3);have xm:=Boxed.new (w.alloc (.cells #[.slice none 0 0] 38)) 3 (.int .i64 (M:Int));rw[aL,ke]at xm;rw[ke]at xq;obtain⟨W1,mP⟩:∃W1,(w.alloc (.cells #[.slice none 0 0] 38)).alloc (.cells #[.int .i64 (M:Int)] 3)=W1:=⟨_,rfl⟩;rw[mP]at bx xq xm;replace b1:=(bx.cell (p:=⟨bb,ob+m1,none⟩) (aw _ _ b1)).trans b1;have cm:=xm.cell;have BX:=ag bx;have HM:=ag hM;have FZ:=ag ox;have HT:=ag ht;have Mb:M<=16384:=by omega
 clear hM ox ht hA hB;obtain⟨n1,qH⟩:∃n1,n1=n+1:=⟨_,rfl⟩;obtain⟨nd,Ni⟩:∃nd,nd=n-M:=⟨_,rfl⟩;obtain⟨N,hN⟩:∃N,N=nd+1:=⟨_,rfl⟩;have en1:(n:Int)+1=(n1:Int):=by omega
 have en2:IntKind.i64.wrap (n1:Int)=(n1:Int):=by rw[ao];omega
 have en3:(n:Int)-(M:Int)=(nd:Int):=by omega
 have en4:IntKind.i64.wrap (nd:Int)=(nd:Int):=by rw[ao];omega
 have en5:(nd:Int)+1=(N:Int):=by omega
 have en6:IntKind.i64.wrap (N:Int)=(N:Int):=by rw[ao];omega
 have afi:=iV n1 n1 (n1:Int) rfl rfl (by omega);have afj:=iV N N (N:Int) rfl rfl (by omega);have HN1:=ag qH;have HND:=ag Ni;have HN:=ag hN;have Nb:N<=16384/\0<N/\n1<=16385:=by omega
 clear qH Ni hN;refine(du (n:=4)).1 ?_;refine callsIn_of_wp_marks Tryz.func96 rfl trivial ?_ rfl;simp only[Tryz.ntmps96,List.size_toArray,List.length_cons,List.length_nil,Nat.reduceAdd,Nat.reduceSub,Array.replicate_succ,Array.replicate_zero,List.push_toArray,List.append_toArray,List.nil_append,List.cons_append]
 gi_wp2_with (refine⟨trivial,?_⟩;gi_at_call 102;refine(du.2 (ae CLz _)).mono ?_;rintro e W2 ⟨s,rfl,hs,xB,GQ,hw⟩;obtain rfl:=hw.symm;clear hw)
 have HS1:=ag xB;have HS2:=ag GQ;clear xB GQ;refine⟨trivial,?_⟩;refine(du.2 (ae CSb _ s hs bx)).mono ?_;rintro e W3 ⟨rd,rfl,nd,b3⟩;have cm:=(jI xm b3).cell;obtain⟨gd,bd,cd,ds,rfl,rD,cD,vD,lD⟩:=nd.rep;obtain⟨ldd,htd⟩:=Fh (m:=m1) cB (by rw[wc,ae HM,ae FZ]) cD hs (by have:=ae HS1;rw[ae HT]at this;simpa using this) (by have:=ae HS2;rw[ae HT]at this;simpa using this) vD;replace ldd:ds.length=M:=by rw[ldd,ae FZ,ae HM]
 rw[ldd];obtain rfl:=rD.head (by omega);obtain⟨v,hv⟩:∃v,v=inv2 (ds.getD (m+1) 0*18446744073709551616+ds.getD m 0):=⟨_,rfl⟩;have CD:=ag (DQ W3 _ bd 0 cd m M v ds ldd (ae HM) (by omega) rD cD.1 (by rw[ae FZ]at htd;exact htd) hv);have RD:=ag rD;have HV:=ag hv;have LD:=ag (lD (by omega));clear rD hv nd lD
 gi_wp2
 refine⟨trivial,?_⟩;refine(du.2 (ae CD)).mono ?_;rintro e W4 ⟨rfl,b4⟩;obtain⟨P1,Gx⟩:∃P1,W4.heap.size=P1:=⟨_,rfl⟩;obtain⟨W5,Pj⟩:∃W5,((W4.alloc (.cells #[.slice (some ⟨bd,0,none⟩) M cd,.int .u64 (v:Int)] 172)).alloc (.cells (dS n1).toArray 47)).alloc (.cells #[.slice (some ⟨P1+1,0,none⟩) n1 n1] 38)=W5:=⟨_,rfl⟩;have sz5:W5.heap.size=P1+1+1+1:=by rw[<-Pj];simp[Gx]
 have b5:Below W4.heap.size W4 W5:=by rw[<-Pj];exact(((aj _ W4).alloc (af _) _).alloc (by simp) _).alloc (by simp;omega) _
 have xd:Hid (W5.heap[P1]?=some (.cells #[.slice (some ⟨bd,0,none⟩) M cd,.int .u64 (v:Int)] 172 (0,0))):=by
  show _=_;have h1:=aI W4 (.cells #[.slice (some ⟨bd,0,none⟩) M cd,.int .u64 (v:Int)] 172);have h2:Below (W4.heap.size+1) (W4.alloc (.cells #[.slice (some ⟨bd,0,none⟩) M cd,.int .u64 (v:Int)] 172)) W5:=by rw[<-Pj];exact((aj _ _).alloc (by simp) _).alloc (by simp) _
  rw[<-Gx];exact(h2.block W4.heap.size (by omega)).trans h1
 have xr:Hid (cW W5 (P1+1) (List.replicate n1 0)):=by
  have h1:=aI (W4.alloc (.cells #[.slice (some ⟨bd,0,none⟩) M cd,.int .u64 (v:Int)] 172)) (.cells (dS n1).toArray 47);have h2:Below (W4.heap.size+1+1) ((W4.alloc (.cells #[.slice (some ⟨bd,0,none⟩) M cd,.int .u64 (v:Int)] 172)).alloc (.cells (dS n1).toArray 47)) W5:=by rw[<-Pj];exact(aj _ _).alloc (by simp) _
  rw[aL]at h1;show _=_;rw[<-Gx];exact(h2.block (W4.heap.size+1) (by omega)).trans h1
 have xb:Boxed W5 (P1+1+1) 38 (.slice (some ⟨P1+1,0,none⟩) n1 n1):=by have h1:=Boxed.new ((W4.alloc (.cells #[.slice (some ⟨bd,0,none⟩) M cd,.int .u64 (v:Int)] 172)).alloc (.cells (dS n1).toArray 47)) 38 (.slice (some ⟨P1+1,0,none⟩) n1 n1);rw[aL,aL,Pj,Gx]at h1;exact h1
 have b35:Below W3.heap.size W3 W5:=b4.trans (b5.mono b4.size);have b15:Below W1.heap.size W1 W5:=b3.trans (b35.mono b3.size);have bw5:Below w.heap.size w W5:=bx.trans (b15.mono bx.size);have xq5:=jI xq b15;have xm5:=jI xm b15;have RD5:=ag ((ae RD).next b35);have CSA:=ag (ae CSa W5.drew s hs (bw5.trans ((aj _ _).drew)));have HX:Hid (∀W,Below W5.heap.size W5 W->W.cell? ⟨P1+1+1,0,none⟩=some (.slice (some ⟨P1+1,0,none⟩) n1 n1)):=fun W b=>(jI xb b).cell;have HSm:=ag (Ks cA.1 zF hs);have cxb:=xb.cell;clear CD CSa CSb CLz b1 cm
 gi_wp2
 refine wpIn_wide.2 ?_;have bl:Below W5.heap.size W5 W5.drew:=(aj _ _).drew
 go_region_held3 (fun w'=>w'.cell? ⟨P1+1+1,0,none⟩=some (.slice (some ⟨P1+1,0,none⟩) n1 n1)) (first|(exact ae HX _ bl)|(assumption)|go_keep) (first
  |(go_at_call 104;with_reducible refine(ae CSA).mono ?_;rintro e W6 ⟨ra,rfl,na,b6⟩;have bl:=bl.trans (b6.mono bl.size);obtain⟨Uc,ba2,ca2,zs0,rfl,rA2,cA2,vA2,lA2⟩:=na.rep;have HL2:=ag (mT cA2 (by rw[vA2];exact ae HSm));obtain⟨W7,ir,xr7,o7⟩:=Vn W6 (P1+1) n1 Uc ba2 0 ca2 _ zs0 (cW.next (ae xr) bl) rA2 rfl (by rw[ae HN1];exact ae HL2);have aeP:=o7.cell (ae HX _ bl) (by show ¬P1+1+1=P1+1;omega)))
 obtain⟨z0,jx⟩:∃z0,z0=zs0++List.replicate (n1-zs0.length) 0:=⟨_,rfl⟩;rw[<-jx]at xr7;have dz0:Hid (bG z0):=by show bG z0;rw[jx];exact ug cA2.1 _
 have vz0:Hid (aB z0=aB us*2^s):=by show _=_;rw[jx,qU,vA2]
 have lz0:Hid (z0.length=n1):=by show _=_;rw[jx];have:=ae HL2;have:=ae HN1;simp;omega
 have XR7:=ag xr7;have l6:Hid (W5.heap.size<=W7.heap.size):=ak bl.size o7.size;have hl7:=ae l6;rw[sz5]at hl7;have ob7:Out (·=P1+1) W5 W7:=(Out.bQ bl).trans o7;have Us:P0+1<P1:=by have:=xm.lt;have:=b3.size;have:=b4.size;omega
 have xq7:=jl xq5 ob7 (by show ¬P0=P1+1;omega);have xm7:=jl xm5 ob7 (by show ¬P0+1=P1+1;omega);have xb7:=jl xb ob7 (by show ¬P1+1+1=P1+1;omega);have xd7:Hid (W7.heap[P1]?=some (.cells #[.slice (some ⟨bd,0,none⟩) M cd,.int .u64 (v:Int)] 172 (0,0))):=(ob7.block P1 (by omega) (by show ¬P1=P1+1;omega)).trans (ae xd);have bdl:bd<P1:=by have:=(ae RD).lt (by omega);have:=b4.size;omega
 have RD7:=ag (ob7.rep (ae RD5) (fun _=>by show ¬bd=P1+1;omega));have bw7:Below w.heap.size w W7:=bw5.trans (ob7.below bw5.size (fun k hk=>by rw[hk,ke];omega));have BW7:=ag bw7;obtain⟨P2,Aa⟩:∃P2,W7.heap.size=P2:=⟨_,rfl⟩;obtain⟨W8,hW8⟩:∃W8,W7.alloc (.cells (dS N).toArray 47)=W8:=⟨_,rfl⟩;have b8:Below W7.heap.size W7 W8:=by rw[<-hW8];exact(aj _ _).alloc (af _) _
 have sz8:W8.heap.size=P2+1:=by rw[<-hW8];simp[Aa]
 have xq8:=jI xq7 b8;have r8:cW W8 P2 (List.replicate N 0):=by rw[<-hW8, <-Aa];exact aI W7 _
 obtain⟨W9,hW9⟩:∃W9,W8.setCell ⟨P0,0,none⟩ (.slice (some ⟨P2,0,none⟩) N N)=W9:=⟨_,rfl⟩;have o9:Out (·=P0) W8 W9:=by rw[<-hW9];exact Out.bX (aY _ _ _ _)
 have xq9:Boxed W9 P0 38 (.slice (some ⟨P2,0,none⟩) N N):=by rw[<-hW9];exact xq8.set _
 have sz9:W9.heap.size=P2+1:=by rw[<-hW9, <-sz8];simp
 obtain⟨WB,hWB⟩:∃WB,W9.alloc (.cells #[.slice (some ⟨P2,0,none⟩) N N] 38)=WB:=⟨_,rfl⟩;have DP:Below W9.heap.size W9 WB:=by rw[<-hWB];exact(aj _ _).alloc (af _) _
 have szB:WB.heap.size=P2+1+1:=by rw[<-hWB];simp[sz9]
 have xsB:Boxed WB (P2+1) 38 (.slice (some ⟨P2,0,none⟩) N N):=by have:=Boxed.new W9 38 (.slice (some ⟨P2,0,none⟩) N N);rw[hWB,sz9]at this;exact this
 have oB:Out (·=P0) W7 WB:=((Out.bQ b8).trans o9).trans (Out.bQ DP);have xqB:=jI xq9 DP;have xmB:=jl xm7 oB (by show ¬P0+1=P0;omega);have xbB:=jl xb7 oB (by show ¬P1+1+1=P0;omega);have xdB:Hid (WB.heap[P1]?=some (.cells #[.slice (some ⟨bd,0,none⟩) M cd,.int .u64 (v:Int)] 172 (0,0))):=(oB.block P1 (by omega) (by show ¬P1=P0;omega)).trans (ae xd7);have rB:Hid (cW WB P2 (List.replicate N 0)):=(o9.kM r8 (by show ¬P2=P0;omega)).next DP;have zB:Hid (cW WB (P1+1) z0):=oB.kM (ae XR7) (by show ¬P1+1=P0;omega);have RB:=ag (oB.rep (ae RD7) (fun _=>by show ¬bd=P0;have:=ae LD;have:=xm.lt;omega));have BWB:=ag (bw7.trans (oB.below bw7.size (fun k hk=>by rw[hk,ke];exact af _)));have cq8:=xq8.cell;have fq8:=xq8.frozen;have cq9:=xq9.cell;have cm8:=(jI xm7 b8).cell;have cm7:=xm7.cell;have Zp:=ag (QU 3 (some ⟨P2,0,none⟩) N N W9);rw[sz9,hWB]at Zp;clear xr7 jx ir aeP cxb HX CSA na rA2 cA2 vA2 lA2 o7 bl xb xq5 xm5 xq xm b15 b35 b5 b4 b3 bx Pj mP afi HSm sz5 bw5 b6 bw7
 gi_wp2
 refine⟨trivial,?_⟩;refine(ae Zp).mono ?_;rintro e W10 ⟨rfl,hx⟩;obtain rfl:=hx.symm;clear hx Zp
 gi_wp2
 have HS:Hid (∀W,Out (fun j=>j=P1+1\/j=P2) WB W->(fun w'=>w'.cell? ⟨P0,0,none⟩=some (.slice (some ⟨P2,0,none⟩) N N)/\w'.cell? ⟨P1,0,none⟩=some (.slice (some ⟨bd,0,none⟩) M cd)/\w'.cell? ⟨P1,1,none⟩=some (.int .u64 (v:Int))/\w'.cell? ⟨P1+1+1,0,none⟩=some (.slice (some ⟨P1+1,0,none⟩) n1 n1)/\w'.cell? ⟨P0+1,0,none⟩=some (.int .i64 (M:Int))) W):=fun W o=>⟨(jl xqB o (by omega)).cell,o.cell (ay _ _ 0 _ _ (0,0) (ae xdB)) (by show ¬(P1=P1+1\/P1=P2);omega),o.cell (ay _ _ 1 _ _ (0,0) (ae xdB)) (by show ¬(P1=P1+1\/P1=P2);omega),(jl xbB o (by omega)).cell,(jl xmB o (by omega)).cell⟩;have hDp:0<aB ds:=by have h1:=AL cD (by omega);have:=iZ (ds.length-1);omega
 have I0:Hid (QI WB (P1+1) P2 N n1 M (aB ds) z0 [] WB):=⟨Out.refl _ _,z0,List.replicate N 0,ae zB,ae lz0,ae dz0,ae rB,by simp,oq N,fun _=>by rw[List.length_nil,lQ];refine XK (by rw[ae lz0,ae HN1,ae HN,ae HND];omega) (by simp) ?_;have:=XJ (z0:=z0) (n:=n) (m:=m1) cB (by rw[wc,ae HM,ae FZ]) (by have:=bF cA.1;rw[zF]at this;exact this) (ae vz0) (by have:=ae FZ;have:=ae HM;omega);rw[show n-m1=N by have:=ae FZ;have:=ae HM;have:=ae HN;have:=ae HND;omega, <-vD]at this;exact this⟩;have lP2:P1+1+1<P2:=by omega
 have HT0:Hid (∀(W:World) (zs:List Nat) (i:Nat),i<N->Out (fun j=>j=P1+1\/j=P2) WB W->cW W (P1+1) zs->zs.length=n1->bG zs->Calls Tryz.prog 116 #[.agg #[.slice (some ⟨bd,0,none⟩) M cd,.int .u64 (v:Int)],.slice (some ⟨P1+1,i,none⟩) (M+1) (n1-i)] W.drew (OM W.drew (P1+1) i M (aB ds) zs)):=fun W zs i hi o k1 l1 d1=>
  Ei W.drew (P1+1) i (M+1) (n1-i) bd 0 cd m M v (aB ds) _ zs ds (by rw[l1];have:=ae HN;have:=ae HND;have:=ae HN1;omega) ldd (ae HM) (af _) (by have:=ae HN;have:=ae HND;omega) (cW.drewN k1 1) d1 (cH.drew (o.rep (ae RB) (fun _=>by omega))) cD.1 (by rw[ae FZ]at htd;exact htd) (ae HV) rfl (by omega)
 have HNn:Hid (N<n1/\N+M=n1):=by have:=ae HN;have:=ae HND;have:=ae HN1;show _/\_;omega
 clear hW8 hW9 hWB b8 o9 DP oB sz8 sz9 r8 xq8 xq9 cq8 fq8 cq9 cm8 cm7 xm7 xb7 xq7 xd7 XR7 RD7 afj ob7 hl7;refine wpIn_rangeFunc_ownG rfl (by omega) (gf:=64) (lb:=#[.pointer (some ⟨P2+1,0,none⟩)]) rfl trivial (enters_of Tryz.func64 (by kernel_rfl) rfl)
  (Mv 3 (by omega) (P2+1) P2 N N (by omega) WB xsB.lt xsB.cell (List.replicate N 0) (by simp) (ae rB)) Py (U' xsB.lt (ae rB).lt) (aj _ _) (fun _=>rfl)
  (QI WB (P1+1) P2 N n1 M (aB ds) z0) (fun _ _ _=>False)
  (QI.own (ae zB).lt (ae rB).lt) (fun _ _ _ _ _ hs _ _=>hs) (ae I0)
  (fun x=>{ tmps:=#[.slice ga n ca,.slice (some ⟨bb,ob,none⟩) M cb,undef,undef,.pointer (some ⟨P0,0,none⟩),.slice none 0 0,.pointer (some ⟨P0+1,0,none⟩),.int .i64 (s:Int),.pointer (some ⟨P1,0,none⟩),.pointer (some ⟨P1+1+1,0,none⟩),.int .i64 (x.1.1:Int),.slice (some ⟨bb,ob,none⟩) M cb,.int .i64 (M:Int),.slice (some ⟨bb,ob,none⟩) M cb,.int .i64 (M:Int),.int .i64 (m1:Int),.pointer (some ⟨bb,ob+m1,none⟩),.int .u64 (t:Int),.int .i64 (s:Int),.slice (some ⟨bb,ob,none⟩) M cb,.int .i64 (s:Int),.slice (some ⟨bd,0,none⟩) M cd,.agg #[.slice (some ⟨bd,0,none⟩) M cd,.int .u64 (v:Int)],.slice ga n ca,.int .i64 (n:Int),.int .i64 (n1:Int),.slice (some ⟨P1+1,0,none⟩) n1 n1,.slice (some ⟨P1+1,0,none⟩) n1 n1,.slice ga n ca,.int .i64 (s:Int),.slice Uc zs0.length ca2,.int .i64 (zs0.length:Int),.slice ga n ca,.int .i64 (n:Int),.int .i64 (M:Int),.int .i64 (nd:Int),.int .i64 (N:Int),.slice (some ⟨P2,0,none⟩) N N,.slice (some ⟨P2,0,none⟩) N N,.func (.func 64) #[] #[.pointer (some ⟨P2+1,0,none⟩)],.int .i64 (x.1.1:Int),.int .u64 (x.2:Int),undef,undef,undef,undef,undef,undef,undef,undef,undef,undef,undef,undef,undef,undef,undef,undef,undef,undef,undef],defers:=[] }) ?assign ?body ?done ?stop
 case assign=>
  intro l x W K hK
  gi_wp2
  exact hK
 case body=>
  rintro lp pre ⟨⟨i,hi⟩,dd⟩ W hI dh;obtain⟨o,zs,qs,k1,l1,d1,k2,l2,d2,hq⟩:=hI;have CT:=ag (ae HT0 W zs i hi o k1 l1 d1);have aba:=ag (fun e W2 (h:OM W.drew (P1+1) i M (aB ds) zs e W2)=>QI.step (WB:=WB) (W:=W) (Bs:=P2+1) (N:=N) (pre:=pre) (x:=(⟨i,hi⟩,dd)) (ae zB).lt (ae rB).lt xsB.lt (by omega) (by omega) (by omega) (ae lz0) hDp (ae HNn).1 o k1 l1 d1 k2 l2 d2 hq h);have hS:=ae HS W o;have HO:=ag o;obtain⟨iM,hiM⟩:∃iM,iM=i+M:=⟨_,rfl⟩;obtain⟨iH,hiH⟩:∃iH,iH=i+M+1:=⟨_,rfl⟩;obtain⟨M',xu⟩:∃M',M'=M+1:=⟨_,rfl⟩;obtain⟨cc,qW⟩:∃cc,cc=n1-i:=⟨_,rfl⟩;rw[<-xu, <-qW]at CT;have HNN:=ae HNn;have a1:(i:Int)+(M:Int)=(iM:Int):=by omega
  have a2:IntKind.i64.wrap (iM:Int)=(iM:Int):=by rw[ao];omega
  have a3:(iM:Int)+1=(iH:Int):=by omega
  have a4:IntKind.i64.wrap (iH:Int)=(iH:Int):=by rw[ao];omega
  have a5:i<=iH/\iH<=n1/\iH-i=M'/\n1-i=cc/\¬n1=i/\¬iH=i:=by omega
  obtain⟨a5,a6,a7,a8,a9,a10⟩:=a5;obtain⟨s0,s1,s2,s3,s4⟩:=hS;clear o k1 l1 d1 k2 l2 d2 hq hiM hiH xu qW HNN;dsimp only
  gi_wp2
  refine rS (fun w'=>w'.cell? ⟨P0,0,none⟩=some (.slice (some ⟨P2,0,none⟩) N N)/\w'.cell? ⟨P1,0,none⟩=some (.slice (some ⟨bd,0,none⟩) M cd)/\w'.cell? ⟨P1,1,none⟩=some (.int .u64 (v:Int))/\w'.cell? ⟨P1+1+1,0,none⟩=some (.slice (some ⟨P1+1,0,none⟩) n1 n1)/\w'.cell? ⟨P0+1,0,none⟩=some (.int .i64 (M:Int))) (by kernel_rfl) (by kernel_rfl) (fun⟨_,_,h⟩=>h) ⟨s0,s1,s2,s3,s4⟩ (fun hHeld=>?_);refine wpAnyH_take (i:=0) (oi:=_) (v:=.slice (some ⟨P2,0,none⟩) N N) rfl (by kernel_rfl) (by kernel_rfl) (by kernel_rfl) (fun _ _ _ h=>h) (Or.inl ⟨by rfl,?_⟩) (by assumption) ?_
  ·intro w hSw
   (try dsimp only at hSw)
   go_simp
  simp only[Act.put,List.setIfInBounds_toArray,List.set_cons_zero,List.set_cons_succ];refine wpAnyH_take (i:=1) (oi:=_) (v:=.int .i64 (i:Int)) rfl (by kernel_rfl) (by kernel_rfl) (by kernel_rfl) (fun _ _ _ h=>h) (Or.inl ⟨by rfl,?_⟩) (by assumption) ?_
  ·intro w hSw
   (try dsimp only at hSw)
   go_simp
  simp only[Act.put,List.setIfInBounds_toArray,List.set_cons_zero,List.set_cons_succ];refine wpAnyH_take (i:=2) (oi:=_) (v:=.agg #[.slice (some ⟨bd,0,none⟩) M cd,.int .u64 (v:Int)]) rfl (by kernel_rfl) (by kernel_rfl) (by kernel_rfl) (fun _ _ _ h=>h) (Or.inl ⟨by rfl,?_⟩) (by assumption) ?_
  ·intro w hSw
   (try dsimp only at hSw)
   go_simp
  simp only[Act.put,List.setIfInBounds_toArray,List.set_cons_zero,List.set_cons_succ];refine wpAnyH_take (i:=3) (oi:=_) (v:=.slice (some ⟨P1+1,0,none⟩) n1 n1) rfl (by kernel_rfl) (by kernel_rfl) (by kernel_rfl) (fun _ _ _ h=>h) (Or.inl ⟨by rfl,?_⟩) (by assumption) ?_
  ·intro w hSw
   (try dsimp only at hSw)
   go_simp
  simp only[Act.put,List.setIfInBounds_toArray,List.set_cons_zero,List.set_cons_succ];refine wpAnyH_take (i:=4) (oi:=_) (v:=.int .i64 (i:Int)) rfl (by kernel_rfl) (by kernel_rfl) (by kernel_rfl) (fun _ _ _ h=>h) (Or.inl ⟨by rfl,?_⟩) (by assumption) ?_
  ·intro w hSw
   (try dsimp only at hSw)
   go_simp
  simp only[Act.put,List.setIfInBounds_toArray,List.set_cons_zero,List.set_cons_succ];refine wpAnyH_take (i:=5) (oi:=_) (v:=.int .i64 (i:Int)) rfl (by kernel_rfl) (by kernel_rfl) (by kernel_rfl) (fun _ _ _ h=>h) (Or.inl ⟨by rfl,?_⟩) (by assumption) ?_
  ·intro w hSw
   (try dsimp only at hSw)
   go_simp
  simp only[Act.put,List.setIfInBounds_toArray,List.set_cons_zero,List.set_cons_succ];refine wpAnyH_take (i:=6) (oi:=_) (v:=.int .i64 (M:Int)) rfl (by kernel_rfl) (by kernel_rfl) (by kernel_rfl) (fun _ _ _ h=>h) (Or.inl ⟨by rfl,?_⟩) (by assumption) ?_
  ·intro w hSw
   (try dsimp only at hSw)
   go_simp
  simp only[Act.put,List.setIfInBounds_toArray,List.set_cons_zero,List.set_cons_succ];refine wpAnyH_take (i:=7) (oi:=_) (v:=.int .i64 (iM:Int)) rfl (by kernel_rfl) (by kernel_rfl) (by kernel_rfl) (fun _ _ _ h=>h) (Or.inl ⟨by rfl,?_⟩) (by assumption) ?_
  ·intro w hSw
   (try dsimp only at hSw)
   go_simp
  simp only[Act.put,List.setIfInBounds_toArray,List.set_cons_zero,List.set_cons_succ];refine wpAnyH_take (i:=8) (oi:=_) (v:=.int .i64 (iH:Int)) rfl (by kernel_rfl) (by kernel_rfl) (by kernel_rfl) (fun _ _ _ h=>h) (Or.inl ⟨by rfl,?_⟩) (by assumption) ?_
  ·intro w hSw
   (try dsimp only at hSw)
   go_simp
  simp only[Act.put,List.setIfInBounds_toArray,List.set_cons_zero,List.set_cons_succ];refine wpAnyH_take (i:=9) (oi:=_) (v:=.slice (some ⟨P1+1,i,none⟩) M' cc) rfl (by kernel_rfl) (by kernel_rfl) (by kernel_rfl) (fun _ _ _ h=>h) (Or.inl ⟨by rfl,?_⟩) (by assumption) ?_
  ·intro w hSw
   (try dsimp only at hSw)
   go_simp
  simp only[Act.put,List.setIfInBounds_toArray,List.set_cons_zero,List.set_cons_succ];refine wpAnyH_ready (rs:=[10]) (by kernel_rfl) (by simp) ?_;refine AllReadyH.cons (o:=_) rfl (fun K hK=>?_) AllReadyH.nil;go_simp;refine(ae CT).mono ?_;rintro e W2 hT;obtain⟨qw,rfl,Wq,o2,cc2,ff2,HF⟩:=ae aba _ _ hT;have HF:=ag HF;have S2:=ae HS W2 ((ae HO).trans (o2.mono (fun k hk=>Or.inl hk)));clear hT aba CT
  go_wp2_with fail
  refine hK.out _ _ S2 (fun hHeld=>?_);clear hK K
  (try simp only[Act.put,List.setIfInBounds_toArray,List.set_cons_zero,List.set_cons_succ])
  refine wpAnyH_ready (rs:=[11]) (by kernel_rfl) (by simp) ?_;refine AllReadyH.cons (o:=_) rfl (fun K hK=>?_) AllReadyH.nil;go_simp;refine hK.out _ _ S2 (fun hHeld=>?_);clear hK K
  (try simp only[Act.put,List.setIfInBounds_toArray,List.set_cons_zero,List.set_cons_succ])
  refine wpAnyH_ready (rs:=[12]) (by kernel_rfl) (by simp) ?_;refine AllReadyH.cons (o:=_) rfl (fun K hK=>?_) AllReadyH.nil
  (try dsimp only at cc2 ff2)
  go_simp;refine hK.out _ _ (ae HS _ (ae HF).2.2.out) (fun hHeld=>?_);clear hK K;refine wpAnyH_done (by kernel_rfl) ?_ _;exact ae HF
 case done=>
  rintro D xs W hD ⟨jw,hdn⟩ hI hK;obtain⟨o,zs,qs,k1,l1,d1,k2,l2,d2,hq⟩:=hI;have hqt:=hq hdn;rw[jw,gW]at hqt;obtain⟨vq,vr⟩:=ac4 hqt;rw[ae vz0,vD,(JN _ _ s).1]at vq;rw[ae vz0,vD,(JN _ _ s).2]at vr;have VQ:=ag vq;obtain⟨s0,s1,s2,s3,s4⟩:=ae HS W o;have HO:=ag o;have DW:=ag (fun j=>d1 j);obtain⟨lq,hlq⟩:∃lq,lq=fV qs N:=⟨_,rfl⟩;have CTr:=ag (fun W' (b:Below W.heap.size W W')=>yP W' (some ⟨P2,0,none⟩) P2 0 N N lq qs l2 (by omega) (cW.whole (k2.next b) l2) hlq);have CSh:=ag (fun W' (b:Below W.heap.size W W')=>tV W' (.slice (some ⟨P1+1,0,none⟩) M n1) (s:Int) (aB us%aB vs*2^s) s (by omega) ⟨_,_,_,_,zs.take M,by rw[cF,bu (by have:=(ae HNn).2;omega)],by have:=(k1.next b).rep 0 M n1 (by have:=(ae HNn).2;omega) (by have:=(ae HNn).2;omega);rw[dN]at this;exact this,gH d1 M,vr,by simp;omega⟩);simp only[Nat.mul_div_cancel _ (Nat.two_pow_pos s)]at CSh;have K2:=ag k2;have L2:=ag l2;have D2:=ag d2;have HLQ:=ag hlq;have lMn:M<=n1:=by have:=(ae HNn).2;omega
  have hDl:D<W.heap.size:=(ah.1 hK).1;clear o k1 l1 d1 k2 l2 d2 hq hqt vq vr hlq DW hdn jw I0;have xqW:=jl xqB (ae HO) (by omega);have lW:P0+1<W.heap.size/\P1+1+1<W.heap.size/\P0<W.heap.size:=by have:=(ae HO).size;omega
  have I5:Hid (∀W',Below W.heap.size W W'->W'.cell? ⟨P1+1+1,0,none⟩=some (.slice (some ⟨P1+1,0,none⟩) n1 n1)/\W'.cell? ⟨P0+1,0,none⟩=some (.int .i64 (M:Int))):=fun W' b=>⟨(b.cell (p:=⟨P1+1+1,0,none⟩) lW.2.1).trans s3,(b.cell (p:=⟨P0+1,0,none⟩) lW.1).trans s4⟩;have I6:Hid (∀W' u,Below W.heap.size W W'->(W'.setCell ⟨P0,0,none⟩ u).cell? ⟨P1+1+1,0,none⟩=some (.slice (some ⟨P1+1,0,none⟩) n1 n1)/\(W'.setCell ⟨P0,0,none⟩ u).cell? ⟨P0+1,0,none⟩=some (.int .i64 (M:Int))):=fun W' u b=>⟨(World.cell?_setCell_far _ _ _ _ (by show P0≠P1+1+1;omega)).trans (ae I5 W' b).1,(World.cell?_setCell_far _ _ _ _ (by show P0≠P0+1;omega)).trans (ae I5 W' b).2⟩
  gi_wp2
  refine wpIn_wide.2 ?_;have bl:Below W.heap.size W W.drew:=(aj _ _).drew;have s0':W.drew.cell? ⟨P0,0,none⟩=some (.slice (some ⟨P2,0,none⟩) N N):=s0;refine wp_region_noPanic ?_;refine wp_region_held_drew (S:=fun w'=>w'.cell? ⟨P1+1+1,0,none⟩=some (.slice (some ⟨P1+1,0,none⟩) n1 n1)/\w'.cell? ⟨P0+1,0,none⟩=some (.int .i64 (M:Int))) (by kernel_rfl) (ae I5 _ bl) (fun hHeld=>?_);refine wpAnyH_take (i:=2) (oi:=_) (v:=.slice (some ⟨P1+1,0,none⟩) n1 n1) rfl (by kernel_rfl) (by kernel_rfl) (by kernel_rfl) (fun _ _ _ h=>h) (Or.inl ⟨by rfl,?_⟩) (by assumption) ?_
  ·intro w hSw
   (try dsimp only at hSw)
   go_simp
  simp only[Act.put,List.setIfInBounds_toArray,List.set_cons_zero,List.set_cons_succ];refine wpAnyH_take (i:=3) (oi:=_) (v:=.int .i64 (M:Int)) rfl (by kernel_rfl) (by kernel_rfl) (by kernel_rfl) (fun _ _ _ h=>h) (Or.inl ⟨by rfl,?_⟩) (by assumption) ?_
  ·intro w hSw
   (try dsimp only at hSw)
   go_simp
  simp only[Act.put,List.setIfInBounds_toArray,List.set_cons_zero,List.set_cons_succ];refine wpAnyH_take (i:=4) (oi:=_) (v:=.slice (some ⟨P1+1,0,none⟩) M n1) rfl (by kernel_rfl) (by kernel_rfl) (by kernel_rfl) (fun _ _ _ h=>h) (Or.inl ⟨by rfl,?_⟩) (by assumption) ?_
  ·intro w hSw
   (try dsimp only at hSw)
   go_simp
  simp only[Act.put,List.setIfInBounds_toArray,List.set_cons_zero,List.set_cons_succ];refine wpAnyH_take (i:=5) (oi:=_) (v:=.int .i64 (s:Int)) rfl (by kernel_rfl) (by kernel_rfl) (by kernel_rfl) (fun _ _ _ h=>h) (Or.inl ⟨by rfl,?_⟩) (by assumption) ?_
  ·intro w hSw
   (try dsimp only at hSw)
   go_simp
  simp only[Act.put,List.setIfInBounds_toArray,List.set_cons_zero,List.set_cons_succ];refine wpAnyH_ready (rs:=[0]) (by kernel_rfl) (by simp) ?_;refine AllReadyH.cons (o:=_) rfl (fun K hK=>?_) AllReadyH.nil;go_simp;refine hK.out _ _ (ae I5 _ bl) (fun hHeld=>?_);clear hK K
  (try simp only[Act.put,List.setIfInBounds_toArray,List.set_cons_zero,List.set_cons_succ])
  refine wpAnyH_ready (rs:=[1]) (by kernel_rfl) (by simp) ?_;refine AllReadyH.cons (o:=_) rfl (fun K hK=>?_) AllReadyH.nil;go_simp;refine(ae CTr _ bl).mono ?_;rintro e W5 ⟨rfl,hw⟩;obtain rfl:=hw.symm;clear hw
  go_wp2_with fail
  refine hK.out _ _ (ae I5 _ bl) (fun hHeld=>?_);clear hK K
  (try simp only[Act.put,List.setIfInBounds_toArray,List.set_cons_zero,List.set_cons_succ])
  refine wpAnyH_ready (rs:=[6]) (by kernel_rfl) (by simp) ?_;refine AllReadyH.cons (o:=_) rfl (fun K hK=>?_) AllReadyH.nil;go_simp;refine(ae CSh _ bl).mono ?_;rintro e W6 ⟨r,rfl,nr,b6⟩;have NR:=ag nr;obtain⟨ra,rl,rc,rfl⟩:=nr.shape;have bl:=bl.trans (b6.mono bl.size);have xq6:=jI xqW bl;have cq6:=xq6.cell;have fq6:=xq6.frozen;clear nr
  go_wp2_with fail
  refine hK.out _ _ (ae I5 _ bl) (fun hHeld=>?_);clear hK K
  (try simp only[Act.put,List.setIfInBounds_toArray,List.set_cons_zero,List.set_cons_succ])
  refine wpAnyH_ready (rs:=[7]) (by kernel_rfl) (by simp) ?_;refine AllReadyH.cons (o:=_) rfl (fun K hK=>?_) AllReadyH.nil;go_simp;refine hK.out _ _ (ae I6 _ _ bl) (fun hHeld=>?_);clear hK K
  (try simp only[Act.put,List.setIfInBounds_toArray,List.set_cons_zero,List.set_cons_succ])
  refine wpAnyH_ready (rs:=[8]) (by kernel_rfl) (by simp) ?_;refine AllReadyH.cons (o:=_) rfl (fun K hK=>?_) AllReadyH.nil;go_simp;refine hK.out _ _ (ae I6 _ _ bl) (fun hHeld=>?_);clear hK K
  (try simp only[Act.put,List.setIfInBounds_toArray,List.set_cons_zero,List.set_cons_succ])
  refine wpAnyH_done (by kernel_rfl) ?_ _;refine NoPanic.normal ?_;have cz6:=(xq6.set (.slice (some ⟨P2,0,none⟩) lq N)).cell
  gi_wp2
  have hD2:P2+1<D:=by omega
  have hK6:(W6.setCell ⟨P0,0,none⟩ (.slice (some ⟨P2,0,none⟩) lq N)).heap[D]?=some (.deferred (some [])):=(bo _ _ _ _ (by show D≠P0;omega)).trans ((bl.block D hDl).trans hK);have oE:=aak W6 P0 D (.slice (some ⟨P2,0,none⟩) lq N) (.deferred none);have xE:Boxed ((W6.setCell ⟨P0,0,none⟩ (.slice (some ⟨P2,0,none⟩) lq N)).putObj D (.deferred none)) P0 38 (.slice (some ⟨P2,0,none⟩) lq N):=(World.putObj_heap_other (by omega)).trans (xq6.set (.slice (some ⟨P2,0,none⟩) lq N));have cE:=xE.cell;have kE:=oE.kM ((ae K2).next bl) (by omega);have nE:=oE.mb (ae NR) (fun k hk=>by have:W.drew.heap.size=W.heap.size:=rfl;omega);have bE:Below w.heap.size w ((W6.setCell ⟨P0,0,none⟩ (.slice (some ⟨P2,0,none⟩) lq N)).putObj D (.deferred none)):=by have h1:=(ae BWB).trans ((ae HO).below (ae BWB).size (fun k hk=>by omega));have h2:=h1.trans (bl.mono h1.size);exact h2.trans (oE.below h2.size (fun k hk=>by omega))
  obtain⟨gr,Pp,nE⟩:=mF nE;refine⟨by simp,.inl ⟨_,_,rfl,run_takeDeferred hK6,?_⟩⟩;refine⟨.tuple #[.slice (some ⟨P2,0,none⟩) lq N,.slice ra rl rc],by simp[results,Tryz.results96,go_sem,cE],?_⟩;refine⟨_,_,P2,gr,rfl,Xu kE (ae D2) (ae L2) (by omega) (ae HLQ) (ae VQ),nE,⟨?_,by omega,?_⟩,bE⟩
  ·have:W.drew.heap.size=W.heap.size:=rfl;have:=(ae HO).size;omega
  ·have:W.drew.heap.size=W.heap.size:=rfl;have:=(ae HO).size;omega
 case stop=>rintro D c pre W _ _ h _;exact h.elim
end
end Go.Proofs.YtkdmippllpekfaaGreatDoor
