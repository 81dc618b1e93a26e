/- blocks: what holds between two rounds. -/
import Derived.Test.YtgcnhfgpflncaaaGreatDoorB42
import Derived.Test.YtgcnhfgpflncaaaGreatDoorB40
import Derived.Test.YtgcnhfgpflncaaaGreatDoorB33
namespace Go.Proofs.YtgcnhfgpflncaaaGreatDoor
open Go.RowKit Go.Shelf
theorem bV{D:Nat->Prop}{W W':World}{B:Nat}{t:TypeId}{v:Value}(h:Boxed W B t v)(o:Out D W W')(hd:¬D B):Boxed W' B t v:=(o.block B h.lt hd).trans h
theorem ah.turn{B n:Nat}{W W':World}{v:Value}(h:ah B W v n)(hb:∀ g zs,aB W g zs->W'.heap[g]?=W.heap[g]?):ah B W' v n:=by
 obtain⟨xs,hc,hv,r|⟨g,ys,hg,rfl,hk,hl⟩⟩:=h
 ·exact⟨xs,hc,hv,Or.inl r⟩
 ·exact⟨xs,hc,hv,Or.inr ⟨g,ys,hg,rfl,(hb g _ hk).trans hk,hl⟩⟩
def PR(B:Nat)(W:World)(us:List Value)(ns:List Nat):Prop:=ns.length=us.length/\∀ j,j<us.length->ah B W (us.getD j undef) (ns.getD j 0)
theorem PR.nil(B:Nat)(W:World):PR B W [] []:=⟨rfl,fun j hj=>absurd hj (by simp)⟩
theorem PR.turn{B:Nat}{W W':World}{us:List Value}{ns:List Nat}(h:PR B W us ns)(hb:∀ g zs,aB W g zs->W'.heap[g]?=W.heap[g]?):PR B W' us ns:=⟨h.1,fun j hj=>(h.2 j hj).turn hb⟩
theorem PR.out{B g:Nat}{W W':World}{us:List Value}{ns:List Nat}(h:PR B W us ns)(o:Out (·=g) W W')(hg:g<B):PR B W' us ns:=⟨h.1,fun j hj=>o.newW (h.2 j hj) (fun k e=>by rw[e];exact hg)⟩
theorem PR.snoc{B:Nat}{W:World}{us:List Value}{ns:List Nat}{u:Value}{n:Nat}(h:PR B W us ns)(hu:ah B W u n):PR B W (us++[u]) (ns++[n]):=by
 refine⟨by simp[h.1],fun j hj=>?_⟩
 rw[List.length_append,List.length_singleton]at hj
 rw[vw,vu,h.1]
 by_cases hlt:j<us.length
 ·rw[if_pos hlt,if_pos hlt];exact h.2 j hlt
 ·rw[if_neg hlt,if_neg hlt,if_pos (by omega),if_pos (by omega)];exact hu
def nV(T:Tab)(k n:Nat)(pre:List Nat):Nat:=(pre.map fun j=>eu T.B T.D T.N k (min k (n-k*j))).sum
theorem rO(T:Tab)(k n:Nat)(pre:List Nat)(x:Nat):nV T k n (pre++[x])=nV T k n pre+eu T.B T.D T.N k (min k (n-k*x)):=by simp[nV]
theorem Az(T:Tab)(k n:Nat)(hk:k<=16384):∀(pre:List Nat),nV T k n pre<=pre.length*2147483648
 |[]=>by simp[nV]
 |x :: pre=>by
  have:=Az T k n hk pre
  have:=iT T.ent (n:=k) (m:=min k (n-k*x)) (by omega) hk
  simp only[nV,List.map_cons,List.sum_cons,List.length_cons]at *
  omega
theorem pJ(T:Tab)(k n:Nat):∀ q,nV T k n (List.range q)=nU T.B T.D T.N n k q
 |0=>by simp[nV,nU]
 |q+1=>by rw[List.range_succ,rO,pJ T k n q,nU]
structure BI(w:World)(gm gt gk ge g:Nat)(s l m:Int)(T:Tab)(L P0 PB BP Bs Bn base:Nat)(vb vs:Value)(k n C:Nat)(xs pre:List Nat)(W:World):Prop where
 eng:∃ m1:Int,aC W gm gt gk ge g (s+(nV T k n pre:Nat)) (l+1) m1 T/\max m (l+1)<=m1/\m1<=max m (l+1+(L:Nat))
 bE:Boxed W P0 84 (.pointer (some ⟨gm,0,none⟩))
 bB:Boxed W PB 29 vb
 bS:Boxed W Bs 29 vs
 bN:Boxed W Bn 3 (.int .i64 (k:Int))
 prod:∃ v us,Boxed W BP 113 v/\W.ownsRow base 29 1 v pre.length us/\PR w.heap.size W us (pre.map fun j=>af (du xs k j)*C)
 out:Out (·=g) w W
theorem BI.own{w:World}{gm gt gk ge g:Nat}{s l m:Int}{T:Tab}{L P0 PB BP Bs Bn base:Nat}{vb vs:Value}{k n C:Nat}{xs:List Nat}(hE:aC w gm gt gk ge g s l m T)(hb:w.heap.size<=base):
  OwnFrom base (BI w gm gt gk ge g s l m T L P0 PB BP Bs Bn base vb vs k n C xs):=by
 intro pre A B row h hg hr
 have kept:∀(j:Nat) (o:Obj),A.heap[j]?=some o->o.isCells=true->B.heap[j]?=A.heap[j]?:=fun j o hj ho=>
  hg.block j (Array.getElem?_eq_some_iff.1 hj).1 (fun e=>by
   obtain⟨_,o',h1,h2⟩:=hr j e.symm
   rw[hj]at h1
   cases h1
   rw[ho]at h2
   cases h2)
 have far:Out (fun j=>w.heap.size<=j) A B:=⟨hg.os,hg.tape,hg.output,hg.size,fun j hj hn=>hg.block j hj (fun e=>by have:=(hr j e.symm).1;omega)⟩
 obtain⟨m1,E,q1,q2⟩:=h.eng
 obtain⟨v,us,b1,b2,b3⟩:=h.prod
 refine⟨⟨m1,hE.far E far,q1,q2⟩,(kept _ _ h.bE rfl).trans h.bE,(kept _ _ h.bB rfl).trans h.bB,(kept _ _ h.bS rfl).trans h.bS,(kept _ _ h.bN rfl).trans h.bN,⟨v,us,(kept _ _ b1 rfl).trans b1,?_,b3.turn (fun g zs hk=>kept _ _ hk rfl)⟩,h.out.fresh far (fun i hi=>Or.inr hi)⟩
 refine b2.kept hg ?_
 rcases b2.2 with⟨rfl,_⟩|⟨g',cap,cur,rfl,_,hgb,_⟩
 ·exact .inl rfl
 ·refine .inr fun e'=>?_
  obtain⟨_,o,ho,hc⟩:=hr g' (by simpa [Value.ownBlock]using e'.symm)
  rw[hgb]at ho;cases ho;cases hc
theorem BI.called{w W W2:World}{gm gt gk ge g:Nat}{s l m:Int}{T:Tab}{L P0 PB BP Bs Bn base:Nat}{vb vs:Value}{k n C:Nat}{xs pre:List Nat}(hg:g<w.heap.size)(hb:w.heap.size<=base)(h0:w.heap.size<=P0)(h1:w.heap.size<=PB)(h2:w.heap.size<=BP)(h3:w.heap.size<=Bs)(h4:w.heap.size<=Bn)
  (h:BI w gm gt gk ge g s l m T L P0 PB BP Bs Bn base vb vs k n C xs pre W) (o:Out (·=g) W W2):
  Boxed W2 P0 84 (.pointer (some ⟨gm,0,none⟩))/\Boxed W2 PB 29 vb/\Boxed W2 Bs 29 vs/\Boxed W2 Bn 3 (.int .i64 (k:Int))/\Out (·=g) w W2/\
  ∀ v us,Boxed W BP 113 v->W.ownsRow base 29 1 v pre.length us->PR w.heap.size W us (pre.map fun j=>af (du xs k j)*C)->Boxed W2 BP 113 v/\W2.ownsRow base 29 1 v pre.length us/\PR w.heap.size W2 us (pre.map fun j=>af (du xs k j)*C):=by
 refine⟨bV h.bE o (fun(e:P0=g)=>by omega),bV h.bB o (fun(e:PB=g)=>by omega),bV h.bS o (fun(e:Bs=g)=>by omega),bV h.bN o (fun(e:Bn=g)=>by omega),h.out.trans o,fun v us b1 b2 b3=>⟨bV b1 o (fun(e:BP=g)=>by omega),?_,b3.out o hg⟩⟩
 refine b2.kept o.grown ?_
 rcases b2.2 with⟨rfl,_⟩|⟨g',cap,cur,rfl,hb',hgb,_⟩
 ·exact .inl rfl
 ·refine .inr fun e'=>?_
  have:g'=g:=by simpa [Value.ownBlock]using e'
  omega
theorem DO{g B:Nat}{W W':World}{v:Value}(o:Out (·=g) W W')(hc:W.cell? ⟨g,0,none⟩=some v):KeepsFrom B W W':=
 ⟨o.size,fun k ob _ hk ho=>(o.block k (Array.getElem?_eq_some_iff.1 hk).1 (fun e=>by
  subst e
  simp[World.cell?,hk]at hc
  cases ob with
  |cells=>cases ho
  |_=>simp at hc)).trans hk⟩
end Go.Proofs.YtgcnhfgpflncaaaGreatDoor
/- blocks:one round. -/
namespace Go.Proofs.YtgcnhfgpflncaaaGreatDoor
open Go.RowKit Go.Shelf
theorem Ed{w:World}{b o cap:Nat}{xs:List Nat}(h:Rep w (some ⟨b,o,none⟩) b o cap xs)(k j:Nat):Rep w (some ⟨b,o+k*j,none⟩) b (o+k*j) (min k (xs.length-k*j)) (du xs k j):=by
 refine⟨fun _=>rfl,by rw[fE];exact Nat.le_refl _,fun i hi=>?_⟩
 rw[fE]at hi
 have hc:=h.cell (k*j+i) (by omega)
 rw[<-Nat.add_assoc]at hc
 rw[hc]
 have e:(du xs k j).getD i 0=xs.getD (k*j+i) 0:=by
  simp only[du,List.getD_eq_getElem?_getD]
  rw[List.getElem?_take_of_lt (by omega),List.getElem?_drop]
 rw[e]
def TD(w:World)(gm gt gk ge g:Nat)(s l m:Int)(T:Tab)(L k n C:Nat)(xs pre:List Nat)(x:Nat)(W:World)(r:Value)(W2:World):Prop:=
 ah w.heap.size W2 r (af (du xs k x)*C)/\(∃ m1:Int,aC W2 gm gt gk ge g (s+(nV T k n (pre++[x]):Nat)) (l+1) m1 T/\max m (l+1)<=m1/\m1<=max m (l+1+(L:Nat)))/\Out (·=g) W W2
theorem BI.times{w W:World}{gm gt gk ge g:Nat}{s l m:Int}{T:Tab}{P0 PB BP Bs Bn base:Nat}{vb vs:Value}{k n q b o cap b' o' cap':Nat}{gb:Option Addr}{xs ys pre:List Nat}(IH:dG k)(hk:k<=16384)
  (hE:aC w gm gt gk ge g s l m T) (hT:TB w) (h0:0<=s) (h1:s+35184372088832*((k:Int)+2)<=2305843009213693952) (h2:0<=l) (h3:l+1+(k:Int)<=100000) (hR:Rep w (some ⟨b,o,none⟩) b o cap xs) (hxl:xs.length=n) (hd:ao xs) (hR':Rep w gb b' o' cap' ys) (hyl:ys.length=k) (hd':ao ys)
  (hq:q<=16384) (hb:BI w gm gt gk ge g s l m T (jq k) P0 PB BP Bs Bn base vb vs k n (af ys) xs pre W) (x:Nat) (hp:pre.length<q):
  Calls Tryz.prog 84 #[.pointer (some ⟨gm,0,none⟩),f9 b o n k x,.slice gb k cap'] W fun e W2=>∃ r,e=.returned r/\TD w gm gt gk ge g s l m T (jq k) k n (af ys) xs pre x W r W2:=by
 obtain⟨m1,E,q1,q2⟩:=hb.eng
 have r1:=Ed (hE.rep hb.out hR) k x
 have r2:=hE.rep hb.out hR'
 rw[hxl]at r1
 have hc:=Az T k n hk pre
 have hc2:pre.length*2147483648<=16384*2147483648:=Nat.mul_le_mul_right _ (by omega)
 have hcl:(du xs k x).length=min k (n-k*x):=by rw[fE,hxl]
 refine(IH W gm gt gk ge g _ _ _ T _ gb b _ _ _ b' o' cap' k (du xs k x) ys E (hE.tb hb.out hT) (by omega) (by omega) (by omega) (by omega) hcl r1 (q8 hd k x) hyl r2 hd' (by omega) (Nat.le_refl _)).mono ?_
 rintro e W2 ⟨r,m2,rfl,nr,E2,q3,q4,oo⟩
 have e1:max (min k (n-k*x)) k=k:=by omega
 have e2:min (min k (n-k*x)) k=min k (n-k*x):=by omega
 rw[e1]at q4
 rw[e1,e2]at E2
 refine⟨r,rfl,nr.mono hb.out.size,⟨m2,?_,by omega,by omega⟩,oo⟩
 rw[rO,Int.natCast_add, <-Int.add_assoc]
 exact E2
theorem BI.drew{w W:World}{gm gt gk ge g:Nat}{s l m:Int}{T:Tab}{L P0 PB BP Bs Bn base:Nat}{vb vs:Value}{k n C:Nat}{xs pre:List Nat}(hE:aC w gm gt gk ge g s l m T)(hb:w.heap.size<=base)(h:BI w gm gt gk ge g s l m T L P0 PB BP Bs Bn base vb vs k n C xs pre W):BI w gm gt gk ge g s l m T L P0 PB BP Bs Bn base vb vs k n C xs pre W.drew:=
 BI.own hE hb pre W W.drew none h (grown_drew W) (fun r e=>by cases e)
theorem J0{W:World}{g B:Nat}{t:TypeId}{zs:List Nat}{v:Value}(h:aB W g zs)(k:Boxed W B t v)(ht:t≠41):g≠B:=by
 rintro rfl
 have:=(show W.heap[g]?=_ from h).symm.trans k
 simp at this
 exact ht this.2.symm
theorem BI.done{w W W2 w1:World}{gm gt gk ge g:Nat}{s l m:Int}{T:Tab}{L P0 PB BP Bs Bn base:Nat}{vb vs v v' r:Value}{k n C x:Nat}{xs pre:List Nat}{us:List Value}{tmp:Obj}(hE:aC w gm gt gk ge g s l m T)(hb:w.heap.size<=base)
  (h0:w.heap.size<=P0/\P0<base) (h1:w.heap.size<=PB/\PB<base) (h2:w.heap.size<=BP/\BP<base) (h3:w.heap.size<=Bs/\Bs<base) (h4:w.heap.size<=Bn/\Bn<base) (n0:P0≠BP) (n1:PB≠BP) (n3:Bs≠BP) (n4:Bn≠BP)
  (h:BI w gm gt gk ge g s l m T L P0 PB BP Bs Bn base vb vs k n C xs pre W) (t:TD w gm gt gk ge g s l m T L k n C xs pre x W.drew r W2)
  (hbs:base<=W.heap.size) (b1:Boxed W BP 113 v) (b2:W.ownsRow base 29 1 v pre.length us) (b3:PR w.heap.size W us (pre.map fun j=>af (du xs k j)*C))
  (hown:w1.ownsRow base 29 1 v' (pre.length+1) (us++[r])) (hgrow:(W2.alloc tmp).grownBy w1 v.ownBlock):
  Boxed w1 BP 113 v/\(Boxed w1 P0 84 (.pointer (some ⟨gm,0,none⟩))/\Boxed w1 PB 29 vb)/\KeepsFrom base W (w1.setCell ⟨BP,0,none⟩ v')/\kH Bs Bn W (w1.setCell ⟨BP,0,none⟩ v')/\BI w gm gt gk ge g s l m T L P0 PB BP Bs Bn base vb vs k n C xs (pre++[x]) (w1.setCell ⟨BP,0,none⟩ v'):=by
 obtain⟨nr,⟨m1,E,q1,q2⟩,oo⟩:=t
 have hd:=h.drew hE hb
 obtain⟨cE,cB,cS,cN,co,cp⟩:=BI.called hE.met.lt hb h0.1 h1.1 h2.1 h3.1 h4.1 hd oo
 obtain⟨d1,d2,d3⟩:=cp v us b1 (by exact b2.kept (grown_drew W) (by rcases b2.2 with⟨rfl,_⟩|⟨g',cap,cur,rfl,_⟩;exact .inl rfl;exact .inr (by simp[Value.ownBlock]))) (b3.turn (fun _ _ _=>rfl))
 have hg:=hE.met.lt
 have hal:W2.grownBy (W2.alloc tmp) none:=World.grownBy_alloc W2 tmp none
 have d2':=d2.alloc tmp
 -- the row's own block
 have hob:∀ j,v.ownBlock=some j->base<=j/\∃ cur:Array Value,(W2.alloc tmp).heap[j]?=some (.cells cur 29 (0,0)):=fun j ej=>by
  rcases d2'.2 with⟨rfl,_⟩|⟨g',cap,cur,rfl,hb',hgb,_⟩
  ·simp[Value.ownBlock]at ej
  ·obtain rfl:g'=j:=by simpa [Value.ownBlock]using ej
   exact⟨hb',cur,hgb⟩
 have low:∀ j,j<base->some j≠v.ownBlock:=fun j hj e=>by have:=(hob j e.symm).1;omega
 have hsz2:base<=W2.heap.size:=Nat.le_trans hbs oo.size
 -- W2 to w1
 have k1:∀ j,j<base->w1.heap[j]?=W2.heap[j]?:=fun j hj=>(hgrow.block j (by simp;omega) (low j hj)).trans (hal.block j (by omega) (by simp))
 have kB:∀ g' zs,aB W2 g' zs->w1.heap[g']?=W2.heap[g']?:=fun g' zs hz=>(hgrow.block g' (by have:=hz.lt;simp;omega) (fun e=>by
   obtain⟨_,cur,hc⟩:=hob g' e.symm
   have:=hc.symm.trans ((hal.block g' hz.lt (by simp)).trans hz)
   simp at this)).trans (hal.block g' hz.lt (by simp))
 have f1:Boxed w1 BP 113 v:=(k1 BP h2.2).trans d1
 have f2:Boxed w1 P0 84 (.pointer (some ⟨gm,0,none⟩)):=(k1 P0 h0.2).trans cE
 have f3:Boxed w1 PB 29 vb:=(k1 PB h1.2).trans cB
 have f4:Boxed w1 Bs 29 vs:=(k1 Bs h3.2).trans cS
 have f5:Boxed w1 Bn 3 (.int .i64 (k:Int)):=(k1 Bn h4.2).trans cN
 have f6:=(d3.turn kB).snoc (nr.turn kB)
 have hset:∀ j,j≠BP->(w1.setCell ⟨BP,0,none⟩ v').heap[j]?=w1.heap[j]?:=fun j hj=>heap_setCell_other w1 ⟨BP,0,none⟩ j v' hj
 have hgs:=grownBy_setCell' w1 BP v'
 have o1:Out (fun j=>w.heap.size<=j) W2 w1:=⟨hgrow.os.trans hal.os,hgrow.tape.trans hal.tape,hgrow.output.trans hal.output,Nat.le_trans hal.size hgrow.size,fun j _ hn=>k1 j (by omega)⟩
 have o2:Out (fun j=>w.heap.size<=j) w1 (w1.setCell ⟨BP,0,none⟩ v'):=⟨hgs.os,hgs.tape,hgs.output,hgs.size,fun j _ hn=>hset j (by omega)⟩
 have o3:=o1.trans o2
 have g4:Boxed (w1.setCell ⟨BP,0,none⟩ v') Bs 29 vs:=(hset Bs n3).trans f4
 have g5:Boxed (w1.setCell ⟨BP,0,none⟩ v') Bn 3 (.int .i64 (k:Int)):=(hset Bn n4).trans f5
 refine⟨f1,⟨f2,f3⟩,?_,⟨g4.cell.trans h.bS.cell.symm,g5.cell.trans h.bN.cell.symm⟩,⟨m1,hE.far E o3,q1,q2⟩,(hset P0 n0).trans f2,(hset PB n1).trans f3,g4,g5,⟨v',us++[r],Boxed.set v' f1,?_,?_⟩,co.fresh o3 (fun i hi=>Or.inr hi)⟩
 ·obtain⟨_,E0,_⟩:=hd.eng
  have k0:KeepsFrom base W.drew W2:=DO oo E0.met.c0
  have k2:KeepsFrom base W2 (w1.setCell ⟨BP,0,none⟩ v'):=⟨o3.size,fun j ob hB hj ho=>(hset j (by omega)).trans ((hgrow.block j (by have:=(Array.getElem?_eq_some_iff.1 hj).1;simp;omega) (fun e=>by
    obtain⟨_,cur,hc⟩:=hob j e.symm
    have:=hc.symm.trans ((hal.block j (Array.getElem?_eq_some_iff.1 hj).1 (by simp)).trans hj)
    cases Option.some.inj this
    cases ho)).trans ((hal.block j (Array.getElem?_eq_some_iff.1 hj).1 (by simp)).trans hj))⟩
  have k00:KeepsFrom base W W.drew:=⟨Nat.le_refl _,fun _ _ _ hk _=>hk⟩
  exact(k00.trans k0).trans k2
 ·rw[List.length_append,List.length_singleton]
  refine hown.kept hgs ?_
  rcases hown.2 with⟨rfl,_⟩|⟨g',cap,cur,rfl,hb',hgb,_⟩
  ·exact .inl rfl
  ·refine .inr fun e'=>?_
   have:g'=BP:=by simpa [Value.ownBlock]using e'
   omega
 ·rw[List.map_append,List.map_singleton]
  exact f6.turn (fun g' zs hz=>hset g' (J0 hz f1 (by decide)))
end Go.Proofs.YtgcnhfgpflncaaaGreatDoor
/- blocks:one round,with its append. -/
namespace Go.Proofs.YtgcnhfgpflncaaaGreatDoor
open Go.RowKit Go.Shelf
theorem BI.round{w W:World}{gm gt gk ge g:Nat}{s l m:Int}{T:Tab}{L P0 PB BP Bs Bn base:Nat}{vb vs:Value}{gv:Option Addr}{k n C x cv:Nat}{xs pre:List Nat}{us:List Value}(hE:aC w gm gt gk ge g s l m T)(hb:w.heap.size<=base)
  (h0:w.heap.size<=P0/\P0<base) (h1:w.heap.size<=PB/\PB<base) (h2:w.heap.size<=BP/\BP<base) (h3:w.heap.size<=Bs/\Bs<base) (h4:w.heap.size<=Bn/\Bn<base) (n0:P0≠BP) (n1:PB≠BP) (n3:Bs≠BP) (n4:Bn≠BP)
  (h:BI w gm gt gk ge g s l m T L P0 PB BP Bs Bn base vb vs k n C xs pre W) (hbs:base<=W.heap.size) (hp:pre.length<=16384)
  (b1:Boxed W BP 113 (.slice gv pre.length cv)) (b2:W.ownsRow base 29 1 (.slice gv pre.length cv) pre.length us) (b3:PR w.heap.size W us (pre.map fun j=>af (du xs k j)*C))
  (W2:World) (ra:Option Addr) (rl rc:Nat) (t:TD w gm gt gk ge g s l m T L k n C xs pre x W.drew (.slice ra rl rc) W2):
  ∃ w1 g1 c1,(Builtin.append_ #[113,113] 113 #[.slice gv pre.length cv,.slice (some ⟨W2.heap.size,0,none⟩) 1 1]).run Tryz.prog (W2.alloc (.cells #[.slice ra rl rc] 29))=.ok (.slice (some ⟨g1,0,none⟩) (pre.length+1) c1) w1/\
   w1.cell? ⟨BP,0,none⟩=some (.slice gv pre.length cv)/\w1.frozen? ⟨BP,0,none⟩=false/\(w1.cell? ⟨P0,0,none⟩=some (.pointer (some ⟨gm,0,none⟩))/\w1.cell? ⟨PB,0,none⟩=some vb)/\W2.cell? ⟨P0,0,none⟩=some (.pointer (some ⟨gm,0,none⟩))/\W2.cell? ⟨PB,0,none⟩=some vb/\W2.cell? ⟨BP,0,none⟩=some (.slice gv pre.length cv)/\
   Hid (KeepsFrom base W (w1.setCell ⟨BP,0,none⟩ (.slice (some ⟨g1,0,none⟩) (pre.length+1) c1))/\kH Bs Bn W (w1.setCell ⟨BP,0,none⟩ (.slice (some ⟨g1,0,none⟩) (pre.length+1) c1))/\BI w gm gt gk ge g s l m T L P0 PB BP Bs Bn base vb vs k n C xs (pre++[x]) (w1.setCell ⟨BP,0,none⟩ (.slice (some ⟨g1,0,none⟩) (pre.length+1) c1))):=by
 obtain⟨i0,hi,hz0,hz1,hz2⟩:=s9 Tryz.infoNt
 have hd:=h.drew hE hb
 obtain⟨cE,cB,cS,cN,co,cp⟩:=BI.called hE.met.lt hb h0.1 h1.1 h2.1 h3.1 h4.1 hd t.2.2
 obtain⟨d1,d2,d3⟩:=cp _ us b1 b2 (b3.turn (fun _ _ _=>rfl))
 have hsz2:base<=W2.heap.size:=Nat.le_trans hbs t.2.2.size
 obtain⟨v',w1,hrun,hown,hgrow,_⟩:=run_append_own (P:=Tryz.prog) (W2.alloc (.cells #[.slice ra rl rc] 29)) base 113 113 29 i0 (.slice none 0 0) 1 24 Tryz.underlying113 hi hz0 hz1 hz2 rfl (by omega) (.slice gv pre.length cv) pre.length us (d2.alloc _) ⟨W2.heap.size,0,none⟩ 1 1 [.slice ra rl rc] rfl
  (by exact aZ W2 [.slice ra rl rc] 29) (by intro u hu;simp at hu;subst hu;rfl) (by unfold maxLen;omega) (by omega) (by simp;omega)
 obtain⟨f1,⟨f5,f6⟩,f2,f3,f4⟩:=BI.done hE hb h0 h1 h2 h3 h4 n0 n1 n3 n4 h t hbs b1 b2 b3 hown hgrow
 obtain⟨g1,c1,rfl⟩:=ownsRow_succ hown
 exact⟨w1,g1,c1,hrun,f1.cell,f1.frozen,⟨f5.cell,f6.cell⟩,cE.cell,cB.cell,d1.cell,f2,f3,f4⟩
end Go.Proofs.YtgcnhfgpflncaaaGreatDoor
/- blocks:the way out. -/
namespace Go.Proofs.YtgcnhfgpflncaaaGreatDoor
open Go.RowKit Go.Shelf
set_option maxHeartbeats 800000 in
theorem rp{w:World}{g o:Nat}{s l m:Int}(n:Nat)(k:Int)(u:FrameMode)(h:Met w g o s l m)(hk:k=max (l-1) 0)(h1:0<=l)(h2:l<=9223372036854775807):
  CallsDIn Fence.wide n Tryz.prog 123 #[.pointer (some ⟨g,o,none⟩)] u w fun e u' w'=>u'=u/\(e=.returned (.int .i64 k)/\Met w' g o s k m/\Touch g o 3 w w'):=by
 have H:=hide h
 obtain⟨c0,c1,c2,f0,f1,f2⟩:=h
 have e:max (l-1) 0=k:=hk.symm
 clear hk
 refine callsDIn_of_wp Tryz.func123 rfl trivial ?_
 simp only[Tryz.ntmps123,List.size_toArray,List.length_cons,List.length_nil,Nat.reduceAdd,Nat.reduceSub,Array.replicate_succ,Array.replicate_zero,List.push_toArray,List.append_toArray,List.nil_append,List.cons_append]
 gi_wp2
 go_ret
 exact⟨rfl,(ae H).set1 _,Touch.set g o 3 1 w _ (by omega)⟩
theorem BI.parts{w W:World}{gm gt gk ge g:Nat}{s l m:Int}{T:Tab}{L P0 PB BP Bs Bn base:Nat}{vb vs:Value}{k n q:Nat}{xs ys:List Nat}(hd:ao xs)(hd':ao ys)(hyl:ys.length=k)(hk:k<=16384)(h:BI w gm gt gk ge g s l m T L P0 PB BP Bs Bn base vb vs k n (af ys) xs (List.range q) W):
  ∃ gv bv cv us,Boxed W BP 113 (.slice gv q cv)/\us.length=q/\ju W gv bv 0 us ((List.range q).map fun j=>af (du xs k j)*af ys):=by
 obtain⟨v,us,p1,p2,p3⟩:=h.prod
 rw[List.length_range]at p2
 obtain⟨gv,bv,cv,rfl,hl,hh,hc⟩:=mY p2
 refine⟨gv,bv,cv,us,p1,hl,fun h0=>(hh (by omega)).1,p3.1,fun j hj=>?_,fun j hj=>?_⟩
 ·exact hc j (by omega)
 ·refine(p3.2 j hj).toIn (p:=k+k) ?_ (by omega)
  have e:((List.range q).map fun j=>af (du xs k j)*af ys).getD j 0=af (du xs k j)*af ys:=by
   have:j<q:=by omega
   simp[List.getD_eq_getElem?_getD,List.getElem?_range this]
  rw[e,Nat.pow_add]
  have a1:=ak (q8 hd k j)
  have a2:=ak hd'
  rw[hyl]at a2
  refine Nat.mul_lt_mul'' (fB a1 ?_) a2
  rw[fE];omega
theorem oU{xs:List Nat}{k q C:Nat}(h1:xs.length<=k*q)(h2:k*q<xs.length+k):dV k ((List.range q).map fun j=>af (du xs k j)*C) q=af xs*C:=by
 rw[nH (xs:=xs) (C:=C) (fun j hj=>by simp[List.getD_eq_getElem?_getD,List.getElem?_range hj]) (fun j hj=>?_) q (Nat.le_refl _),aK _ _ h1]
 have:k*(j+1)<=k*q:=Nat.mul_le_mul_left k hj
 rw[Nat.mul_succ]at this
 omega
theorem BI.six{w W W5:World}{gm gt gk ge g:Nat}{s l m:Int}{T:Tab}{L P0 PB BP Bs Bn base D:Nat}{vb vs r:Value}{k n q C P:Nat}{xs:List Nat}(ob:Obj)(hE:aC w gm gt gk ge g s l m T)
  (h:BI w gm gt gk ge g s l m T L P0 PB BP Bs Bn base vb vs k n C xs (List.range q) W) (hb:w.heap.size<=base) (hD:base<=D) (hK:W5.heap[D]?=some (.deferred (some []))) (b5:Below W.heap.size W W5) (nr:ah W.heap.size W5 r P):
  ∃ m1:Int,aC (W5.putObj D ob) gm gt gk ge g (s+(nU T.B T.D T.N n k q:Nat)) (l+1) m1 T/\max m (l+1)<=m1/\m1<=max m (l+1+(L:Nat))/\ah W.heap.size (W5.putObj D ob) r P/\Out (·=g) w (W5.putObj D ob):=by
 obtain⟨m1,E,q1,q2⟩:=h.eng
 rw[pJ]at E
 have hp:∀ j,j≠D->(W5.putObj D ob).heap[j]?=W5.heap[j]?:=fun j hj=>World.putObj_heap_other hj
 have hg:=grownBy_putObj' W5 D ob
 have far:Out (fun j=>w.heap.size<=j) W5 (W5.putObj D ob):=⟨hg.os,hg.tape,hg.output,hg.size,fun j _ hn=>hp j (by omega)⟩
 refine⟨m1,hE.far (E.next b5) far,q1,q2,nr.turn (fun g' zs hz=>hp g' (fun e=>?_)),(h.out.next b5).fresh far (fun i hi=>Or.inr hi)⟩
 subst e
 have:=(show W5.heap[g']?=_ from hz).symm.trans hK
 simp at this
theorem vJ{w W6 W7:World}{gm gt gk ge g:Nat}{s l m m1:Int}{T:Tab}{B L C P:Nat}{r:Value}(hE:aC w gm gt gk ge g s l m T)(E6:aC W6 gm gt gk ge g (s+(C:Nat)) (l+1) m1 T)(q1:max m (l+1)<=m1)(q2:m1<=max m (l+1+(L:Nat)))(nr:ah B W6 r P)(hB:w.heap.size<=B)(o6:Out (·=g) w W6)
  (M7:Met W7 g 0 (s+(C:Nat)) l m1) (T7:Touch g 0 3 W6 W7):bu w gm gt gk ge g s l m T P C (L+1) r W7:=by
 have o7:=Out.of_grown T7.grown
 have hg:=hE.met.lt
 exact⟨m1,(o7.newW nr (fun k e=>by rw[e];omega)).mono hB,E6.step M7 T7,by omega,by omega,o6.trans o7⟩
end Go.Proofs.YtgcnhfgpflncaaaGreatDoor
