/- byMany of divs: what holds between two words of the quotient. -/
import Derived.Test.YtgcnhfgpflncaaaGreatDoorB39
import Derived.Test.YtgcnhfgpflncaaaGreatDoorB18
import Derived.Test.YtgcnhfgpflncaaaGreatDoorB33
namespace Go.Proofs.YtgcnhfgpflncaaaGreatDoor
open Go.RowKit Go.Shelf
theorem cQ{W W':World}{B:Nat}{t:TypeId}{v:Value}(h:Boxed W B t v)(b:Below W.heap.size W W'):Boxed W' B t v:=(b.block B h.lt).trans h
theorem cq{D:Nat->Prop}{W W':World}{B:Nat}{t:TypeId}{v:Value}(h:Boxed W B t v)(o:Out D W W')(hd:¬D B):Boxed W' B t v:=(o.block B h.lt hd).trans h
structure QI(WB:World)(PR PQ N n1 M D:Nat)(z0:List Nat)(pre:List (Fin N×Nat))(W:World):Prop where
 out:Out (fun j=>j=PR\/j=PQ) WB W
 rows:∃ zs qs,aB W PR zs/\zs.length=n1/\ao zs/\aB W PQ qs/\qs.length=N/\ao qs/\(Down N pre->yf z0 zs qs M (N-pre.length) D)
theorem DL{D:Nat->Prop}{a b c:World}{row:Option Nat}(h:Out D a b)(g:b.grownBy c row)(hr:∀ r,row=some r->a.heap.size<=r):Out D a c:=
 ⟨g.os.trans h.os,g.tape.trans h.tape,g.output.trans h.output,Nat.le_trans h.size g.size,fun i hi hn=>(g.block i (Nat.lt_of_lt_of_le hi h.size) (fun e=>by have:=hr i e.symm;omega)).trans (h.block i hi hn)⟩
theorem QI.own{WB:World}{PR PQ N n1 M D:Nat}{z0:List Nat}(h1:PR<WB.heap.size)(h2:PQ<WB.heap.size):OwnFrom WB.heap.size (QI WB PR PQ N n1 M D z0):=fun pre A B row hs hg hr=>by
 obtain⟨o,zs,qs,k1,l1,d1,k2,l2,d2,hq⟩:=hs
 exact⟨DL o hg (fun r e=>(hr r e).1),zs,qs,(hg.block PR k1.lt (fun e=>by have:=(hr PR e.symm).1;omega)).trans k1,l1,d1,(hg.block PQ k2.lt (fun e=>by have:=(hr PQ e.symm).1;omega)).trans k2,l2,d2,hq⟩
theorem Ir{D:Nat->Prop}{a b:World}(h:Out D a.drew b):Out D a b:=⟨h.os,h.tape,h.output,h.size,h.block⟩
theorem QI.step{WB W W2:World}{PR PQ Bs N n1 M D:Nat}{z0:List Nat}{pre:List (Fin N×Nat)}{x:Fin N×Nat}{zs qs:List Nat}{e:Ending}(h1:PR<WB.heap.size)(h2:PQ<WB.heap.size)(hB:Bs<WB.heap.size)(h3:PR≠PQ)(hB1:Bs≠PR)(hB2:Bs≠PQ)(hz0:z0.length=n1)(hD:0<D)(hN:N<n1)
  (o:Out (fun j=>j=PR\/j=PQ) WB W) (k1:aB W PR zs) (l1:zs.length=n1) (d1:ao zs) (k2:aB W PQ qs) (l2:qs.length=N) (d2:ao qs) (hq:Down N pre->yf z0 zs qs M (N-pre.length) D)
  (hT:zP W.drew PR x.1.1 M D zs e W2):
  ∃ q:Nat,e=.returned (.int .u64 (q:Int))/\q<18446744073709551616/\Out (·=PR) W W2/\W2.cell? ⟨PQ,x.1.1,none⟩=some (.int .u64 ((qs.getD x.1.1 0:Nat):Int))/\W2.frozen? ⟨PQ,x.1.1,none⟩=false/\
   (KeepsFrom WB.heap.size W (W2.setCell ⟨PQ,x.1.1,none⟩ (.int .u64 (q:Int)))/\lG Bs PQ N W (W2.setCell ⟨PQ,x.1.1,none⟩ (.int .u64 (q:Int)))/\QI WB PR PQ N n1 M D z0 (pre++[x]) (W2.setCell ⟨PQ,x.1.1,none⟩ (.int .u64 (q:Int)))):=by
 obtain⟨q,zs',rfl,hq64,hs,dz',hk',hO,hA⟩:=hT
 have hx:=x.1.2
 replace hO:=Ir hO
 have k2':=hO.blk k2 (by show ¬PQ=PR;omega)
 have oo:Out (fun j=>j=PR\/j=PQ) W (W2.setCell ⟨PQ,x.1.1,none⟩ (.int .u64 (q:Int))):=(hO.mono (fun k hk=>Or.inl hk)).trans ((Out.of_grown (aj _ _ _ _)).mono (fun k hk=>Or.inr hk))
 refine⟨q,rfl,hq64,hO,k2'.cell _ (by omega),k2'.frozen _,⟨oo.size,fun k ob hk h0 _=>?_⟩,⟨?_,?_⟩,⟨o.trans oo,zs',qs.set x.1.1 q,?_,by rw[hs.1,l1],dz',k2'.set _ q,by simpa using l2,bG d2 (by omega) hq64,fun hd=>?_⟩⟩
 ·refine(oo.block k (Array.getElem?_eq_some_iff.1 h0).1 (fun hk=>?_)).trans h0
  rcases hk with rfl|rfl<;>omega
 ·exact World.cell?_of_block (a:=⟨Bs,0,none⟩) (oo.block Bs (Nat.lt_of_lt_of_le hB o.size) (fun hk=>by rcases hk with hk|hk;exact hB1 hk;exact hB2 hk))
 ·exact fun _=>⟨qs.set x.1.1 q,by simpa using l2,k2'.set _ q⟩
 ·exact(heap_setCell_other _ _ _ _ (fun e=>h3 e)).trans hk'
 ·obtain⟨hp,hi⟩:=BH hd
  have h:=hq hp
  rw[show N-pre.length=x.1.1+1 by omega]at h
  obtain⟨t1,t2⟩:=hA (IC h (by omega) d1)
  rw[List.length_append,List.length_singleton,show N-(pre.length+1)=x.1.1 by omega]
  exact Ly h (by rw[l1,hz0]) (by omega) (by omega) hD (fun j hj=>hs.2 j (Or.inl hj)) t1 t2
theorem Lp(W:World)(P0 D:Nat)(v:Value)(o:Obj):Out (fun j=>j=P0\/j=D) W ((W.setCell ⟨P0,0,none⟩ v).putObj D o):=
 ((Out.of_grown (aj _ _ _ _)).mono (fun _ h=>Or.inl h)).trans ((Out.of_grown (grownBy_putObj' _ D o)).mono (fun _ h=>Or.inr h))
theorem Ij{w:World}{g:Nat}{zs:List Nat}{l n A:Nat}(h:aB w g zs)(hd:ao zs)(hl:zs.length=n)(hn:n<=1099511627776)(e:l=bY zs n)(hA:af zs=A):aS g (g+1) w (.slice (some ⟨g,0,none⟩) l n) A:=by
 subst hl e hA
 refine⟨mX zs,dB hd,cX zs,Or.inr ⟨g,zs.drop (bY zs zs.length),Nat.le_refl _,by omega,?_,?_,?_⟩⟩
 ·rw[aI];congr 1;unfold mX;rw[List.take_append_drop]
 ·unfold mX;rw[List.take_append_drop];exact h
 ·rw[aI];have:=bo zs zs.length;simp;omega
theorem cF{B:Nat}{w:World}{v:Value}{n:Nat}(h:ah B w v n):∃ g,B<=g/\aS g (g+1) w v n:=by
 obtain⟨xs,hc,hv,h|⟨g,ys,hg,rfl,hk,hl⟩⟩:=h
 ·exact⟨B,Nat.le_refl _,xs,hc,hv,Or.inl h⟩
 ·exact⟨g,hg,xs,hc,hv,Or.inr ⟨g,ys,Nat.le_refl _,by omega,rfl,hk,hl⟩⟩
end Go.Proofs.YtgcnhfgpflncaaaGreatDoor
