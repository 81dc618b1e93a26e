import Derived.Test.YtkdmippllpekfaaGreatDoorB20
import Derived.RangeFuncBox
namespace Go.Proofs.YtkdmippllpekfaaGreatDoor
open Go.RowKit
variable{xs:List Nat}{us:List Value}{base bytes n:Nat}{u v z:Value}{W:World}
theorem Jq{ts te:TypeId}{i0:TypeInfo}(hty:Tryz.prog.underlying ts=some (.slice te))(hi:Tryz.prog.info? te=some i0)(jx:i0.zero=some z)(gY:i0.size=1)(fX:i0.bytes=bytes)(Np:z.cells.size=1)(hb8:bytes<=8)(htt:ts≠te){PB:Nat}(hv:Boxed W PB ts v)(ho:W.ownsRow base te 1 v n us)(hn:n<=1000000)(hu:u.oneCell'=true)(hb:base<=W.heap.size):∃v' w1,(Builtin.append_ #[ts,ts] ts #[v,.slice (some ⟨W.heap.size,0,none⟩) 1 1]).run Tryz.prog (W.alloc (.cells #[u] te))=.ok v' w1/\w1.cell? ⟨PB,0,none⟩=some v/\w1.frozen? ⟨PB,0,none⟩=false/\Boxed (w1.setCell ⟨PB,0,none⟩ v') PB ts v'/\(w1.setCell ⟨PB,0,none⟩ v').ownsRow base te 1 v' (n+1) (us++[u])/\(∀(j:Nat) (o:Obj),W.heap[j]?=some o->(j<base\/∀cur,o≠ .cells cur te (0,0))->j≠PB->(w1.setCell ⟨PB,0,none⟩ v').heap[j]?=some o)/\Out (fun j=>base<=j\/j=PB) W (w1.setCell ⟨PB,0,none⟩ v')/\(∃ga la ca,v'=.slice ga la ca)/\Boxed w1 PB ts v:=by
 obtain⟨v',w1,ir,cV,ji,_⟩:=abw (P:=Tryz.prog) (W.alloc (.cells #[u] te)) base ts ts te i0 z 1 bytes hty hi jx gY fX Np (by omega) v n us (ho.alloc _) ⟨W.heap.size,0,none⟩ 1 1 [u] rfl
  (by exact fU W [u] te) (by intro x hx;simp at hx;subst hx;exact hu) (by unfold maxLen;omega) (by have:(n+1)*bytes<=(n+1)*8:=au _ hb8;omega) (by rw[aL];omega)
 have hvb:∀j,v.ownBlock=some j->base<=j/\∃cur:Array Value,W.heap[j]?=some (.cells cur te (0,0)):=fun j ej=>by
  rcases ho.2 with⟨e,_⟩|⟨g',bM,cur,e,Pm,yQ,_⟩
  ·rw[e]at ej;simp[Value.ownBlock]at ej
  ·rw[e]at ej;obtain rfl:g'=j:=(by simpa [Value.ownBlock]using ej);exact⟨Pm,cur,yQ⟩
 have sz:W.heap.size<w1.heap.size:=by have:=ji.size;rw[aL]at this;exact this
 have K:∀(j:Nat) (o:Obj),W.heap[j]?=some o->(j<base\/∀cur,o≠ .cells cur te (0,0))->w1.heap[j]?=some o:=fun j o hj hc=>by
  have hl:=(ah.1 hj).1;refine(ji.block j (by rw[aL];omega) (fun e=>?_)).trans (((nI W _ none).block j hl (by simp)).trans hj);obtain⟨h1,cur,h2⟩:=hvb j e.symm;rcases hc with hc|hc
  ·omega
  ·rw[h2]at hj;exact hc cur (aZ hj).symm
 have tE:Boxed w1 PB ts v:=K PB _ hv (Or.inr (fun cur e=>by
  injection e with e1 e2
  exact htt e2))
 obtain⟨g1,c1,rfl⟩:=ownsRow_succ cV;have Po:∃cur,w1.heap[g1]?=some (.cells cur te (0,0)):=by
  rcases cV.2 with⟨e,_⟩|⟨g',bM,cur,e,_,h,_⟩
  ·cases e
  ·cases e;exact⟨cur,h⟩
 have hne:PB≠g1:=fun e=>by obtain⟨cur,h⟩:=Po;subst e;have:=(show w1.heap[PB]?=_ from tE).symm.trans h;simp at this;exact htt this.2
 refine⟨_,w1,ir,tE.cell,tE.frozen,tE.set _,⟨cV.1,?_⟩,fun j o hj hc hp=>(bo _ _ _ _ hp).trans (K j o hj hc),⟨ji.os,ji.tape,ji.output,by rw[show(w1.setCell ⟨PB,0,none⟩ (.slice (some ⟨g1,0,none⟩) (n+1) c1)).heap.size=w1.heap.size by simp];omega,fun j hj hn=>?_⟩,⟨_,_,_,rfl⟩,tE⟩
 ·rcases cV.2 with⟨e,_⟩|⟨g',bM,cur,e,h1,h2,h3⟩
  ·cases e
  ·cases e;exact Or.inr ⟨_,_,cur,rfl,h1,(bo _ _ _ _ (Ne.symm hne)).trans h2,h3⟩
 ·have xz:W.heap[j]?=some W.heap[j]:=fp hj;exact((bo _ _ _ _ (fun e=>hn (Or.inr e))).trans (K j _ xz (Or.inl (by omega)))).trans xz.symm
theorem OQ{ts te:TypeId}{i0:TypeInfo}(hty:Tryz.prog.underlying ts=some (.slice te))(hi:Tryz.prog.info? te=some i0)(jx:i0.zero=some z)(gY:i0.size=1)(fX:i0.bytes=bytes)(Np:z.cells.size=1)(hb8:bytes<=8)(htt:ts≠te){PB:Nat}(hv:Boxed W PB ts v)(ho:W.ownsRow base te 1 v n us)(hn:n<=1000000)(hu:u.oneCell'=true)(hb:base<=W.heap.size):∃v' w1,(Builtin.append_ #[ts,ts] ts #[v,.slice (some ⟨W.heap.size,0,none⟩) 1 1]).run Tryz.prog (W.alloc (.cells #[u] te))=.ok v' w1/\w1.cell? ⟨PB,0,none⟩=some v/\w1.frozen? ⟨PB,0,none⟩=false/\Boxed (w1.setCell ⟨PB,0,none⟩ v') PB ts v'/\(w1.setCell ⟨PB,0,none⟩ v').ownsRow base te 1 v' (n+1) (us++[u])/\(∀(j:Nat) (o:Obj),W.heap[j]?=some o->(j<base\/∀cur,o≠ .cells cur te (0,0))->j≠PB->(w1.setCell ⟨PB,0,none⟩ v').heap[j]?=some o)/\Out (fun j=>base<=j\/j=PB) W (w1.setCell ⟨PB,0,none⟩ v')/\(∃ga la ca,v'=.slice ga la ca):=by
 obtain⟨v',w1,h1,h2,h3,h4,h5,h6,h7,h8,_⟩:=Jq hty hi jx gY fX Np hb8 htt hv ho hn hu hb;exact⟨v',w1,h1,h2,h3,h4,h5,h6,h7,h8⟩
def pZ(W:World)(base:Nat)(v:Value)(n:Nat)(xs:List Nat):Prop:=xs.length=n/\((v=.slice none 0 0/\n=0)\/∃g ys,base<=g/\v=.slice (some ⟨g,0,none⟩) n (xs++ys).length/\cW W g (xs++ys)/\(xs++ys).length<=maxLen)
theorem pZ.owns(h:pZ W base v n xs):W.ownsRow base 47 1 v n (cellsOf xs):=by
 obtain⟨hl,h⟩:=h;refine⟨by simp[hl],?_⟩;rcases h with⟨rfl,rfl⟩|⟨g,ys,hb,rfl,hk,hm⟩
 ·exact Or.inl ⟨rfl,rfl⟩
 ·refine Or.inr ⟨g,_,_,rfl,hb,hk,by simp;omega,hm,by simp[cellsOf],?_⟩;simp[cellsOf, <-hl]
theorem LW(k:Nat):(Builtin.zeroCells (Value.int .u64 0).cells k).toList=cellsOf (List.replicate k 0):=by
 have h:(Value.int .u64 0).cells=#[.int .u64 0]:=rfl;rw[h];apply lO
 ·simp[Builtin.zeroCells,cellsOf]
 ·intro i h1 h2;simp[Builtin.zeroCells,cellsOf];rw[Nat.mod_one];rfl
theorem FT(n:Nat):Builtin.zeroCells (Value.int .u64 0).cells n=(cellsOf (List.replicate n 0)).toArray:=by apply Array.ext';rw[LW]
theorem OP{d:Nat}{v':Value}{w1:World}(h:pZ W base v n xs)(hn:n<=1000000)(hb:base<=W.heap.size)(ir:(Builtin.append_ #[24,24] 24 #[v,.slice (some ⟨W.heap.size,0,none⟩) 1 1]).run Tryz.prog (W.alloc (.cells #[.int .u64 (d:Int)] 47))=.ok v' w1):pZ w1 base v' (n+1) (xs++[d]):=by
 obtain⟨i0,hi,jx,gY,fX⟩:=fE Tryz.mf;obtain⟨hl,h⟩:=h;have Wo:∀j u,[Value.int .u64 (d:Int)][j]?=some u->(W.alloc (.cells #[.int .u64 (d:Int)] 47)).cell? ((⟨W.heap.size,0,none⟩:Addr).add j)=some u:=by exact fU W [.int .u64 (d:Int)] 47
 refine⟨by simp[hl],Or.inr ?_⟩;rcases h with⟨rfl,rfl⟩|⟨g,ys,hbg,rfl,hk,hm⟩
 ·obtain rfl:xs=[]:=eu hl;have hr:=run_append_nil (P:=Tryz.prog) (W.alloc (.cells #[.int .u64 (d:Int)] 47)) 24 24 47 i0 (.int .u64 0) bm hi jx ⟨W.heap.size,0,none⟩ 1 1 [.int .u64 (d:Int)] (by rw[gY];rfl) Wo (by omega) (by omega) (by rw[fX];omega);rw[hr]at ir;injection ir with e1 e2
  subst e1 e2;have pE:=grownCap_ge (W.alloc (.cells #[.int .u64 (d:Int)] 47)) 1 0 47;have hcm:=Me (W.alloc (.cells #[.int .u64 (d:Int)] 47)) 1 0 47 (by unfold maxLen;omega);generalize grownCap (W.alloc (.cells #[.int .u64 (d:Int)] 47)) 1 0 47=gc at *;refine⟨(W.alloc (.cells #[.int .u64 (d:Int)] 47)).heap.size,List.replicate (gc-1) 0,by rw[aL];omega,?_,?_,by simp;omega⟩
  ·rw[show([]++[d]++List.replicate (gc-1) 0:List Nat).length=gc by simp;omega]
  ·have:=aI (W.alloc (.cells #[.int .u64 (d:Int)] 47)).drew (.cells (#[Value.int .u64 (d:Int)]++Builtin.zeroCells (Value.int .u64 0).cells (gc-1)) 47);refine this.trans ?_;rw[FT];simp[cellsOf]
 ·by_cases jt:n+1<=(xs++ys).length
  ·obtain⟨y,zs,rfl⟩:∃y zs,ys=y :: zs:=by
    cases ys with
    |nil=>simp at jt;omega
    |cons y zs=>exact⟨y,zs,rfl⟩
   have sK:(W.alloc (.cells #[.int .u64 (d:Int)] 47)).heap[g]?=some (.cells (cellsOf (xs++y :: zs)).toArray 47 (0,0)):=hk.next ((aj _ _).alloc (af _) _);have hr:=run_append_room (P:=Tryz.prog) (W.alloc (.cells #[.int .u64 (d:Int)] 47)) 24 24 47 i0 bm hi g n (xs++y :: zs).length _ sK ⟨W.heap.size,0,none⟩ 1 1 [.int .u64 (d:Int)] (by rw[gY];rfl) Wo (by intro u hu;simp at hu;subst hu;rfl) jt (by rw[gY];simp[cellsOf];omega);rw[hr]at ir;injection ir with e1 e2
   subst e1 e2;refine⟨g,zs,hbg,by rw[show(xs++[d]++zs).length=(xs++y :: zs).length by simp],?_,by simp at hm ⊢;omega⟩;have h:=XW (W.alloc (.cells #[.int .u64 (d:Int)] 47)) g _ ((cellsOf (xs++y :: zs)).toArray.toList.take (n*i0.size)++[Value.int .u64 (d:Int)]++(cellsOf (xs++y :: zs)).toArray.toList.drop (n*i0.size+1)).toArray _ _ sK;refine h.trans ?_;rw[gY,dG];have e:(cellsOf (xs++y :: zs)).toArray.toList.take n++[Value.int .u64 (d:Int)]++(cellsOf (xs++y :: zs)).toArray.toList.drop (n+1)=cellsOf (xs++[d]++zs):=by have ea:(cellsOf (xs++y :: zs)).toArray.toList=cellsOf xs++(.int .u64 (y:Int) :: cellsOf zs):=(by simp[cellsOf]);have eb:(cellsOf xs).length=n:=(by simp[cellsOf,hl]);rw[ea, <-eb,AR,List.drop_length_add_append];simp[cellsOf]
   rw[e]
  ·have RP:ys=[]:=by
    cases ys with
    |nil=>rfl
    |cons y zs=>simp at jt;omega
   subst RP;rw[dU]at hk jt ir hm;have hr:=run_append_grow (P:=Tryz.prog) (W.alloc (.cells #[.int .u64 (d:Int)] 47)) 24 24 47 i0 (.int .u64 0) bm hi jx ⟨g,0,none⟩ n xs.length (cellsOf xs) (by rw[gY];simp[hl]) (fun j u hj=>by have Uj:j<xs.length:=(by simpa using (fq.1 hj).1);have h2:=(hk.next ((aj _ W).alloc (af _) (.cells #[.int .u64 (d:Int)] 47))).cell j Uj;rw[Ao,bh,h2, <-hj];simp[cellsOf,Uj]) ⟨W.heap.size,0,none⟩ 1 1 [.int .u64 (d:Int)] (by rw[gY];rfl) Wo (by omega) (by omega) (growslice_fits (by omega) (by rw[fX];omega));rw[hr]at ir;injection ir with e1 e2
   subst e1 e2;have pE:=grownCap_ge (W.alloc (.cells #[.int .u64 (d:Int)] 47)) (n+1) xs.length 47;have hcm:=Me (W.alloc (.cells #[.int .u64 (d:Int)] 47)) (n+1) xs.length 47 (by unfold maxLen;omega);generalize grownCap (W.alloc (.cells #[.int .u64 (d:Int)] 47)) (n+1) xs.length 47=gc at *;refine⟨(W.alloc (.cells #[.int .u64 (d:Int)] 47)).heap.size,List.replicate (gc-(n+1)) 0,by rw[aL];omega,?_,?_,by simp;omega⟩
   ·rw[show(xs++[d]++List.replicate (gc-(n+1)) 0:List Nat).length=gc by simp;omega]
   ·have:=aI (W.alloc (.cells #[.int .u64 (d:Int)] 47)).drew (.cells ((cellsOf xs).toArray++#[Value.int .u64 (d:Int)]++Builtin.zeroCells (Value.int .u64 0).cells (gc-(n+1))) 47);refine this.trans ?_;rw[FT];simp[cellsOf]
end Go.Proofs.YtkdmippllpekfaaGreatDoor
