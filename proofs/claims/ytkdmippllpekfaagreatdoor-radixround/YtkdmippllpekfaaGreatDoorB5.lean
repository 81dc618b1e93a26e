import Derived.Test.YtkdmippllpekfaaGreatDoorB3
import Derived.Deep.QuietTactic
namespace Go.Proofs.YtkdmippllpekfaaGreatDoor
set_option maxRecDepth 100000
set_option maxHeartbeats 3200000
open Go.RowKit
variable{vs:List Value}{base cap g k n t:Nat}{a b c w w':World}
theorem iD(w:World)(row:Option Nat):w.grownBy w row:=⟨rfl,rfl,rfl,af _,fun _ _ _=>rfl⟩
theorem cj{w1 w2:World}{row:Option Nat}(h:w.grownBy w1 row)(k:w1.grownBy w2 row):w.grownBy w2 row:=
 ⟨k.os.trans h.os,k.tape.trans h.tape,k.output.trans h.output,ak h.size k.size,fun j hj hne=>(k.block j (az hj h.size) hne).trans (h.block j hj hne)⟩
theorem aY(w:World)(g k:Nat)(u:Value):w.grownBy (w.setCell ⟨g,k,none⟩ u) (some g):=
 ⟨rfl,rfl,rfl,by simp,fun j _ hj=>bo w ⟨g,k,none⟩ j u (fun e=>hj (by simp[e]))⟩
theorem pB(h:a.grownBy b (some g))(n:Nat):a.grownBy (b.drewN n) (some g):=
 ⟨h.os,h.tape,h.output,h.size,h.block⟩
theorem tB(h:a.grownBy b (some g))(k:Below b.heap.size b c):a.grownBy c (some g):=
 ⟨k.os.trans h.os,k.tape.trans h.tape,k.output.trans h.output,ak h.size k.size,fun j hj hn=>(k.block j (az hj h.size)).trans (h.block j hj hn)⟩
theorem gS{B:Nat}(h:Below B a b)(k:b.grownBy c (some g))(hg:B<=g)(hB:B<=b.heap.size):Below B a c:=h.grown k hB (fun j hj=>by cases hj;exact hg)
theorem uQ{os rs:List Nat}{d:Nat}(h:w.ownsRow base t 1 (.slice (some ⟨g,0,none⟩) n cap) n (cellsOf (os++rs.drop k)))(hk:os.length=k)(hr:k<rs.length):(w.setCell ⟨g,k,none⟩ (.int .u64 ((d:Nat):Int))).ownsRow base t 1 (.slice (some ⟨g,0,none⟩) n cap) n (cellsOf ((os++[d])++rs.drop (k+1)))/\w.grownBy (w.setCell ⟨g,k,none⟩ (.int .u64 ((d:Nat):Int))) (some g):=by
 have hs:=h.stored k (.int .u64 ((d:Nat):Int));have e:(cellsOf (os++rs.drop k)).set k (.int .u64 ((d:Nat):Int))=cellsOf ((os++rs.drop k).set k d):=by simp only[cellsOf,List.map_set]
 rw[e,aaI os rs k d hk hr]at hs;exact hs
def Eu(w:World)(base g n cap D X:Nat)(e:Ending)(w':World):Prop:=∃(more:Bool) (Cv:List Nat),e=.returned (.bool more)/\Cv.length=n/\oI Cv/\
 w'.ownsRow base 47 1 (.slice (some ⟨g,0,none⟩) n cap) n (cellsOf Cv)/\w.grownBy w' (some g)/\((more=true/\D<=X/\val Cv=X-D)\/(more=false/\X<D/\val Cv=X))
theorem LG{D X:Nat}(more:Bool)(Cv:List Nat)(h1:Cv.length=n)(h2:oI Cv)(h3:w'.ownsRow base 47 1 (.slice (some ⟨g,0,none⟩) n cap) n (cellsOf Cv))(h4:w.grownBy w' (some g))(h5:(more=true/\D<=X/\val Cv=X-D)\/(more=false/\X<D/\val Cv=X)):Eu w base g n cap D X (.returned (.bool more)) w':=⟨more,Cv,rfl,h1,h2,h3,h4,h5⟩
theorem TH(w:World)(base g n cap:Nat)(rs ds:List Nat)(gd:Option Addr)(bd od cd m b:Nat)(cV:w.ownsRow base 47 1 (.slice (some ⟨g,0,none⟩) n cap) n (cellsOf rs))(Mh:rs.length=n)(wE:ds.length=m)(hmn:m<=n)(hn:n<=1073741825)(dr:oI rs)(dd:oI ds)(hD:cH w gd bd od cd ds)(hne:0<m->bd≠g)(hb:b<=1)(X:Nat)(hXe:X=2*val rs+b)(hX:X<4294967296^n):Calls Tryz.prog 60 #[.slice (some ⟨g,0,none⟩) n cap,.int .u64 (b:Int),.slice gd m cd] w fun e w'=>Eu w base g n cap (val ds) X e w':=by
 have HXe:=ag hXe;clear hXe;go_enter Tryz.func60,Tryz.ntmps60;go_wp2
 go_loopw [1,7] (fun c i wr=>∃(k cy:Nat) (os:List Nat),k<=n/\i=.int .i64 (k:Int)/\c=.int .u64 (cy:Int)/\cy<=1/\Hid (IZ rs os k b cy)/\wr.ownsRow base 47 1 (.slice (some ⟨g,0,none⟩) n cap) n (cellsOf (os++rs.drop k))/\w.grownBy wr (some g))
  (fun _ i _=>n-(intOf i).toNat)
 case atStart=>exact⟨0,b,[],aO _,rfl,rfl,hb,Rb rs b hb,by simpa using cV,iD _ _⟩
 case round=>
  obtain⟨k,cy,os,hk,rfl,rfl,zH,fN,ho,hg⟩:=hrel;by_cases h1:k<n
  ·obtain⟨x,HX⟩:∃x:Nat,Hid (x=rs.getD k 0):=⟨_,rfl⟩;have tI:x<4294967296:=by rw[HX.out];exact dr k
   have D_:=fN.out.1;have cx:wr.cell? ⟨g,k,none⟩=some (.int .u64 (x:Int)):=by have:=(de ho).2.cell k (by rw[(de ho).1];exact h1);rw[bh,JX os rs k D_, <-HX.out]at this;exact this
   have fx:=ho.frozenAt k;have HS:=ag (uQ (d:=(2*x+cy)%4294967296) ho D_ (by omega));have H2:=ag (Vs fN.out (dr k));have ed:(2*(x:Int)+(cy:Int))%4294967296=(((2*x+cy)%4294967296:Nat):Int):=(by omega);have ec:(2*(x:Int)+(cy:Int))/4294967296=(((2*x+cy)/4294967296:Nat):Int):=(by omega);have ae7:(2*x+cy)/4294967296<=1:=(by omega);rw[<-HX.out]at H2;generalize (2*x+cy)%4294967296=d at *;generalize (2*x+cy)/4294967296=c2 at *;clear D_;go_wp2
   go_roundw
   case rel=>exact⟨k+1,c2,os++[d],by omega,by go_num,gi (Value.int .u64) ec,ae7,H2,(ae HS).1,cj hg (ae HS).2⟩
   case measure=>simp[intOf];omega
  ·obtain rfl:k=n:=(by omega);have hv:=(c_ fN.out Mh (by rw[<-ae HXe];exact hX)).trans (ae HXe).symm;rw[PD os rs k Mh]at ho;have D_:=fN.out.1;have dos:=fN.out.2.1;clear fN cV;go_wp2
   go_loop [9,10] (fun mo i=>∃j:Nat,j<=k/\mo=.bool true/\i=.int .i64 ((j:Int)-1)/\Hid (∀t,j<=t->os.getD t 0=ds.getD t 0)) (fun _ i=>(intOf i+1).toNat)
   case atStart=>exact⟨k,af _,rfl,rfl,fun t ht=>by rw[jo (by omega),jo (by omega)]⟩
   case round=>
    obtain⟨j,hj,rfl,rfl,hE⟩:=hrel;rcases fh j with h|h;subst h;have pE:Hid (val ds<=X):=by have:val os=val ds:=Qo fun t=>hE.out t (aO _);show val ds<=X;omega
    focus go_wp2
    rotate_left 1
    obtain⟨i,rfl⟩:∃i,j=i+1:=⟨j-1,by omega⟩;have ej:((i+1:Nat):Int)-1=(i:Int):=(by omega);rw[ej];clear ej h;obtain⟨x,HX⟩:∃x:Nat,Hid (x=os.getD i 0):=⟨_,rfl⟩;obtain⟨y,HY⟩:∃y:Nat,Hid (y=ds.getD i 0):=⟨_,rfl⟩;have tI:x<4294967296:=by rw[HX.out];exact dos i
    have DY:y<4294967296:=by rw[HY.out];exact dd i
    have cx:wr.cell? ⟨g,i,none⟩=some (.int .u64 (x:Int)):=by have:=(de ho).2.cell i (by omega);rw[bh, <-HX.out]at this;exact this
    have Pc:i<m->wr.cell? ⟨bd,od+i,none⟩=some (.int .u64 (y:Int)):=fun h=>by rw[HY.out];exact hg.cell (hD.cell i (by omega)) (by simpa using hne (by omega))
    have Ag:¬i<m->y=0:=fun h=>by rw[HY.out];exact jo (by omega)
    have pD:(i<m/\x<y)\/(i<m/\y<x)\/(i<m/\x=y)\/(¬i<m/\0<x)\/(¬i<m/\x=0):=(by omega);rcases pD with⟨h2,h3⟩|⟨h2,h3⟩|⟨h2,h3⟩|⟨h2,h3⟩|⟨h2,h3⟩
    ·obtain rfl:=hD.head (by omega);have Pc:=Pc h2;have hq:((x:Int)!=(y:Int))=true:=by rw[kd];omega
     have hl:=ag (Bo dos i hE.out (by rw[<-HX.out, <-HY.out];exact h3));have h4:decide (y<x)=false:=by simp;omega
     clear Ag h3;go_wp2;go_ret;exact LG false os D_ dos ho hg (Or.inr ⟨rfl,by have:=ae hl;omega,hv⟩)
    obtain rfl:=hD.head (by omega);have Pc:=Pc h2;have hq:((x:Int)!=(y:Int))=true:=by rw[kd];omega
    have pE:Hid (val ds<=X):=by have:=Bo dd i (fun t ht=>(hE.out t ht).symm) (by rw[<-HX.out, <-HY.out];exact h3);show val ds<=X;omega
    have h4:decide (y<x)=true:=by simp;omega
    clear Ag h3
    focus go_wp2
    rotate_left 1
    ·obtain rfl:=hD.head (by omega);have Pc:=Pc h2;have hq:((x:Int)!=(y:Int))=false:=by rw[h3];simp
     have hE2:Hid (∀t,i<=t->os.getD t 0=ds.getD t 0):=fun t ht=>by
      by_cases e:t=i
      ·rw[e, <-HX.out, <-HY.out];exact h3
      ·exact hE.out t (by omega)
     clear Ag h3;go_wp2;exact⟨⟨i,by omega,rfl,by go_num,hE2⟩,by simp[intOf]⟩
    have hq:((x:Int)!=0)=true:=by rw[kd];omega
    have pE:Hid (val ds<=X):=by have:=Bo dd i (fun t ht=>(hE.out t ht).symm) (by rw[<-HX.out, <-HY.out];have:=Ag h2;omega);show val ds<=X;omega
    have h4:decide (0<x)=true:=by simp;omega
    clear Ag h3 Pc
    focus go_wp2
    rotate_left 1
    ·have hq:((x:Int)!=0)=false:=by rw[h3];rfl
     have hE2:Hid (∀t,i<=t->os.getD t 0=ds.getD t 0):=fun t ht=>by
      by_cases e:t=i
      ·rw[e, <-HX.out, <-HY.out,h3,Ag h2]
      ·exact hE.out t (by omega)
     clear Ag h3 Pc;go_wp2;exact⟨⟨i,by omega,rfl,by go_num,hE2⟩,by simp[intOf]⟩
    all_goals
     have HV:=ag hv;clear hE hv
     go_loopw [12,13] (fun c i w3=>∃(p cy:Nat) (us:List Nat),p<=k/\i=.int .i64 (p:Int)/\c=.int .u64 (cy:Int)/\cy<=1/\Hid (Ba os ds us p cy)/\w3.ownsRow base 47 1 (.slice (some ⟨g,0,none⟩) k cap) k (cellsOf (us++os.drop p))/\w.grownBy w3 (some g))
      (fun _ i _=>k-(intOf i).toNat)
     case atStart=>exact⟨0,0,[],aO _,rfl,rfl,by omega,Tx os ds,by simpa using ho,hg⟩
     case round=>
      obtain⟨p,cy,us,hp,rfl,rfl,zH,fN,Pr,Rz⟩:=hrel;obtain⟨x,HX⟩:∃x:Nat,Hid (x=os.getD p 0):=⟨_,rfl⟩;obtain⟨y,HY⟩:∃y:Nat,Hid (y=ds.getD p 0):=⟨_,rfl⟩;have tI:x<4294967296:=by rw[HX.out];exact dos p
      have DY:y<4294967296:=by rw[HY.out];exact dd p
      by_cases hpk:p<k
      ·have GN:=fN.out.1;have cx:wr.cell? ⟨g,p,none⟩=some (.int .u64 (x:Int)):=by have:=(de Pr).2.cell p (by rw[(de Pr).1];exact hpk);rw[bh,JX us os p GN, <-HX.out]at this;exact this
       have fx:=Pr.frozenAt p;by_cases h4:p<m
       ·try (obtain rfl:=hD.head (by omega))
        have Pc:wr.cell? ⟨bd,od+p,none⟩=some (.int .u64 (y:Int)):=by rw[HY.out];exact Rz.cell (hD.cell p (by omega)) (by simpa using hne (by omega))
        by_cases h5:cy+y<=x
        ·have h3:((cy:Int)+(y:Int))<=(x:Int):=(by omega);have ed:(x:Int)-((cy:Int)+(y:Int))=((x-(cy+y):Nat):Int):=(by omega);have HS:=ag (uQ (d:=x-(cy+y)) Pr GN (by omega));have H2:=ag (Yk fN.out (dos p) (by rw[<-HX.out, <-HY.out];omega));rw[<-HX.out, <-HY.out]at H2;generalize x-(cy+y)=d at *;clear GN h5;go_wp2
         go_roundw
         case rel=>exact⟨p+1,0,us++[d],by omega,by go_num,rfl,by omega,H2,(ae HS).1,cj Rz (ae HS).2⟩
         case measure=>simp[intOf];omega
        ·have h3:¬((cy:Int)+(y:Int))<=(x:Int):=(by omega);have ed:(x:Int)+(4294967296-((cy:Int)+(y:Int)))=((x+(4294967296-(cy+y)):Nat):Int):=(by omega);have HS:=ag (uQ (d:=x+(4294967296-(cy+y))) Pr GN (by omega));have H2:=ag (Qa fN.out (dd p) (by rw[<-HX.out, <-HY.out];omega));rw[<-HX.out, <-HY.out]at H2;generalize x+(4294967296-(cy+y))=d at *;clear GN h5;go_wp2
         go_roundw
         case rel=>exact⟨p+1,1,us++[d],by omega,by go_num,rfl,by omega,H2,(ae HS).1,cj Rz (ae HS).2⟩
         case measure=>simp[intOf];omega
       ·have Ag:y=0:=by rw[HY.out];exact jo (by omega)
        by_cases h5:cy+y<=x
        ·have h3:(cy:Int)<=(x:Int):=(by omega);have ed:(x:Int)-(cy:Int)=((x-(cy+y):Nat):Int):=(by omega);have HS:=ag (uQ (d:=x-(cy+y)) Pr GN (by omega));have H2:=ag (Yk fN.out (dos p) (by rw[<-HX.out, <-HY.out];omega));rw[<-HX.out, <-HY.out]at H2;generalize x-(cy+y)=d at *;clear GN h5;subst Ag;go_wp2
         go_roundw
         case rel=>exact⟨p+1,0,us++[d],by omega,by go_num,rfl,by omega,H2,(ae HS).1,cj Rz (ae HS).2⟩
         case measure=>simp[intOf];omega
        ·have h3:¬(cy:Int)<=(x:Int):=(by omega);have ed:(x:Int)+(4294967296-(cy:Int))=((x+(4294967296-(cy+y)):Nat):Int):=(by omega);have HS:=ag (uQ (d:=x+(4294967296-(cy+y))) Pr GN (by omega));have H2:=ag (Qa fN.out (dd p) (by rw[<-HX.out, <-HY.out];omega));rw[<-HX.out, <-HY.out]at H2;generalize x+(4294967296-(cy+y))=d at *;clear GN h5;subst Ag;go_wp2
         go_roundw
         case rel=>exact⟨p+1,1,us++[d],by omega,by go_num,rfl,by omega,H2,(ae HS).1,cj Rz (ae HS).2⟩
         case measure=>simp[intOf];omega
      ·obtain rfl:p=k:=(by omega);rw[PD us os p D_]at Pr;have hz:=ag (aaO fN.out (by omega) (by omega) (by rw[ae HV];exact ae pE));have Pt:=fN.out.1;have hud:=fN.out.2.1;go_wp2;go_ret;exact LG true us Pt hud Pr Rz (Or.inl ⟨rfl,ae pE,by rw[ae hz,ae HV]⟩)
def ou(w:World)(g:Nat)(vs:List Value)(t:Nat):Prop:=w.heap[g]?=some (.cells vs.toArray t (0,0))
theorem ou.lt(h:ou w g vs t):g<w.heap.size:=(ah.1 h).1
theorem ou.cell(h:ou w g vs t)(j:Nat)(hj:j<vs.length):w.cell? ⟨g,j,none⟩=some (vs.getD j undef):=by rw[ay w g j _ _ (0,0) h];simp[hj]
theorem ou.frozen(h:ou w g vs t)(j:Nat):w.frozen? ⟨g,j,none⟩=false:=bZ w g j _ _ h
theorem ou.set(h:ou w g vs t)(k:Nat)(d:Value):ou (w.setCell ⟨g,k,none⟩ d) g (vs.set k d) t:=by have:=jC w g k _ _ d h;show _=_;rw[this];simp
theorem ou.next(h:ou w g vs t)(hb:Below w.heap.size w w'):ou w' g vs t:=(hb.block g h.lt).trans h
theorem ou.but(h:ou w g vs t)(hb:w.grownBy w' (some k))(hk:g≠k):ou w' g vs t:=(hb.block g h.lt (fun e=>hk (aZ e))).trans h
theorem Tryz.L_:(Tryz.prog.info? 38).map (fun i=>(i.zero,i.size,i.bytes))=some (some (.slice none 0 0),1,24):=by kernel_rfl
theorem WK:∃i:TypeInfo,Tryz.prog.info? 38=some i/\i.zero=some (.slice none 0 0)/\i.size=1/\i.bytes=24:=by
 have h:=Tryz.L_;cases hi:Tryz.prog.info? 38 with
 |none=>rw[hi]at h;cases h
 |some i=>
  rw[hi]at h;simp at h;exact⟨i,rfl,h.1,h.2.1,h.2.2⟩
def y9(n:Nat):List Value:=List.replicate n (.slice none 0 0)
theorem Sb(n:Nat):madeCells (Value.slice none 0 0).cells n=(y9 n).toArray:=by have e:(Value.slice none 0 0).cells=#[Value.slice none 0 0]:=rfl;rw[e];apply Array.ext';rw[toList_madeCells_one];simp[y9]
theorem Sc(n:Nat)(hb:n<=1048576):∀w,(Instr.makeSlice 115 (.int .i64 (n:Int)) (.int .i64 (n:Int))).run Tryz.prog w=.ok (.slice (some ⟨w.heap.size,0,none⟩) n n) (w.alloc (.cells (y9 n).toArray 38)):=fun w=>by
 obtain⟨i0,hi,jx,gY,fX⟩:=WK;have h:=Fv (P:=Tryz.prog) w 115 38 i0 (.slice none 0 0) ZF hi jx .i64 .i64 (n:Int) (n:Int) (by omega) (by omega) (by rw[fX];omega) (by omega);rw[h];have e1:((n:Int)).toNat=n:=by omega
 rw[e1,gY,dG,Sb]
end Go.Proofs.YtkdmippllpekfaaGreatDoor
