/- Worlds in which one block alone may have turned. -/
import Derived.Test.YtpdpnomocbehkaaGreatDoorB3
import Derived.Deep.QuietTactic
import Derived.Test.YtpdpnomocbehkaaGreatDoorB1
namespace Go.Proofs.YtpdpnomocbehkaaGreatDoor
open Go.RowKit
theorem bG(w:World)(row:Option Nat):w.grownBy w row:=⟨rfl,rfl,rfl,Nat.le_refl _,fun _ _ _=>rfl⟩
theorem av{w w1 w2:World}{row:Option Nat}(h:w.grownBy w1 row)(k:w1.grownBy w2 row):w.grownBy w2 row:=
 ⟨k.os.trans h.os,k.tape.trans h.tape,k.output.trans h.output,Nat.le_trans h.size k.size,fun j hj hne=>(k.block j (Nat.lt_of_lt_of_le hj h.size) hne).trans (h.block j hj hne)⟩
theorem aj(w:World)(g k:Nat)(u:Value):w.grownBy (w.setCell ⟨g,k,none⟩ u) (some g):=
 ⟨rfl,rfl,rfl,by simp,fun j _ hj=>heap_setCell_other w ⟨g,k,none⟩ j u (fun e=>hj (by simp[e]))⟩
theorem grown_drewN{a b:World}{g:Nat}(h:a.grownBy b (some g))(n:Nat):a.grownBy (b.drewN n) (some g):=
 ⟨h.os,h.tape,h.output,h.size,h.block⟩
theorem grown_below{a b c:World}{g:Nat}(h:a.grownBy b (some g))(k:Below b.heap.size b c):a.grownBy c (some g):=
 ⟨k.os.trans h.os,k.tape.trans h.tape,k.output.trans h.output,Nat.le_trans h.size k.size,fun j hj hn=>(k.block j (Nat.lt_of_lt_of_le hj h.size)).trans (h.block j hj hn)⟩
theorem below_grown{a b c:World}{B g:Nat}(h:Below B a b)(k:b.grownBy c (some g))(hg:B<=g)(hB:B<=b.heap.size):Below B a c:=h.grown k hB (fun j hj=>by cases hj;exact hg)
end Go.Proofs.YtpdpnomocbehkaaGreatDoor
/- twice:a row is doubled in place,and lessened by d where it is not below it. -/
namespace Go.Proofs.YtpdpnomocbehkaaGreatDoor
open Go.RowKit
theorem kL{w:World}{base t g n cap:Nat}{os rs:List Nat}{k d:Nat}(h:w.ownsRow base t 1 (.slice (some ⟨g,0,none⟩) n cap) n (cellsOf (os++rs.drop k)))(hk:os.length=k)(hr:k<rs.length):
  (w.setCell ⟨g,k,none⟩ (.int .u64 ((d:Nat):Int))).ownsRow base t 1 (.slice (some ⟨g,0,none⟩) n cap) n (cellsOf ((os++[d])++rs.drop (k+1)))/\w.grownBy (w.setCell ⟨g,k,none⟩ (.int .u64 ((d:Nat):Int))) (some g):=by
 have hs:=h.stored k (.int .u64 ((d:Nat):Int))
 have e:(cellsOf (os++rs.drop k)).set k (.int .u64 ((d:Nat):Int))=cellsOf ((os++rs.drop k).set k d):=by simp only[cellsOf,List.map_set]
 rw[e,set_mid os rs k d hk hr]at hs
 exact hs
def rG(w:World)(base g n cap D X:Nat)(e:Ending)(w':World):Prop:=∃(more:Bool) (rs':List Nat),e=.returned (.bool more)/\rs'.length=n/\gZ rs'/\
 w'.ownsRow base 90 1 (.slice (some ⟨g,0,none⟩) n cap) n (cellsOf rs')/\w.grownBy w' (some g)/\((more=true/\D<=X/\val rs'=X-D)\/(more=false/\X<D/\val rs'=X))
theorem yD{w w':World}{base g n cap D X:Nat}(more:Bool)(rs':List Nat)(h1:rs'.length=n)(h2:gZ rs')(h3:w'.ownsRow base 90 1 (.slice (some ⟨g,0,none⟩) n cap) n (cellsOf rs'))(h4:w.grownBy w' (some g))
  (h5:(more=true/\D<=X/\val rs'=X-D)\/(more=false/\X<D/\val rs'=X)):rG w base g n cap D X (.returned (.bool more)) w':=⟨more,rs',rfl,h1,h2,h3,h4,h5⟩
set_option maxRecDepth 100000 in
set_option maxHeartbeats 3200000 in
theorem Ft(w:World)(base g n cap:Nat)(rs ds:List Nat)(gd:Option Addr)(bd od cd m b:Nat)
  (hown:w.ownsRow base 90 1 (.slice (some ⟨g,0,none⟩) n cap) n (cellsOf rs)) (hrl:rs.length=n) (hdl:ds.length=m) (hmn:m<=n) (hn:n<=1073741825) (dr:gZ rs) (dd:gZ ds)
  (hD:Rep w gd bd od cd ds) (hne:0<m->bd≠g) (hb:b<=1) (X:Nat) (hXe:X=2*val rs+b) (hX:X<4294967296^n):
  Calls Tryz.prog 47 #[.slice (some ⟨g,0,none⟩) n cap,.int .u64 (b:Int),.slice gd m cd] w fun e w'=>rG w base g n cap (val ds) X e w':=by
 have HXe:=hide hXe
 clear hXe
 go_enter Tryz.func47,Tryz.ntmps47
 go_wp2
 go_loopw [1,7] (fun c i wr=>∃(k cy:Nat) (os:List Nat),k<=n/\i=.int .i64 (k:Int)/\c=.int .u64 (cy:Int)/\cy<=1/\Hid (vt rs os k b cy)/\wr.ownsRow base 90 1 (.slice (some ⟨g,0,none⟩) n cap) n (cellsOf (os++rs.drop k))/\w.grownBy wr (some g))
  (fun _ i _=>n-(intOf i).toNat)
 case atStart=>exact⟨0,b,[],Nat.zero_le _,rfl,rfl,hb,Ci rs b hb,by simpa using hown,bG _ _⟩
 case round=>
  obtain⟨k,cy,os,hk,rfl,rfl,hcy,hAt,ho,hg⟩:=hrel
  by_cases h1:k<n
  ·obtain⟨x,HX⟩:∃ x:Nat,Hid (x=rs.getD k 0):=⟨_,rfl⟩
   have hx32:x<4294967296:=by rw[HX.out];exact dr k
   have hol:=hAt.out.1
   have cx:wr.cell? ⟨g,k,none⟩=some (.int .u64 (x:Int)):=by
    have:=(aG ho).2.cell k (by rw[(aG ho).1];exact h1)
    rw[Nat.zero_add,wo os rs k hol, <-HX.out]at this
    exact this
   have fx:=ho.frozenAt k
   have HS:=hide (kL (d:=(2*x+cy)%4294967296) ho hol (by omega))
   have H2:=hide (Gx hAt.out (dr k))
   have ed:(2*(x:Int)+(cy:Int))%4294967296=(((2*x+cy)%4294967296:Nat):Int):=by omega
   have ec:(2*(x:Int)+(cy:Int))/4294967296=(((2*x+cy)/4294967296:Nat):Int):=by omega
   have hcy2:(2*x+cy)/4294967296<=1:=by omega
   rw[<-HX.out]at H2
   generalize (2*x+cy)%4294967296=d at *
   generalize (2*x+cy)/4294967296=c2 at *
   clear hol
   go_wp2
   go_roundw
   case rel=>exact⟨k+1,c2,os++[d],by omega,by go_num,congrArg (Value.int .u64) ec,hcy2,H2,(ae HS).1,av hg (ae HS).2⟩
   case measure=>simp[intOf];omega
  ·obtain rfl:k=n:=by omega
   have hv:=(Ks hAt.out hrl (by rw[<-ae HXe];exact hX)).trans (ae HXe).symm
   rw[mid_end os rs k hrl]at ho
   have hol:=hAt.out.1
   have dos:=hAt.out.2.1
   clear hAt hown
   go_wp2
   go_loop [9,10] (fun mo i=>∃ j:Nat,j<=k/\mo=.bool true/\i=.int .i64 ((j:Int)-1)/\Hid (∀ t,j<=t->os.getD t 0=ds.getD t 0)) (fun _ i=>(intOf i+1).toNat)
   case atStart=>exact⟨k,Nat.le_refl _,rfl,rfl,fun t ht=>by rw[dJ (by omega),dJ (by omega)]⟩
   case round=>
    obtain⟨j,hj,rfl,rfl,hE⟩:=hrel
    rcases Nat.eq_zero_or_pos j with h|h
    subst h
    have hge:Hid (val ds<=X):=by
     have:val os=val ds:=BC fun t=>hE.out t (Nat.zero_le _)
     show val ds<=X
     omega
    focus go_wp2
    rotate_left 1
    obtain⟨i,rfl⟩:∃ i,j=i+1:=⟨j-1,by omega⟩
    have ej:((i+1:Nat):Int)-1=(i:Int):=by omega
    rw[ej]
    clear ej h
    obtain⟨x,HX⟩:∃ x:Nat,Hid (x=os.getD i 0):=⟨_,rfl⟩
    obtain⟨y,HY⟩:∃ y:Nat,Hid (y=ds.getD i 0):=⟨_,rfl⟩
    have hx32:x<4294967296:=by rw[HX.out];exact dos i
    have hy32:y<4294967296:=by rw[HY.out];exact dd i
    have cx:wr.cell? ⟨g,i,none⟩=some (.int .u64 (x:Int)):=by
     have:=(aG ho).2.cell i (by omega)
     rw[Nat.zero_add, <-HX.out]at this
     exact this
    have cy':i<m->wr.cell? ⟨bd,od+i,none⟩=some (.int .u64 (y:Int)):=fun h=>by
     rw[HY.out];exact hg.cell (hD.cell i (by omega)) (by simpa using hne (by omega))
    have hy0:¬i<m->y=0:=fun h=>by rw[HY.out];exact dJ (by omega)
    have hcase:(i<m/\x<y)\/(i<m/\y<x)\/(i<m/\x=y)\/(¬i<m/\0<x)\/(¬i<m/\x=0):=by omega
    rcases hcase with⟨h2,h3⟩|⟨h2,h3⟩|⟨h2,h3⟩|⟨h2,h3⟩|⟨h2,h3⟩
    ·obtain rfl:=hD.head (by omega)
     have cy':=cy' h2
     have hq:((x:Int)!=(y:Int))=true:=by rw[bne_iff_ne];omega
     have hl:=hide (pN dos i hE.out (by rw[<-HX.out, <-HY.out];exact h3))
     have h4:decide (y<x)=false:=by simp;omega
     clear hy0 h3
     go_wp2
     go_ret
     exact yD false os hol dos ho hg (Or.inr ⟨rfl,by have:=ae hl;omega,hv⟩)
    obtain rfl:=hD.head (by omega)
    have cy':=cy' h2
    have hq:((x:Int)!=(y:Int))=true:=by rw[bne_iff_ne];omega
    have hge:Hid (val ds<=X):=by
     have:=pN dd i (fun t ht=>(hE.out t ht).symm) (by rw[<-HX.out, <-HY.out];exact h3)
     show val ds<=X
     omega
    have h4:decide (y<x)=true:=by simp;omega
    clear hy0 h3
    focus go_wp2
    rotate_left 1
    ·obtain rfl:=hD.head (by omega)
     have cy':=cy' h2
     have hq:((x:Int)!=(y:Int))=false:=by rw[h3];simp
     have hE2:Hid (∀ t,i<=t->os.getD t 0=ds.getD t 0):=fun t ht=>by
      by_cases e:t=i
      ·rw[e, <-HX.out, <-HY.out];exact h3
      ·exact hE.out t (by omega)
     clear hy0 h3
     go_wp2
     exact⟨⟨i,by omega,rfl,by go_num,hE2⟩,by simp[intOf]⟩
    have hq:((x:Int)!=0)=true:=by rw[bne_iff_ne];omega
    have hge:Hid (val ds<=X):=by
     have:=pN dd i (fun t ht=>(hE.out t ht).symm) (by rw[<-HX.out, <-HY.out];have:=hy0 h2;omega)
     show val ds<=X
     omega
    have h4:decide (0<x)=true:=by simp;omega
    clear hy0 h3 cy'
    focus go_wp2
    rotate_left 1
    ·have hq:((x:Int)!=0)=false:=by rw[h3];rfl
     have hE2:Hid (∀ t,i<=t->os.getD t 0=ds.getD t 0):=fun t ht=>by
      by_cases e:t=i
      ·rw[e, <-HX.out, <-HY.out,h3,hy0 h2]
      ·exact hE.out t (by omega)
     clear hy0 h3 cy'
     go_wp2
     exact⟨⟨i,by omega,rfl,by go_num,hE2⟩,by simp[intOf]⟩
    all_goals
     have HV:=hide hv
     clear hE hv
     go_loopw [12,13] (fun c i w3=>∃(p cy:Nat) (us:List Nat),p<=k/\i=.int .i64 (p:Int)/\c=.int .u64 (cy:Int)/\cy<=1/\Hid (pz os ds us p cy)/\w3.ownsRow base 90 1 (.slice (some ⟨g,0,none⟩) k cap) k (cellsOf (us++os.drop p))/\w.grownBy w3 (some g))
      (fun _ i _=>k-(intOf i).toNat)
     case atStart=>exact⟨0,0,[],Nat.zero_le _,rfl,rfl,by omega,Fa os ds,by simpa using ho,hg⟩
     case round=>
      obtain⟨p,cy,us,hp,rfl,rfl,hcy,hAt,ho3,hg3⟩:=hrel
      obtain⟨x,HX⟩:∃ x:Nat,Hid (x=os.getD p 0):=⟨_,rfl⟩
      obtain⟨y,HY⟩:∃ y:Nat,Hid (y=ds.getD p 0):=⟨_,rfl⟩
      have hx32:x<4294967296:=by rw[HX.out];exact dos p
      have hy32:y<4294967296:=by rw[HY.out];exact dd p
      by_cases hpk:p<k
      ·have hol3:=hAt.out.1
       have cx:wr.cell? ⟨g,p,none⟩=some (.int .u64 (x:Int)):=by
        have:=(aG ho3).2.cell p (by rw[(aG ho3).1];exact hpk)
        rw[Nat.zero_add,wo us os p hol3, <-HX.out]at this
        exact this
       have fx:=ho3.frozenAt p
       by_cases h4:p<m
       ·try (obtain rfl:=hD.head (by omega))
        have cy':wr.cell? ⟨bd,od+p,none⟩=some (.int .u64 (y:Int)):=by
         rw[HY.out];exact hg3.cell (hD.cell p (by omega)) (by simpa using hne (by omega))
        by_cases h5:cy+y<=x
        ·have h3:((cy:Int)+(y:Int))<=(x:Int):=by omega
         have ed:(x:Int)-((cy:Int)+(y:Int))=((x-(cy+y):Nat):Int):=by omega
         have HS:=hide (kL (d:=x-(cy+y)) ho3 hol3 (by omega))
         have H2:=hide (Ji hAt.out (dos p) (by rw[<-HX.out, <-HY.out];omega))
         rw[<-HX.out, <-HY.out]at H2
         generalize x-(cy+y)=d at *
         clear hol3 h5
         go_wp2
         go_roundw
         case rel=>exact⟨p+1,0,us++[d],by omega,by go_num,rfl,by omega,H2,(ae HS).1,av hg3 (ae HS).2⟩
         case measure=>simp[intOf];omega
        ·have h3:¬((cy:Int)+(y:Int))<=(x:Int):=by omega
         have ed:(x:Int)+(4294967296-((cy:Int)+(y:Int)))=((x+(4294967296-(cy+y)):Nat):Int):=by omega
         have HS:=hide (kL (d:=x+(4294967296-(cy+y))) ho3 hol3 (by omega))
         have H2:=hide (Bj hAt.out (dd p) (by rw[<-HX.out, <-HY.out];omega))
         rw[<-HX.out, <-HY.out]at H2
         generalize x+(4294967296-(cy+y))=d at *
         clear hol3 h5
         go_wp2
         go_roundw
         case rel=>exact⟨p+1,1,us++[d],by omega,by go_num,rfl,by omega,H2,(ae HS).1,av hg3 (ae HS).2⟩
         case measure=>simp[intOf];omega
       ·have hy0:y=0:=by rw[HY.out];exact dJ (by omega)
        by_cases h5:cy+y<=x
        ·have h3:(cy:Int)<=(x:Int):=by omega
         have ed:(x:Int)-(cy:Int)=((x-(cy+y):Nat):Int):=by omega
         have HS:=hide (kL (d:=x-(cy+y)) ho3 hol3 (by omega))
         have H2:=hide (Ji hAt.out (dos p) (by rw[<-HX.out, <-HY.out];omega))
         rw[<-HX.out, <-HY.out]at H2
         generalize x-(cy+y)=d at *
         clear hol3 h5
         subst hy0
         go_wp2
         go_roundw
         case rel=>exact⟨p+1,0,us++[d],by omega,by go_num,rfl,by omega,H2,(ae HS).1,av hg3 (ae HS).2⟩
         case measure=>simp[intOf];omega
        ·have h3:¬(cy:Int)<=(x:Int):=by omega
         have ed:(x:Int)+(4294967296-(cy:Int))=((x+(4294967296-(cy+y)):Nat):Int):=by omega
         have HS:=hide (kL (d:=x+(4294967296-(cy+y))) ho3 hol3 (by omega))
         have H2:=hide (Bj hAt.out (dd p) (by rw[<-HX.out, <-HY.out];omega))
         rw[<-HX.out, <-HY.out]at H2
         generalize x+(4294967296-(cy+y))=d at *
         clear hol3 h5
         subst hy0
         go_wp2
         go_roundw
         case rel=>exact⟨p+1,1,us++[d],by omega,by go_num,rfl,by omega,H2,(ae HS).1,av hg3 (ae HS).2⟩
         case measure=>simp[intOf];omega
      ·obtain rfl:p=k:=by omega
       rw[mid_end us os p hol]at ho3
       have hz:=hide (MD hAt.out (by omega) (by omega) (by rw[ae HV];exact ae hge))
       have hul:=hAt.out.1
       have hud:=hAt.out.2.1
       go_wp2
       go_ret
       exact yD true us hul hud ho3 hg3 (Or.inl ⟨rfl,ae hge,by rw[ae hz,ae HV]⟩)
end Go.Proofs.YtpdpnomocbehkaaGreatDoor
/- Blocks of values. -/
namespace Go.Proofs.YtpdpnomocbehkaaGreatDoor
open Go.RowKit
def fM(w:World)(g:Nat)(vs:List Value)(t:Nat):Prop:=w.heap[g]?=some (.cells vs.toArray t (0,0))
theorem fM.lt{w:World}{g t:Nat}{vs:List Value}(h:fM w g vs t):g<w.heap.size:=(Array.getElem?_eq_some_iff.1 h).1
theorem fM.cell{w:World}{g t:Nat}{vs:List Value}(h:fM w g vs t)(j:Nat)(hj:j<vs.length):w.cell? ⟨g,j,none⟩=some (vs.getD j undef):=by
 rw[cell_of_row w g j _ _ (0,0) h]
 simp[hj]
theorem fM.frozen{w:World}{g t:Nat}{vs:List Value}(h:fM w g vs t)(j:Nat):w.frozen? ⟨g,j,none⟩=false:=frozen_of_row w g j _ _ h
theorem fM.set{w:World}{g t:Nat}{vs:List Value}(h:fM w g vs t)(k:Nat)(d:Value):fM (w.setCell ⟨g,k,none⟩ d) g (vs.set k d) t:=by
 have:=heap_setCell_same w g k _ _ d h
 show _=_
 rw[this]
 simp
theorem fM.next{w w':World}{g t:Nat}{vs:List Value}(h:fM w g vs t)(hb:Below w.heap.size w w'):fM w' g vs t:=(hb.block g h.lt).trans h
theorem fM.but{w w':World}{g t k:Nat}{vs:List Value}(h:fM w g vs t)(hb:w.grownBy w' (some k))(hk:g≠k):fM w' g vs t:=(hb.block g h.lt (fun e=>hk (Option.some.inj e))).trans h
end Go.Proofs.YtpdpnomocbehkaaGreatDoor
/- make of rows of rows:each is nil. -/
namespace Go.Proofs.YtpdpnomocbehkaaGreatDoor
open Go.RowKit
theorem Tryz.infoNat:(Tryz.prog.info? 29).map (fun i=>(i.zero,i.size,i.bytes))=some (some (.slice none 0 0),1,24):=by kernel_rfl
theorem Hj:∃ i:TypeInfo,Tryz.prog.info? 29=some i/\i.zero=some (.slice none 0 0)/\i.size=1/\i.bytes=24:=by
 have h:=Tryz.infoNat
 cases hi:Tryz.prog.info? 29 with
 |none=>rw[hi]at h;cases h
 |some i=>
  rw[hi]at h
  simp at h
  exact⟨i,rfl,h.1,h.2.1,h.2.2⟩
def iz(n:Nat):List Value:=List.replicate n (.slice none 0 0)
theorem DK(n:Nat):madeCells (Value.slice none 0 0).cells n=(iz n).toArray:=by
 have e:(Value.slice none 0 0).cells=#[Value.slice none 0 0]:=rfl
 rw[e]
 apply Array.ext'
 rw[toList_madeCells_one]
 simp[iz]
theorem sj(n:Nat)(hb:n<=1048576):∀ w,(Instr.makeSlice 80 (.int .i64 (n:Int)) (.int .i64 (n:Int))).run Tryz.prog w=.ok (.slice (some ⟨w.heap.size,0,none⟩) n n) (w.alloc (.cells (iz n).toArray 29)):=fun w=>by
 obtain⟨i0,hi,hz0,hz1,hz2⟩:=Hj
 have h:=run_make (P:=Tryz.prog) w 80 29 i0 (.slice none 0 0) Tryz.underlying80 hi hz0 .i64 .i64 (n:Int) (n:Int) (by omega) (by omega) (by rw[hz2];omega) (by omega)
 rw[h]
 have e1:((n:Int)).toNat=n:=by omega
 rw[e1,hz1,Nat.mul_one,DK]
end Go.Proofs.YtpdpnomocbehkaaGreatDoor
