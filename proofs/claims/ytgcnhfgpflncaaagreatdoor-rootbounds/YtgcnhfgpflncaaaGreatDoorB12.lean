/- Cut, Lend and Intact: rows cut, lent, and held against what they were. -/
import Derived.Test.YtgcnhfgpflncaaaGreatDoorB7
import Derived.Test.YtgcnhfgpflncaaaGreatDoorB5
import Derived.Laws.CopyOwn
import Derived.Deep.QuietTactic
import Derived.BigQuiet
import Derived.WalkSmall
namespace Go.Proofs.YtgcnhfgpflncaaaGreatDoor
open Go.RowKit
theorem Tryz.sizeU:(Tryz.prog.info? 41).map (·.size)=some 1:=by kernel_rfl
set_option maxHeartbeats 800000 in
theorem lT(w:World)(ga:Option Addr)(n cap m k:Nat)(hc:n<=cap)(_hm:m<=1073741824)(hk:k=min n m):
  Calls Tryz.prog 8 #[.slice ga n cap,.int .i64 (m:Int)] w fun e w'=>e=.returned (.slice ga k cap)/\w'=w:=by
 have hcase:(m<n/\k=m)\/(¬m<n/\k=n):=by omega
 clear hk
 rcases hcase with⟨h,rfl⟩|⟨h,rfl⟩
 ·go_enter Tryz.func8,Tryz.ntmps8
  go_wp2
  go_ret
  exact⟨aQ rfl,rfl⟩
 ·go_enter Tryz.func8,Tryz.ntmps8
  go_wp2
  go_ret
  exact⟨aQ rfl,rfl⟩
def aF(n:Nat):List Value:=cellsOf (List.replicate n 0)
def df(xs:List Nat):List Value:=cellsOf xs
theorem dr(n:Nat):(aF n).length=n:=by simp[aF,cellsOf]
theorem aG(xs:List Nat):(df xs).length=xs.length:=by simp[df,cellsOf]
theorem xy(xs:List Nat)(n:Nat)(h:xs.length=n):splice (aF (n+4)) 0 (df xs)=cellsOf (xs++List.replicate 4 0):=by
 simp[splice,aF,df,cellsOf,h]
theorem iY(n:Nat):madeCells (Value.int .u64 0).cells n=(aF n).toArray:=by
 have h:=oS n
 have e:(Value.int .u64 0).cells=#[Value.int .u64 0]:=rfl
 rw[e,aF, <-h]
theorem iS{w:World}{ga:Option Addr}{b o cap:Nat}{xs:List Nat}(hR:Rep w ga b o cap xs)(ob:Obj):0<(df xs).length->∃ ad,ga=some ad/\∀ j v,(df xs)[j]?=some v->(w.alloc ob).cell? (ad.add j)=some v:=by
 intro hp
 rw[aG]at hp
 refine⟨⟨b,o,none⟩,hR.head hp,fun j v hj=>?_⟩
 have hjn:j<xs.length:=by
  have:=(List.getElem?_eq_some_iff.1 hj).1
  rwa [aG]at this
 have ea:(⟨b,o,none⟩:Addr).add j=⟨b,o+j,none⟩:=by
  by_cases h0:j=0
  ·subst h0;simp[Addr.add]
  ·simp[Addr.add,h0]
 rw[ea,World.cell?_alloc_past _ _ _ (hR.lt hp),hR.cell j hjn]
 simp[df,cellsOf,List.getElem?_eq_getElem hjn]at hj
 rw[<-hj,getD_lt hjn]
theorem qH{w:World}{base g n t:Nat}{xs:List Nat}(hg:w.heap[g]?=some (.cells (cellsOf xs).toArray t (0,0)))(hl:xs.length=n)(hb:base<=g)(hn:n<=maxLen):w.ownsRow base t 1 (.slice (some ⟨g,0,none⟩) n n) n (cellsOf xs):=
 ⟨by simp[hl],Or.inr ⟨g,n,(cellsOf xs).toArray,rfl,hb,hg,Nat.le_refl _,hn,by simp[hl],by rw[List.take_of_length_le (by simp[hl])]⟩⟩
set_option maxRecDepth 100000 in
set_option maxHeartbeats 1600000 in
theorem Hh(w:World)(ga:Option Addr)(b o cap n:Nat)(xs:List Nat)(hl:xs.length=n)(hn:n<=1073741824)(hR:Rep w ga b o cap xs)(F:Nat)(hF:F=6148914691236517205):
  Calls Tryz.prog 10 #[.slice ga n cap] w fun e w'=>e=.returned (.slice (some ⟨w.heap.size,0,none⟩) n (n+4))/\w'.ownsRow w.heap.size 41 1 (.slice (some ⟨w.heap.size,0,none⟩) (n+4) (n+4)) (n+4) (cellsOf (xs++List.replicate 4 F))/\Below w.heap.size w w':=by
 obtain⟨i0,hi,hz0,hz1,hz2⟩:=info_parts Tryz.infoU
 have hmk:∀ w,(Instr.makeSlice 24 (.int .i64 (n:Int)) (.int .i64 ((n:Int)+4))).run Tryz.prog w=.ok (.slice (some ⟨w.heap.size,0,none⟩) n (n+4)) (w.alloc (.cells (aF (n+4)).toArray 41)):=fun w=>by
  have h:=run_make (P:=Tryz.prog) w 24 41 i0 (.int .u64 0) Tryz.underlying24 hi hz0 .i64 .i64 (n:Int) ((n:Int)+4) (by omega) (by omega) (by rw[hz2];omega) (by omega)
  rw[h]
  have e1:((n:Int)).toNat=n:=by omega
  have e2:((n:Int)+4).toNat=n+4:=by omega
  rw[e1,e2,hz1,Nat.mul_one,iY]
 have HC:=hide (fun ob=>iS hR ob)
 go_enter Tryz.func10,Tryz.ntmps10
 go_wp2_with (refine wpList_copy_splice rfl _ _ 24 24 rfl 41 Tryz.underlying24 Tryz.sizeU _ _ n (n+4) n cap rfl rfl w.heap.size 0 (aF (n+4)) 41 ?h1 (df xs) ?h2 ?h3 ?h4 (cells_one _) w.heap.size w ?h5 (Nat.le_refl _) ?_)
 case h1=>exact heap_alloc_new w _
 case h2=>rw[aG,hl];exact(Nat.min_self n).symm
 case h3=>exact ae HC _
 case h4=>rw[aG,dr,hl];omega
 case h5=>exact(Below.refl _ _).alloc (Nat.le_refl _) _
 intro w2 hblk hb2
 have ho2:=qH (base:=w.heap.size) (n:=n+4) (by rw[<-xy xs n hl];exact hblk.out) (by simp[hl]) (Nat.le_refl _) (by unfold maxLen;omega)
 clear hblk HC hmk
 go_wp2
 go_loopw [5] (fun i wr=>∃(k:Nat) (os:List Nat),n<=k/\k<=n+4/\i=.int .i64 (k:Int)/\Hid (os=xs++List.replicate (k-n) F)/\wr.ownsRow w.heap.size 41 1 (.slice (some ⟨w.heap.size,0,none⟩) (n+4) (n+4)) (n+4) (cellsOf (os++(xs++List.replicate 4 0).drop k))/\Below w.heap.size w wr) (fun i _=>n+4-(intOf i).toNat)
 case atStart=>exact⟨n,xs,Nat.le_refl _,by omega,rfl,by show xs=_;simp,by rw[List.drop_append_of_le_length (by omega),List.drop_eq_nil_of_le (by omega)];simpa using ho2,hb2⟩
 case round=>
  obtain⟨k,os,hk1,hk2,rfl,hO,ho,hnx⟩:=hrel
  have hol:os.length=k:=by rw[hO.out];simp;omega
  by_cases h1:k<n+4
  ·obtain⟨x,cx⟩:∃ x,wr.cell? ⟨w.heap.size,k,none⟩=some x:=by
    have:=(aP ho).2.cell k (by rw[(aP ho).1];exact h1)
    rw[Nat.zero_add]at this
    exact⟨_,this⟩
   have fx:=ho.frozenAt k
   have HS:=hide (Lq (d:=F) ho hol (by simp;omega))
   have HO2:Hid (os++[F]=xs++List.replicate (k+1-n) F):=by
    show _=_
    rw[hO.out,List.append_assoc,show k+1-n=k-n+1 from by omega,List.replicate_succ']
   rw[hF]at HS
   clear hol
   go_wp2
   exact⟨⟨k+1,_,by omega,by omega,by go_num,HO2,by rw[hF];exact(ae HS).1,hnx.setCell (Nat.le_refl _) _⟩,by simp[intOf];omega⟩
  ·obtain rfl:k=n+4:=by omega
   have hfin:os++(xs++List.replicate 4 0).drop (n+4)=xs++List.replicate 4 F:=by
    rw[List.drop_eq_nil_of_le (by simp;omega),List.append_nil,hO.out,show n+4-n=4 from by omega]
   rw[hfin]at ho
   go_wp2
   go_ret
   exact⟨aQ rfl,ho,hnx⟩
theorem GG(m j F:Nat)(h:j<m):(List.replicate m F).getD j 0=F:=by
 simp[List.getD_eq_getElem?_getD,h]
set_option maxRecDepth 100000 in
set_option maxHeartbeats 3200000 in
theorem yP(w:World)(ga:Option Addr)(g b o cap n:Nat)(xs:List Nat)(hl:xs.length=n)(hn:n<=1073741824)(hR:Rep w ga b o cap xs)(F:Nat)(hF:F=6148914691236517205)(hG:Rep w (some ⟨g,0,none⟩) g 0 (n+4) (xs++List.replicate 4 F)):
  Calls Tryz.prog 18 #[.slice (some ⟨g,0,none⟩) n (n+4),.slice ga n cap] w fun e w'=>e=.returned (.bool true)/\Below w.heap.size w w':=by
 have q1:((n:Int)!=(n:Int))=false:=by simp
 have q3:((n:Int)+4 !=(n:Int)+4)=false:=by simp
 go_enter Tryz.func18,Tryz.ntmps18
 go_wp2
 go_loopw [6] (fun i wr=>∃ k:Nat,k<=n+4/\i=.int .i64 (k:Int)/\Below w.heap.size w wr) (fun i _=>n+4-(intOf i).toNat)
 case atStart=>exact⟨0,Nat.zero_le _,rfl,Below.refl _ _⟩
 case round=>
  obtain⟨k,hk,rfl,hnx⟩:=hrel
  by_cases h1:k<n+4
  ·have hgl:g<w.heap.size:=hG.lt (by simp)
   by_cases h2:k<n
   ·obtain rfl:=hR.head (by omega)
    obtain⟨x,hx⟩:∃ x:Nat,x=xs.getD k 0:=⟨_,rfl⟩
    have cx:wr.cell? ⟨b,o+k,none⟩=some (.int .u64 (x:Int)):=by rw[hx];exact(hnx.cell (by exact hR.lt (by omega))).trans (hR.cell k (by omega))
    have cg:wr.cell? ⟨g,k,none⟩=some (.int .u64 (x:Int)):=by
     have:=(hnx.cell (p:=⟨g,0+k,none⟩) (by exact hgl)).trans (hG.cell k (by simp;omega))
     rw[Nat.zero_add,cR,if_pos (by omega), <-hx]at this
     exact this
    have s1:decide ((k:Int)<(n:Int))=true:=by simp;omega
    have s2:((x:Int)!=(x:Int))=false:=by simp
    have s3:decide ((n:Int)<=(k:Int))=false:=by simp;omega
    have s6:decide (n<=k)=false:=by simp;omega
    have s7:decide (k<n)=true:=by simp;omega
    have s4:(k:Int)<(n:Int):=by omega
    have s5:(k:Int)<(n:Int)+4:=by omega
    clear hx
    go_wp2
    go_quiet (fail)
    go_wp2
    exact⟨⟨k+1,by omega,by go_num,below_drewN hnx _⟩,by simp[intOf];omega⟩
   ·have cg:wr.cell? ⟨g,k,none⟩=some (.int .u64 6148914691236517205):=by
     have:=(hnx.cell (p:=⟨g,0+k,none⟩) (by exact hgl)).trans (hG.cell k (by simp;omega))
     rw[Nat.zero_add,cR,if_neg (by omega),GG _ _ _ (by omega),hF]at this
     exact this
    have s1:decide ((k:Int)<(n:Int))=false:=by simp;omega
    have s2:((6148914691236517205:Int)!=6148914691236517205)=false:=by decide
    have s3:decide ((n:Int)<=(k:Int))=true:=by simp;omega
    have s6:decide (n<=k)=true:=by simp;omega
    have s7:decide (k<n)=false:=by simp;omega
    have s4:¬(k:Int)<(n:Int):=by omega
    have s8:(n:Int)<=(k:Int):=by omega
    have s5:(k:Int)<(n:Int)+4:=by omega
    go_wp2
    go_quiet (fail)
    go_wp2
    exact⟨⟨k+1,by omega,by go_num,below_drewN hnx _⟩,by simp[intOf];omega⟩
  ·go_wp2
   go_ret
   exact⟨rfl,hnx⟩
end Go.Proofs.YtgcnhfgpflncaaaGreatDoor
/- More of rows in memory:rows that were cut,lent,or outlive a step. -/
namespace Go.Proofs.YtgcnhfgpflncaaaGreatDoor
open Go.RowKit
theorem lV{w:World}{ga:Option Addr}{b o cap:Nat}{xs:List Nat}(h:Rep w ga b o cap xs)(m k:Nat)(hk:k=min xs.length m):(xs.take k).length=k/\Rep w ga b o cap (xs.take k):=by
 have hl:k<=xs.length:=by omega
 exact⟨by simp;omega,h.take k hl⟩
theorem gB{xs:List Nat}(h:∀ j,xs.getD j 0<18446744073709551616)(k:Nat):∀ j,(xs.take k).getD j 0<18446744073709551616:=by
 intro j
 simp only[List.getD_eq_getElem?_getD,List.getElem?_take]
 split
 ·have:=h j;simpa [List.getD_eq_getElem?_getD]using this
 ·simp
theorem Hj{w:World}{base t g n:Nat}{xs:List Nat}{F:Nat}(h:w.ownsRow base t 1 (.slice (some ⟨g,0,none⟩) (n+4) (n+4)) (n+4) (cellsOf (xs++List.replicate 4 F)))(hl:xs.length=n):Rep w (some ⟨g,0,none⟩) g 0 (n+4) xs/\Rep w (some ⟨g,0,none⟩) g 0 (n+4) (xs++List.replicate 4 F):=by
 have h1:=(aP h).2
 refine⟨?_,h1⟩
 have h2:=h1.take n (by simp;omega)
 rw[List.take_append_of_le_length (by omega),List.take_of_length_le (by omega)]at h2
 exact h2
theorem Rep.next{w w':World}{ga:Option Addr}{b o cap:Nat}{xs:List Nat}(h:Rep w ga b o cap xs)(hb:Below w.heap.size w w'):Rep w' ga b o cap xs:=h.below hb (Nat.le_refl _)
theorem Rep.drew{w:World}{ga:Option Addr}{b o cap:Nat}{xs:List Nat}(h:Rep w ga b o cap xs):Rep w.drew ga b o cap xs:=⟨h.head,h.room,h.cell⟩
end Go.Proofs.YtgcnhfgpflncaaaGreatDoor
