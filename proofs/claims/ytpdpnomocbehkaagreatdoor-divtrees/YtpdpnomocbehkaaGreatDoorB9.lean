/- Cut, Lend and Intact: rows cut, lent, and held against what they were. -/
import Derived.Test.YtpdpnomocbehkaaGreatDoorB5
import Derived.Test.YtpdpnomocbehkaaGreatDoorB8
import Derived.Laws.CopyOwn
import Derived.Deep.QuietTactic
import Derived.BigQuiet
import Derived.WalkSmall
namespace Go.Proofs.YtpdpnomocbehkaaGreatDoor
open Go.RowKit
theorem Tryz.sizeU:(Tryz.prog.info? 90).map (·.size)=some 1:=by kernel_rfl
set_option maxHeartbeats 800000 in
theorem nH(w:World)(ga:Option Addr)(n cap m k:Nat)(hc:n<=cap)(_hm:m<=1073741824)(hk:k=min n m):
  Calls Tryz.prog 9 #[.slice ga n cap,.int .i64 (m:Int)] w fun e w'=>e=.returned (.slice ga k cap)/\w'=w:=by
 have hcase:(m<n/\k=m)\/(¬m<n/\k=n):=by omega
 clear hk
 rcases hcase with⟨h,rfl⟩|⟨h,rfl⟩
 ·go_enter Tryz.func9,Tryz.ntmps9
  go_wp2
  go_ret
  exact⟨aQ rfl,rfl⟩
 ·go_enter Tryz.func9,Tryz.ntmps9
  go_wp2
  go_ret
  exact⟨aQ rfl,rfl⟩
def aL(n:Nat):List Value:=cellsOf (List.replicate n 0)
def dN(xs:List Nat):List Value:=cellsOf xs
theorem fC(n:Nat):(aL n).length=n:=by simp[aL,cellsOf]
theorem aJ(xs:List Nat):(dN xs).length=xs.length:=by simp[dN,cellsOf]
theorem oZ(n:Nat):madeCells (Value.int .u64 0).cells n=(aL n).toArray:=by
 have h:=ij n
 have e:(Value.int .u64 0).cells=#[Value.int .u64 0]:=rfl
 rw[e,aL, <-h]
theorem kJ{w:World}{ga:Option Addr}{b o cap:Nat}{xs:List Nat}(hR:Rep w ga b o cap xs)(ob:Obj):0<(dN xs).length->∃ ad,ga=some ad/\∀ j v,(dN xs)[j]?=some v->(w.alloc ob).cell? (ad.add j)=some v:=by
 intro hp
 rw[aJ]at hp
 refine⟨⟨b,o,none⟩,hR.head hp,fun j v hj=>?_⟩
 have hjn:j<xs.length:=by
  have:=(List.getElem?_eq_some_iff.1 hj).1
  rwa [aJ]at this
 have ea:(⟨b,o,none⟩:Addr).add j=⟨b,o+j,none⟩:=by
  by_cases h0:j=0
  ·subst h0;simp[Addr.add]
  ·simp[Addr.add,h0]
 rw[ea,World.cell?_alloc_past _ _ _ (hR.lt hp),hR.cell j hjn]
 simp[dN,cellsOf,List.getElem?_eq_getElem hjn]at hj
 rw[<-hj,getD_lt hjn]
end Go.Proofs.YtpdpnomocbehkaaGreatDoor
/- More of rows in memory:rows that were cut,lent,or outlive a step. -/
namespace Go.Proofs.YtpdpnomocbehkaaGreatDoor
open Go.RowKit
theorem nI{w:World}{ga:Option Addr}{b o cap:Nat}{xs:List Nat}(h:Rep w ga b o cap xs)(m k:Nat)(hk:k=min xs.length m):(xs.take k).length=k/\Rep w ga b o cap (xs.take k):=by
 have hl:k<=xs.length:=by omega
 exact⟨by simp;omega,h.take k hl⟩
theorem km{xs:List Nat}(h:∀ j,xs.getD j 0<18446744073709551616)(k:Nat):∀ j,(xs.take k).getD j 0<18446744073709551616:=by
 intro j
 simp only[List.getD_eq_getElem?_getD,List.getElem?_take]
 split
 ·have:=h j;simpa [List.getD_eq_getElem?_getD]using this
 ·simp
theorem Rep.next{w w':World}{ga:Option Addr}{b o cap:Nat}{xs:List Nat}(h:Rep w ga b o cap xs)(hb:Below w.heap.size w w'):Rep w' ga b o cap xs:=h.below hb (Nat.le_refl _)
theorem Rep.drew{w:World}{ga:Option Addr}{b o cap:Nat}{xs:List Nat}(h:Rep w ga b o cap xs):Rep w.drew ga b o cap xs:=⟨h.head,h.room,h.cell⟩
end Go.Proofs.YtpdpnomocbehkaaGreatDoor
