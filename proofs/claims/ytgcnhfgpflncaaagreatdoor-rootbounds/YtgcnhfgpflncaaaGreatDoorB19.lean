/- A table that came in: eleven whole numbers. -/
import Derived.Test.YtgcnhfgpflncaaaGreatDoorB17
import Derived.OpenShut
import Derived.Lib.SmallJoins
namespace Go.Proofs.YtgcnhfgpflncaaaGreatDoor
open Go.RowKit Go.WideShapes Go.ChangeShapes
theorem cf{H:Type}{enc:TypeId×Value->H}{w:World}{base:Nat}{sp:Nat->Bool}{held:Bool}{n i:Nat}{cs:List Value}{xs:List (DataW H×List MemPlace)}(hi:i<xs.length)
  (h:DataW.trod enc Tryz.prog w base sp held n 3 ((cs.drop i).take (Tryz.prog.cellsOf 3))=xs[i]?):∃ z,cs[i]?=some (.int .i64 z):=by
 obtain⟨b,hb⟩:∃ b,xs[i]?=some b:=⟨xs[i],List.getElem?_eq_getElem hi⟩
 have hc:Tryz.prog.cellsOf 3=1:=by kernel_rfl
 rw[hb,hc]at h
 obtain⟨z,hz,_⟩:=DataW.trod_int Tryz.underlying3 h
 refine⟨z,?_⟩
 have:=congrArg (·[0]?) hz
 simpa [List.getElem?_take,List.getElem?_drop]using this
theorem Ot{α:Type}{l:List α}(h:l.length=11):∃ a0 a1 a2 a3 a4 a5 a6 a7 a8 a9 a10,l=[a0,a1,a2,a3,a4,a5,a6,a7,a8,a9,a10]:=by
 match l,h with
 |[a0,a1,a2,a3,a4,a5,a6,a7,a8,a9,a10],_=>exact⟨a0,a1,a2,a3,a4,a5,a6,a7,a8,a9,a10,rfl⟩
set_option maxRecDepth 100000 in
theorem iE{H:Type}{enc:TypeId×Value->H}{W:World}{r:Reach}{b0:Nat}{base:Nat}{sp:Nat->Bool}{held:Bool}{v:Value}{d:DataW H}{p:List MemPlace}
  (hv:Value.okWide Tryz.prog W r b0 23 v) (h:DataW.Trod enc Tryz.prog W base sp held 23 v d p):∃ T:Tab,v=T.val:=by
 obtain⟨cs,rfl,hsz⟩:=okWide_struct Tryz.underlying23 hv
 have hc:Tryz.prog.cellsOf 23=11:=by kernel_rfl
 rw[hc]at hsz
 obtain⟨fuel,hf⟩:=h
 obtain⟨xs,n,rfl,hx,hl,hxl,hall⟩:=DataW.trod_struct Tryz.underlying23 hf
 have hxl:xs.length=11:=hxl
 obtain⟨z0,e0⟩:=cf (i:=0) (by omega) (hall 0 _ rfl)
 obtain⟨z1,e1⟩:=cf (i:=1) (by omega) (hall 1 _ rfl)
 obtain⟨z2,e2⟩:=cf (i:=2) (by omega) (hall 2 _ rfl)
 obtain⟨z3,e3⟩:=cf (i:=3) (by omega) (hall 3 _ rfl)
 obtain⟨z4,e4⟩:=cf (i:=4) (by omega) (hall 4 _ rfl)
 obtain⟨z5,e5⟩:=cf (i:=5) (by omega) (hall 5 _ rfl)
 obtain⟨z6,e6⟩:=cf (i:=6) (by omega) (hall 6 _ rfl)
 obtain⟨z7,e7⟩:=cf (i:=7) (by omega) (hall 7 _ rfl)
 obtain⟨z8,e8⟩:=cf (i:=8) (by omega) (hall 8 _ rfl)
 obtain⟨z9,e9⟩:=cf (i:=9) (by omega) (hall 9 _ rfl)
 obtain⟨z10,e10⟩:=cf (i:=10) (by omega) (hall 10 _ rfl)
 refine⟨⟨z0,z1,z2,z3,z4,z5,z6,z7,z8,z9,z10⟩,?_⟩
 obtain⟨a0,a1,a2,a3,a4,a5,a6,a7,a8,a9,a10,hcs⟩:=Ot (l:=cs.toList) (by simpa using hsz)
 obtain rfl:cs=#[a0,a1,a2,a3,a4,a5,a6,a7,a8,a9,a10]:=by cases cs;simpa using hcs
 simp[Value.cells]at e0 e1 e2 e3 e4 e5 e6 e7 e8 e9 e10
 subst e0 e1 e2 e3 e4 e5 e6 e7 e8 e9 e10
 rfl
end Go.Proofs.YtgcnhfgpflncaaaGreatDoor
