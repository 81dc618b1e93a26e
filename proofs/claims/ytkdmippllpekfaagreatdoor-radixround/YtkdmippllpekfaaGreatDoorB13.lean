import Derived.Test.YtkdmippllpekfaaGreatDoorB10
import Derived.Lib.SmallJoins
namespace Go.Proofs.YtkdmippllpekfaaGreatDoor
open Go.RowKit Go.WideShapes Go.ChangeShapes
variable{held:Bool}{base:Nat}
theorem iW{H:Type}{enc:TypeId×Value->H}{w:World}{sp:Nat->Bool}{n i:Nat}{cs:List Value}{xs:List (DataW H×List MemPlace)}(hi:i<xs.length)(h:DataW.trod enc Tryz.prog w base sp held n 3 ((cs.drop i).take (Tryz.prog.cellsOf 3))=xs[i]?):∃z,cs[i]?=some (.int .i64 z):=by
 obtain⟨b,hb⟩:∃b,xs[i]?=some b:=⟨xs[i],bj hi⟩;have hc:Tryz.prog.cellsOf 3=1:=by kernel_rfl
 rw[hb,hc]at h;obtain⟨z,hz,_⟩:=DataW.trod_int gI h;refine⟨z,?_⟩;have:=gi (·[0]?) hz;simpa [List.getElem?_take,List.getElem?_drop]using this
theorem acP{α:Type}{l:List α}(h:l.length=11):∃a0 a1 a2 a3 a4 a5 a6 a7 a8 a9 a10,l=[a0,a1,a2,a3,a4,a5,a6,a7,a8,a9,a10]:=by
 match l,h with
 |[a0,a1,a2,a3,a4,a5,a6,a7,a8,a9,a10],_=>exact⟨a0,a1,a2,a3,a4,a5,a6,a7,a8,a9,a10,rfl⟩
set_option maxRecDepth 100000 in
theorem nn{H:Type}{enc:TypeId×Value->H}{W:World}{r:Reach}{b0:Nat}{sp:Nat->Bool}{v:Value}{d:DataW H}{p:List MemPlace}(hv:Value.okWide Tryz.prog W r b0 23 v)(h:DataW.Trod enc Tryz.prog W base sp held 23 v d p):∃T:bJ,v=T.val:=by
 obtain⟨cs,rfl,kF⟩:=okWide_struct Tryz.underlying23 hv;have hc:Tryz.prog.cellsOf 23=11:=by kernel_rfl
 rw[hc]at kF;obtain⟨fuel,hf⟩:=h;obtain⟨xs,n,rfl,hx,hl,jw,lJ⟩:=DataW.trod_struct Tryz.underlying23 hf;have jw:xs.length=11:=jw;obtain⟨z0,e0⟩:=iW (i:=0) (by omega) (lJ 0 _ rfl);obtain⟨z1,e1⟩:=iW (i:=1) (by omega) (lJ 1 _ rfl);obtain⟨z2,e2⟩:=iW (i:=2) (by omega) (lJ 2 _ rfl);obtain⟨z3,e3⟩:=iW (i:=3) (by omega) (lJ 3 _ rfl);obtain⟨z4,e4⟩:=iW (i:=4) (by omega) (lJ 4 _ rfl);obtain⟨z5,e5⟩:=iW (i:=5) (by omega) (lJ 5 _ rfl);obtain⟨z6,e6⟩:=iW (i:=6) (by omega) (lJ 6 _ rfl);obtain⟨z7,e7⟩:=iW (i:=7) (by omega) (lJ 7 _ rfl);obtain⟨z8,e8⟩:=iW (i:=8) (by omega) (lJ 8 _ rfl);obtain⟨z9,e9⟩:=iW (i:=9) (by omega) (lJ 9 _ rfl);obtain⟨z10,e10⟩:=iW (i:=10) (by omega) (lJ 10 _ rfl);refine⟨⟨z0,z1,z2,z3,z4,z5,z6,z7,z8,z9,z10⟩,?_⟩;obtain⟨a0,a1,a2,a3,a4,a5,a6,a7,a8,a9,a10,sH⟩:=acP (l:=cs.toList) (by simpa using kF);obtain rfl:cs=#[a0,a1,a2,a3,a4,a5,a6,a7,a8,a9,a10]:=by cases cs;simpa using sH
 simp[Value.cells]at e0 e1 e2 e3 e4 e5 e6 e7 e8 e9 e10;subst e0 e1 e2 e3 e4 e5 e6 e7 e8 e9 e10;rfl
end Go.Proofs.YtkdmippllpekfaaGreatDoor
