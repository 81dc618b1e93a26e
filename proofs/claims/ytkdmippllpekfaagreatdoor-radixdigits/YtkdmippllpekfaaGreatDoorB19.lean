import Derived.Test.YtkdmippllpekfaaGreatDoorRows
import Derived.Test.YtkdmippllpekfaaGreatDoorB11
import Derived.Lib.LaidTab
import Derived.LaidMore
namespace Go.Proofs.YtkdmippllpekfaaGreatDoor
open Go.RowKit
def gF:List (String×DataW Unit):=[("math/bits.deBruijn64tab",Rows.laid_math_bits_deBruijn64tab),("ziggurat/prime.bases",Rows.laid_ziggurat_prime_bases)]
theorem aeV:Tryz.prog.globalNamed "math/bits.deBruijn64tab" =some 2:=by kernel_rfl
theorem adM:Tryz.prog.globalNamed "ziggurat/prime.bases" =some 3:=by kernel_rfl
theorem afA:(Tryz.prog.globals[2]?).map (·.type)=some 269:=by kernel_rfl
theorem aeA:(Tryz.prog.globals[3]?).map (·.type)=some 270:=by kernel_rfl
theorem mJ{W:World}(h:laidMetH Tryz.prog gF W):TB W:=by
 rw[MakeChecks.laidMetH_plain _ _ _ (by kernel_rfl)]at h;obtain⟨ps,⟨g0,t0,cs0,f0,p0,q0,hg0,Nm,Up,lZ,⟨g1,t1,cs1,f1,p1,q1,Po,G',Mi,sJ,_,_⟩,_⟩,_,_⟩:=h;obtain rfl:=aZ (aeV.symm.trans hg0);obtain rfl:=aZ (adM.symm.trans Po);obtain rfl:=aZ (afA.symm.trans Nm);obtain rfl:=aZ (aeA.symm.trans G');have e1:cs0.toList=(Lib.deBruijn64tab.map fun x:Nat=>(x:Int)).map fun z=>Value.int .u8 z:=
  Lib.cells_of_tab Tryz.underlying269 Tryz.underlying5 (by kernel_rfl) (by kernel_rfl) lZ
 have e2:cs1.toList=(bases.map fun x:Nat=>(x:Int)).map fun z=>Value.int .u64 z:=
  Lib.cells_of_tab Tryz.underlying270 eG (by kernel_rfl) (by kernel_rfl) sJ
 constructor
 ·intro j hj;have:=World.var?_cell Po Mi j;rw[<-adp,e2]at this;rw[this];have hl:j<bases.length:=hj;simp[bs,hl]
 ·intro j hj;have:=World.var?_cell hg0 Up j;rw[<-adp,e1]at this;rw[this];have hl:j<Lib.deBruijn64tab.length:=hj;simp[hl]
theorem qD(os:Os)(args:Array Value):laidMetH Tryz.prog gF ((World.doorLaid Tryz.prog 400 os).forCall (fun _ _=>0) ⟨#[],args,[]⟩).memory:=
 laidMetH_of_parts3 (fuel:=8) (laidMet_of_run' 8 (by kernel_rfl) (by kernel_rfl)) (by kernel_rfl) (by kernel_rfl)
end Go.Proofs.YtkdmippllpekfaaGreatDoor
