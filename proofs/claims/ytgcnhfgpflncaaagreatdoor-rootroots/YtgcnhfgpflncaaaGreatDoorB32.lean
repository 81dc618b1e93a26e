/- What the rows' list gives: the two tables lie in their variables; and a start that meets it. -/
import Derived.Test.YtgcnhfgpflncaaaGreatDoorRows
import Derived.Test.YtgcnhfgpflncaaaGreatDoorB30
import Derived.Lib.LaidTab
import Derived.LaidMore
import Derived.MakeChecks
namespace Go.Proofs.YtgcnhfgpflncaaaGreatDoor
open Go.RowKit
def bC:List (String×DataW Unit):=[("math/bits.deBruijn64tab",Rows.laid_math_bits_deBruijn64tab),("ziggurat/prime.bases",Rows.laid_ziggurat_prime_bases)]
theorem gTab:Tryz.prog.globalNamed "math/bits.deBruijn64tab" =some 2:=by kernel_rfl
theorem Pv:Tryz.prog.globalNamed "ziggurat/prime.bases" =some 3:=by kernel_rfl
theorem Qc:(Tryz.prog.globals[2]?).map (·.type)=some 231:=by kernel_rfl
theorem PO:(Tryz.prog.globals[3]?).map (·.type)=some 232:=by kernel_rfl
theorem gC{W:World}(h:laidMetH Tryz.prog bC W):TB W:=by
 rw[MakeChecks.laidMetH_plain _ _ _ (by kernel_rfl)]at h
 obtain⟨ps,⟨g0,t0,cs0,f0,p0,q0,hg0,ht0,hv0,hd0,⟨g1,t1,cs1,f1,p1,q1,hg1,ht1,hv1,hd1,_,_⟩,_⟩,_,_⟩:=h
 obtain rfl:=Option.some.inj (gTab.symm.trans hg0)
 obtain rfl:=Option.some.inj (Pv.symm.trans hg1)
 obtain rfl:=Option.some.inj (Qc.symm.trans ht0)
 obtain rfl:=Option.some.inj (PO.symm.trans ht1)
 have e1:cs0.toList=(Lib.deBruijn64tab.map fun x:Nat=>(x:Int)).map fun z=>Value.int .u8 z:=
  Lib.cells_of_tab Tryz.underlying231 Tryz.underlying5 (by kernel_rfl) (by kernel_rfl) hd0
 have e2:cs1.toList=(bases.map fun x:Nat=>(x:Int)).map fun z=>Value.int .u64 z:=
  Lib.cells_of_tab Tryz.underlying232 Tryz.underlying41 (by kernel_rfl) (by kernel_rfl) hd1
 constructor
 ·intro j hj
  have:=World.var?_cell hg1 hv1 j
  rw[<-Array.getElem?_toList,e2]at this
  rw[this]
  have hl:j<bases.length:=hj
  simp[bs,hl]
 ·intro j hj
  have:=World.var?_cell hg0 hv0 j
  rw[<-Array.getElem?_toList,e1]at this
  rw[this]
  have hl:j<Lib.deBruijn64tab.length:=hj
  simp[hl]
theorem door_met(os:Os)(args:Array Value):laidMetH Tryz.prog bC ((World.doorLaid Tryz.prog 400 os).forCall (fun _ _=>0) ⟨#[],args,[]⟩).memory:=
 laidMetH_of_parts3 (fuel:=8) (laidMet_of_run' 8 (by kernel_rfl) (by kernel_rfl)) (by kernel_rfl) (by kernel_rfl)
end Go.Proofs.YtgcnhfgpflncaaaGreatDoor
