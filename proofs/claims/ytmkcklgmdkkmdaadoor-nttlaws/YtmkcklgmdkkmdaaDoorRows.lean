/-
  NARROWER THAN 'FOR EVERY INPUT', by the rows' own cells (each row's printed sentence says how): NttNews: laid · NttForwards: laid · NttBack: laid · NttCyclics: laid · NttConvs: laid · NttLaws: laid.
  DERIVED. THE GIVEN ROWS OF THIS SEAT. 6 by the template 'for every input the law returns true; each argument reads behind the call as it read before'; 0 by the template 'total and deterministic' (their statements: YtmkcklgmdkkmdaaDoorTotals.lean).
  GIVEN WITH THE SEED: the statements are not yours to turn. If you find one false, say at which input.
  Laid BY PROGRAM, IN A SANDBOX (cutbox-rows.mjs): the forced cells as the released guide's own fill.sh prints them over the translation 07b6f8f2fb39d97f… (all of the seat's roots in one cut). By AI agents, Wed Nov 11 2026. No macro, syntax, notation, axiom, sorry.
-/
import Derived.Test.YtmkcklgmdkkmdaaDoorChecked
import GoSem.Claim
import GoSem.ClaimJoined
import GoSem.ClaimMapViews
import Derived.JoinedTies
import Derived.KernelRfl
namespace Go.Proofs.YtmkcklgmdkkmdaaDoor
/- THE CELL 'sum', in the pinned program and in every row, IS THE sha256 OF THE DUMP (.gsa) THAT YtmkcklgmdkkmdaaDoorProg.lean LOADS. Nothing in Lean hashes anything: it is a label: what it is worth is what the hold of that sum in a sandbox is worth. -/
noncomputable def Tryd.pinned : Pinned := { name := "ytmkcklgmdkkmdaadoor", sum := "07b6f8f2fb39d97f905f9a02e8dceed8c9d2c041a57ba14d9d298e9ce5540a54", checked := Tryd.checked }
namespace Rows
def none {H : Type} : Left H := { results := [], args := [] }

/- WHAT THE LISTED PACKAGE-LEVEL VARIABLES READ AS WHEN THE CALL BEGINS. Each datum BY PROGRAM (the guide's laid-datum.mjs) off the statement by which the dump's own 'gosem.cut.vars' lays the variable. In a bare row this is a premise. The card (YtmkcklgmdkkmdaaDoorCards.lean) ties it to the program's text. -/
def laid_math_bits_deBruijn64tab {H : Type} : DataW H := .agg [.lit (.int .u8 0), .lit (.int .u8 1), .lit (.int .u8 56), .lit (.int .u8 2), .lit (.int .u8 57), .lit (.int .u8 49), .lit (.int .u8 28), .lit (.int .u8 3), .lit (.int .u8 61), .lit (.int .u8 58), .lit (.int .u8 42), .lit (.int .u8 50), .lit (.int .u8 38), .lit (.int .u8 29), .lit (.int .u8 17), .lit (.int .u8 4), .lit (.int .u8 62), .lit (.int .u8 47), .lit (.int .u8 59), .lit (.int .u8 36), .lit (.int .u8 45), .lit (.int .u8 43), .lit (.int .u8 51), .lit (.int .u8 22), .lit (.int .u8 53), .lit (.int .u8 39), .lit (.int .u8 33), .lit (.int .u8 30), .lit (.int .u8 24), .lit (.int .u8 18), .lit (.int .u8 12), .lit (.int .u8 5), .lit (.int .u8 63), .lit (.int .u8 55), .lit (.int .u8 48), .lit (.int .u8 27), .lit (.int .u8 60), .lit (.int .u8 41), .lit (.int .u8 37), .lit (.int .u8 16), .lit (.int .u8 46), .lit (.int .u8 35), .lit (.int .u8 44), .lit (.int .u8 21), .lit (.int .u8 52), .lit (.int .u8 32), .lit (.int .u8 23), .lit (.int .u8 11), .lit (.int .u8 54), .lit (.int .u8 26), .lit (.int .u8 40), .lit (.int .u8 15), .lit (.int .u8 34), .lit (.int .u8 20), .lit (.int .u8 31), .lit (.int .u8 10), .lit (.int .u8 25), .lit (.int .u8 14), .lit (.int .u8 19), .lit (.int .u8 9), .lit (.int .u8 13), .lit (.int .u8 8), .lit (.int .u8 7), .lit (.int .u8 6)]
def laid_ziggurat_prime_bases {H : Type} : DataW H := .agg [.lit (.int .u64 2), .lit (.int .u64 3), .lit (.int .u64 5), .lit (.int .u64 7), .lit (.int .u64 11), .lit (.int .u64 13), .lit (.int .u64 17), .lit (.int .u64 19), .lit (.int .u64 23), .lit (.int .u64 29), .lit (.int .u64 31), .lit (.int .u64 37)]

/-- 'zigguratlaw08.NttNews': WHATEVER THE INPUT: true; the input reads as it did. -/
def nttNewsSpec : ChangeSpec := { name := "nttNews", fn := fun _ => fun
  | [d1, d2] => { results := [.lit (.bool true)], args := [d1, d2] }
  | _ => none }
def nttNewsRow : OpenClaim := { program := "ytmkcklgmdkkmdaadoor", sum := "07b6f8f2fb39d97f905f9a02e8dceed8c9d2c041a57ba14d9d298e9ce5540a54", func := "ziggurat/zigguratlaw08.NttNews", spec := "nttNews", named := ["math/bits.divideError", "math/bits.overflowError", "ziggurat/prime.bases", "math/bits.deBruijn64tab"], apart := false, laid := [("math/bits.deBruijn64tab", laid_math_bits_deBruijn64tab), ("ziggurat/prime.bases", laid_ziggurat_prime_bases)] }
def NttNewsSaid : Prop := nttNewsRow.holds Tryd.pinned (OpenSpec.ofChange nttNewsSpec)

/-- ITS FALSE NEIGHBOUR: 'it returns false'. Refute it at one input. -/
def nttNewsWrong : ChangeSpec := { name := "nttNews", fn := fun _ => fun
  | [d1, d2] => { results := [.lit (.bool false)], args := [d1, d2] }
  | _ => none }
def NttNewsWrongFalsely : Prop := nttNewsRow.holds Tryd.pinned (OpenSpec.ofChange nttNewsWrong)

/-- 'zigguratlaw08.NttForwards': WHATEVER THE INPUT: true; the input reads as it did. -/
def nttForwardsSpec : ChangeSpec := { name := "nttForwards", fn := fun _ => fun
  | [d1, d2, d3, d4] => { results := [.lit (.bool true)], args := [d1, d2, d3, d4] }
  | _ => none }
def nttForwardsRow : OpenClaim := { program := "ytmkcklgmdkkmdaadoor", sum := "07b6f8f2fb39d97f905f9a02e8dceed8c9d2c041a57ba14d9d298e9ce5540a54", func := "ziggurat/zigguratlaw08.NttForwards", spec := "nttForwards", named := ["math/bits.divideError", "math/bits.overflowError", "ziggurat/prime.bases", "math/bits.deBruijn64tab"], apart := false, laid := [("math/bits.deBruijn64tab", laid_math_bits_deBruijn64tab), ("ziggurat/prime.bases", laid_ziggurat_prime_bases)] }
def NttForwardsSaid : Prop := nttForwardsRow.holds Tryd.pinned (OpenSpec.ofChange nttForwardsSpec)

/-- ITS FALSE NEIGHBOUR: 'it returns false'. Refute it at one input. -/
def nttForwardsWrong : ChangeSpec := { name := "nttForwards", fn := fun _ => fun
  | [d1, d2, d3, d4] => { results := [.lit (.bool false)], args := [d1, d2, d3, d4] }
  | _ => none }
def NttForwardsWrongFalsely : Prop := nttForwardsRow.holds Tryd.pinned (OpenSpec.ofChange nttForwardsWrong)

/-- 'zigguratlaw08.NttBack': WHATEVER THE INPUT: true; the input reads as it did. -/
def nttBackSpec : ChangeSpec := { name := "nttBack", fn := fun _ => fun
  | [d1, d2, d3] => { results := [.lit (.bool true)], args := [d1, d2, d3] }
  | _ => none }
def nttBackRow : OpenClaim := { program := "ytmkcklgmdkkmdaadoor", sum := "07b6f8f2fb39d97f905f9a02e8dceed8c9d2c041a57ba14d9d298e9ce5540a54", func := "ziggurat/zigguratlaw08.NttBack", spec := "nttBack", named := ["math/bits.divideError", "math/bits.overflowError", "ziggurat/prime.bases", "math/bits.deBruijn64tab"], apart := false, laid := [("math/bits.deBruijn64tab", laid_math_bits_deBruijn64tab), ("ziggurat/prime.bases", laid_ziggurat_prime_bases)] }
def NttBackSaid : Prop := nttBackRow.holds Tryd.pinned (OpenSpec.ofChange nttBackSpec)

/-- ITS FALSE NEIGHBOUR: 'it returns false'. Refute it at one input. -/
def nttBackWrong : ChangeSpec := { name := "nttBack", fn := fun _ => fun
  | [d1, d2, d3] => { results := [.lit (.bool false)], args := [d1, d2, d3] }
  | _ => none }
def NttBackWrongFalsely : Prop := nttBackRow.holds Tryd.pinned (OpenSpec.ofChange nttBackWrong)

/-- 'zigguratlaw08.NttCyclics': WHATEVER THE INPUT: true; the input reads as it did. -/
def nttCyclicsSpec : ChangeSpec := { name := "nttCyclics", fn := fun _ => fun
  | [d1, d2, d3, d4] => { results := [.lit (.bool true)], args := [d1, d2, d3, d4] }
  | _ => none }
def nttCyclicsRow : OpenClaim := { program := "ytmkcklgmdkkmdaadoor", sum := "07b6f8f2fb39d97f905f9a02e8dceed8c9d2c041a57ba14d9d298e9ce5540a54", func := "ziggurat/zigguratlaw08.NttCyclics", spec := "nttCyclics", named := ["math/bits.divideError", "math/bits.overflowError", "ziggurat/prime.bases", "math/bits.deBruijn64tab"], apart := false, laid := [("math/bits.deBruijn64tab", laid_math_bits_deBruijn64tab), ("ziggurat/prime.bases", laid_ziggurat_prime_bases)] }
def NttCyclicsSaid : Prop := nttCyclicsRow.holds Tryd.pinned (OpenSpec.ofChange nttCyclicsSpec)

/-- ITS FALSE NEIGHBOUR: 'it returns false'. Refute it at one input. -/
def nttCyclicsWrong : ChangeSpec := { name := "nttCyclics", fn := fun _ => fun
  | [d1, d2, d3, d4] => { results := [.lit (.bool false)], args := [d1, d2, d3, d4] }
  | _ => none }
def NttCyclicsWrongFalsely : Prop := nttCyclicsRow.holds Tryd.pinned (OpenSpec.ofChange nttCyclicsWrong)

/-- 'zigguratlaw08.NttConvs': WHATEVER THE INPUT: true; the input reads as it did. -/
def nttConvsSpec : ChangeSpec := { name := "nttConvs", fn := fun _ => fun
  | [d1, d2, d3, d4] => { results := [.lit (.bool true)], args := [d1, d2, d3, d4] }
  | _ => none }
def nttConvsRow : OpenClaim := { program := "ytmkcklgmdkkmdaadoor", sum := "07b6f8f2fb39d97f905f9a02e8dceed8c9d2c041a57ba14d9d298e9ce5540a54", func := "ziggurat/zigguratlaw08.NttConvs", spec := "nttConvs", named := ["math/bits.divideError", "math/bits.overflowError", "ziggurat/prime.bases", "math/bits.deBruijn64tab"], apart := false, laid := [("math/bits.deBruijn64tab", laid_math_bits_deBruijn64tab), ("ziggurat/prime.bases", laid_ziggurat_prime_bases)] }
def NttConvsSaid : Prop := nttConvsRow.holds Tryd.pinned (OpenSpec.ofChange nttConvsSpec)

/-- ITS FALSE NEIGHBOUR: 'it returns false'. Refute it at one input. -/
def nttConvsWrong : ChangeSpec := { name := "nttConvs", fn := fun _ => fun
  | [d1, d2, d3, d4] => { results := [.lit (.bool false)], args := [d1, d2, d3, d4] }
  | _ => none }
def NttConvsWrongFalsely : Prop := nttConvsRow.holds Tryd.pinned (OpenSpec.ofChange nttConvsWrong)

/-- 'zigguratlaw08.NttLaws': WHATEVER THE INPUT: true; the input reads as it did. -/
def nttLawsSpec : ChangeSpec := { name := "nttLaws", fn := fun _ => fun
  | [d1, d2, d3, d4] => { results := [.lit (.bool true)], args := [d1, d2, d3, d4] }
  | _ => none }
def nttLawsRow : OpenClaim := { program := "ytmkcklgmdkkmdaadoor", sum := "07b6f8f2fb39d97f905f9a02e8dceed8c9d2c041a57ba14d9d298e9ce5540a54", func := "ziggurat/zigguratlaw08.NttLaws", spec := "nttLaws", named := ["math/bits.divideError", "math/bits.overflowError", "ziggurat/prime.bases", "math/bits.deBruijn64tab"], apart := false, laid := [("math/bits.deBruijn64tab", laid_math_bits_deBruijn64tab), ("ziggurat/prime.bases", laid_ziggurat_prime_bases)] }
def NttLawsSaid : Prop := nttLawsRow.holds Tryd.pinned (OpenSpec.ofChange nttLawsSpec)

/-- ITS FALSE NEIGHBOUR: 'it returns false'. Refute it at one input. -/
def nttLawsWrong : ChangeSpec := { name := "nttLaws", fn := fun _ => fun
  | [d1, d2, d3, d4] => { results := [.lit (.bool false)], args := [d1, d2, d3, d4] }
  | _ => none }
def NttLawsWrongFalsely : Prop := nttLawsRow.holds Tryd.pinned (OpenSpec.ofChange nttLawsWrong)

/- THE SECOND FORM. 'bulk': how many values and letters a reading holds, each counted each time it is reached (what is shared counts as often as it is met; a slice's spare places count too). A statement '..UptoSaid' is the law's where the arguments, and the package variables that the reading takes, are together of bulk at most 1048576: NARROWER than '..Said'. Prove '..Said' where nothing that the law and all that it calls make is longer than what came in: it says more and counts as full. Else prove '..UptoSaid'. A law counts once. -/
mutual
def uptoBulk {H : Type} : DataW H → Nat
  | .lit (.string bytes) => bytes.length + 1
  | .lit _ => 1
  | .nil => 1
  | .ptr d => uptoBulk d + 1
  | .slice elems spare => uptoBulkAll elems + uptoBulkAll spare + 1
  | .agg parts => uptoBulkAll parts + 1
  | .iface _ d => uptoBulk d + 1
  | .map entries => uptoBulkEntries entries + 1
  | .held _ => 1
def uptoBulkAll {H : Type} : List (DataW H) → Nat
  | [] => 0
  | d :: r => uptoBulk d + uptoBulkAll r
def uptoBulkEntries {H : Type} : List (Lit × DataW H) → Nat
  | [] => 0
  | x :: r => uptoBulkEntry x + uptoBulkEntries r
def uptoBulkEntry {H : Type} : Lit × DataW H → Nat
  | (.string bytes, d) => bytes.length + uptoBulk d + 1
  | (_, d) => uptoBulk d + 1
 end
def uptoSmall : (H : Type) → List (DataW H) → Bool := fun _ ds => decide (uptoBulkAll ds ≤ 1048576)
def OpenSpec.upto (s : _root_.Go.ChangeSpec) : _root_.Go.OpenSpec := { _root_.Go.OpenSpec.ofChange s with cond := some uptoSmall }

/-- 'zigguratlaw08.NttNews', WHERE WHAT IT READS IS OF BULK AT MOST 1048576: true; the input reads as it did. -/
def nttNewsUptoRow : OpenClaim := { program := "ytmkcklgmdkkmdaadoor", sum := "07b6f8f2fb39d97f905f9a02e8dceed8c9d2c041a57ba14d9d298e9ce5540a54", func := "ziggurat/zigguratlaw08.NttNews", spec := "nttNews", named := ["math/bits.divideError", "math/bits.overflowError", "ziggurat/prime.bases", "math/bits.deBruijn64tab"], apart := false, laid := [("math/bits.deBruijn64tab", laid_math_bits_deBruijn64tab), ("ziggurat/prime.bases", laid_ziggurat_prime_bases)], narrowed := true }
def NttNewsUptoSaid : Prop := nttNewsUptoRow.holds Tryd.pinned (OpenSpec.upto nttNewsSpec)

/-- 'zigguratlaw08.NttForwards', WHERE WHAT IT READS IS OF BULK AT MOST 1048576: true; the input reads as it did. -/
def nttForwardsUptoRow : OpenClaim := { program := "ytmkcklgmdkkmdaadoor", sum := "07b6f8f2fb39d97f905f9a02e8dceed8c9d2c041a57ba14d9d298e9ce5540a54", func := "ziggurat/zigguratlaw08.NttForwards", spec := "nttForwards", named := ["math/bits.divideError", "math/bits.overflowError", "ziggurat/prime.bases", "math/bits.deBruijn64tab"], apart := false, laid := [("math/bits.deBruijn64tab", laid_math_bits_deBruijn64tab), ("ziggurat/prime.bases", laid_ziggurat_prime_bases)], narrowed := true }
def NttForwardsUptoSaid : Prop := nttForwardsUptoRow.holds Tryd.pinned (OpenSpec.upto nttForwardsSpec)

/-- 'zigguratlaw08.NttBack', WHERE WHAT IT READS IS OF BULK AT MOST 1048576: true; the input reads as it did. -/
def nttBackUptoRow : OpenClaim := { program := "ytmkcklgmdkkmdaadoor", sum := "07b6f8f2fb39d97f905f9a02e8dceed8c9d2c041a57ba14d9d298e9ce5540a54", func := "ziggurat/zigguratlaw08.NttBack", spec := "nttBack", named := ["math/bits.divideError", "math/bits.overflowError", "ziggurat/prime.bases", "math/bits.deBruijn64tab"], apart := false, laid := [("math/bits.deBruijn64tab", laid_math_bits_deBruijn64tab), ("ziggurat/prime.bases", laid_ziggurat_prime_bases)], narrowed := true }
def NttBackUptoSaid : Prop := nttBackUptoRow.holds Tryd.pinned (OpenSpec.upto nttBackSpec)

/-- 'zigguratlaw08.NttCyclics', WHERE WHAT IT READS IS OF BULK AT MOST 1048576: true; the input reads as it did. -/
def nttCyclicsUptoRow : OpenClaim := { program := "ytmkcklgmdkkmdaadoor", sum := "07b6f8f2fb39d97f905f9a02e8dceed8c9d2c041a57ba14d9d298e9ce5540a54", func := "ziggurat/zigguratlaw08.NttCyclics", spec := "nttCyclics", named := ["math/bits.divideError", "math/bits.overflowError", "ziggurat/prime.bases", "math/bits.deBruijn64tab"], apart := false, laid := [("math/bits.deBruijn64tab", laid_math_bits_deBruijn64tab), ("ziggurat/prime.bases", laid_ziggurat_prime_bases)], narrowed := true }
def NttCyclicsUptoSaid : Prop := nttCyclicsUptoRow.holds Tryd.pinned (OpenSpec.upto nttCyclicsSpec)

/-- 'zigguratlaw08.NttConvs', WHERE WHAT IT READS IS OF BULK AT MOST 1048576: true; the input reads as it did. -/
def nttConvsUptoRow : OpenClaim := { program := "ytmkcklgmdkkmdaadoor", sum := "07b6f8f2fb39d97f905f9a02e8dceed8c9d2c041a57ba14d9d298e9ce5540a54", func := "ziggurat/zigguratlaw08.NttConvs", spec := "nttConvs", named := ["math/bits.divideError", "math/bits.overflowError", "ziggurat/prime.bases", "math/bits.deBruijn64tab"], apart := false, laid := [("math/bits.deBruijn64tab", laid_math_bits_deBruijn64tab), ("ziggurat/prime.bases", laid_ziggurat_prime_bases)], narrowed := true }
def NttConvsUptoSaid : Prop := nttConvsUptoRow.holds Tryd.pinned (OpenSpec.upto nttConvsSpec)

/-- 'zigguratlaw08.NttLaws', WHERE WHAT IT READS IS OF BULK AT MOST 1048576: true; the input reads as it did. -/
def nttLawsUptoRow : OpenClaim := { program := "ytmkcklgmdkkmdaadoor", sum := "07b6f8f2fb39d97f905f9a02e8dceed8c9d2c041a57ba14d9d298e9ce5540a54", func := "ziggurat/zigguratlaw08.NttLaws", spec := "nttLaws", named := ["math/bits.divideError", "math/bits.overflowError", "ziggurat/prime.bases", "math/bits.deBruijn64tab"], apart := false, laid := [("math/bits.deBruijn64tab", laid_math_bits_deBruijn64tab), ("ziggurat/prime.bases", laid_ziggurat_prime_bases)], narrowed := true }
def NttLawsUptoSaid : Prop := nttLawsUptoRow.holds Tryd.pinned (OpenSpec.upto nttLawsSpec)

end Rows
end Go.Proofs.YtmkcklgmdkkmdaaDoor
