/-
  NARROWER THAN 'FOR EVERY INPUT', by the rows' own cells (each row's printed sentence says how): RadixTexts: laid · RadixParses: laid · RadixBack: laid · RadixDigits: laid · RadixValues: laid · RadixRound: laid.
  DERIVED. THE GIVEN ROWS OF THIS SEAT. 6 by the template 'for every input the law returns true; each argument reads behind the call as it read before'; 0 by the template 'total and deterministic' (their statements: YtkdmippllpekfaaGreatDoorTotals.lean).
  GIVEN WITH THE SEED: the statements are not yours to turn. If you find one false, say at which input.
  Laid BY PROGRAM, IN A SANDBOX (cutbox-rows.mjs): the forced cells as the released guide's own fill.sh prints them over the translation cf0a35731806b2c6… (all of the seat's roots in one cut). By AI agents, Wed Nov 11 2026. No macro, syntax, notation, axiom, sorry.
-/
import Derived.Test.YtkdmippllpekfaaGreatDoorChecked
import GoSem.Claim
import GoSem.ClaimJoined
import GoSem.ClaimMapViews
import Derived.JoinedTies
import Derived.KernelRfl
namespace Go.Proofs.YtkdmippllpekfaaGreatDoor
/- THE CELL 'sum', in the pinned program and in every row, IS THE sha256 OF THE DUMP (.gsa) THAT YtkdmippllpekfaaGreatDoorProg.lean LOADS. Nothing in Lean hashes anything: it is a label: what it is worth is what the hold of that sum in a sandbox is worth. -/
noncomputable def Tryz.pinned : Pinned := { name := "ytkdmippllpekfaagreatdoor", sum := "cf0a35731806b2c6b4437a1bf50f4cdb3e36480509cb3e1a2e3052ad6ea4776b", checked := Tryz.checked }
namespace Rows
def none {H : Type} : Left H := { results := [], args := [] }

/- WHAT THE LISTED PACKAGE-LEVEL VARIABLES READ AS WHEN THE CALL BEGINS. Each datum BY PROGRAM (the guide's laid-datum.mjs) off the statement by which the dump's own 'gosem.cut.vars' lays the variable. In a bare row this is a premise. The card (YtkdmippllpekfaaGreatDoorCards.lean) ties it to the program's text. -/
def laid_math_bits_deBruijn64tab {H : Type} : DataW H := .agg [.lit (.int .u8 0), .lit (.int .u8 1), .lit (.int .u8 56), .lit (.int .u8 2), .lit (.int .u8 57), .lit (.int .u8 49), .lit (.int .u8 28), .lit (.int .u8 3), .lit (.int .u8 61), .lit (.int .u8 58), .lit (.int .u8 42), .lit (.int .u8 50), .lit (.int .u8 38), .lit (.int .u8 29), .lit (.int .u8 17), .lit (.int .u8 4), .lit (.int .u8 62), .lit (.int .u8 47), .lit (.int .u8 59), .lit (.int .u8 36), .lit (.int .u8 45), .lit (.int .u8 43), .lit (.int .u8 51), .lit (.int .u8 22), .lit (.int .u8 53), .lit (.int .u8 39), .lit (.int .u8 33), .lit (.int .u8 30), .lit (.int .u8 24), .lit (.int .u8 18), .lit (.int .u8 12), .lit (.int .u8 5), .lit (.int .u8 63), .lit (.int .u8 55), .lit (.int .u8 48), .lit (.int .u8 27), .lit (.int .u8 60), .lit (.int .u8 41), .lit (.int .u8 37), .lit (.int .u8 16), .lit (.int .u8 46), .lit (.int .u8 35), .lit (.int .u8 44), .lit (.int .u8 21), .lit (.int .u8 52), .lit (.int .u8 32), .lit (.int .u8 23), .lit (.int .u8 11), .lit (.int .u8 54), .lit (.int .u8 26), .lit (.int .u8 40), .lit (.int .u8 15), .lit (.int .u8 34), .lit (.int .u8 20), .lit (.int .u8 31), .lit (.int .u8 10), .lit (.int .u8 25), .lit (.int .u8 14), .lit (.int .u8 19), .lit (.int .u8 9), .lit (.int .u8 13), .lit (.int .u8 8), .lit (.int .u8 7), .lit (.int .u8 6)]
def laid_ziggurat_prime_bases {H : Type} : DataW H := .agg [.lit (.int .u64 2), .lit (.int .u64 3), .lit (.int .u64 5), .lit (.int .u64 7), .lit (.int .u64 11), .lit (.int .u64 13), .lit (.int .u64 17), .lit (.int .u64 19), .lit (.int .u64 23), .lit (.int .u64 29), .lit (.int .u64 31), .lit (.int .u64 37)]

/-- 'zigguratlaw17.RadixTexts': WHATEVER THE INPUT: true; the input reads as it did. -/
def radixTextsSpec : ChangeSpec := { name := "radixTexts", fn := fun _ => fun
  | [d1, d2, d3] => { results := [.lit (.bool true)], args := [d1, d2, d3] }
  | _ => none }
def radixTextsRow : OpenClaim := { program := "ytkdmippllpekfaagreatdoor", sum := "cf0a35731806b2c6b4437a1bf50f4cdb3e36480509cb3e1a2e3052ad6ea4776b", func := "ziggurat/zigguratlaw17.RadixTexts", spec := "radixTexts", inPlace := ["math/bits.Add64", "math/bits.Sub64"], unfollowed := true, recurses := true, named := ["math/bits.divideError", "math/bits.overflowError", "ziggurat/prime.bases", "math/bits.deBruijn64tab"], apart := false, laid := [("math/bits.deBruijn64tab", laid_math_bits_deBruijn64tab), ("ziggurat/prime.bases", laid_ziggurat_prime_bases)] }
def RadixTextsSaid : Prop := radixTextsRow.holds Tryz.pinned (OpenSpec.ofChange radixTextsSpec)

/-- ITS FALSE NEIGHBOUR: 'it returns false'. Refute it at one input. -/
def radixTextsWrong : ChangeSpec := { name := "radixTexts", fn := fun _ => fun
  | [d1, d2, d3] => { results := [.lit (.bool false)], args := [d1, d2, d3] }
  | _ => none }
def RadixTextsWrongFalsely : Prop := radixTextsRow.holds Tryz.pinned (OpenSpec.ofChange radixTextsWrong)

/-- 'zigguratlaw17.RadixParses': WHATEVER THE INPUT: true; the input reads as it did. -/
def radixParsesSpec : ChangeSpec := { name := "radixParses", fn := fun _ => fun
  | [d1, d2, d3] => { results := [.lit (.bool true)], args := [d1, d2, d3] }
  | _ => none }
def radixParsesRow : OpenClaim := { program := "ytkdmippllpekfaagreatdoor", sum := "cf0a35731806b2c6b4437a1bf50f4cdb3e36480509cb3e1a2e3052ad6ea4776b", func := "ziggurat/zigguratlaw17.RadixParses", spec := "radixParses", inPlace := ["math/bits.Add64", "math/bits.Sub64"], unfollowed := true, recurses := true, named := ["math/bits.divideError", "math/bits.overflowError", "ziggurat/prime.bases", "math/bits.deBruijn64tab"], apart := false, laid := [("math/bits.deBruijn64tab", laid_math_bits_deBruijn64tab), ("ziggurat/prime.bases", laid_ziggurat_prime_bases)] }
def RadixParsesSaid : Prop := radixParsesRow.holds Tryz.pinned (OpenSpec.ofChange radixParsesSpec)

/-- ITS FALSE NEIGHBOUR: 'it returns false'. Refute it at one input. -/
def radixParsesWrong : ChangeSpec := { name := "radixParses", fn := fun _ => fun
  | [d1, d2, d3] => { results := [.lit (.bool false)], args := [d1, d2, d3] }
  | _ => none }
def RadixParsesWrongFalsely : Prop := radixParsesRow.holds Tryz.pinned (OpenSpec.ofChange radixParsesWrong)

/-- 'zigguratlaw17.RadixBack': WHATEVER THE INPUT: true; the input reads as it did. -/
def radixBackSpec : ChangeSpec := { name := "radixBack", fn := fun _ => fun
  | [d1, d2, d3, d4, d5] => { results := [.lit (.bool true)], args := [d1, d2, d3, d4, d5] }
  | _ => none }
def radixBackRow : OpenClaim := { program := "ytkdmippllpekfaagreatdoor", sum := "cf0a35731806b2c6b4437a1bf50f4cdb3e36480509cb3e1a2e3052ad6ea4776b", func := "ziggurat/zigguratlaw17.RadixBack", spec := "radixBack", inPlace := ["math/bits.Add64", "math/bits.Sub64"], unfollowed := true, recurses := true, named := ["math/bits.divideError", "math/bits.overflowError", "ziggurat/prime.bases", "math/bits.deBruijn64tab"], apart := false, laid := [("math/bits.deBruijn64tab", laid_math_bits_deBruijn64tab), ("ziggurat/prime.bases", laid_ziggurat_prime_bases)] }
def RadixBackSaid : Prop := radixBackRow.holds Tryz.pinned (OpenSpec.ofChange radixBackSpec)

/-- ITS FALSE NEIGHBOUR: 'it returns false'. Refute it at one input. -/
def radixBackWrong : ChangeSpec := { name := "radixBack", fn := fun _ => fun
  | [d1, d2, d3, d4, d5] => { results := [.lit (.bool false)], args := [d1, d2, d3, d4, d5] }
  | _ => none }
def RadixBackWrongFalsely : Prop := radixBackRow.holds Tryz.pinned (OpenSpec.ofChange radixBackWrong)

/-- 'zigguratlaw17.RadixDigits': WHATEVER THE INPUT: true; the input reads as it did. -/
def radixDigitsSpec : ChangeSpec := { name := "radixDigits", fn := fun _ => fun
  | [d1, d2, d3] => { results := [.lit (.bool true)], args := [d1, d2, d3] }
  | _ => none }
def radixDigitsRow : OpenClaim := { program := "ytkdmippllpekfaagreatdoor", sum := "cf0a35731806b2c6b4437a1bf50f4cdb3e36480509cb3e1a2e3052ad6ea4776b", func := "ziggurat/zigguratlaw17.RadixDigits", spec := "radixDigits", inPlace := ["math/bits.Add64", "math/bits.Sub64"], unfollowed := true, recurses := true, named := ["math/bits.divideError", "math/bits.overflowError", "ziggurat/prime.bases", "math/bits.deBruijn64tab"], apart := false, laid := [("math/bits.deBruijn64tab", laid_math_bits_deBruijn64tab), ("ziggurat/prime.bases", laid_ziggurat_prime_bases)] }
def RadixDigitsSaid : Prop := radixDigitsRow.holds Tryz.pinned (OpenSpec.ofChange radixDigitsSpec)

/-- ITS FALSE NEIGHBOUR: 'it returns false'. Refute it at one input. -/
def radixDigitsWrong : ChangeSpec := { name := "radixDigits", fn := fun _ => fun
  | [d1, d2, d3] => { results := [.lit (.bool false)], args := [d1, d2, d3] }
  | _ => none }
def RadixDigitsWrongFalsely : Prop := radixDigitsRow.holds Tryz.pinned (OpenSpec.ofChange radixDigitsWrong)

/-- 'zigguratlaw17.RadixValues': WHATEVER THE INPUT: true; the input reads as it did. -/
def radixValuesSpec : ChangeSpec := { name := "radixValues", fn := fun _ => fun
  | [d1, d2, d3, d4] => { results := [.lit (.bool true)], args := [d1, d2, d3, d4] }
  | _ => none }
def radixValuesRow : OpenClaim := { program := "ytkdmippllpekfaagreatdoor", sum := "cf0a35731806b2c6b4437a1bf50f4cdb3e36480509cb3e1a2e3052ad6ea4776b", func := "ziggurat/zigguratlaw17.RadixValues", spec := "radixValues", inPlace := ["math/bits.Add64", "math/bits.Sub64"], unfollowed := true, recurses := true, named := ["math/bits.divideError", "math/bits.overflowError", "ziggurat/prime.bases", "math/bits.deBruijn64tab"], apart := false, laid := [("math/bits.deBruijn64tab", laid_math_bits_deBruijn64tab), ("ziggurat/prime.bases", laid_ziggurat_prime_bases)] }
def RadixValuesSaid : Prop := radixValuesRow.holds Tryz.pinned (OpenSpec.ofChange radixValuesSpec)

/-- ITS FALSE NEIGHBOUR: 'it returns false'. Refute it at one input. -/
def radixValuesWrong : ChangeSpec := { name := "radixValues", fn := fun _ => fun
  | [d1, d2, d3, d4] => { results := [.lit (.bool false)], args := [d1, d2, d3, d4] }
  | _ => none }
def RadixValuesWrongFalsely : Prop := radixValuesRow.holds Tryz.pinned (OpenSpec.ofChange radixValuesWrong)

/-- 'zigguratlaw17.RadixRound': WHATEVER THE INPUT: true; the input reads as it did. -/
def radixRoundSpec : ChangeSpec := { name := "radixRound", fn := fun _ => fun
  | [d1, d2, d3, d4] => { results := [.lit (.bool true)], args := [d1, d2, d3, d4] }
  | _ => none }
def radixRoundRow : OpenClaim := { program := "ytkdmippllpekfaagreatdoor", sum := "cf0a35731806b2c6b4437a1bf50f4cdb3e36480509cb3e1a2e3052ad6ea4776b", func := "ziggurat/zigguratlaw17.RadixRound", spec := "radixRound", inPlace := ["math/bits.Add64", "math/bits.Sub64"], unfollowed := true, recurses := true, named := ["math/bits.divideError", "math/bits.overflowError", "ziggurat/prime.bases", "math/bits.deBruijn64tab"], apart := false, laid := [("math/bits.deBruijn64tab", laid_math_bits_deBruijn64tab), ("ziggurat/prime.bases", laid_ziggurat_prime_bases)] }
def RadixRoundSaid : Prop := radixRoundRow.holds Tryz.pinned (OpenSpec.ofChange radixRoundSpec)

/-- ITS FALSE NEIGHBOUR: 'it returns false'. Refute it at one input. -/
def radixRoundWrong : ChangeSpec := { name := "radixRound", fn := fun _ => fun
  | [d1, d2, d3, d4] => { results := [.lit (.bool false)], args := [d1, d2, d3, d4] }
  | _ => none }
def RadixRoundWrongFalsely : Prop := radixRoundRow.holds Tryz.pinned (OpenSpec.ofChange radixRoundWrong)

/- THE SECOND FORM. 'bulk': how many values and letters a reading holds, each counted each time it is reached (what is shared counts as often as it is met; a slice's spare places count too). A statement '..UptoSaid' is the law's where the arguments, and the package variables that the reading takes, are together of bulk at most 1048576: NARROWER than '..Said'. Prove '..Said' where nothing that the law and all that it calls make is longer than what came in: it says more and counts as full. Else prove '..UptoSaid'. A law counts once. -/
mutual
def uptoBulk {H : Type} : DataW H → Nat
  | .lit (.string bytes) => bytes.length + 1
  | .lit _ => 1
  | .nil => 1
  | .ptr d => uptoBulk d + 1
  | .slice elems spare => uptoBulkAll elems + uptoBulkAll spare + 1
  | .agg parts => uptoBulkAll parts + 1
  | .iface _ d => uptoBulk d + 1
  | .map entries => uptoBulkEntries entries + 1
  | .held _ => 1
def uptoBulkAll {H : Type} : List (DataW H) → Nat
  | [] => 0
  | d :: r => uptoBulk d + uptoBulkAll r
def uptoBulkEntries {H : Type} : List (Lit × DataW H) → Nat
  | [] => 0
  | x :: r => uptoBulkEntry x + uptoBulkEntries r
def uptoBulkEntry {H : Type} : Lit × DataW H → Nat
  | (.string bytes, d) => bytes.length + uptoBulk d + 1
  | (_, d) => uptoBulk d + 1
 end
def uptoSmall : (H : Type) → List (DataW H) → Bool := fun _ ds => decide (uptoBulkAll ds ≤ 1048576)
def OpenSpec.upto (s : _root_.Go.ChangeSpec) : _root_.Go.OpenSpec := { _root_.Go.OpenSpec.ofChange s with cond := some uptoSmall }

/-- 'zigguratlaw17.RadixTexts', WHERE WHAT IT READS IS OF BULK AT MOST 1048576: true; the input reads as it did. -/
def radixTextsUptoRow : OpenClaim := { program := "ytkdmippllpekfaagreatdoor", sum := "cf0a35731806b2c6b4437a1bf50f4cdb3e36480509cb3e1a2e3052ad6ea4776b", func := "ziggurat/zigguratlaw17.RadixTexts", spec := "radixTexts", inPlace := ["math/bits.Add64", "math/bits.Sub64"], unfollowed := true, recurses := true, named := ["math/bits.divideError", "math/bits.overflowError", "ziggurat/prime.bases", "math/bits.deBruijn64tab"], apart := false, laid := [("math/bits.deBruijn64tab", laid_math_bits_deBruijn64tab), ("ziggurat/prime.bases", laid_ziggurat_prime_bases)], narrowed := true }
def RadixTextsUptoSaid : Prop := radixTextsUptoRow.holds Tryz.pinned (OpenSpec.upto radixTextsSpec)

/-- 'zigguratlaw17.RadixParses', WHERE WHAT IT READS IS OF BULK AT MOST 1048576: true; the input reads as it did. -/
def radixParsesUptoRow : OpenClaim := { program := "ytkdmippllpekfaagreatdoor", sum := "cf0a35731806b2c6b4437a1bf50f4cdb3e36480509cb3e1a2e3052ad6ea4776b", func := "ziggurat/zigguratlaw17.RadixParses", spec := "radixParses", inPlace := ["math/bits.Add64", "math/bits.Sub64"], unfollowed := true, recurses := true, named := ["math/bits.divideError", "math/bits.overflowError", "ziggurat/prime.bases", "math/bits.deBruijn64tab"], apart := false, laid := [("math/bits.deBruijn64tab", laid_math_bits_deBruijn64tab), ("ziggurat/prime.bases", laid_ziggurat_prime_bases)], narrowed := true }
def RadixParsesUptoSaid : Prop := radixParsesUptoRow.holds Tryz.pinned (OpenSpec.upto radixParsesSpec)

/-- 'zigguratlaw17.RadixBack', WHERE WHAT IT READS IS OF BULK AT MOST 1048576: true; the input reads as it did. -/
def radixBackUptoRow : OpenClaim := { program := "ytkdmippllpekfaagreatdoor", sum := "cf0a35731806b2c6b4437a1bf50f4cdb3e36480509cb3e1a2e3052ad6ea4776b", func := "ziggurat/zigguratlaw17.RadixBack", spec := "radixBack", inPlace := ["math/bits.Add64", "math/bits.Sub64"], unfollowed := true, recurses := true, named := ["math/bits.divideError", "math/bits.overflowError", "ziggurat/prime.bases", "math/bits.deBruijn64tab"], apart := false, laid := [("math/bits.deBruijn64tab", laid_math_bits_deBruijn64tab), ("ziggurat/prime.bases", laid_ziggurat_prime_bases)], narrowed := true }
def RadixBackUptoSaid : Prop := radixBackUptoRow.holds Tryz.pinned (OpenSpec.upto radixBackSpec)

/-- 'zigguratlaw17.RadixDigits', WHERE WHAT IT READS IS OF BULK AT MOST 1048576: true; the input reads as it did. -/
def radixDigitsUptoRow : OpenClaim := { program := "ytkdmippllpekfaagreatdoor", sum := "cf0a35731806b2c6b4437a1bf50f4cdb3e36480509cb3e1a2e3052ad6ea4776b", func := "ziggurat/zigguratlaw17.RadixDigits", spec := "radixDigits", inPlace := ["math/bits.Add64", "math/bits.Sub64"], unfollowed := true, recurses := true, named := ["math/bits.divideError", "math/bits.overflowError", "ziggurat/prime.bases", "math/bits.deBruijn64tab"], apart := false, laid := [("math/bits.deBruijn64tab", laid_math_bits_deBruijn64tab), ("ziggurat/prime.bases", laid_ziggurat_prime_bases)], narrowed := true }
def RadixDigitsUptoSaid : Prop := radixDigitsUptoRow.holds Tryz.pinned (OpenSpec.upto radixDigitsSpec)

/-- 'zigguratlaw17.RadixValues', WHERE WHAT IT READS IS OF BULK AT MOST 1048576: true; the input reads as it did. -/
def radixValuesUptoRow : OpenClaim := { program := "ytkdmippllpekfaagreatdoor", sum := "cf0a35731806b2c6b4437a1bf50f4cdb3e36480509cb3e1a2e3052ad6ea4776b", func := "ziggurat/zigguratlaw17.RadixValues", spec := "radixValues", inPlace := ["math/bits.Add64", "math/bits.Sub64"], unfollowed := true, recurses := true, named := ["math/bits.divideError", "math/bits.overflowError", "ziggurat/prime.bases", "math/bits.deBruijn64tab"], apart := false, laid := [("math/bits.deBruijn64tab", laid_math_bits_deBruijn64tab), ("ziggurat/prime.bases", laid_ziggurat_prime_bases)], narrowed := true }
def RadixValuesUptoSaid : Prop := radixValuesUptoRow.holds Tryz.pinned (OpenSpec.upto radixValuesSpec)

/-- 'zigguratlaw17.RadixRound', WHERE WHAT IT READS IS OF BULK AT MOST 1048576: true; the input reads as it did. -/
def radixRoundUptoRow : OpenClaim := { program := "ytkdmippllpekfaagreatdoor", sum := "cf0a35731806b2c6b4437a1bf50f4cdb3e36480509cb3e1a2e3052ad6ea4776b", func := "ziggurat/zigguratlaw17.RadixRound", spec := "radixRound", inPlace := ["math/bits.Add64", "math/bits.Sub64"], unfollowed := true, recurses := true, named := ["math/bits.divideError", "math/bits.overflowError", "ziggurat/prime.bases", "math/bits.deBruijn64tab"], apart := false, laid := [("math/bits.deBruijn64tab", laid_math_bits_deBruijn64tab), ("ziggurat/prime.bases", laid_ziggurat_prime_bases)], narrowed := true }
def RadixRoundUptoSaid : Prop := radixRoundUptoRow.holds Tryz.pinned (OpenSpec.upto radixRoundSpec)

end Rows
end Go.Proofs.YtkdmippllpekfaaGreatDoor
