/-
  No cell of these rows narrows 'for every input' (looked for: loops, veiled, ifaces, maps, wideKeys, modest, calm, conditions, laid).
  DERIVED. THE GIVEN ROWS OF THIS SEAT. 4 by the template 'for every input the law returns true; each argument reads behind the call as it read before'; 0 by the template 'total and deterministic' (their statements: YtdocljbmmaoenaaTotals.lean).
  GIVEN WITH THE SEED: the statements are not yours to turn. If you find one false, say at which input.
  Laid BY PROGRAM, IN A SANDBOX (cutbox-rows.mjs): the forced cells as the released guide's own fill.sh prints them over the translation 13f137eb4e927b5d… (all of the seat's roots in one cut). By AI agents, Wed Nov 11 2026. No macro, syntax, notation, axiom, sorry.
-/
import Derived.Test.YtdocljbmmaoenaaChecked
import GoSem.Claim
import GoSem.ClaimJoined
import GoSem.ClaimMapViews
import Derived.JoinedTies
import Derived.KernelRfl
namespace Go.Proofs.Ytdocljbmmaoenaa
/- THE CELL 'sum', in the pinned program and in every row, IS THE sha256 OF THE DUMP (.gsa) THAT YtdocljbmmaoenaaProg.lean LOADS. Nothing in Lean hashes anything: it is a label: what it is worth is what the hold of that sum in a sandbox is worth. -/
noncomputable def Try.pinned : Pinned := { name := "ytdocljbmmaoenaa", sum := "13f137eb4e927b5d845b9fe39fd910f1bbf63bb6efc084ae7bb89ea1d4cff1d3", checked := Try.checked }
namespace Rows
def none {H : Type} : Left H := { results := [], args := [] }

/-- 'zigguratlaw05.SchoolMuls': WHATEVER THE INPUT: true; the input reads as it did. -/
def schoolMulsSpec : ChangeSpec := { name := "schoolMuls", fn := fun _ => fun
  | [d1, d2, d3] => { results := [.lit (.bool true)], args := [d1, d2, d3] }
  | _ => none }
def schoolMulsRow : OpenClaim := { program := "ytdocljbmmaoenaa", sum := "13f137eb4e927b5d845b9fe39fd910f1bbf63bb6efc084ae7bb89ea1d4cff1d3", func := "ziggurat/zigguratlaw05.SchoolMuls", spec := "schoolMuls", inPlace := ["math/bits.Add64"], apart := false }
def SchoolMulsSaid : Prop := schoolMulsRow.holds Try.pinned (OpenSpec.ofChange schoolMulsSpec)

/-- ITS FALSE NEIGHBOUR: 'it returns false'. Refute it at one input. -/
def schoolMulsWrong : ChangeSpec := { name := "schoolMuls", fn := fun _ => fun
  | [d1, d2, d3] => { results := [.lit (.bool false)], args := [d1, d2, d3] }
  | _ => none }
def SchoolMulsWrongFalsely : Prop := schoolMulsRow.holds Try.pinned (OpenSpec.ofChange schoolMulsWrong)

/-- 'zigguratlaw05.SchoolSquares': WHATEVER THE INPUT: true; the input reads as it did. -/
def schoolSquaresSpec : ChangeSpec := { name := "schoolSquares", fn := fun _ => fun
  | [d1, d2] => { results := [.lit (.bool true)], args := [d1, d2] }
  | _ => none }
def schoolSquaresRow : OpenClaim := { program := "ytdocljbmmaoenaa", sum := "13f137eb4e927b5d845b9fe39fd910f1bbf63bb6efc084ae7bb89ea1d4cff1d3", func := "ziggurat/zigguratlaw05.SchoolSquares", spec := "schoolSquares", inPlace := ["math/bits.Add64"], apart := false }
def SchoolSquaresSaid : Prop := schoolSquaresRow.holds Try.pinned (OpenSpec.ofChange schoolSquaresSpec)

/-- ITS FALSE NEIGHBOUR: 'it returns false'. Refute it at one input. -/
def schoolSquaresWrong : ChangeSpec := { name := "schoolSquares", fn := fun _ => fun
  | [d1, d2] => { results := [.lit (.bool false)], args := [d1, d2] }
  | _ => none }
def SchoolSquaresWrongFalsely : Prop := schoolSquaresRow.holds Try.pinned (OpenSpec.ofChange schoolSquaresWrong)

/-- 'zigguratlaw05.SchoolPowers': WHATEVER THE INPUT: true; the input reads as it did. -/
def schoolPowersSpec : ChangeSpec := { name := "schoolPowers", fn := fun _ => fun
  | [d1, d2, d3] => { results := [.lit (.bool true)], args := [d1, d2, d3] }
  | _ => none }
def schoolPowersRow : OpenClaim := { program := "ytdocljbmmaoenaa", sum := "13f137eb4e927b5d845b9fe39fd910f1bbf63bb6efc084ae7bb89ea1d4cff1d3", func := "ziggurat/zigguratlaw05.SchoolPowers", spec := "schoolPowers", inPlace := ["math/bits.Add64"], apart := false }
def SchoolPowersSaid : Prop := schoolPowersRow.holds Try.pinned (OpenSpec.ofChange schoolPowersSpec)

/-- ITS FALSE NEIGHBOUR: 'it returns false'. Refute it at one input. -/
def schoolPowersWrong : ChangeSpec := { name := "schoolPowers", fn := fun _ => fun
  | [d1, d2, d3] => { results := [.lit (.bool false)], args := [d1, d2, d3] }
  | _ => none }
def SchoolPowersWrongFalsely : Prop := schoolPowersRow.holds Try.pinned (OpenSpec.ofChange schoolPowersWrong)

/-- 'zigguratlaw05.SchoolLaws': WHATEVER THE INPUT: true; the input reads as it did. -/
def schoolLawsSpec : ChangeSpec := { name := "schoolLaws", fn := fun _ => fun
  | [d1, d2, d3, d4] => { results := [.lit (.bool true)], args := [d1, d2, d3, d4] }
  | _ => none }
def schoolLawsRow : OpenClaim := { program := "ytdocljbmmaoenaa", sum := "13f137eb4e927b5d845b9fe39fd910f1bbf63bb6efc084ae7bb89ea1d4cff1d3", func := "ziggurat/zigguratlaw05.SchoolLaws", spec := "schoolLaws", inPlace := ["math/bits.Add64"], apart := false }
def SchoolLawsSaid : Prop := schoolLawsRow.holds Try.pinned (OpenSpec.ofChange schoolLawsSpec)

/-- ITS FALSE NEIGHBOUR: 'it returns false'. Refute it at one input. -/
def schoolLawsWrong : ChangeSpec := { name := "schoolLaws", fn := fun _ => fun
  | [d1, d2, d3, d4] => { results := [.lit (.bool false)], args := [d1, d2, d3, d4] }
  | _ => none }
def SchoolLawsWrongFalsely : Prop := schoolLawsRow.holds Try.pinned (OpenSpec.ofChange schoolLawsWrong)

/- THE SECOND FORM. 'bulk': how many values and letters a reading holds, each counted each time it is reached (what is shared counts as often as it is met; a slice's spare places count too). A statement '..UptoSaid' is the law's where the arguments, and the package variables that the reading takes, are together of bulk at most 1048576: NARROWER than '..Said'. Prove '..Said' where nothing that the law and all that it calls make is longer than what came in: it says more and counts as full. Else prove '..UptoSaid'. A law counts once. -/
mutual
def uptoBulk {H : Type} : DataW H → Nat
  | .lit (.string bytes) => bytes.length + 1
  | .lit _ => 1
  | .nil => 1
  | .ptr d => uptoBulk d + 1
  | .slice elems spare => uptoBulkAll elems + uptoBulkAll spare + 1
  | .agg parts => uptoBulkAll parts + 1
  | .iface _ d => uptoBulk d + 1
  | .map entries => uptoBulkEntries entries + 1
  | .held _ => 1
def uptoBulkAll {H : Type} : List (DataW H) → Nat
  | [] => 0
  | d :: r => uptoBulk d + uptoBulkAll r
def uptoBulkEntries {H : Type} : List (Lit × DataW H) → Nat
  | [] => 0
  | x :: r => uptoBulkEntry x + uptoBulkEntries r
def uptoBulkEntry {H : Type} : Lit × DataW H → Nat
  | (.string bytes, d) => bytes.length + uptoBulk d + 1
  | (_, d) => uptoBulk d + 1
 end
def uptoSmall : (H : Type) → List (DataW H) → Bool := fun _ ds => decide (uptoBulkAll ds ≤ 1048576)
def OpenSpec.upto (s : _root_.Go.ChangeSpec) : _root_.Go.OpenSpec := { _root_.Go.OpenSpec.ofChange s with cond := some uptoSmall }

/-- 'zigguratlaw05.SchoolMuls', WHERE WHAT IT READS IS OF BULK AT MOST 1048576: true; the input reads as it did. -/
def schoolMulsUptoRow : OpenClaim := { program := "ytdocljbmmaoenaa", sum := "13f137eb4e927b5d845b9fe39fd910f1bbf63bb6efc084ae7bb89ea1d4cff1d3", func := "ziggurat/zigguratlaw05.SchoolMuls", spec := "schoolMuls", inPlace := ["math/bits.Add64"], apart := false, narrowed := true }
def SchoolMulsUptoSaid : Prop := schoolMulsUptoRow.holds Try.pinned (OpenSpec.upto schoolMulsSpec)

/-- 'zigguratlaw05.SchoolSquares', WHERE WHAT IT READS IS OF BULK AT MOST 1048576: true; the input reads as it did. -/
def schoolSquaresUptoRow : OpenClaim := { program := "ytdocljbmmaoenaa", sum := "13f137eb4e927b5d845b9fe39fd910f1bbf63bb6efc084ae7bb89ea1d4cff1d3", func := "ziggurat/zigguratlaw05.SchoolSquares", spec := "schoolSquares", inPlace := ["math/bits.Add64"], apart := false, narrowed := true }
def SchoolSquaresUptoSaid : Prop := schoolSquaresUptoRow.holds Try.pinned (OpenSpec.upto schoolSquaresSpec)

/-- 'zigguratlaw05.SchoolPowers', WHERE WHAT IT READS IS OF BULK AT MOST 1048576: true; the input reads as it did. -/
def schoolPowersUptoRow : OpenClaim := { program := "ytdocljbmmaoenaa", sum := "13f137eb4e927b5d845b9fe39fd910f1bbf63bb6efc084ae7bb89ea1d4cff1d3", func := "ziggurat/zigguratlaw05.SchoolPowers", spec := "schoolPowers", inPlace := ["math/bits.Add64"], apart := false, narrowed := true }
def SchoolPowersUptoSaid : Prop := schoolPowersUptoRow.holds Try.pinned (OpenSpec.upto schoolPowersSpec)

/-- 'zigguratlaw05.SchoolLaws', WHERE WHAT IT READS IS OF BULK AT MOST 1048576: true; the input reads as it did. -/
def schoolLawsUptoRow : OpenClaim := { program := "ytdocljbmmaoenaa", sum := "13f137eb4e927b5d845b9fe39fd910f1bbf63bb6efc084ae7bb89ea1d4cff1d3", func := "ziggurat/zigguratlaw05.SchoolLaws", spec := "schoolLaws", inPlace := ["math/bits.Add64"], apart := false, narrowed := true }
def SchoolLawsUptoSaid : Prop := schoolLawsUptoRow.holds Try.pinned (OpenSpec.upto schoolLawsSpec)

end Rows
end Go.Proofs.Ytdocljbmmaoenaa
