/-
  No cell of these rows narrows 'for every input' (looked for: loops, veiled, ifaces, maps, wideKeys, modest, calm, conditions, laid).
  DERIVED. THE GIVEN ROWS OF THIS SEAT. 6 by the template 'for every input the law returns true; each argument reads behind the call as it read before'; 0 by the template 'total and deterministic' (their statements: YtpaeihaiaegoeaaTotals.lean).
  GIVEN WITH THE SEED: the statements are not yours to turn. If you find one false, say at which input.
  Laid BY PROGRAM, IN A SANDBOX (cutbox-rows.mjs): the forced cells as the released guide's own fill.sh prints them over the translation ead828fbbc513975… (all of the seat's roots in one cut). By AI agents, Wed Nov 11 2026. No macro, syntax, notation, axiom, sorry.
-/
import Derived.Test.YtpaeihaiaegoeaaChecked
import GoSem.Claim
import GoSem.ClaimJoined
import GoSem.ClaimMapViews
import Derived.JoinedTies
import Derived.KernelRfl
namespace Go.Proofs.Ytpaeihaiaegoeaa
/- THE CELL 'sum', in the pinned program and in every row, IS THE sha256 OF THE DUMP (.gsa) THAT YtpaeihaiaegoeaaProg.lean LOADS. Nothing in Lean hashes anything: it is a label: what it is worth is what the hold of that sum in a sandbox is worth. -/
noncomputable def Try.pinned : Pinned := { name := "ytpaeihaiaegoeaa", sum := "ead828fbbc5139754d9411ff5ef5bab43ccfe114da30ac2e6cbb8cde71ef0a98", checked := Try.checked }
namespace Rows
def none {H : Type} : Left H := { results := [], args := [] }

/-- 'zigguratlaw04.TableClamps': WHATEVER THE INPUT: true; the input reads as it did. -/
def tableClampsSpec : ChangeSpec := { name := "tableClamps", fn := fun _ => fun
  | [d1, d2] => { results := [.lit (.bool true)], args := [d1, d2] }
  | _ => none }
def tableClampsRow : OpenClaim := { program := "ytpaeihaiaegoeaa", sum := "ead828fbbc5139754d9411ff5ef5bab43ccfe114da30ac2e6cbb8cde71ef0a98", func := "ziggurat/zigguratlaw04.TableClamps", spec := "tableClamps", recurses := true, plainKeys := false, apart := false }
def TableClampsSaid : Prop := tableClampsRow.holds Try.pinned (OpenSpec.ofChange tableClampsSpec)

/-- ITS FALSE NEIGHBOUR: 'it returns false'. Refute it at one input. -/
def tableClampsWrong : ChangeSpec := { name := "tableClamps", fn := fun _ => fun
  | [d1, d2] => { results := [.lit (.bool false)], args := [d1, d2] }
  | _ => none }
def TableClampsWrongFalsely : Prop := tableClampsRow.holds Try.pinned (OpenSpec.ofChange tableClampsWrong)

/-- 'zigguratlaw04.TableRoutes': WHATEVER THE INPUT: true; the input reads as it did. -/
def tableRoutesSpec : ChangeSpec := { name := "tableRoutes", fn := fun _ => fun
  | [d1, d2, d3] => { results := [.lit (.bool true)], args := [d1, d2, d3] }
  | _ => none }
def tableRoutesRow : OpenClaim := { program := "ytpaeihaiaegoeaa", sum := "ead828fbbc5139754d9411ff5ef5bab43ccfe114da30ac2e6cbb8cde71ef0a98", func := "ziggurat/zigguratlaw04.TableRoutes", spec := "tableRoutes", recurses := true, plainKeys := false, apart := false }
def TableRoutesSaid : Prop := tableRoutesRow.holds Try.pinned (OpenSpec.ofChange tableRoutesSpec)

/-- ITS FALSE NEIGHBOUR: 'it returns false'. Refute it at one input. -/
def tableRoutesWrong : ChangeSpec := { name := "tableRoutes", fn := fun _ => fun
  | [d1, d2, d3] => { results := [.lit (.bool false)], args := [d1, d2, d3] }
  | _ => none }
def TableRoutesWrongFalsely : Prop := tableRoutesRow.holds Try.pinned (OpenSpec.ofChange tableRoutesWrong)

/-- 'zigguratlaw04.TableCosts': WHATEVER THE INPUT: true; the input reads as it did. -/
def tableCostsSpec : ChangeSpec := { name := "tableCosts", fn := fun _ => fun
  | [d1, d2, d3, d4] => { results := [.lit (.bool true)], args := [d1, d2, d3, d4] }
  | _ => none }
def tableCostsRow : OpenClaim := { program := "ytpaeihaiaegoeaa", sum := "ead828fbbc5139754d9411ff5ef5bab43ccfe114da30ac2e6cbb8cde71ef0a98", func := "ziggurat/zigguratlaw04.TableCosts", spec := "tableCosts", recurses := true, plainKeys := false, apart := false }
def TableCostsSaid : Prop := tableCostsRow.holds Try.pinned (OpenSpec.ofChange tableCostsSpec)

/-- ITS FALSE NEIGHBOUR: 'it returns false'. Refute it at one input. -/
def tableCostsWrong : ChangeSpec := { name := "tableCosts", fn := fun _ => fun
  | [d1, d2, d3, d4] => { results := [.lit (.bool false)], args := [d1, d2, d3, d4] }
  | _ => none }
def TableCostsWrongFalsely : Prop := tableCostsRow.holds Try.pinned (OpenSpec.ofChange tableCostsWrong)

/-- 'zigguratlaw04.TableSquare': WHATEVER THE INPUT: true; the input reads as it did. -/
def tableSquareSpec : ChangeSpec := { name := "tableSquare", fn := fun _ => fun
  | [d1, d2, d3] => { results := [.lit (.bool true)], args := [d1, d2, d3] }
  | _ => none }
def tableSquareRow : OpenClaim := { program := "ytpaeihaiaegoeaa", sum := "ead828fbbc5139754d9411ff5ef5bab43ccfe114da30ac2e6cbb8cde71ef0a98", func := "ziggurat/zigguratlaw04.TableSquare", spec := "tableSquare", recurses := true, plainKeys := false, apart := false }
def TableSquareSaid : Prop := tableSquareRow.holds Try.pinned (OpenSpec.ofChange tableSquareSpec)

/-- ITS FALSE NEIGHBOUR: 'it returns false'. Refute it at one input. -/
def tableSquareWrong : ChangeSpec := { name := "tableSquare", fn := fun _ => fun
  | [d1, d2, d3] => { results := [.lit (.bool false)], args := [d1, d2, d3] }
  | _ => none }
def TableSquareWrongFalsely : Prop := tableSquareRow.holds Try.pinned (OpenSpec.ofChange tableSquareWrong)

/-- 'zigguratlaw04.TableKara': WHATEVER THE INPUT: true; the input reads as it did. -/
def tableKaraSpec : ChangeSpec := { name := "tableKara", fn := fun _ => fun
  | [d1, d2] => { results := [.lit (.bool true)], args := [d1, d2] }
  | _ => none }
def tableKaraRow : OpenClaim := { program := "ytpaeihaiaegoeaa", sum := "ead828fbbc5139754d9411ff5ef5bab43ccfe114da30ac2e6cbb8cde71ef0a98", func := "ziggurat/zigguratlaw04.TableKara", spec := "tableKara", recurses := true, plainKeys := false, apart := false }
def TableKaraSaid : Prop := tableKaraRow.holds Try.pinned (OpenSpec.ofChange tableKaraSpec)

/-- ITS FALSE NEIGHBOUR: 'it returns false'. Refute it at one input. -/
def tableKaraWrong : ChangeSpec := { name := "tableKara", fn := fun _ => fun
  | [d1, d2] => { results := [.lit (.bool false)], args := [d1, d2] }
  | _ => none }
def TableKaraWrongFalsely : Prop := tableKaraRow.holds Try.pinned (OpenSpec.ofChange tableKaraWrong)

/-- 'zigguratlaw04.TablePieces': WHATEVER THE INPUT: true; the input reads as it did. -/
def tablePiecesSpec : ChangeSpec := { name := "tablePieces", fn := fun _ => fun
  | [d1, d2, d3] => { results := [.lit (.bool true)], args := [d1, d2, d3] }
  | _ => none }
def tablePiecesRow : OpenClaim := { program := "ytpaeihaiaegoeaa", sum := "ead828fbbc5139754d9411ff5ef5bab43ccfe114da30ac2e6cbb8cde71ef0a98", func := "ziggurat/zigguratlaw04.TablePieces", spec := "tablePieces", recurses := true, plainKeys := false, apart := false }
def TablePiecesSaid : Prop := tablePiecesRow.holds Try.pinned (OpenSpec.ofChange tablePiecesSpec)

/-- ITS FALSE NEIGHBOUR: 'it returns false'. Refute it at one input. -/
def tablePiecesWrong : ChangeSpec := { name := "tablePieces", fn := fun _ => fun
  | [d1, d2, d3] => { results := [.lit (.bool false)], args := [d1, d2, d3] }
  | _ => none }
def TablePiecesWrongFalsely : Prop := tablePiecesRow.holds Try.pinned (OpenSpec.ofChange tablePiecesWrong)

/- THE SECOND FORM. 'bulk': how many values and letters a reading holds, each counted each time it is reached (what is shared counts as often as it is met; a slice's spare places count too). A statement '..UptoSaid' is the law's where the arguments, and the package variables that the reading takes, are together of bulk at most 1048576: NARROWER than '..Said'. Prove '..Said' where nothing that the law and all that it calls make is longer than what came in: it says more and counts as full. Else prove '..UptoSaid'. A law counts once. -/
mutual
def uptoBulk {H : Type} : DataW H → Nat
  | .lit (.string bytes) => bytes.length + 1
  | .lit _ => 1
  | .nil => 1
  | .ptr d => uptoBulk d + 1
  | .slice elems spare => uptoBulkAll elems + uptoBulkAll spare + 1
  | .agg parts => uptoBulkAll parts + 1
  | .iface _ d => uptoBulk d + 1
  | .map entries => uptoBulkEntries entries + 1
  | .held _ => 1
def uptoBulkAll {H : Type} : List (DataW H) → Nat
  | [] => 0
  | d :: r => uptoBulk d + uptoBulkAll r
def uptoBulkEntries {H : Type} : List (Lit × DataW H) → Nat
  | [] => 0
  | x :: r => uptoBulkEntry x + uptoBulkEntries r
def uptoBulkEntry {H : Type} : Lit × DataW H → Nat
  | (.string bytes, d) => bytes.length + uptoBulk d + 1
  | (_, d) => uptoBulk d + 1
 end
def uptoSmall : (H : Type) → List (DataW H) → Bool := fun _ ds => decide (uptoBulkAll ds ≤ 1048576)
def OpenSpec.upto (s : _root_.Go.ChangeSpec) : _root_.Go.OpenSpec := { _root_.Go.OpenSpec.ofChange s with cond := some uptoSmall }

/-- 'zigguratlaw04.TableClamps', WHERE WHAT IT READS IS OF BULK AT MOST 1048576: true; the input reads as it did. -/
def tableClampsUptoRow : OpenClaim := { program := "ytpaeihaiaegoeaa", sum := "ead828fbbc5139754d9411ff5ef5bab43ccfe114da30ac2e6cbb8cde71ef0a98", func := "ziggurat/zigguratlaw04.TableClamps", spec := "tableClamps", recurses := true, plainKeys := false, apart := false, narrowed := true }
def TableClampsUptoSaid : Prop := tableClampsUptoRow.holds Try.pinned (OpenSpec.upto tableClampsSpec)

/-- 'zigguratlaw04.TableRoutes', WHERE WHAT IT READS IS OF BULK AT MOST 1048576: true; the input reads as it did. -/
def tableRoutesUptoRow : OpenClaim := { program := "ytpaeihaiaegoeaa", sum := "ead828fbbc5139754d9411ff5ef5bab43ccfe114da30ac2e6cbb8cde71ef0a98", func := "ziggurat/zigguratlaw04.TableRoutes", spec := "tableRoutes", recurses := true, plainKeys := false, apart := false, narrowed := true }
def TableRoutesUptoSaid : Prop := tableRoutesUptoRow.holds Try.pinned (OpenSpec.upto tableRoutesSpec)

/-- 'zigguratlaw04.TableCosts', WHERE WHAT IT READS IS OF BULK AT MOST 1048576: true; the input reads as it did. -/
def tableCostsUptoRow : OpenClaim := { program := "ytpaeihaiaegoeaa", sum := "ead828fbbc5139754d9411ff5ef5bab43ccfe114da30ac2e6cbb8cde71ef0a98", func := "ziggurat/zigguratlaw04.TableCosts", spec := "tableCosts", recurses := true, plainKeys := false, apart := false, narrowed := true }
def TableCostsUptoSaid : Prop := tableCostsUptoRow.holds Try.pinned (OpenSpec.upto tableCostsSpec)

/-- 'zigguratlaw04.TableSquare', WHERE WHAT IT READS IS OF BULK AT MOST 1048576: true; the input reads as it did. -/
def tableSquareUptoRow : OpenClaim := { program := "ytpaeihaiaegoeaa", sum := "ead828fbbc5139754d9411ff5ef5bab43ccfe114da30ac2e6cbb8cde71ef0a98", func := "ziggurat/zigguratlaw04.TableSquare", spec := "tableSquare", recurses := true, plainKeys := false, apart := false, narrowed := true }
def TableSquareUptoSaid : Prop := tableSquareUptoRow.holds Try.pinned (OpenSpec.upto tableSquareSpec)

/-- 'zigguratlaw04.TableKara', WHERE WHAT IT READS IS OF BULK AT MOST 1048576: true; the input reads as it did. -/
def tableKaraUptoRow : OpenClaim := { program := "ytpaeihaiaegoeaa", sum := "ead828fbbc5139754d9411ff5ef5bab43ccfe114da30ac2e6cbb8cde71ef0a98", func := "ziggurat/zigguratlaw04.TableKara", spec := "tableKara", recurses := true, plainKeys := false, apart := false, narrowed := true }
def TableKaraUptoSaid : Prop := tableKaraUptoRow.holds Try.pinned (OpenSpec.upto tableKaraSpec)

/-- 'zigguratlaw04.TablePieces', WHERE WHAT IT READS IS OF BULK AT MOST 1048576: true; the input reads as it did. -/
def tablePiecesUptoRow : OpenClaim := { program := "ytpaeihaiaegoeaa", sum := "ead828fbbc5139754d9411ff5ef5bab43ccfe114da30ac2e6cbb8cde71ef0a98", func := "ziggurat/zigguratlaw04.TablePieces", spec := "tablePieces", recurses := true, plainKeys := false, apart := false, narrowed := true }
def TablePiecesUptoSaid : Prop := tablePiecesUptoRow.holds Try.pinned (OpenSpec.upto tablePiecesSpec)

end Rows
end Go.Proofs.Ytpaeihaiaegoeaa
