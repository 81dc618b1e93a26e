/-
  No cell of these rows narrows 'for every input' (looked for: loops, veiled, ifaces, maps, wideKeys, modest, calm, conditions, laid).
  DERIVED. THE GIVEN ROWS OF THIS SEAT. 3 by the template 'for every input the law returns true; each argument reads behind the call as it read before'; 0 by the template 'total and deterministic' (their statements: YtofgbmfaehnmnaaTotals.lean).
  GIVEN WITH THE SEED: the statements are not yours to turn. If you find one false, say at which input.
  Laid BY PROGRAM, IN A SANDBOX (cutbox-rows.mjs): the forced cells as the released guide's own fill.sh prints them over the translation 9caae8d94a69c7f4… (all of the seat's roots in one cut). By AI agents, Wed Nov 11 2026. No macro, syntax, notation, axiom, sorry.
-/
import Derived.Test.YtofgbmfaehnmnaaChecked
import GoSem.Claim
import GoSem.ClaimJoined
import GoSem.ClaimMapViews
import Derived.JoinedTies
import Derived.KernelRfl
namespace Go.Proofs.Ytofgbmfaehnmnaa
/- THE CELL 'sum', in the pinned program and in every row, IS THE sha256 OF THE DUMP (.gsa) THAT YtofgbmfaehnmnaaProg.lean LOADS. Nothing in Lean hashes anything: it is a label: what it is worth is what the hold of that sum in a sandbox is worth. -/
noncomputable def Try.pinned : Pinned := { name := "ytofgbmfaehnmnaa", sum := "9caae8d94a69c7f4428c09bb1fa07547433616eee62ba2f179e46a96854e38de", checked := Try.checked }
namespace Rows
def none {H : Type} : Left H := { results := [], args := [] }

/-- 'zigguratlaw13.DivsLongs': WHATEVER THE INPUT: true; the input reads as it did. -/
def divsLongsSpec : ChangeSpec := { name := "divsLongs", fn := fun _ => fun
  | [d1, d2, d3] => { results := [.lit (.bool true)], args := [d1, d2, d3] }
  | _ => none }
def divsLongsRow : OpenClaim := { program := "ytofgbmfaehnmnaa", sum := "9caae8d94a69c7f4428c09bb1fa07547433616eee62ba2f179e46a96854e38de", func := "ziggurat/zigguratlaw13.DivsLongs", spec := "divsLongs", inPlace := ["math/bits.Add64", "math/bits.Sub64"], unfollowed := true, recurses := true, named := ["math/bits.divideError", "math/bits.overflowError"], apart := false }
def DivsLongsSaid : Prop := divsLongsRow.holds Try.pinned (OpenSpec.ofChange divsLongsSpec)

/-- ITS FALSE NEIGHBOUR: 'it returns false'. Refute it at one input. -/
def divsLongsWrong : ChangeSpec := { name := "divsLongs", fn := fun _ => fun
  | [d1, d2, d3] => { results := [.lit (.bool false)], args := [d1, d2, d3] }
  | _ => none }
def DivsLongsWrongFalsely : Prop := divsLongsRow.holds Try.pinned (OpenSpec.ofChange divsLongsWrong)

/-- 'zigguratlaw13.DivsMods': WHATEVER THE INPUT: true; the input reads as it did. -/
def divsModsSpec : ChangeSpec := { name := "divsMods", fn := fun _ => fun
  | [d1, d2, d3] => { results := [.lit (.bool true)], args := [d1, d2, d3] }
  | _ => none }
def divsModsRow : OpenClaim := { program := "ytofgbmfaehnmnaa", sum := "9caae8d94a69c7f4428c09bb1fa07547433616eee62ba2f179e46a96854e38de", func := "ziggurat/zigguratlaw13.DivsMods", spec := "divsMods", inPlace := ["math/bits.Add64", "math/bits.Sub64"], unfollowed := true, recurses := true, named := ["math/bits.divideError", "math/bits.overflowError"], apart := false }
def DivsModsSaid : Prop := divsModsRow.holds Try.pinned (OpenSpec.ofChange divsModsSpec)

/-- ITS FALSE NEIGHBOUR: 'it returns false'. Refute it at one input. -/
def divsModsWrong : ChangeSpec := { name := "divsMods", fn := fun _ => fun
  | [d1, d2, d3] => { results := [.lit (.bool false)], args := [d1, d2, d3] }
  | _ => none }
def DivsModsWrongFalsely : Prop := divsModsRow.holds Try.pinned (OpenSpec.ofChange divsModsWrong)

/-- 'zigguratlaw13.DivsHard': WHATEVER THE INPUT: true; the input reads as it did. -/
def divsHardSpec : ChangeSpec := { name := "divsHard", fn := fun _ => fun
  | [d1, d2, d3, d4, d5, d6] => { results := [.lit (.bool true)], args := [d1, d2, d3, d4, d5, d6] }
  | _ => none }
def divsHardRow : OpenClaim := { program := "ytofgbmfaehnmnaa", sum := "9caae8d94a69c7f4428c09bb1fa07547433616eee62ba2f179e46a96854e38de", func := "ziggurat/zigguratlaw13.DivsHard", spec := "divsHard", inPlace := ["math/bits.Add64", "math/bits.Sub64"], unfollowed := true, recurses := true, named := ["math/bits.divideError", "math/bits.overflowError"], apart := false }
def DivsHardSaid : Prop := divsHardRow.holds Try.pinned (OpenSpec.ofChange divsHardSpec)

/-- ITS FALSE NEIGHBOUR: 'it returns false'. Refute it at one input. -/
def divsHardWrong : ChangeSpec := { name := "divsHard", fn := fun _ => fun
  | [d1, d2, d3, d4, d5, d6] => { results := [.lit (.bool false)], args := [d1, d2, d3, d4, d5, d6] }
  | _ => none }
def DivsHardWrongFalsely : Prop := divsHardRow.holds Try.pinned (OpenSpec.ofChange divsHardWrong)

/- THE SECOND FORM. 'bulk': how many values and letters a reading holds, each counted each time it is reached (what is shared counts as often as it is met; a slice's spare places count too). A statement '..UptoSaid' is the law's where the arguments, and the package variables that the reading takes, are together of bulk at most 1048576: NARROWER than '..Said'. Prove '..Said' where nothing that the law and all that it calls make is longer than what came in: it says more and counts as full. Else prove '..UptoSaid'. A law counts once. -/
mutual
def uptoBulk {H : Type} : DataW H → Nat
  | .lit (.string bytes) => bytes.length + 1
  | .lit _ => 1
  | .nil => 1
  | .ptr d => uptoBulk d + 1
  | .slice elems spare => uptoBulkAll elems + uptoBulkAll spare + 1
  | .agg parts => uptoBulkAll parts + 1
  | .iface _ d => uptoBulk d + 1
  | .map entries => uptoBulkEntries entries + 1
  | .held _ => 1
def uptoBulkAll {H : Type} : List (DataW H) → Nat
  | [] => 0
  | d :: r => uptoBulk d + uptoBulkAll r
def uptoBulkEntries {H : Type} : List (Lit × DataW H) → Nat
  | [] => 0
  | x :: r => uptoBulkEntry x + uptoBulkEntries r
def uptoBulkEntry {H : Type} : Lit × DataW H → Nat
  | (.string bytes, d) => bytes.length + uptoBulk d + 1
  | (_, d) => uptoBulk d + 1
 end
def uptoSmall : (H : Type) → List (DataW H) → Bool := fun _ ds => decide (uptoBulkAll ds ≤ 1048576)
def OpenSpec.upto (s : _root_.Go.ChangeSpec) : _root_.Go.OpenSpec := { _root_.Go.OpenSpec.ofChange s with cond := some uptoSmall }

/-- 'zigguratlaw13.DivsLongs', WHERE WHAT IT READS IS OF BULK AT MOST 1048576: true; the input reads as it did. -/
def divsLongsUptoRow : OpenClaim := { program := "ytofgbmfaehnmnaa", sum := "9caae8d94a69c7f4428c09bb1fa07547433616eee62ba2f179e46a96854e38de", func := "ziggurat/zigguratlaw13.DivsLongs", spec := "divsLongs", inPlace := ["math/bits.Add64", "math/bits.Sub64"], unfollowed := true, recurses := true, named := ["math/bits.divideError", "math/bits.overflowError"], apart := false, narrowed := true }
def DivsLongsUptoSaid : Prop := divsLongsUptoRow.holds Try.pinned (OpenSpec.upto divsLongsSpec)

/-- 'zigguratlaw13.DivsMods', WHERE WHAT IT READS IS OF BULK AT MOST 1048576: true; the input reads as it did. -/
def divsModsUptoRow : OpenClaim := { program := "ytofgbmfaehnmnaa", sum := "9caae8d94a69c7f4428c09bb1fa07547433616eee62ba2f179e46a96854e38de", func := "ziggurat/zigguratlaw13.DivsMods", spec := "divsMods", inPlace := ["math/bits.Add64", "math/bits.Sub64"], unfollowed := true, recurses := true, named := ["math/bits.divideError", "math/bits.overflowError"], apart := false, narrowed := true }
def DivsModsUptoSaid : Prop := divsModsUptoRow.holds Try.pinned (OpenSpec.upto divsModsSpec)

/-- 'zigguratlaw13.DivsHard', WHERE WHAT IT READS IS OF BULK AT MOST 1048576: true; the input reads as it did. -/
def divsHardUptoRow : OpenClaim := { program := "ytofgbmfaehnmnaa", sum := "9caae8d94a69c7f4428c09bb1fa07547433616eee62ba2f179e46a96854e38de", func := "ziggurat/zigguratlaw13.DivsHard", spec := "divsHard", inPlace := ["math/bits.Add64", "math/bits.Sub64"], unfollowed := true, recurses := true, named := ["math/bits.divideError", "math/bits.overflowError"], apart := false, narrowed := true }
def DivsHardUptoSaid : Prop := divsHardUptoRow.holds Try.pinned (OpenSpec.upto divsHardSpec)

end Rows
end Go.Proofs.Ytofgbmfaehnmnaa
