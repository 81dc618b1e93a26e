/-
  No cell of these rows narrows 'for every input' (looked for: loops, veiled, ifaces, maps, wideKeys, modest, calm, conditions, laid).
  DERIVED. THE GIVEN ROWS OF THIS SEAT. 3 by the template 'for every input the law returns true; each argument reads behind the call as it read before'; 0 by the template 'total and deterministic' (their statements: YtpamgdngfoocnaaTotals.lean).
  GIVEN WITH THE SEED: the statements are not yours to turn. If you find one false, say at which input.
  Laid BY PROGRAM, IN A SANDBOX (cutbox-rows.mjs): the forced cells as the released guide's own fill.sh prints them over the translation ffb65e586627993c… (all of the seat's roots in one cut). By AI agents, Wed Nov 11 2026. No macro, syntax, notation, axiom, sorry.
-/
import Derived.Test.YtpamgdngfoocnaaChecked
import GoSem.Claim
import GoSem.ClaimJoined
import GoSem.ClaimMapViews
import Derived.JoinedTies
import Derived.KernelRfl
namespace Go.Proofs.Ytpamgdngfoocnaa
/- THE CELL 'sum', in the pinned program and in every row, IS THE sha256 OF THE DUMP (.gsa) THAT YtpamgdngfoocnaaProg.lean LOADS. Nothing in Lean hashes anything: it is a label: what it is worth is what the hold of that sum in a sandbox is worth. -/
noncomputable def Try.pinned : Pinned := { name := "ytpamgdngfoocnaa", sum := "ffb65e586627993ce6ff39ecd4bcf8e428d952a0af57aa1e88ff0c54e7cfd198", checked := Try.checked }
namespace Rows
def none {H : Type} : Left H := { results := [], args := [] }

/-- 'zigguratlaw03.MeterPlays': WHATEVER THE INPUT: true; the input reads as it did. -/
def meterPlaysSpec : ChangeSpec := { name := "meterPlays", fn := fun _ => fun
  | [d] => { results := [.lit (.bool true)], args := [d] }
  | _ => none }
def meterPlaysRow : OpenClaim := { program := "ytpamgdngfoocnaa", sum := "ffb65e586627993ce6ff39ecd4bcf8e428d952a0af57aa1e88ff0c54e7cfd198", func := "ziggurat/zigguratlaw03.MeterPlays", spec := "meterPlays", apart := false }
def MeterPlaysSaid : Prop := meterPlaysRow.holds Try.pinned (OpenSpec.ofChange meterPlaysSpec)

/-- ITS FALSE NEIGHBOUR: 'it returns false'. Refute it at one input. -/
def meterPlaysWrong : ChangeSpec := { name := "meterPlays", fn := fun _ => fun
  | [d] => { results := [.lit (.bool false)], args := [d] }
  | _ => none }
def MeterPlaysWrongFalsely : Prop := meterPlaysRow.holds Try.pinned (OpenSpec.ofChange meterPlaysWrong)

/-- 'zigguratlaw03.MeterEmbeds': WHATEVER THE INPUT: true; the input reads as it did. -/
def meterEmbedsSpec : ChangeSpec := { name := "meterEmbeds", fn := fun _ => fun
  | [d] => { results := [.lit (.bool true)], args := [d] }
  | _ => none }
def meterEmbedsRow : OpenClaim := { program := "ytpamgdngfoocnaa", sum := "ffb65e586627993ce6ff39ecd4bcf8e428d952a0af57aa1e88ff0c54e7cfd198", func := "ziggurat/zigguratlaw03.MeterEmbeds", spec := "meterEmbeds", apart := false }
def MeterEmbedsSaid : Prop := meterEmbedsRow.holds Try.pinned (OpenSpec.ofChange meterEmbedsSpec)

/-- ITS FALSE NEIGHBOUR: 'it returns false'. Refute it at one input. -/
def meterEmbedsWrong : ChangeSpec := { name := "meterEmbeds", fn := fun _ => fun
  | [d] => { results := [.lit (.bool false)], args := [d] }
  | _ => none }
def MeterEmbedsWrongFalsely : Prop := meterEmbedsRow.holds Try.pinned (OpenSpec.ofChange meterEmbedsWrong)

/-- 'zigguratlaw03.MeterDeep': WHATEVER THE INPUT: true; the input reads as it did. -/
def meterDeepSpec : ChangeSpec := { name := "meterDeep", fn := fun _ => fun
  | [d1, d2] => { results := [.lit (.bool true)], args := [d1, d2] }
  | _ => none }
def meterDeepRow : OpenClaim := { program := "ytpamgdngfoocnaa", sum := "ffb65e586627993ce6ff39ecd4bcf8e428d952a0af57aa1e88ff0c54e7cfd198", func := "ziggurat/zigguratlaw03.MeterDeep", spec := "meterDeep", apart := false }
def MeterDeepSaid : Prop := meterDeepRow.holds Try.pinned (OpenSpec.ofChange meterDeepSpec)

/-- ITS FALSE NEIGHBOUR: 'it returns false'. Refute it at one input. -/
def meterDeepWrong : ChangeSpec := { name := "meterDeep", fn := fun _ => fun
  | [d1, d2] => { results := [.lit (.bool false)], args := [d1, d2] }
  | _ => none }
def MeterDeepWrongFalsely : Prop := meterDeepRow.holds Try.pinned (OpenSpec.ofChange meterDeepWrong)

/- THE SECOND FORM. 'bulk': how many values and letters a reading holds, each counted each time it is reached (what is shared counts as often as it is met; a slice's spare places count too). A statement '..UptoSaid' is the law's where the arguments, and the package variables that the reading takes, are together of bulk at most 1048576: NARROWER than '..Said'. Prove '..Said' where nothing that the law and all that it calls make is longer than what came in: it says more and counts as full. Else prove '..UptoSaid'. A law counts once. -/
mutual
def uptoBulk {H : Type} : DataW H → Nat
  | .lit (.string bytes) => bytes.length + 1
  | .lit _ => 1
  | .nil => 1
  | .ptr d => uptoBulk d + 1
  | .slice elems spare => uptoBulkAll elems + uptoBulkAll spare + 1
  | .agg parts => uptoBulkAll parts + 1
  | .iface _ d => uptoBulk d + 1
  | .map entries => uptoBulkEntries entries + 1
  | .held _ => 1
def uptoBulkAll {H : Type} : List (DataW H) → Nat
  | [] => 0
  | d :: r => uptoBulk d + uptoBulkAll r
def uptoBulkEntries {H : Type} : List (Lit × DataW H) → Nat
  | [] => 0
  | x :: r => uptoBulkEntry x + uptoBulkEntries r
def uptoBulkEntry {H : Type} : Lit × DataW H → Nat
  | (.string bytes, d) => bytes.length + uptoBulk d + 1
  | (_, d) => uptoBulk d + 1
 end
def uptoSmall : (H : Type) → List (DataW H) → Bool := fun _ ds => decide (uptoBulkAll ds ≤ 1048576)
def OpenSpec.upto (s : _root_.Go.ChangeSpec) : _root_.Go.OpenSpec := { _root_.Go.OpenSpec.ofChange s with cond := some uptoSmall }

/-- 'zigguratlaw03.MeterPlays', WHERE WHAT IT READS IS OF BULK AT MOST 1048576: true; the input reads as it did. -/
def meterPlaysUptoRow : OpenClaim := { program := "ytpamgdngfoocnaa", sum := "ffb65e586627993ce6ff39ecd4bcf8e428d952a0af57aa1e88ff0c54e7cfd198", func := "ziggurat/zigguratlaw03.MeterPlays", spec := "meterPlays", apart := false, narrowed := true }
def MeterPlaysUptoSaid : Prop := meterPlaysUptoRow.holds Try.pinned (OpenSpec.upto meterPlaysSpec)

/-- 'zigguratlaw03.MeterEmbeds', WHERE WHAT IT READS IS OF BULK AT MOST 1048576: true; the input reads as it did. -/
def meterEmbedsUptoRow : OpenClaim := { program := "ytpamgdngfoocnaa", sum := "ffb65e586627993ce6ff39ecd4bcf8e428d952a0af57aa1e88ff0c54e7cfd198", func := "ziggurat/zigguratlaw03.MeterEmbeds", spec := "meterEmbeds", apart := false, narrowed := true }
def MeterEmbedsUptoSaid : Prop := meterEmbedsUptoRow.holds Try.pinned (OpenSpec.upto meterEmbedsSpec)

/-- 'zigguratlaw03.MeterDeep', WHERE WHAT IT READS IS OF BULK AT MOST 1048576: true; the input reads as it did. -/
def meterDeepUptoRow : OpenClaim := { program := "ytpamgdngfoocnaa", sum := "ffb65e586627993ce6ff39ecd4bcf8e428d952a0af57aa1e88ff0c54e7cfd198", func := "ziggurat/zigguratlaw03.MeterDeep", spec := "meterDeep", apart := false, narrowed := true }
def MeterDeepUptoSaid : Prop := meterDeepUptoRow.holds Try.pinned (OpenSpec.upto meterDeepSpec)

end Rows
end Go.Proofs.Ytpamgdngfoocnaa
