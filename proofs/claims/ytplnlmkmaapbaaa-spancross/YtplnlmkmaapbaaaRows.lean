/-
  No cell of these rows narrows 'for every input' (looked for: loops, veiled, ifaces, maps, wideKeys, modest, calm, conditions, laid).
  DERIVED. THE GIVEN ROWS OF THIS SEAT. 3 by the template 'for every input the law returns true; each argument reads behind the call as it read before'; 0 by the template 'total and deterministic' (their statements: YtplnlmkmaapbaaaTotals.lean).
  GIVEN WITH THE SEED: the statements are not yours to turn. If you find one false, say at which input.
  Laid BY PROGRAM, IN A SANDBOX (cutbox-rows.mjs): the forced cells as the released guide's own fill.sh prints them over the translation c55b13a7c1319cc2… (all of the seat's roots in one cut). By AI agents, Wed Nov 11 2026. No macro, syntax, notation, axiom, sorry.
-/
import Derived.Test.YtplnlmkmaapbaaaChecked
import GoSem.Claim
import GoSem.ClaimJoined
import GoSem.ClaimMapViews
import Derived.JoinedTies
import Derived.KernelRfl
namespace Go.Proofs.Ytplnlmkmaapbaaa
/- THE CELL 'sum', in the pinned program and in every row, IS THE sha256 OF THE DUMP (.gsa) THAT YtplnlmkmaapbaaaProg.lean LOADS. Nothing in Lean hashes anything: it is a label: what it is worth is what the hold of that sum in a sandbox is worth. -/
noncomputable def Try.pinned : Pinned := { name := "ytplnlmkmaapbaaa", sum := "c55b13a7c1319cc282ee520f152f1e20de6ac1e95dc85bda9422ecfef6810fd5", checked := Try.checked }
namespace Rows
def none {H : Type} : Left H := { results := [], args := [] }

/-- 'milepostlaw04.SpanRanges': WHATEVER THE INPUT: true; the input reads as it did. -/
def spanRangesSpec : ChangeSpec := { name := "spanRanges", fn := fun _ => fun
  | [d1, d2, d3] => { results := [.lit (.bool true)], args := [d1, d2, d3] }
  | _ => none }
def spanRangesRow : OpenClaim := { program := "ytplnlmkmaapbaaa", sum := "c55b13a7c1319cc282ee520f152f1e20de6ac1e95dc85bda9422ecfef6810fd5", func := "milepost/milepostlaw04.SpanRanges", spec := "spanRanges", apart := false }
def SpanRangesSaid : Prop := spanRangesRow.holds Try.pinned (OpenSpec.ofChange spanRangesSpec)

/-- ITS FALSE NEIGHBOUR: 'it returns false'. Refute it at one input. -/
def spanRangesWrong : ChangeSpec := { name := "spanRanges", fn := fun _ => fun
  | [d1, d2, d3] => { results := [.lit (.bool false)], args := [d1, d2, d3] }
  | _ => none }
def SpanRangesWrongFalsely : Prop := spanRangesRow.holds Try.pinned (OpenSpec.ofChange spanRangesWrong)

/-- 'milepostlaw04.SpanFew': WHATEVER THE INPUT: true; the input reads as it did. -/
def spanFewSpec : ChangeSpec := { name := "spanFew", fn := fun _ => fun
  | [d1, d2] => { results := [.lit (.bool true)], args := [d1, d2] }
  | _ => none }
def spanFewRow : OpenClaim := { program := "ytplnlmkmaapbaaa", sum := "c55b13a7c1319cc282ee520f152f1e20de6ac1e95dc85bda9422ecfef6810fd5", func := "milepost/milepostlaw04.SpanFew", spec := "spanFew", apart := false }
def SpanFewSaid : Prop := spanFewRow.holds Try.pinned (OpenSpec.ofChange spanFewSpec)

/-- ITS FALSE NEIGHBOUR: 'it returns false'. Refute it at one input. -/
def spanFewWrong : ChangeSpec := { name := "spanFew", fn := fun _ => fun
  | [d1, d2] => { results := [.lit (.bool false)], args := [d1, d2] }
  | _ => none }
def SpanFewWrongFalsely : Prop := spanFewRow.holds Try.pinned (OpenSpec.ofChange spanFewWrong)

/-- 'milepostlaw04.SpanCross': WHATEVER THE INPUT: true; the input reads as it did. -/
def spanCrossSpec : ChangeSpec := { name := "spanCross", fn := fun _ => fun
  | [d1, d2, d3, d4] => { results := [.lit (.bool true)], args := [d1, d2, d3, d4] }
  | _ => none }
def spanCrossRow : OpenClaim := { program := "ytplnlmkmaapbaaa", sum := "c55b13a7c1319cc282ee520f152f1e20de6ac1e95dc85bda9422ecfef6810fd5", func := "milepost/milepostlaw04.SpanCross", spec := "spanCross", apart := false }
def SpanCrossSaid : Prop := spanCrossRow.holds Try.pinned (OpenSpec.ofChange spanCrossSpec)

/-- ITS FALSE NEIGHBOUR: 'it returns false'. Refute it at one input. -/
def spanCrossWrong : ChangeSpec := { name := "spanCross", fn := fun _ => fun
  | [d1, d2, d3, d4] => { results := [.lit (.bool false)], args := [d1, d2, d3, d4] }
  | _ => none }
def SpanCrossWrongFalsely : Prop := spanCrossRow.holds Try.pinned (OpenSpec.ofChange spanCrossWrong)

/- THE SECOND FORM. 'bulk': how many values and letters a reading holds, each counted each time it is reached (what is shared counts as often as it is met; a slice's spare places count too). A statement '..UptoSaid' is the law's where the arguments, and the package variables that the reading takes, are together of bulk at most 1048576: NARROWER than '..Said'. Prove '..Said' where nothing that the law and all that it calls make is longer than what came in: it says more and counts as full. Else prove '..UptoSaid'. A law counts once. -/
mutual
def uptoBulk {H : Type} : DataW H → Nat
  | .lit (.string bytes) => bytes.length + 1
  | .lit _ => 1
  | .nil => 1
  | .ptr d => uptoBulk d + 1
  | .slice elems spare => uptoBulkAll elems + uptoBulkAll spare + 1
  | .agg parts => uptoBulkAll parts + 1
  | .iface _ d => uptoBulk d + 1
  | .map entries => uptoBulkEntries entries + 1
  | .held _ => 1
def uptoBulkAll {H : Type} : List (DataW H) → Nat
  | [] => 0
  | d :: r => uptoBulk d + uptoBulkAll r
def uptoBulkEntries {H : Type} : List (Lit × DataW H) → Nat
  | [] => 0
  | x :: r => uptoBulkEntry x + uptoBulkEntries r
def uptoBulkEntry {H : Type} : Lit × DataW H → Nat
  | (.string bytes, d) => bytes.length + uptoBulk d + 1
  | (_, d) => uptoBulk d + 1
 end
def uptoSmall : (H : Type) → List (DataW H) → Bool := fun _ ds => decide (uptoBulkAll ds ≤ 1048576)
def OpenSpec.upto (s : _root_.Go.ChangeSpec) : _root_.Go.OpenSpec := { _root_.Go.OpenSpec.ofChange s with cond := some uptoSmall }

/-- 'milepostlaw04.SpanRanges', WHERE WHAT IT READS IS OF BULK AT MOST 1048576: true; the input reads as it did. -/
def spanRangesUptoRow : OpenClaim := { program := "ytplnlmkmaapbaaa", sum := "c55b13a7c1319cc282ee520f152f1e20de6ac1e95dc85bda9422ecfef6810fd5", func := "milepost/milepostlaw04.SpanRanges", spec := "spanRanges", apart := false, narrowed := true }
def SpanRangesUptoSaid : Prop := spanRangesUptoRow.holds Try.pinned (OpenSpec.upto spanRangesSpec)

/-- 'milepostlaw04.SpanFew', WHERE WHAT IT READS IS OF BULK AT MOST 1048576: true; the input reads as it did. -/
def spanFewUptoRow : OpenClaim := { program := "ytplnlmkmaapbaaa", sum := "c55b13a7c1319cc282ee520f152f1e20de6ac1e95dc85bda9422ecfef6810fd5", func := "milepost/milepostlaw04.SpanFew", spec := "spanFew", apart := false, narrowed := true }
def SpanFewUptoSaid : Prop := spanFewUptoRow.holds Try.pinned (OpenSpec.upto spanFewSpec)

/-- 'milepostlaw04.SpanCross', WHERE WHAT IT READS IS OF BULK AT MOST 1048576: true; the input reads as it did. -/
def spanCrossUptoRow : OpenClaim := { program := "ytplnlmkmaapbaaa", sum := "c55b13a7c1319cc282ee520f152f1e20de6ac1e95dc85bda9422ecfef6810fd5", func := "milepost/milepostlaw04.SpanCross", spec := "spanCross", apart := false, narrowed := true }
def SpanCrossUptoSaid : Prop := spanCrossUptoRow.holds Try.pinned (OpenSpec.upto spanCrossSpec)

end Rows
end Go.Proofs.Ytplnlmkmaapbaaa
