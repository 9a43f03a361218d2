/-
  NARROWER THAN 'FOR EVERY INPUT', by the rows' own cells (each row's printed sentence says how): SpanPorts: laid · SpanPrefix: laid · SpanProto: laid.
  DERIVED. THE GIVEN ROWS OF THIS SEAT. 3 by the template 'for every input the law returns true; each argument reads behind the call as it read before'; 0 by the template 'total and deterministic' (their statements: YtplnlmkmaapbaaaDoorTotals.lean).
  GIVEN WITH THE SEED: the statements are not yours to turn. If you find one false, say at which input.
  Laid BY PROGRAM, IN A SANDBOX (cutbox-rows.mjs): the forced cells as the released guide's own fill.sh prints them over the translation 3454f35e8fffa692… (all of the seat's roots in one cut). By AI agents, Wed Nov 11 2026. No macro, syntax, notation, axiom, sorry.
-/
import Derived.Test.YtplnlmkmaapbaaaDoorChecked
import GoSem.Claim
import GoSem.ClaimJoined
import GoSem.ClaimMapViews
import Derived.JoinedTies
import Derived.KernelRfl
namespace Go.Proofs.YtplnlmkmaapbaaaDoor
/- THE CELL 'sum', in the pinned program and in every row, IS THE sha256 OF THE DUMP (.gsa) THAT YtplnlmkmaapbaaaDoorProg.lean LOADS. Nothing in Lean hashes anything: it is a label: what it is worth is what the hold of that sum in a sandbox is worth. -/
noncomputable def Tryd.pinned : Pinned := { name := "ytplnlmkmaapbaaadoor", sum := "3454f35e8fffa692c0acd7a5cb2451ddbf2d05115c7dedbfdaf0543c11801ddf", checked := Tryd.checked }
namespace Rows
def none {H : Type} : Left H := { results := [], args := [] }

/- WHAT THE LISTED PACKAGE-LEVEL VARIABLES READ AS WHEN THE CALL BEGINS. Each datum BY PROGRAM (the guide's laid-datum.mjs) off the statement by which the dump's own 'gosem.cut.vars' lays the variable. In a bare row this is a premise. The card (YtplnlmkmaapbaaaDoorCards.lean) ties it to the program's text. -/
def laid_milepost_head_places {H : Type} : DataW H := .agg [.agg [.lit (.int .i64 0), .lit (.int .i64 32)], .agg [.lit (.int .i64 32), .lit (.int .i64 32)], .agg [.lit (.int .i64 64), .lit (.int .i64 16)], .agg [.lit (.int .i64 80), .lit (.int .i64 16)], .agg [.lit (.int .i64 96), .lit (.int .i64 8)]]

/-- 'milepostlaw04.SpanPorts': WHATEVER THE INPUT: true; the input reads as it did. -/
def spanPortsSpec : ChangeSpec := { name := "spanPorts", fn := fun _ => fun
  | [d1, d2, d3, d4] => { results := [.lit (.bool true)], args := [d1, d2, d3, d4] }
  | _ => none }
def spanPortsRow : OpenClaim := { program := "ytplnlmkmaapbaaadoor", sum := "3454f35e8fffa692c0acd7a5cb2451ddbf2d05115c7dedbfdaf0543c11801ddf", func := "milepost/milepostlaw04.SpanPorts", spec := "spanPorts", named := ["milepost/head.places"], apart := false, laid := [("milepost/head.places", laid_milepost_head_places)] }
def SpanPortsSaid : Prop := spanPortsRow.holds Tryd.pinned (OpenSpec.ofChange spanPortsSpec)

/-- ITS FALSE NEIGHBOUR: 'it returns false'. Refute it at one input. -/
def spanPortsWrong : ChangeSpec := { name := "spanPorts", fn := fun _ => fun
  | [d1, d2, d3, d4] => { results := [.lit (.bool false)], args := [d1, d2, d3, d4] }
  | _ => none }
def SpanPortsWrongFalsely : Prop := spanPortsRow.holds Tryd.pinned (OpenSpec.ofChange spanPortsWrong)

/-- 'milepostlaw04.SpanPrefix': WHATEVER THE INPUT: true; the input reads as it did. -/
def spanPrefixSpec : ChangeSpec := { name := "spanPrefix", fn := fun _ => fun
  | [d1, d2, d3, d4] => { results := [.lit (.bool true)], args := [d1, d2, d3, d4] }
  | _ => none }
def spanPrefixRow : OpenClaim := { program := "ytplnlmkmaapbaaadoor", sum := "3454f35e8fffa692c0acd7a5cb2451ddbf2d05115c7dedbfdaf0543c11801ddf", func := "milepost/milepostlaw04.SpanPrefix", spec := "spanPrefix", named := ["milepost/head.places"], apart := false, laid := [("milepost/head.places", laid_milepost_head_places)] }
def SpanPrefixSaid : Prop := spanPrefixRow.holds Tryd.pinned (OpenSpec.ofChange spanPrefixSpec)

/-- ITS FALSE NEIGHBOUR: 'it returns false'. Refute it at one input. -/
def spanPrefixWrong : ChangeSpec := { name := "spanPrefix", fn := fun _ => fun
  | [d1, d2, d3, d4] => { results := [.lit (.bool false)], args := [d1, d2, d3, d4] }
  | _ => none }
def SpanPrefixWrongFalsely : Prop := spanPrefixRow.holds Tryd.pinned (OpenSpec.ofChange spanPrefixWrong)

/-- 'milepostlaw04.SpanProto': WHATEVER THE INPUT: true; the input reads as it did. -/
def spanProtoSpec : ChangeSpec := { name := "spanProto", fn := fun _ => fun
  | [d1, d2] => { results := [.lit (.bool true)], args := [d1, d2] }
  | _ => none }
def spanProtoRow : OpenClaim := { program := "ytplnlmkmaapbaaadoor", sum := "3454f35e8fffa692c0acd7a5cb2451ddbf2d05115c7dedbfdaf0543c11801ddf", func := "milepost/milepostlaw04.SpanProto", spec := "spanProto", named := ["milepost/head.places"], apart := false, laid := [("milepost/head.places", laid_milepost_head_places)] }
def SpanProtoSaid : Prop := spanProtoRow.holds Tryd.pinned (OpenSpec.ofChange spanProtoSpec)

/-- ITS FALSE NEIGHBOUR: 'it returns false'. Refute it at one input. -/
def spanProtoWrong : ChangeSpec := { name := "spanProto", fn := fun _ => fun
  | [d1, d2] => { results := [.lit (.bool false)], args := [d1, d2] }
  | _ => none }
def SpanProtoWrongFalsely : Prop := spanProtoRow.holds Tryd.pinned (OpenSpec.ofChange spanProtoWrong)

/- THE SECOND FORM. 'bulk': how many values and letters a reading holds, each counted each time it is reached (what is shared counts as often as it is met; a slice's spare places count too). A statement '..UptoSaid' is the law's where the arguments, and the package variables that the reading takes, are together of bulk at most 1048576: NARROWER than '..Said'. Prove '..Said' where nothing that the law and all that it calls make is longer than what came in: it says more and counts as full. Else prove '..UptoSaid'. A law counts once. -/
mutual
def uptoBulk {H : Type} : DataW H → Nat
  | .lit (.string bytes) => bytes.length + 1
  | .lit _ => 1
  | .nil => 1
  | .ptr d => uptoBulk d + 1
  | .slice elems spare => uptoBulkAll elems + uptoBulkAll spare + 1
  | .agg parts => uptoBulkAll parts + 1
  | .iface _ d => uptoBulk d + 1
  | .map entries => uptoBulkEntries entries + 1
  | .held _ => 1
def uptoBulkAll {H : Type} : List (DataW H) → Nat
  | [] => 0
  | d :: r => uptoBulk d + uptoBulkAll r
def uptoBulkEntries {H : Type} : List (Lit × DataW H) → Nat
  | [] => 0
  | x :: r => uptoBulkEntry x + uptoBulkEntries r
def uptoBulkEntry {H : Type} : Lit × DataW H → Nat
  | (.string bytes, d) => bytes.length + uptoBulk d + 1
  | (_, d) => uptoBulk d + 1
 end
def uptoSmall : (H : Type) → List (DataW H) → Bool := fun _ ds => decide (uptoBulkAll ds ≤ 1048576)
def OpenSpec.upto (s : _root_.Go.ChangeSpec) : _root_.Go.OpenSpec := { _root_.Go.OpenSpec.ofChange s with cond := some uptoSmall }

/-- 'milepostlaw04.SpanPorts', WHERE WHAT IT READS IS OF BULK AT MOST 1048576: true; the input reads as it did. -/
def spanPortsUptoRow : OpenClaim := { program := "ytplnlmkmaapbaaadoor", sum := "3454f35e8fffa692c0acd7a5cb2451ddbf2d05115c7dedbfdaf0543c11801ddf", func := "milepost/milepostlaw04.SpanPorts", spec := "spanPorts", named := ["milepost/head.places"], apart := false, laid := [("milepost/head.places", laid_milepost_head_places)], narrowed := true }
def SpanPortsUptoSaid : Prop := spanPortsUptoRow.holds Tryd.pinned (OpenSpec.upto spanPortsSpec)

/-- 'milepostlaw04.SpanPrefix', WHERE WHAT IT READS IS OF BULK AT MOST 1048576: true; the input reads as it did. -/
def spanPrefixUptoRow : OpenClaim := { program := "ytplnlmkmaapbaaadoor", sum := "3454f35e8fffa692c0acd7a5cb2451ddbf2d05115c7dedbfdaf0543c11801ddf", func := "milepost/milepostlaw04.SpanPrefix", spec := "spanPrefix", named := ["milepost/head.places"], apart := false, laid := [("milepost/head.places", laid_milepost_head_places)], narrowed := true }
def SpanPrefixUptoSaid : Prop := spanPrefixUptoRow.holds Tryd.pinned (OpenSpec.upto spanPrefixSpec)

/-- 'milepostlaw04.SpanProto', WHERE WHAT IT READS IS OF BULK AT MOST 1048576: true; the input reads as it did. -/
def spanProtoUptoRow : OpenClaim := { program := "ytplnlmkmaapbaaadoor", sum := "3454f35e8fffa692c0acd7a5cb2451ddbf2d05115c7dedbfdaf0543c11801ddf", func := "milepost/milepostlaw04.SpanProto", spec := "spanProto", named := ["milepost/head.places"], apart := false, laid := [("milepost/head.places", laid_milepost_head_places)], narrowed := true }
def SpanProtoUptoSaid : Prop := spanProtoUptoRow.holds Tryd.pinned (OpenSpec.upto spanProtoSpec)

end Rows
end Go.Proofs.YtplnlmkmaapbaaaDoor
