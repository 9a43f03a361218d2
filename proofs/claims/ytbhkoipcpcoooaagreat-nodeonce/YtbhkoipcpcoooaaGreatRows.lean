/-
  No cell of these rows narrows 'for every input' (looked for: loops, veiled, ifaces, maps, wideKeys, modest, calm, conditions, laid).
  DERIVED. THE GIVEN ROWS OF THIS SEAT. 6 by the template 'for every input the law returns true; each argument reads behind the call as it read before'; 0 by the template 'total and deterministic' (their statements: YtbhkoipcpcoooaaGreatTotals.lean).
  GIVEN WITH THE SEED: the statements are not yours to turn. If you find one false, say at which input.
  Laid BY PROGRAM, IN A SANDBOX (cutbox-rows.mjs): the forced cells as the released guide's own fill.sh prints them over the translation c24a6b6ff3e6adb9… (all of the seat's roots in one cut). By AI agents, Wed Nov 11 2026. No macro, syntax, notation, axiom, sorry.
-/
import Derived.Test.YtbhkoipcpcoooaaGreatChecked
import GoSem.Claim
import GoSem.ClaimJoined
import GoSem.ClaimMapViews
import Derived.JoinedTies
import Derived.KernelRfl
namespace Go.Proofs.YtbhkoipcpcoooaaGreat
/- THE CELL 'sum', in the pinned program and in every row, IS THE sha256 OF THE DUMP (.gsa) THAT YtbhkoipcpcoooaaGreatProg.lean LOADS. Nothing in Lean hashes anything: it is a label: what it is worth is what the hold of that sum in a sandbox is worth. -/
noncomputable def Tryz.pinned : Pinned := { name := "ytbhkoipcpcoooaagreat", sum := "c24a6b6ff3e6adb9c01e46e9d2e91d55f5ae13ca25d713eabc14725f1583ac30", checked := Tryz.checked }
namespace Rows
def none {H : Type} : Left H := { results := [], args := [] }

/-- 'milepostlaw20.NodePlays': WHATEVER THE INPUT: true; the input reads as it did. -/
def nodePlaysSpec : ChangeSpec := { name := "nodePlays", fn := fun _ => fun
  | [d1, d2, d3, d4] => { results := [.lit (.bool true)], args := [d1, d2, d3, d4] }
  | _ => none }
def nodePlaysRow : OpenClaim := { program := "ytbhkoipcpcoooaagreat", sum := "c24a6b6ff3e6adb9c01e46e9d2e91d55f5ae13ca25d713eabc14725f1583ac30", func := "milepost/milepostlaw20.NodePlays", spec := "nodePlays", unfollowed := true, recurses := true, apart := false }
def NodePlaysSaid : Prop := nodePlaysRow.holds Tryz.pinned (OpenSpec.ofChange nodePlaysSpec)

/-- ITS FALSE NEIGHBOUR: 'it returns false'. Refute it at one input. -/
def nodePlaysWrong : ChangeSpec := { name := "nodePlays", fn := fun _ => fun
  | [d1, d2, d3, d4] => { results := [.lit (.bool false)], args := [d1, d2, d3, d4] }
  | _ => none }
def NodePlaysWrongFalsely : Prop := nodePlaysRow.holds Tryz.pinned (OpenSpec.ofChange nodePlaysWrong)

/-- 'milepostlaw20.NodeLease': WHATEVER THE INPUT: true; the input reads as it did. -/
def nodeLeaseSpec : ChangeSpec := { name := "nodeLease", fn := fun _ => fun
  | [d1, d2, d3, d4] => { results := [.lit (.bool true)], args := [d1, d2, d3, d4] }
  | _ => none }
def nodeLeaseRow : OpenClaim := { program := "ytbhkoipcpcoooaagreat", sum := "c24a6b6ff3e6adb9c01e46e9d2e91d55f5ae13ca25d713eabc14725f1583ac30", func := "milepost/milepostlaw20.NodeLease", spec := "nodeLease", unfollowed := true, recurses := true, apart := false }
def NodeLeaseSaid : Prop := nodeLeaseRow.holds Tryz.pinned (OpenSpec.ofChange nodeLeaseSpec)

/-- ITS FALSE NEIGHBOUR: 'it returns false'. Refute it at one input. -/
def nodeLeaseWrong : ChangeSpec := { name := "nodeLease", fn := fun _ => fun
  | [d1, d2, d3, d4] => { results := [.lit (.bool false)], args := [d1, d2, d3, d4] }
  | _ => none }
def NodeLeaseWrongFalsely : Prop := nodeLeaseRow.holds Tryz.pinned (OpenSpec.ofChange nodeLeaseWrong)

/-- 'milepostlaw20.NodeFresh': WHATEVER THE INPUT: true; the input reads as it did. -/
def nodeFreshSpec : ChangeSpec := { name := "nodeFresh", fn := fun _ => fun
  | [d1, d2, d3, d4] => { results := [.lit (.bool true)], args := [d1, d2, d3, d4] }
  | _ => none }
def nodeFreshRow : OpenClaim := { program := "ytbhkoipcpcoooaagreat", sum := "c24a6b6ff3e6adb9c01e46e9d2e91d55f5ae13ca25d713eabc14725f1583ac30", func := "milepost/milepostlaw20.NodeFresh", spec := "nodeFresh", unfollowed := true, recurses := true, apart := false }
def NodeFreshSaid : Prop := nodeFreshRow.holds Tryz.pinned (OpenSpec.ofChange nodeFreshSpec)

/-- ITS FALSE NEIGHBOUR: 'it returns false'. Refute it at one input. -/
def nodeFreshWrong : ChangeSpec := { name := "nodeFresh", fn := fun _ => fun
  | [d1, d2, d3, d4] => { results := [.lit (.bool false)], args := [d1, d2, d3, d4] }
  | _ => none }
def NodeFreshWrongFalsely : Prop := nodeFreshRow.holds Tryz.pinned (OpenSpec.ofChange nodeFreshWrong)

/-- 'milepostlaw20.NodeOnce': WHATEVER THE INPUT: true; the input reads as it did. -/
def nodeOnceSpec : ChangeSpec := { name := "nodeOnce", fn := fun _ => fun
  | [d1, d2, d3, d4] => { results := [.lit (.bool true)], args := [d1, d2, d3, d4] }
  | _ => none }
def nodeOnceRow : OpenClaim := { program := "ytbhkoipcpcoooaagreat", sum := "c24a6b6ff3e6adb9c01e46e9d2e91d55f5ae13ca25d713eabc14725f1583ac30", func := "milepost/milepostlaw20.NodeOnce", spec := "nodeOnce", unfollowed := true, recurses := true, apart := false }
def NodeOnceSaid : Prop := nodeOnceRow.holds Tryz.pinned (OpenSpec.ofChange nodeOnceSpec)

/-- ITS FALSE NEIGHBOUR: 'it returns false'. Refute it at one input. -/
def nodeOnceWrong : ChangeSpec := { name := "nodeOnce", fn := fun _ => fun
  | [d1, d2, d3, d4] => { results := [.lit (.bool false)], args := [d1, d2, d3, d4] }
  | _ => none }
def NodeOnceWrongFalsely : Prop := nodeOnceRow.holds Tryz.pinned (OpenSpec.ofChange nodeOnceWrong)

/-- 'milepostlaw20.NodeEnds': WHATEVER THE INPUT: true; the input reads as it did. -/
def nodeEndsSpec : ChangeSpec := { name := "nodeEnds", fn := fun _ => fun
  | [d1, d2, d3, d4] => { results := [.lit (.bool true)], args := [d1, d2, d3, d4] }
  | _ => none }
def nodeEndsRow : OpenClaim := { program := "ytbhkoipcpcoooaagreat", sum := "c24a6b6ff3e6adb9c01e46e9d2e91d55f5ae13ca25d713eabc14725f1583ac30", func := "milepost/milepostlaw20.NodeEnds", spec := "nodeEnds", unfollowed := true, recurses := true, apart := false }
def NodeEndsSaid : Prop := nodeEndsRow.holds Tryz.pinned (OpenSpec.ofChange nodeEndsSpec)

/-- ITS FALSE NEIGHBOUR: 'it returns false'. Refute it at one input. -/
def nodeEndsWrong : ChangeSpec := { name := "nodeEnds", fn := fun _ => fun
  | [d1, d2, d3, d4] => { results := [.lit (.bool false)], args := [d1, d2, d3, d4] }
  | _ => none }
def NodeEndsWrongFalsely : Prop := nodeEndsRow.holds Tryz.pinned (OpenSpec.ofChange nodeEndsWrong)

/-- 'milepostlaw20.NodeAnswers': WHATEVER THE INPUT: true; the input reads as it did. -/
def nodeAnswersSpec : ChangeSpec := { name := "nodeAnswers", fn := fun _ => fun
  | [d1, d2, d3, d4, d5, d6, d7] => { results := [.lit (.bool true)], args := [d1, d2, d3, d4, d5, d6, d7] }
  | _ => none }
def nodeAnswersRow : OpenClaim := { program := "ytbhkoipcpcoooaagreat", sum := "c24a6b6ff3e6adb9c01e46e9d2e91d55f5ae13ca25d713eabc14725f1583ac30", func := "milepost/milepostlaw20.NodeAnswers", spec := "nodeAnswers", unfollowed := true, recurses := true, apart := false }
def NodeAnswersSaid : Prop := nodeAnswersRow.holds Tryz.pinned (OpenSpec.ofChange nodeAnswersSpec)

/-- ITS FALSE NEIGHBOUR: 'it returns false'. Refute it at one input. -/
def nodeAnswersWrong : ChangeSpec := { name := "nodeAnswers", fn := fun _ => fun
  | [d1, d2, d3, d4, d5, d6, d7] => { results := [.lit (.bool false)], args := [d1, d2, d3, d4, d5, d6, d7] }
  | _ => none }
def NodeAnswersWrongFalsely : Prop := nodeAnswersRow.holds Tryz.pinned (OpenSpec.ofChange nodeAnswersWrong)

/- THE SECOND FORM. 'bulk': how many values and letters a reading holds, each counted each time it is reached (what is shared counts as often as it is met; a slice's spare places count too). A statement '..UptoSaid' is the law's where the arguments, and the package variables that the reading takes, are together of bulk at most 1048576: NARROWER than '..Said'. Prove '..Said' where nothing that the law and all that it calls make is longer than what came in: it says more and counts as full. Else prove '..UptoSaid'. A law counts once. -/
mutual
def uptoBulk {H : Type} : DataW H → Nat
  | .lit (.string bytes) => bytes.length + 1
  | .lit _ => 1
  | .nil => 1
  | .ptr d => uptoBulk d + 1
  | .slice elems spare => uptoBulkAll elems + uptoBulkAll spare + 1
  | .agg parts => uptoBulkAll parts + 1
  | .iface _ d => uptoBulk d + 1
  | .map entries => uptoBulkEntries entries + 1
  | .held _ => 1
def uptoBulkAll {H : Type} : List (DataW H) → Nat
  | [] => 0
  | d :: r => uptoBulk d + uptoBulkAll r
def uptoBulkEntries {H : Type} : List (Lit × DataW H) → Nat
  | [] => 0
  | x :: r => uptoBulkEntry x + uptoBulkEntries r
def uptoBulkEntry {H : Type} : Lit × DataW H → Nat
  | (.string bytes, d) => bytes.length + uptoBulk d + 1
  | (_, d) => uptoBulk d + 1
 end
def uptoSmall : (H : Type) → List (DataW H) → Bool := fun _ ds => decide (uptoBulkAll ds ≤ 1048576)
def OpenSpec.upto (s : _root_.Go.ChangeSpec) : _root_.Go.OpenSpec := { _root_.Go.OpenSpec.ofChange s with cond := some uptoSmall }

/-- 'milepostlaw20.NodePlays', WHERE WHAT IT READS IS OF BULK AT MOST 1048576: true; the input reads as it did. -/
def nodePlaysUptoRow : OpenClaim := { program := "ytbhkoipcpcoooaagreat", sum := "c24a6b6ff3e6adb9c01e46e9d2e91d55f5ae13ca25d713eabc14725f1583ac30", func := "milepost/milepostlaw20.NodePlays", spec := "nodePlays", unfollowed := true, recurses := true, apart := false, narrowed := true }
def NodePlaysUptoSaid : Prop := nodePlaysUptoRow.holds Tryz.pinned (OpenSpec.upto nodePlaysSpec)

/-- 'milepostlaw20.NodeLease', WHERE WHAT IT READS IS OF BULK AT MOST 1048576: true; the input reads as it did. -/
def nodeLeaseUptoRow : OpenClaim := { program := "ytbhkoipcpcoooaagreat", sum := "c24a6b6ff3e6adb9c01e46e9d2e91d55f5ae13ca25d713eabc14725f1583ac30", func := "milepost/milepostlaw20.NodeLease", spec := "nodeLease", unfollowed := true, recurses := true, apart := false, narrowed := true }
def NodeLeaseUptoSaid : Prop := nodeLeaseUptoRow.holds Tryz.pinned (OpenSpec.upto nodeLeaseSpec)

/-- 'milepostlaw20.NodeFresh', WHERE WHAT IT READS IS OF BULK AT MOST 1048576: true; the input reads as it did. -/
def nodeFreshUptoRow : OpenClaim := { program := "ytbhkoipcpcoooaagreat", sum := "c24a6b6ff3e6adb9c01e46e9d2e91d55f5ae13ca25d713eabc14725f1583ac30", func := "milepost/milepostlaw20.NodeFresh", spec := "nodeFresh", unfollowed := true, recurses := true, apart := false, narrowed := true }
def NodeFreshUptoSaid : Prop := nodeFreshUptoRow.holds Tryz.pinned (OpenSpec.upto nodeFreshSpec)

/-- 'milepostlaw20.NodeOnce', WHERE WHAT IT READS IS OF BULK AT MOST 1048576: true; the input reads as it did. -/
def nodeOnceUptoRow : OpenClaim := { program := "ytbhkoipcpcoooaagreat", sum := "c24a6b6ff3e6adb9c01e46e9d2e91d55f5ae13ca25d713eabc14725f1583ac30", func := "milepost/milepostlaw20.NodeOnce", spec := "nodeOnce", unfollowed := true, recurses := true, apart := false, narrowed := true }
def NodeOnceUptoSaid : Prop := nodeOnceUptoRow.holds Tryz.pinned (OpenSpec.upto nodeOnceSpec)

/-- 'milepostlaw20.NodeEnds', WHERE WHAT IT READS IS OF BULK AT MOST 1048576: true; the input reads as it did. -/
def nodeEndsUptoRow : OpenClaim := { program := "ytbhkoipcpcoooaagreat", sum := "c24a6b6ff3e6adb9c01e46e9d2e91d55f5ae13ca25d713eabc14725f1583ac30", func := "milepost/milepostlaw20.NodeEnds", spec := "nodeEnds", unfollowed := true, recurses := true, apart := false, narrowed := true }
def NodeEndsUptoSaid : Prop := nodeEndsUptoRow.holds Tryz.pinned (OpenSpec.upto nodeEndsSpec)

/-- 'milepostlaw20.NodeAnswers', WHERE WHAT IT READS IS OF BULK AT MOST 1048576: true; the input reads as it did. -/
def nodeAnswersUptoRow : OpenClaim := { program := "ytbhkoipcpcoooaagreat", sum := "c24a6b6ff3e6adb9c01e46e9d2e91d55f5ae13ca25d713eabc14725f1583ac30", func := "milepost/milepostlaw20.NodeAnswers", spec := "nodeAnswers", unfollowed := true, recurses := true, apart := false, narrowed := true }
def NodeAnswersUptoSaid : Prop := nodeAnswersUptoRow.holds Tryz.pinned (OpenSpec.upto nodeAnswersSpec)

end Rows
end Go.Proofs.YtbhkoipcpcoooaaGreat
