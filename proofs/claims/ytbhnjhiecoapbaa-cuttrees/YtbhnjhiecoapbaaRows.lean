/-
  No cell of these rows narrows 'for every input' (looked for: loops, veiled, ifaces, maps, wideKeys, modest, calm, conditions, laid).
  DERIVED. THE GIVEN ROWS OF THIS SEAT. 6 by the template 'for every input the law returns true; each argument reads behind the call as it read before'; 0 by the template 'total and deterministic' (their statements: YtbhnjhiecoapbaaTotals.lean).
  GIVEN WITH THE SEED: the statements are not yours to turn. If you find one false, say at which input.
  Laid BY PROGRAM, IN A SANDBOX (cutbox-rows.mjs): the forced cells as the released guide's own fill.sh prints them over the translation edbc87f6391fe628… (all of the seat's roots in one cut). By AI agents, Wed Nov 11 2026. No macro, syntax, notation, axiom, sorry.
-/
import Derived.Test.YtbhnjhiecoapbaaChecked
import GoSem.Claim
import GoSem.ClaimJoined
import GoSem.ClaimMapViews
import Derived.JoinedTies
import Derived.KernelRfl
namespace Go.Proofs.Ytbhnjhiecoapbaa
/- THE CELL 'sum', in the pinned program and in every row, IS THE sha256 OF THE DUMP (.gsa) THAT YtbhnjhiecoapbaaProg.lean LOADS. Nothing in Lean hashes anything: it is a label: what it is worth is what the hold of that sum in a sandbox is worth. -/
noncomputable def Try.pinned : Pinned := { name := "ytbhnjhiecoapbaa", sum := "edbc87f6391fe6286257f2686fae9739ae452213e34bd7a00cfd0f602303334f", checked := Try.checked }
namespace Rows
def none {H : Type} : Left H := { results := [], args := [] }

/-- 'milepostlaw12.CutClips': WHATEVER THE INPUT: true; the input reads as it did. -/
def cutClipsSpec : ChangeSpec := { name := "cutClips", fn := fun _ => fun
  | [d1, d2, d3] => { results := [.lit (.bool true)], args := [d1, d2, d3] }
  | _ => none }
def cutClipsRow : OpenClaim := { program := "ytbhnjhiecoapbaa", sum := "edbc87f6391fe6286257f2686fae9739ae452213e34bd7a00cfd0f602303334f", func := "milepost/milepostlaw12.CutClips", spec := "cutClips", apart := false }
def CutClipsSaid : Prop := cutClipsRow.holds Try.pinned (OpenSpec.ofChange cutClipsSpec)

/-- ITS FALSE NEIGHBOUR: 'it returns false'. Refute it at one input. -/
def cutClipsWrong : ChangeSpec := { name := "cutClips", fn := fun _ => fun
  | [d1, d2, d3] => { results := [.lit (.bool false)], args := [d1, d2, d3] }
  | _ => none }
def CutClipsWrongFalsely : Prop := cutClipsRow.holds Try.pinned (OpenSpec.ofChange cutClipsWrong)

/-- 'milepostlaw12.CutBest': WHATEVER THE INPUT: true; the input reads as it did. -/
def cutBestSpec : ChangeSpec := { name := "cutBest", fn := fun _ => fun
  | [d1, d2, d3] => { results := [.lit (.bool true)], args := [d1, d2, d3] }
  | _ => none }
def cutBestRow : OpenClaim := { program := "ytbhnjhiecoapbaa", sum := "edbc87f6391fe6286257f2686fae9739ae452213e34bd7a00cfd0f602303334f", func := "milepost/milepostlaw12.CutBest", spec := "cutBest", inPlace := ["math.Float64bits", "math.Float64frombits"], apart := false }
def CutBestSaid : Prop := cutBestRow.holds Try.pinned (OpenSpec.ofChange cutBestSpec)

/-- ITS FALSE NEIGHBOUR: 'it returns false'. Refute it at one input. -/
def cutBestWrong : ChangeSpec := { name := "cutBest", fn := fun _ => fun
  | [d1, d2, d3] => { results := [.lit (.bool false)], args := [d1, d2, d3] }
  | _ => none }
def CutBestWrongFalsely : Prop := cutBestRow.holds Try.pinned (OpenSpec.ofChange cutBestWrong)

/-- 'milepostlaw12.CutTrees': WHATEVER THE INPUT: true; the input reads as it did. -/
def cutTreesSpec : ChangeSpec := { name := "cutTrees", fn := fun _ => fun
  | [d1, d2, d3, d4] => { results := [.lit (.bool true)], args := [d1, d2, d3, d4] }
  | _ => none }
def cutTreesRow : OpenClaim := { program := "ytbhnjhiecoapbaa", sum := "edbc87f6391fe6286257f2686fae9739ae452213e34bd7a00cfd0f602303334f", func := "milepost/milepostlaw12.CutTrees", spec := "cutTrees", inPlace := ["math.Float64bits", "math.Float64frombits"], apart := false }
def CutTreesSaid : Prop := cutTreesRow.holds Try.pinned (OpenSpec.ofChange cutTreesSpec)

/-- ITS FALSE NEIGHBOUR: 'it returns false'. Refute it at one input. -/
def cutTreesWrong : ChangeSpec := { name := "cutTrees", fn := fun _ => fun
  | [d1, d2, d3, d4] => { results := [.lit (.bool false)], args := [d1, d2, d3, d4] }
  | _ => none }
def CutTreesWrongFalsely : Prop := cutTreesRow.holds Try.pinned (OpenSpec.ofChange cutTreesWrong)

/-- 'milepostlaw12.CutCovers': WHATEVER THE INPUT: true; the input reads as it did. -/
def cutCoversSpec : ChangeSpec := { name := "cutCovers", fn := fun _ => fun
  | [d1, d2, d3, d4, d5] => { results := [.lit (.bool true)], args := [d1, d2, d3, d4, d5] }
  | _ => none }
def cutCoversRow : OpenClaim := { program := "ytbhnjhiecoapbaa", sum := "edbc87f6391fe6286257f2686fae9739ae452213e34bd7a00cfd0f602303334f", func := "milepost/milepostlaw12.CutCovers", spec := "cutCovers", apart := false }
def CutCoversSaid : Prop := cutCoversRow.holds Try.pinned (OpenSpec.ofChange cutCoversSpec)

/-- ITS FALSE NEIGHBOUR: 'it returns false'. Refute it at one input. -/
def cutCoversWrong : ChangeSpec := { name := "cutCovers", fn := fun _ => fun
  | [d1, d2, d3, d4, d5] => { results := [.lit (.bool false)], args := [d1, d2, d3, d4, d5] }
  | _ => none }
def CutCoversWrongFalsely : Prop := cutCoversRow.holds Try.pinned (OpenSpec.ofChange cutCoversWrong)

/-- 'milepostlaw12.CutMeans': WHATEVER THE INPUT: true; the input reads as it did. -/
def cutMeansSpec : ChangeSpec := { name := "cutMeans", fn := fun _ => fun
  | [d1, d2, d3, d4, d5] => { results := [.lit (.bool true)], args := [d1, d2, d3, d4, d5] }
  | _ => none }
def cutMeansRow : OpenClaim := { program := "ytbhnjhiecoapbaa", sum := "edbc87f6391fe6286257f2686fae9739ae452213e34bd7a00cfd0f602303334f", func := "milepost/milepostlaw12.CutMeans", spec := "cutMeans", apart := false }
def CutMeansSaid : Prop := cutMeansRow.holds Try.pinned (OpenSpec.ofChange cutMeansSpec)

/-- ITS FALSE NEIGHBOUR: 'it returns false'. Refute it at one input. -/
def cutMeansWrong : ChangeSpec := { name := "cutMeans", fn := fun _ => fun
  | [d1, d2, d3, d4, d5] => { results := [.lit (.bool false)], args := [d1, d2, d3, d4, d5] }
  | _ => none }
def CutMeansWrongFalsely : Prop := cutMeansRow.holds Try.pinned (OpenSpec.ofChange cutMeansWrong)

/-- 'milepostlaw12.CutFew': WHATEVER THE INPUT: true; the input reads as it did. -/
def cutFewSpec : ChangeSpec := { name := "cutFew", fn := fun _ => fun
  | [d1, d2, d3, d4] => { results := [.lit (.bool true)], args := [d1, d2, d3, d4] }
  | _ => none }
def cutFewRow : OpenClaim := { program := "ytbhnjhiecoapbaa", sum := "edbc87f6391fe6286257f2686fae9739ae452213e34bd7a00cfd0f602303334f", func := "milepost/milepostlaw12.CutFew", spec := "cutFew", apart := false }
def CutFewSaid : Prop := cutFewRow.holds Try.pinned (OpenSpec.ofChange cutFewSpec)

/-- ITS FALSE NEIGHBOUR: 'it returns false'. Refute it at one input. -/
def cutFewWrong : ChangeSpec := { name := "cutFew", fn := fun _ => fun
  | [d1, d2, d3, d4] => { results := [.lit (.bool false)], args := [d1, d2, d3, d4] }
  | _ => none }
def CutFewWrongFalsely : Prop := cutFewRow.holds Try.pinned (OpenSpec.ofChange cutFewWrong)

/- THE SECOND FORM. 'bulk': how many values and letters a reading holds, each counted each time it is reached (what is shared counts as often as it is met; a slice's spare places count too). A statement '..UptoSaid' is the law's where the arguments, and the package variables that the reading takes, are together of bulk at most 1048576: NARROWER than '..Said'. Prove '..Said' where nothing that the law and all that it calls make is longer than what came in: it says more and counts as full. Else prove '..UptoSaid'. A law counts once. -/
mutual
def uptoBulk {H : Type} : DataW H → Nat
  | .lit (.string bytes) => bytes.length + 1
  | .lit _ => 1
  | .nil => 1
  | .ptr d => uptoBulk d + 1
  | .slice elems spare => uptoBulkAll elems + uptoBulkAll spare + 1
  | .agg parts => uptoBulkAll parts + 1
  | .iface _ d => uptoBulk d + 1
  | .map entries => uptoBulkEntries entries + 1
  | .held _ => 1
def uptoBulkAll {H : Type} : List (DataW H) → Nat
  | [] => 0
  | d :: r => uptoBulk d + uptoBulkAll r
def uptoBulkEntries {H : Type} : List (Lit × DataW H) → Nat
  | [] => 0
  | x :: r => uptoBulkEntry x + uptoBulkEntries r
def uptoBulkEntry {H : Type} : Lit × DataW H → Nat
  | (.string bytes, d) => bytes.length + uptoBulk d + 1
  | (_, d) => uptoBulk d + 1
 end
def uptoSmall : (H : Type) → List (DataW H) → Bool := fun _ ds => decide (uptoBulkAll ds ≤ 1048576)
def OpenSpec.upto (s : _root_.Go.ChangeSpec) : _root_.Go.OpenSpec := { _root_.Go.OpenSpec.ofChange s with cond := some uptoSmall }

/-- 'milepostlaw12.CutClips', WHERE WHAT IT READS IS OF BULK AT MOST 1048576: true; the input reads as it did. -/
def cutClipsUptoRow : OpenClaim := { program := "ytbhnjhiecoapbaa", sum := "edbc87f6391fe6286257f2686fae9739ae452213e34bd7a00cfd0f602303334f", func := "milepost/milepostlaw12.CutClips", spec := "cutClips", apart := false, narrowed := true }
def CutClipsUptoSaid : Prop := cutClipsUptoRow.holds Try.pinned (OpenSpec.upto cutClipsSpec)

/-- 'milepostlaw12.CutBest', WHERE WHAT IT READS IS OF BULK AT MOST 1048576: true; the input reads as it did. -/
def cutBestUptoRow : OpenClaim := { program := "ytbhnjhiecoapbaa", sum := "edbc87f6391fe6286257f2686fae9739ae452213e34bd7a00cfd0f602303334f", func := "milepost/milepostlaw12.CutBest", spec := "cutBest", inPlace := ["math.Float64bits", "math.Float64frombits"], apart := false, narrowed := true }
def CutBestUptoSaid : Prop := cutBestUptoRow.holds Try.pinned (OpenSpec.upto cutBestSpec)

/-- 'milepostlaw12.CutTrees', WHERE WHAT IT READS IS OF BULK AT MOST 1048576: true; the input reads as it did. -/
def cutTreesUptoRow : OpenClaim := { program := "ytbhnjhiecoapbaa", sum := "edbc87f6391fe6286257f2686fae9739ae452213e34bd7a00cfd0f602303334f", func := "milepost/milepostlaw12.CutTrees", spec := "cutTrees", inPlace := ["math.Float64bits", "math.Float64frombits"], apart := false, narrowed := true }
def CutTreesUptoSaid : Prop := cutTreesUptoRow.holds Try.pinned (OpenSpec.upto cutTreesSpec)

/-- 'milepostlaw12.CutCovers', WHERE WHAT IT READS IS OF BULK AT MOST 1048576: true; the input reads as it did. -/
def cutCoversUptoRow : OpenClaim := { program := "ytbhnjhiecoapbaa", sum := "edbc87f6391fe6286257f2686fae9739ae452213e34bd7a00cfd0f602303334f", func := "milepost/milepostlaw12.CutCovers", spec := "cutCovers", apart := false, narrowed := true }
def CutCoversUptoSaid : Prop := cutCoversUptoRow.holds Try.pinned (OpenSpec.upto cutCoversSpec)

/-- 'milepostlaw12.CutMeans', WHERE WHAT IT READS IS OF BULK AT MOST 1048576: true; the input reads as it did. -/
def cutMeansUptoRow : OpenClaim := { program := "ytbhnjhiecoapbaa", sum := "edbc87f6391fe6286257f2686fae9739ae452213e34bd7a00cfd0f602303334f", func := "milepost/milepostlaw12.CutMeans", spec := "cutMeans", apart := false, narrowed := true }
def CutMeansUptoSaid : Prop := cutMeansUptoRow.holds Try.pinned (OpenSpec.upto cutMeansSpec)

/-- 'milepostlaw12.CutFew', WHERE WHAT IT READS IS OF BULK AT MOST 1048576: true; the input reads as it did. -/
def cutFewUptoRow : OpenClaim := { program := "ytbhnjhiecoapbaa", sum := "edbc87f6391fe6286257f2686fae9739ae452213e34bd7a00cfd0f602303334f", func := "milepost/milepostlaw12.CutFew", spec := "cutFew", apart := false, narrowed := true }
def CutFewUptoSaid : Prop := cutFewUptoRow.holds Try.pinned (OpenSpec.upto cutFewSpec)

end Rows
end Go.Proofs.Ytbhnjhiecoapbaa
