/-
  No cell of these rows narrows 'for every input' (looked for: loops, veiled, ifaces, maps, wideKeys, modest, calm, conditions, laid).
  DERIVED. THE GIVEN ROWS OF THIS SEAT. 6 by the template 'for every input the law returns true; each argument reads behind the call as it read before'; 0 by the template 'total and deterministic' (their statements: YtnppfibojcgkmaaTotals.lean).
  GIVEN WITH THE SEED: the statements are not yours to turn. If you find one false, say at which input.
  Laid BY PROGRAM, IN A SANDBOX (cutbox-rows.mjs): the forced cells as the released guide's own fill.sh prints them over the translation af3db90779530d38… (all of the seat's roots in one cut). By AI agents, Wed Nov 11 2026. No macro, syntax, notation, axiom, sorry.
-/
import Derived.Test.YtnppfibojcgkmaaChecked
import GoSem.Claim
import GoSem.ClaimJoined
import GoSem.ClaimMapViews
import Derived.JoinedTies
import Derived.KernelRfl
namespace Go.Proofs.Ytnppfibojcgkmaa
/- THE CELL 'sum', in the pinned program and in every row, IS THE sha256 OF THE DUMP (.gsa) THAT YtnppfibojcgkmaaProg.lean LOADS. Nothing in Lean hashes anything: it is a label: what it is worth is what the hold of that sum in a sandbox is worth. -/
noncomputable def Try.pinned : Pinned := { name := "ytnppfibojcgkmaa", sum := "af3db90779530d3840d677624d6d08a32364069400aaa8804e80be6f46f9ac62", checked := Try.checked }
namespace Rows
def none {H : Type} : Left H := { results := [], args := [] }

/-- 'milepostlaw10.ScoreCleans': WHATEVER THE INPUT: true; the input reads as it did. -/
def scoreCleansSpec : ChangeSpec := { name := "scoreCleans", fn := fun _ => fun
  | [d] => { results := [.lit (.bool true)], args := [d] }
  | _ => none }
def scoreCleansRow : OpenClaim := { program := "ytnppfibojcgkmaa", sum := "af3db90779530d3840d677624d6d08a32364069400aaa8804e80be6f46f9ac62", func := "milepost/milepostlaw10.ScoreCleans", spec := "scoreCleans", inPlace := ["math.Float64frombits", "math.Float64bits"], unfollowed := true, recurses := true, apart := false }
def ScoreCleansSaid : Prop := scoreCleansRow.holds Try.pinned (OpenSpec.ofChange scoreCleansSpec)

/-- ITS FALSE NEIGHBOUR: 'it returns false'. Refute it at one input. -/
def scoreCleansWrong : ChangeSpec := { name := "scoreCleans", fn := fun _ => fun
  | [d] => { results := [.lit (.bool false)], args := [d] }
  | _ => none }
def ScoreCleansWrongFalsely : Prop := scoreCleansRow.holds Try.pinned (OpenSpec.ofChange scoreCleansWrong)

/-- 'milepostlaw10.ScoreLess': WHATEVER THE INPUT: true; the input reads as it did. -/
def scoreLessSpec : ChangeSpec := { name := "scoreLess", fn := fun _ => fun
  | [d1, d2, d3] => { results := [.lit (.bool true)], args := [d1, d2, d3] }
  | _ => none }
def scoreLessRow : OpenClaim := { program := "ytnppfibojcgkmaa", sum := "af3db90779530d3840d677624d6d08a32364069400aaa8804e80be6f46f9ac62", func := "milepost/milepostlaw10.ScoreLess", spec := "scoreLess", inPlace := ["math.Float64frombits", "math.Float64bits"], unfollowed := true, recurses := true, apart := false }
def ScoreLessSaid : Prop := scoreLessRow.holds Try.pinned (OpenSpec.ofChange scoreLessSpec)

/-- ITS FALSE NEIGHBOUR: 'it returns false'. Refute it at one input. -/
def scoreLessWrong : ChangeSpec := { name := "scoreLess", fn := fun _ => fun
  | [d1, d2, d3] => { results := [.lit (.bool false)], args := [d1, d2, d3] }
  | _ => none }
def ScoreLessWrongFalsely : Prop := scoreLessRow.holds Try.pinned (OpenSpec.ofChange scoreLessWrong)

/-- 'milepostlaw10.ScoreOrders': WHATEVER THE INPUT: true; the input reads as it did. -/
def scoreOrdersSpec : ChangeSpec := { name := "scoreOrders", fn := fun _ => fun
  | [d] => { results := [.lit (.bool true)], args := [d] }
  | _ => none }
def scoreOrdersRow : OpenClaim := { program := "ytnppfibojcgkmaa", sum := "af3db90779530d3840d677624d6d08a32364069400aaa8804e80be6f46f9ac62", func := "milepost/milepostlaw10.ScoreOrders", spec := "scoreOrders", inPlace := ["math.Float64frombits", "math.Float64bits"], unfollowed := true, recurses := true, apart := false }
def ScoreOrdersSaid : Prop := scoreOrdersRow.holds Try.pinned (OpenSpec.ofChange scoreOrdersSpec)

/-- ITS FALSE NEIGHBOUR: 'it returns false'. Refute it at one input. -/
def scoreOrdersWrong : ChangeSpec := { name := "scoreOrders", fn := fun _ => fun
  | [d] => { results := [.lit (.bool false)], args := [d] }
  | _ => none }
def ScoreOrdersWrongFalsely : Prop := scoreOrdersRow.holds Try.pinned (OpenSpec.ofChange scoreOrdersWrong)

/-- 'milepostlaw10.ScoreCosts': WHATEVER THE INPUT: true; the input reads as it did. -/
def scoreCostsSpec : ChangeSpec := { name := "scoreCosts", fn := fun _ => fun
  | [d1, d2, d3, d4] => { results := [.lit (.bool true)], args := [d1, d2, d3, d4] }
  | _ => none }
def scoreCostsRow : OpenClaim := { program := "ytnppfibojcgkmaa", sum := "af3db90779530d3840d677624d6d08a32364069400aaa8804e80be6f46f9ac62", func := "milepost/milepostlaw10.ScoreCosts", spec := "scoreCosts", inPlace := ["math.Float64frombits", "math.Float64bits", "math.archMax"], unfollowed := true, recurses := true, apart := false }
def ScoreCostsSaid : Prop := scoreCostsRow.holds Try.pinned (OpenSpec.ofChange scoreCostsSpec)

/-- ITS FALSE NEIGHBOUR: 'it returns false'. Refute it at one input. -/
def scoreCostsWrong : ChangeSpec := { name := "scoreCosts", fn := fun _ => fun
  | [d1, d2, d3, d4] => { results := [.lit (.bool false)], args := [d1, d2, d3, d4] }
  | _ => none }
def ScoreCostsWrongFalsely : Prop := scoreCostsRow.holds Try.pinned (OpenSpec.ofChange scoreCostsWrong)

/-- 'milepostlaw10.ScoreDecays': WHATEVER THE INPUT: true; the input reads as it did. -/
def scoreDecaysSpec : ChangeSpec := { name := "scoreDecays", fn := fun _ => fun
  | [d1, d2] => { results := [.lit (.bool true)], args := [d1, d2] }
  | _ => none }
def scoreDecaysRow : OpenClaim := { program := "ytnppfibojcgkmaa", sum := "af3db90779530d3840d677624d6d08a32364069400aaa8804e80be6f46f9ac62", func := "milepost/milepostlaw10.ScoreDecays", spec := "scoreDecays", inPlace := ["math.Float64frombits", "math.Float64bits"], unfollowed := true, recurses := true, apart := false }
def ScoreDecaysSaid : Prop := scoreDecaysRow.holds Try.pinned (OpenSpec.ofChange scoreDecaysSpec)

/-- ITS FALSE NEIGHBOUR: 'it returns false'. Refute it at one input. -/
def scoreDecaysWrong : ChangeSpec := { name := "scoreDecays", fn := fun _ => fun
  | [d1, d2] => { results := [.lit (.bool false)], args := [d1, d2] }
  | _ => none }
def ScoreDecaysWrongFalsely : Prop := scoreDecaysRow.holds Try.pinned (OpenSpec.ofChange scoreDecaysWrong)

/-- 'milepostlaw10.ScoreShares': WHATEVER THE INPUT: true; the input reads as it did. -/
def scoreSharesSpec : ChangeSpec := { name := "scoreShares", fn := fun _ => fun
  | [d] => { results := [.lit (.bool true)], args := [d] }
  | _ => none }
def scoreSharesRow : OpenClaim := { program := "ytnppfibojcgkmaa", sum := "af3db90779530d3840d677624d6d08a32364069400aaa8804e80be6f46f9ac62", func := "milepost/milepostlaw10.ScoreShares", spec := "scoreShares", inPlace := ["math.Float64frombits", "math.Float64bits"], unfollowed := true, recurses := true, apart := false }
def ScoreSharesSaid : Prop := scoreSharesRow.holds Try.pinned (OpenSpec.ofChange scoreSharesSpec)

/-- ITS FALSE NEIGHBOUR: 'it returns false'. Refute it at one input. -/
def scoreSharesWrong : ChangeSpec := { name := "scoreShares", fn := fun _ => fun
  | [d] => { results := [.lit (.bool false)], args := [d] }
  | _ => none }
def ScoreSharesWrongFalsely : Prop := scoreSharesRow.holds Try.pinned (OpenSpec.ofChange scoreSharesWrong)

/- THE SECOND FORM. 'bulk': how many values and letters a reading holds, each counted each time it is reached (what is shared counts as often as it is met; a slice's spare places count too). A statement '..UptoSaid' is the law's where the arguments, and the package variables that the reading takes, are together of bulk at most 1048576: NARROWER than '..Said'. Prove '..Said' where nothing that the law and all that it calls make is longer than what came in: it says more and counts as full. Else prove '..UptoSaid'. A law counts once. -/
mutual
def uptoBulk {H : Type} : DataW H → Nat
  | .lit (.string bytes) => bytes.length + 1
  | .lit _ => 1
  | .nil => 1
  | .ptr d => uptoBulk d + 1
  | .slice elems spare => uptoBulkAll elems + uptoBulkAll spare + 1
  | .agg parts => uptoBulkAll parts + 1
  | .iface _ d => uptoBulk d + 1
  | .map entries => uptoBulkEntries entries + 1
  | .held _ => 1
def uptoBulkAll {H : Type} : List (DataW H) → Nat
  | [] => 0
  | d :: r => uptoBulk d + uptoBulkAll r
def uptoBulkEntries {H : Type} : List (Lit × DataW H) → Nat
  | [] => 0
  | x :: r => uptoBulkEntry x + uptoBulkEntries r
def uptoBulkEntry {H : Type} : Lit × DataW H → Nat
  | (.string bytes, d) => bytes.length + uptoBulk d + 1
  | (_, d) => uptoBulk d + 1
 end
def uptoSmall : (H : Type) → List (DataW H) → Bool := fun _ ds => decide (uptoBulkAll ds ≤ 1048576)
def OpenSpec.upto (s : _root_.Go.ChangeSpec) : _root_.Go.OpenSpec := { _root_.Go.OpenSpec.ofChange s with cond := some uptoSmall }

/-- 'milepostlaw10.ScoreCleans', WHERE WHAT IT READS IS OF BULK AT MOST 1048576: true; the input reads as it did. -/
def scoreCleansUptoRow : OpenClaim := { program := "ytnppfibojcgkmaa", sum := "af3db90779530d3840d677624d6d08a32364069400aaa8804e80be6f46f9ac62", func := "milepost/milepostlaw10.ScoreCleans", spec := "scoreCleans", inPlace := ["math.Float64frombits", "math.Float64bits"], unfollowed := true, recurses := true, apart := false, narrowed := true }
def ScoreCleansUptoSaid : Prop := scoreCleansUptoRow.holds Try.pinned (OpenSpec.upto scoreCleansSpec)

/-- 'milepostlaw10.ScoreLess', WHERE WHAT IT READS IS OF BULK AT MOST 1048576: true; the input reads as it did. -/
def scoreLessUptoRow : OpenClaim := { program := "ytnppfibojcgkmaa", sum := "af3db90779530d3840d677624d6d08a32364069400aaa8804e80be6f46f9ac62", func := "milepost/milepostlaw10.ScoreLess", spec := "scoreLess", inPlace := ["math.Float64frombits", "math.Float64bits"], unfollowed := true, recurses := true, apart := false, narrowed := true }
def ScoreLessUptoSaid : Prop := scoreLessUptoRow.holds Try.pinned (OpenSpec.upto scoreLessSpec)

/-- 'milepostlaw10.ScoreOrders', WHERE WHAT IT READS IS OF BULK AT MOST 1048576: true; the input reads as it did. -/
def scoreOrdersUptoRow : OpenClaim := { program := "ytnppfibojcgkmaa", sum := "af3db90779530d3840d677624d6d08a32364069400aaa8804e80be6f46f9ac62", func := "milepost/milepostlaw10.ScoreOrders", spec := "scoreOrders", inPlace := ["math.Float64frombits", "math.Float64bits"], unfollowed := true, recurses := true, apart := false, narrowed := true }
def ScoreOrdersUptoSaid : Prop := scoreOrdersUptoRow.holds Try.pinned (OpenSpec.upto scoreOrdersSpec)

/-- 'milepostlaw10.ScoreCosts', WHERE WHAT IT READS IS OF BULK AT MOST 1048576: true; the input reads as it did. -/
def scoreCostsUptoRow : OpenClaim := { program := "ytnppfibojcgkmaa", sum := "af3db90779530d3840d677624d6d08a32364069400aaa8804e80be6f46f9ac62", func := "milepost/milepostlaw10.ScoreCosts", spec := "scoreCosts", inPlace := ["math.Float64frombits", "math.Float64bits", "math.archMax"], unfollowed := true, recurses := true, apart := false, narrowed := true }
def ScoreCostsUptoSaid : Prop := scoreCostsUptoRow.holds Try.pinned (OpenSpec.upto scoreCostsSpec)

/-- 'milepostlaw10.ScoreDecays', WHERE WHAT IT READS IS OF BULK AT MOST 1048576: true; the input reads as it did. -/
def scoreDecaysUptoRow : OpenClaim := { program := "ytnppfibojcgkmaa", sum := "af3db90779530d3840d677624d6d08a32364069400aaa8804e80be6f46f9ac62", func := "milepost/milepostlaw10.ScoreDecays", spec := "scoreDecays", inPlace := ["math.Float64frombits", "math.Float64bits"], unfollowed := true, recurses := true, apart := false, narrowed := true }
def ScoreDecaysUptoSaid : Prop := scoreDecaysUptoRow.holds Try.pinned (OpenSpec.upto scoreDecaysSpec)

/-- 'milepostlaw10.ScoreShares', WHERE WHAT IT READS IS OF BULK AT MOST 1048576: true; the input reads as it did. -/
def scoreSharesUptoRow : OpenClaim := { program := "ytnppfibojcgkmaa", sum := "af3db90779530d3840d677624d6d08a32364069400aaa8804e80be6f46f9ac62", func := "milepost/milepostlaw10.ScoreShares", spec := "scoreShares", inPlace := ["math.Float64frombits", "math.Float64bits"], unfollowed := true, recurses := true, apart := false, narrowed := true }
def ScoreSharesUptoSaid : Prop := scoreSharesUptoRow.holds Try.pinned (OpenSpec.upto scoreSharesSpec)

end Rows
end Go.Proofs.Ytnppfibojcgkmaa
