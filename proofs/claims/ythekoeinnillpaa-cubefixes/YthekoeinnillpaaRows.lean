/-
  No cell of these rows narrows 'for every input' (looked for: loops, veiled, ifaces, maps, wideKeys, modest, calm, conditions, laid).
  DERIVED. THE GIVEN ROWS OF THIS SEAT. 6 by the template 'for every input the law returns true; each argument reads behind the call as it read before'; 0 by the template 'total and deterministic' (their statements: YthekoeinnillpaaTotals.lean).
  GIVEN WITH THE SEED: the statements are not yours to turn. If you find one false, say at which input.
  Laid BY PROGRAM, IN A SANDBOX (cutbox-rows.mjs): the forced cells as the released guide's own fill.sh prints them over the translation 06eb1eaac32128b1… (all of the seat's roots in one cut). By AI agents, Wed Nov 11 2026. No macro, syntax, notation, axiom, sorry.
-/
import Derived.Test.YthekoeinnillpaaChecked
import GoSem.Claim
import GoSem.ClaimJoined
import GoSem.ClaimMapViews
import Derived.JoinedTies
import Derived.KernelRfl
namespace Go.Proofs.Ythekoeinnillpaa
/- THE CELL 'sum', in the pinned program and in every row, IS THE sha256 OF THE DUMP (.gsa) THAT YthekoeinnillpaaProg.lean LOADS. Nothing in Lean hashes anything: it is a label: what it is worth is what the hold of that sum in a sandbox is worth. -/
noncomputable def Try.pinned : Pinned := { name := "ythekoeinnillpaa", sum := "06eb1eaac32128b1a226093535ad70058cab5129e31db11794f3942f0851c1ce", checked := Try.checked }
namespace Rows
def none {H : Type} : Left H := { results := [], args := [] }

/-- 'milepostlaw02.CubeHas': WHATEVER THE INPUT: true; the input reads as it did. -/
def cubeHasSpec : ChangeSpec := { name := "cubeHas", fn := fun _ => fun
  | [d1, d2] => { results := [.lit (.bool true)], args := [d1, d2] }
  | _ => none }
def cubeHasRow : OpenClaim := { program := "ythekoeinnillpaa", sum := "06eb1eaac32128b1a226093535ad70058cab5129e31db11794f3942f0851c1ce", func := "milepost/milepostlaw02.CubeHas", spec := "cubeHas", apart := false }
def CubeHasSaid : Prop := cubeHasRow.holds Try.pinned (OpenSpec.ofChange cubeHasSpec)

/-- ITS FALSE NEIGHBOUR: 'it returns false'. Refute it at one input. -/
def cubeHasWrong : ChangeSpec := { name := "cubeHas", fn := fun _ => fun
  | [d1, d2] => { results := [.lit (.bool false)], args := [d1, d2] }
  | _ => none }
def CubeHasWrongFalsely : Prop := cubeHasRow.holds Try.pinned (OpenSpec.ofChange cubeHasWrong)

/-- 'milepostlaw02.CubeOne': WHATEVER THE INPUT: true; the input reads as it did. -/
def cubeOneSpec : ChangeSpec := { name := "cubeOne", fn := fun _ => fun
  | [d1, d2] => { results := [.lit (.bool true)], args := [d1, d2] }
  | _ => none }
def cubeOneRow : OpenClaim := { program := "ythekoeinnillpaa", sum := "06eb1eaac32128b1a226093535ad70058cab5129e31db11794f3942f0851c1ce", func := "milepost/milepostlaw02.CubeOne", spec := "cubeOne", apart := false }
def CubeOneSaid : Prop := cubeOneRow.holds Try.pinned (OpenSpec.ofChange cubeOneSpec)

/-- ITS FALSE NEIGHBOUR: 'it returns false'. Refute it at one input. -/
def cubeOneWrong : ChangeSpec := { name := "cubeOne", fn := fun _ => fun
  | [d1, d2] => { results := [.lit (.bool false)], args := [d1, d2] }
  | _ => none }
def CubeOneWrongFalsely : Prop := cubeOneRow.holds Try.pinned (OpenSpec.ofChange cubeOneWrong)

/-- 'milepostlaw02.CubeEnds': WHATEVER THE INPUT: true; the input reads as it did. -/
def cubeEndsSpec : ChangeSpec := { name := "cubeEnds", fn := fun _ => fun
  | [d] => { results := [.lit (.bool true)], args := [d] }
  | _ => none }
def cubeEndsRow : OpenClaim := { program := "ythekoeinnillpaa", sum := "06eb1eaac32128b1a226093535ad70058cab5129e31db11794f3942f0851c1ce", func := "milepost/milepostlaw02.CubeEnds", spec := "cubeEnds", apart := false }
def CubeEndsSaid : Prop := cubeEndsRow.holds Try.pinned (OpenSpec.ofChange cubeEndsSpec)

/-- ITS FALSE NEIGHBOUR: 'it returns false'. Refute it at one input. -/
def cubeEndsWrong : ChangeSpec := { name := "cubeEnds", fn := fun _ => fun
  | [d] => { results := [.lit (.bool false)], args := [d] }
  | _ => none }
def CubeEndsWrongFalsely : Prop := cubeEndsRow.holds Try.pinned (OpenSpec.ofChange cubeEndsWrong)

/-- 'milepostlaw02.CubeMeets': WHATEVER THE INPUT: true; the input reads as it did. -/
def cubeMeetsSpec : ChangeSpec := { name := "cubeMeets", fn := fun _ => fun
  | [d1, d2, d3] => { results := [.lit (.bool true)], args := [d1, d2, d3] }
  | _ => none }
def cubeMeetsRow : OpenClaim := { program := "ythekoeinnillpaa", sum := "06eb1eaac32128b1a226093535ad70058cab5129e31db11794f3942f0851c1ce", func := "milepost/milepostlaw02.CubeMeets", spec := "cubeMeets", apart := false }
def CubeMeetsSaid : Prop := cubeMeetsRow.holds Try.pinned (OpenSpec.ofChange cubeMeetsSpec)

/-- ITS FALSE NEIGHBOUR: 'it returns false'. Refute it at one input. -/
def cubeMeetsWrong : ChangeSpec := { name := "cubeMeets", fn := fun _ => fun
  | [d1, d2, d3] => { results := [.lit (.bool false)], args := [d1, d2, d3] }
  | _ => none }
def CubeMeetsWrongFalsely : Prop := cubeMeetsRow.holds Try.pinned (OpenSpec.ofChange cubeMeetsWrong)

/-- 'milepostlaw02.CubeWithin': WHATEVER THE INPUT: true; the input reads as it did. -/
def cubeWithinSpec : ChangeSpec := { name := "cubeWithin", fn := fun _ => fun
  | [d1, d2, d3] => { results := [.lit (.bool true)], args := [d1, d2, d3] }
  | _ => none }
def cubeWithinRow : OpenClaim := { program := "ythekoeinnillpaa", sum := "06eb1eaac32128b1a226093535ad70058cab5129e31db11794f3942f0851c1ce", func := "milepost/milepostlaw02.CubeWithin", spec := "cubeWithin", apart := false }
def CubeWithinSaid : Prop := cubeWithinRow.holds Try.pinned (OpenSpec.ofChange cubeWithinSpec)

/-- ITS FALSE NEIGHBOUR: 'it returns false'. Refute it at one input. -/
def cubeWithinWrong : ChangeSpec := { name := "cubeWithin", fn := fun _ => fun
  | [d1, d2, d3] => { results := [.lit (.bool false)], args := [d1, d2, d3] }
  | _ => none }
def CubeWithinWrongFalsely : Prop := cubeWithinRow.holds Try.pinned (OpenSpec.ofChange cubeWithinWrong)

/-- 'milepostlaw02.CubeFixes': WHATEVER THE INPUT: true; the input reads as it did. -/
def cubeFixesSpec : ChangeSpec := { name := "cubeFixes", fn := fun _ => fun
  | [d1, d2, d3, d4] => { results := [.lit (.bool true)], args := [d1, d2, d3, d4] }
  | _ => none }
def cubeFixesRow : OpenClaim := { program := "ythekoeinnillpaa", sum := "06eb1eaac32128b1a226093535ad70058cab5129e31db11794f3942f0851c1ce", func := "milepost/milepostlaw02.CubeFixes", spec := "cubeFixes", apart := false }
def CubeFixesSaid : Prop := cubeFixesRow.holds Try.pinned (OpenSpec.ofChange cubeFixesSpec)

/-- ITS FALSE NEIGHBOUR: 'it returns false'. Refute it at one input. -/
def cubeFixesWrong : ChangeSpec := { name := "cubeFixes", fn := fun _ => fun
  | [d1, d2, d3, d4] => { results := [.lit (.bool false)], args := [d1, d2, d3, d4] }
  | _ => none }
def CubeFixesWrongFalsely : Prop := cubeFixesRow.holds Try.pinned (OpenSpec.ofChange cubeFixesWrong)

/- THE SECOND FORM. 'bulk': how many values and letters a reading holds, each counted each time it is reached (what is shared counts as often as it is met; a slice's spare places count too). A statement '..UptoSaid' is the law's where the arguments, and the package variables that the reading takes, are together of bulk at most 1048576: NARROWER than '..Said'. Prove '..Said' where nothing that the law and all that it calls make is longer than what came in: it says more and counts as full. Else prove '..UptoSaid'. A law counts once. -/
mutual
def uptoBulk {H : Type} : DataW H → Nat
  | .lit (.string bytes) => bytes.length + 1
  | .lit _ => 1
  | .nil => 1
  | .ptr d => uptoBulk d + 1
  | .slice elems spare => uptoBulkAll elems + uptoBulkAll spare + 1
  | .agg parts => uptoBulkAll parts + 1
  | .iface _ d => uptoBulk d + 1
  | .map entries => uptoBulkEntries entries + 1
  | .held _ => 1
def uptoBulkAll {H : Type} : List (DataW H) → Nat
  | [] => 0
  | d :: r => uptoBulk d + uptoBulkAll r
def uptoBulkEntries {H : Type} : List (Lit × DataW H) → Nat
  | [] => 0
  | x :: r => uptoBulkEntry x + uptoBulkEntries r
def uptoBulkEntry {H : Type} : Lit × DataW H → Nat
  | (.string bytes, d) => bytes.length + uptoBulk d + 1
  | (_, d) => uptoBulk d + 1
 end
def uptoSmall : (H : Type) → List (DataW H) → Bool := fun _ ds => decide (uptoBulkAll ds ≤ 1048576)
def OpenSpec.upto (s : _root_.Go.ChangeSpec) : _root_.Go.OpenSpec := { _root_.Go.OpenSpec.ofChange s with cond := some uptoSmall }

/-- 'milepostlaw02.CubeHas', WHERE WHAT IT READS IS OF BULK AT MOST 1048576: true; the input reads as it did. -/
def cubeHasUptoRow : OpenClaim := { program := "ythekoeinnillpaa", sum := "06eb1eaac32128b1a226093535ad70058cab5129e31db11794f3942f0851c1ce", func := "milepost/milepostlaw02.CubeHas", spec := "cubeHas", apart := false, narrowed := true }
def CubeHasUptoSaid : Prop := cubeHasUptoRow.holds Try.pinned (OpenSpec.upto cubeHasSpec)

/-- 'milepostlaw02.CubeOne', WHERE WHAT IT READS IS OF BULK AT MOST 1048576: true; the input reads as it did. -/
def cubeOneUptoRow : OpenClaim := { program := "ythekoeinnillpaa", sum := "06eb1eaac32128b1a226093535ad70058cab5129e31db11794f3942f0851c1ce", func := "milepost/milepostlaw02.CubeOne", spec := "cubeOne", apart := false, narrowed := true }
def CubeOneUptoSaid : Prop := cubeOneUptoRow.holds Try.pinned (OpenSpec.upto cubeOneSpec)

/-- 'milepostlaw02.CubeEnds', WHERE WHAT IT READS IS OF BULK AT MOST 1048576: true; the input reads as it did. -/
def cubeEndsUptoRow : OpenClaim := { program := "ythekoeinnillpaa", sum := "06eb1eaac32128b1a226093535ad70058cab5129e31db11794f3942f0851c1ce", func := "milepost/milepostlaw02.CubeEnds", spec := "cubeEnds", apart := false, narrowed := true }
def CubeEndsUptoSaid : Prop := cubeEndsUptoRow.holds Try.pinned (OpenSpec.upto cubeEndsSpec)

/-- 'milepostlaw02.CubeMeets', WHERE WHAT IT READS IS OF BULK AT MOST 1048576: true; the input reads as it did. -/
def cubeMeetsUptoRow : OpenClaim := { program := "ythekoeinnillpaa", sum := "06eb1eaac32128b1a226093535ad70058cab5129e31db11794f3942f0851c1ce", func := "milepost/milepostlaw02.CubeMeets", spec := "cubeMeets", apart := false, narrowed := true }
def CubeMeetsUptoSaid : Prop := cubeMeetsUptoRow.holds Try.pinned (OpenSpec.upto cubeMeetsSpec)

/-- 'milepostlaw02.CubeWithin', WHERE WHAT IT READS IS OF BULK AT MOST 1048576: true; the input reads as it did. -/
def cubeWithinUptoRow : OpenClaim := { program := "ythekoeinnillpaa", sum := "06eb1eaac32128b1a226093535ad70058cab5129e31db11794f3942f0851c1ce", func := "milepost/milepostlaw02.CubeWithin", spec := "cubeWithin", apart := false, narrowed := true }
def CubeWithinUptoSaid : Prop := cubeWithinUptoRow.holds Try.pinned (OpenSpec.upto cubeWithinSpec)

/-- 'milepostlaw02.CubeFixes', WHERE WHAT IT READS IS OF BULK AT MOST 1048576: true; the input reads as it did. -/
def cubeFixesUptoRow : OpenClaim := { program := "ythekoeinnillpaa", sum := "06eb1eaac32128b1a226093535ad70058cab5129e31db11794f3942f0851c1ce", func := "milepost/milepostlaw02.CubeFixes", spec := "cubeFixes", apart := false, narrowed := true }
def CubeFixesUptoSaid : Prop := cubeFixesUptoRow.holds Try.pinned (OpenSpec.upto cubeFixesSpec)

end Rows
end Go.Proofs.Ythekoeinnillpaa
