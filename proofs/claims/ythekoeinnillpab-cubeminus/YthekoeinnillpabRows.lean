/-
  No cell of these rows narrows 'for every input' (looked for: loops, veiled, ifaces, maps, wideKeys, modest, calm, conditions, laid).
  DERIVED. THE GIVEN ROWS OF THIS SEAT. 2 by the template 'for every input the law returns true; each argument reads behind the call as it read before'; 0 by the template 'total and deterministic' (their statements: YthekoeinnillpabTotals.lean).
  GIVEN WITH THE SEED: the statements are not yours to turn. If you find one false, say at which input.
  Laid BY PROGRAM, IN A SANDBOX (cutbox-rows.mjs): the forced cells as the released guide's own fill.sh prints them over the translation fbf621284ec52620… (all of the seat's roots in one cut). By AI agents, Wed Nov 11 2026. No macro, syntax, notation, axiom, sorry.
-/
import Derived.Test.YthekoeinnillpabChecked
import GoSem.Claim
import GoSem.ClaimJoined
import GoSem.ClaimMapViews
import Derived.JoinedTies
import Derived.KernelRfl
namespace Go.Proofs.Ythekoeinnillpab
/- THE CELL 'sum', in the pinned program and in every row, IS THE sha256 OF THE DUMP (.gsa) THAT YthekoeinnillpabProg.lean LOADS. Nothing in Lean hashes anything: it is a label: what it is worth is what the hold of that sum in a sandbox is worth. -/
noncomputable def Try.pinned : Pinned := { name := "ythekoeinnillpab", sum := "fbf621284ec5262090f2bbf30c6839bb8a1b111f6067679b4863a4ae5ec53287", checked := Try.checked }
namespace Rows
def none {H : Type} : Left H := { results := [], args := [] }

/-- 'milepostlaw02.CubeMinus': WHATEVER THE INPUT: true; the input reads as it did. -/
def cubeMinusSpec : ChangeSpec := { name := "cubeMinus", fn := fun _ => fun
  | [d1, d2, d3] => { results := [.lit (.bool true)], args := [d1, d2, d3] }
  | _ => none }
def cubeMinusRow : OpenClaim := { program := "ythekoeinnillpab", sum := "fbf621284ec5262090f2bbf30c6839bb8a1b111f6067679b4863a4ae5ec53287", func := "milepost/milepostlaw02.CubeMinus", spec := "cubeMinus", apart := false }
def CubeMinusSaid : Prop := cubeMinusRow.holds Try.pinned (OpenSpec.ofChange cubeMinusSpec)

/-- ITS FALSE NEIGHBOUR: 'it returns false'. Refute it at one input. -/
def cubeMinusWrong : ChangeSpec := { name := "cubeMinus", fn := fun _ => fun
  | [d1, d2, d3] => { results := [.lit (.bool false)], args := [d1, d2, d3] }
  | _ => none }
def CubeMinusWrongFalsely : Prop := cubeMinusRow.holds Try.pinned (OpenSpec.ofChange cubeMinusWrong)

/-- 'milepostlaw02.CubeTexts': WHATEVER THE INPUT: true; the input reads as it did. -/
def cubeTextsSpec : ChangeSpec := { name := "cubeTexts", fn := fun _ => fun
  | [d1, d2] => { results := [.lit (.bool true)], args := [d1, d2] }
  | _ => none }
def cubeTextsRow : OpenClaim := { program := "ythekoeinnillpab", sum := "fbf621284ec5262090f2bbf30c6839bb8a1b111f6067679b4863a4ae5ec53287", func := "milepost/milepostlaw02.CubeTexts", spec := "cubeTexts", apart := false }
def CubeTextsSaid : Prop := cubeTextsRow.holds Try.pinned (OpenSpec.ofChange cubeTextsSpec)

/-- ITS FALSE NEIGHBOUR: 'it returns false'. Refute it at one input. -/
def cubeTextsWrong : ChangeSpec := { name := "cubeTexts", fn := fun _ => fun
  | [d1, d2] => { results := [.lit (.bool false)], args := [d1, d2] }
  | _ => none }
def CubeTextsWrongFalsely : Prop := cubeTextsRow.holds Try.pinned (OpenSpec.ofChange cubeTextsWrong)

/- THE SECOND FORM. 'bulk': how many values and letters a reading holds, each counted each time it is reached (what is shared counts as often as it is met; a slice's spare places count too). A statement '..UptoSaid' is the law's where the arguments, and the package variables that the reading takes, are together of bulk at most 1048576: NARROWER than '..Said'. Prove '..Said' where nothing that the law and all that it calls make is longer than what came in: it says more and counts as full. Else prove '..UptoSaid'. A law counts once. -/
mutual
def uptoBulk {H : Type} : DataW H → Nat
  | .lit (.string bytes) => bytes.length + 1
  | .lit _ => 1
  | .nil => 1
  | .ptr d => uptoBulk d + 1
  | .slice elems spare => uptoBulkAll elems + uptoBulkAll spare + 1
  | .agg parts => uptoBulkAll parts + 1
  | .iface _ d => uptoBulk d + 1
  | .map entries => uptoBulkEntries entries + 1
  | .held _ => 1
def uptoBulkAll {H : Type} : List (DataW H) → Nat
  | [] => 0
  | d :: r => uptoBulk d + uptoBulkAll r
def uptoBulkEntries {H : Type} : List (Lit × DataW H) → Nat
  | [] => 0
  | x :: r => uptoBulkEntry x + uptoBulkEntries r
def uptoBulkEntry {H : Type} : Lit × DataW H → Nat
  | (.string bytes, d) => bytes.length + uptoBulk d + 1
  | (_, d) => uptoBulk d + 1
 end
def uptoSmall : (H : Type) → List (DataW H) → Bool := fun _ ds => decide (uptoBulkAll ds ≤ 1048576)
def OpenSpec.upto (s : _root_.Go.ChangeSpec) : _root_.Go.OpenSpec := { _root_.Go.OpenSpec.ofChange s with cond := some uptoSmall }

/-- 'milepostlaw02.CubeMinus', WHERE WHAT IT READS IS OF BULK AT MOST 1048576: true; the input reads as it did. -/
def cubeMinusUptoRow : OpenClaim := { program := "ythekoeinnillpab", sum := "fbf621284ec5262090f2bbf30c6839bb8a1b111f6067679b4863a4ae5ec53287", func := "milepost/milepostlaw02.CubeMinus", spec := "cubeMinus", apart := false, narrowed := true }
def CubeMinusUptoSaid : Prop := cubeMinusUptoRow.holds Try.pinned (OpenSpec.upto cubeMinusSpec)

/-- 'milepostlaw02.CubeTexts', WHERE WHAT IT READS IS OF BULK AT MOST 1048576: true; the input reads as it did. -/
def cubeTextsUptoRow : OpenClaim := { program := "ythekoeinnillpab", sum := "fbf621284ec5262090f2bbf30c6839bb8a1b111f6067679b4863a4ae5ec53287", func := "milepost/milepostlaw02.CubeTexts", spec := "cubeTexts", apart := false, narrowed := true }
def CubeTextsUptoSaid : Prop := cubeTextsUptoRow.holds Try.pinned (OpenSpec.upto cubeTextsSpec)

end Rows
end Go.Proofs.Ythekoeinnillpab
