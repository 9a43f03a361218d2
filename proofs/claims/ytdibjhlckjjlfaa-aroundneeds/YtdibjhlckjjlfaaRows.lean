/-
  No cell of these rows narrows 'for every input' (looked for: loops, veiled, ifaces, maps, wideKeys, modest, calm, conditions, laid).
  DERIVED. THE GIVEN ROWS OF THIS SEAT. 5 by the template 'for every input the law returns true; each argument reads behind the call as it read before'; 0 by the template 'total and deterministic' (their statements: YtdibjhlckjjlfaaTotals.lean).
  GIVEN WITH THE SEED: the statements are not yours to turn. If you find one false, say at which input.
  Laid BY PROGRAM, IN A SANDBOX (cutbox-rows.mjs): the forced cells as the released guide's own fill.sh prints them over the translation 65f2741b22dadccb… (all of the seat's roots in one cut). By AI agents, Wed Nov 11 2026. No macro, syntax, notation, axiom, sorry.
-/
import Derived.Test.YtdibjhlckjjlfaaChecked
import GoSem.Claim
import GoSem.ClaimJoined
import GoSem.ClaimMapViews
import Derived.JoinedTies
import Derived.KernelRfl
namespace Go.Proofs.Ytdibjhlckjjlfaa
/- THE CELL 'sum', in the pinned program and in every row, IS THE sha256 OF THE DUMP (.gsa) THAT YtdibjhlckjjlfaaProg.lean LOADS. Nothing in Lean hashes anything: it is a label: what it is worth is what the hold of that sum in a sandbox is worth. -/
noncomputable def Try.pinned : Pinned := { name := "ytdibjhlckjjlfaa", sum := "65f2741b22dadccb77775cba72031c37d3dd0c9f9964e9130fe52b076b9a943f", checked := Try.checked }
namespace Rows
def none {H : Type} : Left H := { results := [], args := [] }

/-- 'milepostlaw15.AroundNeeds': WHATEVER THE INPUT: true; the input reads as it did. -/
def aroundNeedsSpec : ChangeSpec := { name := "aroundNeeds", fn := fun _ => fun
  | [d1, d2] => { results := [.lit (.bool true)], args := [d1, d2] }
  | _ => none }
def aroundNeedsRow : OpenClaim := { program := "ytdibjhlckjjlfaa", sum := "65f2741b22dadccb77775cba72031c37d3dd0c9f9964e9130fe52b076b9a943f", func := "milepost/milepostlaw15.AroundNeeds", spec := "aroundNeeds", apart := false }
def AroundNeedsSaid : Prop := aroundNeedsRow.holds Try.pinned (OpenSpec.ofChange aroundNeedsSpec)

/-- ITS FALSE NEIGHBOUR: 'it returns false'. Refute it at one input. -/
def aroundNeedsWrong : ChangeSpec := { name := "aroundNeeds", fn := fun _ => fun
  | [d1, d2] => { results := [.lit (.bool false)], args := [d1, d2] }
  | _ => none }
def AroundNeedsWrongFalsely : Prop := aroundNeedsRow.holds Try.pinned (OpenSpec.ofChange aroundNeedsWrong)

/-- 'milepostlaw15.AroundAbout': WHATEVER THE INPUT: true; the input reads as it did. -/
def aroundAboutSpec : ChangeSpec := { name := "aroundAbout", fn := fun _ => fun
  | [d1, d2] => { results := [.lit (.bool true)], args := [d1, d2] }
  | _ => none }
def aroundAboutRow : OpenClaim := { program := "ytdibjhlckjjlfaa", sum := "65f2741b22dadccb77775cba72031c37d3dd0c9f9964e9130fe52b076b9a943f", func := "milepost/milepostlaw15.AroundAbout", spec := "aroundAbout", apart := false }
def AroundAboutSaid : Prop := aroundAboutRow.holds Try.pinned (OpenSpec.ofChange aroundAboutSpec)

/-- ITS FALSE NEIGHBOUR: 'it returns false'. Refute it at one input. -/
def aroundAboutWrong : ChangeSpec := { name := "aroundAbout", fn := fun _ => fun
  | [d1, d2] => { results := [.lit (.bool false)], args := [d1, d2] }
  | _ => none }
def AroundAboutWrongFalsely : Prop := aroundAboutRow.holds Try.pinned (OpenSpec.ofChange aroundAboutWrong)

/-- 'milepostlaw15.AroundSafe': WHATEVER THE INPUT: true; the input reads as it did. -/
def aroundSafeSpec : ChangeSpec := { name := "aroundSafe", fn := fun _ => fun
  | [d1, d2, d3] => { results := [.lit (.bool true)], args := [d1, d2, d3] }
  | _ => none }
def aroundSafeRow : OpenClaim := { program := "ytdibjhlckjjlfaa", sum := "65f2741b22dadccb77775cba72031c37d3dd0c9f9964e9130fe52b076b9a943f", func := "milepost/milepostlaw15.AroundSafe", spec := "aroundSafe", apart := false }
def AroundSafeSaid : Prop := aroundSafeRow.holds Try.pinned (OpenSpec.ofChange aroundSafeSpec)

/-- ITS FALSE NEIGHBOUR: 'it returns false'. Refute it at one input. -/
def aroundSafeWrong : ChangeSpec := { name := "aroundSafe", fn := fun _ => fun
  | [d1, d2, d3] => { results := [.lit (.bool false)], args := [d1, d2, d3] }
  | _ => none }
def AroundSafeWrongFalsely : Prop := aroundSafeRow.holds Try.pinned (OpenSpec.ofChange aroundSafeWrong)

/-- 'milepostlaw15.AroundMost': WHATEVER THE INPUT: true; the input reads as it did. -/
def aroundMostSpec : ChangeSpec := { name := "aroundMost", fn := fun _ => fun
  | [d1, d2, d3] => { results := [.lit (.bool true)], args := [d1, d2, d3] }
  | _ => none }
def aroundMostRow : OpenClaim := { program := "ytdibjhlckjjlfaa", sum := "65f2741b22dadccb77775cba72031c37d3dd0c9f9964e9130fe52b076b9a943f", func := "milepost/milepostlaw15.AroundMost", spec := "aroundMost", apart := false }
def AroundMostSaid : Prop := aroundMostRow.holds Try.pinned (OpenSpec.ofChange aroundMostSpec)

/-- ITS FALSE NEIGHBOUR: 'it returns false'. Refute it at one input. -/
def aroundMostWrong : ChangeSpec := { name := "aroundMost", fn := fun _ => fun
  | [d1, d2, d3] => { results := [.lit (.bool false)], args := [d1, d2, d3] }
  | _ => none }
def AroundMostWrongFalsely : Prop := aroundMostRow.holds Try.pinned (OpenSpec.ofChange aroundMostWrong)

/-- 'milepostlaw15.AroundTwice': WHATEVER THE INPUT: true; the input reads as it did. -/
def aroundTwiceSpec : ChangeSpec := { name := "aroundTwice", fn := fun _ => fun
  | [d1, d2, d3] => { results := [.lit (.bool true)], args := [d1, d2, d3] }
  | _ => none }
def aroundTwiceRow : OpenClaim := { program := "ytdibjhlckjjlfaa", sum := "65f2741b22dadccb77775cba72031c37d3dd0c9f9964e9130fe52b076b9a943f", func := "milepost/milepostlaw15.AroundTwice", spec := "aroundTwice", apart := false }
def AroundTwiceSaid : Prop := aroundTwiceRow.holds Try.pinned (OpenSpec.ofChange aroundTwiceSpec)

/-- ITS FALSE NEIGHBOUR: 'it returns false'. Refute it at one input. -/
def aroundTwiceWrong : ChangeSpec := { name := "aroundTwice", fn := fun _ => fun
  | [d1, d2, d3] => { results := [.lit (.bool false)], args := [d1, d2, d3] }
  | _ => none }
def AroundTwiceWrongFalsely : Prop := aroundTwiceRow.holds Try.pinned (OpenSpec.ofChange aroundTwiceWrong)

/- THE SECOND FORM. 'bulk': how many values and letters a reading holds, each counted each time it is reached (what is shared counts as often as it is met; a slice's spare places count too). A statement '..UptoSaid' is the law's where the arguments, and the package variables that the reading takes, are together of bulk at most 1048576: NARROWER than '..Said'. Prove '..Said' where nothing that the law and all that it calls make is longer than what came in: it says more and counts as full. Else prove '..UptoSaid'. A law counts once. -/
mutual
def uptoBulk {H : Type} : DataW H → Nat
  | .lit (.string bytes) => bytes.length + 1
  | .lit _ => 1
  | .nil => 1
  | .ptr d => uptoBulk d + 1
  | .slice elems spare => uptoBulkAll elems + uptoBulkAll spare + 1
  | .agg parts => uptoBulkAll parts + 1
  | .iface _ d => uptoBulk d + 1
  | .map entries => uptoBulkEntries entries + 1
  | .held _ => 1
def uptoBulkAll {H : Type} : List (DataW H) → Nat
  | [] => 0
  | d :: r => uptoBulk d + uptoBulkAll r
def uptoBulkEntries {H : Type} : List (Lit × DataW H) → Nat
  | [] => 0
  | x :: r => uptoBulkEntry x + uptoBulkEntries r
def uptoBulkEntry {H : Type} : Lit × DataW H → Nat
  | (.string bytes, d) => bytes.length + uptoBulk d + 1
  | (_, d) => uptoBulk d + 1
 end
def uptoSmall : (H : Type) → List (DataW H) → Bool := fun _ ds => decide (uptoBulkAll ds ≤ 1048576)
def OpenSpec.upto (s : _root_.Go.ChangeSpec) : _root_.Go.OpenSpec := { _root_.Go.OpenSpec.ofChange s with cond := some uptoSmall }

/-- 'milepostlaw15.AroundNeeds', WHERE WHAT IT READS IS OF BULK AT MOST 1048576: true; the input reads as it did. -/
def aroundNeedsUptoRow : OpenClaim := { program := "ytdibjhlckjjlfaa", sum := "65f2741b22dadccb77775cba72031c37d3dd0c9f9964e9130fe52b076b9a943f", func := "milepost/milepostlaw15.AroundNeeds", spec := "aroundNeeds", apart := false, narrowed := true }
def AroundNeedsUptoSaid : Prop := aroundNeedsUptoRow.holds Try.pinned (OpenSpec.upto aroundNeedsSpec)

/-- 'milepostlaw15.AroundAbout', WHERE WHAT IT READS IS OF BULK AT MOST 1048576: true; the input reads as it did. -/
def aroundAboutUptoRow : OpenClaim := { program := "ytdibjhlckjjlfaa", sum := "65f2741b22dadccb77775cba72031c37d3dd0c9f9964e9130fe52b076b9a943f", func := "milepost/milepostlaw15.AroundAbout", spec := "aroundAbout", apart := false, narrowed := true }
def AroundAboutUptoSaid : Prop := aroundAboutUptoRow.holds Try.pinned (OpenSpec.upto aroundAboutSpec)

/-- 'milepostlaw15.AroundSafe', WHERE WHAT IT READS IS OF BULK AT MOST 1048576: true; the input reads as it did. -/
def aroundSafeUptoRow : OpenClaim := { program := "ytdibjhlckjjlfaa", sum := "65f2741b22dadccb77775cba72031c37d3dd0c9f9964e9130fe52b076b9a943f", func := "milepost/milepostlaw15.AroundSafe", spec := "aroundSafe", apart := false, narrowed := true }
def AroundSafeUptoSaid : Prop := aroundSafeUptoRow.holds Try.pinned (OpenSpec.upto aroundSafeSpec)

/-- 'milepostlaw15.AroundMost', WHERE WHAT IT READS IS OF BULK AT MOST 1048576: true; the input reads as it did. -/
def aroundMostUptoRow : OpenClaim := { program := "ytdibjhlckjjlfaa", sum := "65f2741b22dadccb77775cba72031c37d3dd0c9f9964e9130fe52b076b9a943f", func := "milepost/milepostlaw15.AroundMost", spec := "aroundMost", apart := false, narrowed := true }
def AroundMostUptoSaid : Prop := aroundMostUptoRow.holds Try.pinned (OpenSpec.upto aroundMostSpec)

/-- 'milepostlaw15.AroundTwice', WHERE WHAT IT READS IS OF BULK AT MOST 1048576: true; the input reads as it did. -/
def aroundTwiceUptoRow : OpenClaim := { program := "ytdibjhlckjjlfaa", sum := "65f2741b22dadccb77775cba72031c37d3dd0c9f9964e9130fe52b076b9a943f", func := "milepost/milepostlaw15.AroundTwice", spec := "aroundTwice", apart := false, narrowed := true }
def AroundTwiceUptoSaid : Prop := aroundTwiceUptoRow.holds Try.pinned (OpenSpec.upto aroundTwiceSpec)

end Rows
end Go.Proofs.Ytdibjhlckjjlfaa
