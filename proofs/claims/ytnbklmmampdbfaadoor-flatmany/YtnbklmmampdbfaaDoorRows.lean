/-
  NARROWER THAN 'FOR EVERY INPUT', by the rows' own cells (each row's printed sentence says how): FlatMeans: laid · FlatTrims: laid · FlatLooks: laid · FlatMany: laid.
  DERIVED. THE GIVEN ROWS OF THIS SEAT. 4 by the template 'for every input the law returns true; each argument reads behind the call as it read before'; 0 by the template 'total and deterministic' (their statements: YtnbklmmampdbfaaDoorTotals.lean).
  GIVEN WITH THE SEED: the statements are not yours to turn. If you find one false, say at which input.
  Laid BY PROGRAM, IN A SANDBOX (cutbox-rows.mjs): the forced cells as the released guide's own fill.sh prints them over the translation b76569ea31ada026… (all of the seat's roots in one cut). By AI agents, Wed Nov 11 2026. No macro, syntax, notation, axiom, sorry.
-/
import Derived.Test.YtnbklmmampdbfaaDoorChecked
import GoSem.Claim
import GoSem.ClaimJoined
import GoSem.ClaimMapViews
import Derived.JoinedTies
import Derived.KernelRfl
namespace Go.Proofs.YtnbklmmampdbfaaDoor
/- THE CELL 'sum', in the pinned program and in every row, IS THE sha256 OF THE DUMP (.gsa) THAT YtnbklmmampdbfaaDoorProg.lean LOADS. Nothing in Lean hashes anything: it is a label: what it is worth is what the hold of that sum in a sandbox is worth. -/
noncomputable def Tryd.pinned : Pinned := { name := "ytnbklmmampdbfaadoor", sum := "b76569ea31ada02626a33b827172fca8a371d950e2497c392e87bc34baef8603", checked := Tryd.checked }
namespace Rows
def none {H : Type} : Left H := { results := [], args := [] }

/- WHAT THE LISTED PACKAGE-LEVEL VARIABLES READ AS WHEN THE CALL BEGINS. Each datum BY PROGRAM (the guide's laid-datum.mjs) off the statement by which the dump's own 'gosem.cut.vars' lays the variable. In a bare row this is a premise. The card (YtnbklmmampdbfaaDoorCards.lean) ties it to the program's text. -/
def laid_milepost_head_places {H : Type} : DataW H := .agg [.agg [.lit (.int .i64 0), .lit (.int .i64 32)], .agg [.lit (.int .i64 32), .lit (.int .i64 32)], .agg [.lit (.int .i64 64), .lit (.int .i64 16)], .agg [.lit (.int .i64 80), .lit (.int .i64 16)], .agg [.lit (.int .i64 96), .lit (.int .i64 8)]]

/-- 'milepostlaw08.FlatMeans': WHATEVER THE INPUT: true; the input reads as it did. -/
def flatMeansSpec : ChangeSpec := { name := "flatMeans", fn := fun _ => fun
  | [d1, d2] => { results := [.lit (.bool true)], args := [d1, d2] }
  | _ => none }
def flatMeansRow : OpenClaim := { program := "ytnbklmmampdbfaadoor", sum := "b76569ea31ada02626a33b827172fca8a371d950e2497c392e87bc34baef8603", func := "milepost/milepostlaw08.FlatMeans", spec := "flatMeans", inPlace := ["internal/bytealg.IndexByteString"], unfollowed := true, recurses := true, named := ["milepost/head.places"], apart := false, laid := [("milepost/head.places", laid_milepost_head_places)] }
def FlatMeansSaid : Prop := flatMeansRow.holds Tryd.pinned (OpenSpec.ofChange flatMeansSpec)

/-- ITS FALSE NEIGHBOUR: 'it returns false'. Refute it at one input. -/
def flatMeansWrong : ChangeSpec := { name := "flatMeans", fn := fun _ => fun
  | [d1, d2] => { results := [.lit (.bool false)], args := [d1, d2] }
  | _ => none }
def FlatMeansWrongFalsely : Prop := flatMeansRow.holds Tryd.pinned (OpenSpec.ofChange flatMeansWrong)

/-- 'milepostlaw08.FlatTrims': WHATEVER THE INPUT: true; the input reads as it did. -/
def flatTrimsSpec : ChangeSpec := { name := "flatTrims", fn := fun _ => fun
  | [d1, d2] => { results := [.lit (.bool true)], args := [d1, d2] }
  | _ => none }
def flatTrimsRow : OpenClaim := { program := "ytnbklmmampdbfaadoor", sum := "b76569ea31ada02626a33b827172fca8a371d950e2497c392e87bc34baef8603", func := "milepost/milepostlaw08.FlatTrims", spec := "flatTrims", inPlace := ["internal/bytealg.IndexByteString"], unfollowed := true, recurses := true, named := ["milepost/head.places"], apart := false, laid := [("milepost/head.places", laid_milepost_head_places)] }
def FlatTrimsSaid : Prop := flatTrimsRow.holds Tryd.pinned (OpenSpec.ofChange flatTrimsSpec)

/-- ITS FALSE NEIGHBOUR: 'it returns false'. Refute it at one input. -/
def flatTrimsWrong : ChangeSpec := { name := "flatTrims", fn := fun _ => fun
  | [d1, d2] => { results := [.lit (.bool false)], args := [d1, d2] }
  | _ => none }
def FlatTrimsWrongFalsely : Prop := flatTrimsRow.holds Tryd.pinned (OpenSpec.ofChange flatTrimsWrong)

/-- 'milepostlaw08.FlatLooks': WHATEVER THE INPUT: true; the input reads as it did. -/
def flatLooksSpec : ChangeSpec := { name := "flatLooks", fn := fun _ => fun
  | [d1, d2] => { results := [.lit (.bool true)], args := [d1, d2] }
  | _ => none }
def flatLooksRow : OpenClaim := { program := "ytnbklmmampdbfaadoor", sum := "b76569ea31ada02626a33b827172fca8a371d950e2497c392e87bc34baef8603", func := "milepost/milepostlaw08.FlatLooks", spec := "flatLooks", inPlace := ["internal/bytealg.IndexByteString"], unfollowed := true, recurses := true, named := ["milepost/head.places"], apart := false, laid := [("milepost/head.places", laid_milepost_head_places)] }
def FlatLooksSaid : Prop := flatLooksRow.holds Tryd.pinned (OpenSpec.ofChange flatLooksSpec)

/-- ITS FALSE NEIGHBOUR: 'it returns false'. Refute it at one input. -/
def flatLooksWrong : ChangeSpec := { name := "flatLooks", fn := fun _ => fun
  | [d1, d2] => { results := [.lit (.bool false)], args := [d1, d2] }
  | _ => none }
def FlatLooksWrongFalsely : Prop := flatLooksRow.holds Tryd.pinned (OpenSpec.ofChange flatLooksWrong)

/-- 'milepostlaw08.FlatMany': WHATEVER THE INPUT: true; the input reads as it did. -/
def flatManySpec : ChangeSpec := { name := "flatMany", fn := fun _ => fun
  | [d1, d2] => { results := [.lit (.bool true)], args := [d1, d2] }
  | _ => none }
def flatManyRow : OpenClaim := { program := "ytnbklmmampdbfaadoor", sum := "b76569ea31ada02626a33b827172fca8a371d950e2497c392e87bc34baef8603", func := "milepost/milepostlaw08.FlatMany", spec := "flatMany", inPlace := ["internal/bytealg.IndexByteString"], unfollowed := true, recurses := true, named := ["milepost/head.places"], apart := false, laid := [("milepost/head.places", laid_milepost_head_places)] }
def FlatManySaid : Prop := flatManyRow.holds Tryd.pinned (OpenSpec.ofChange flatManySpec)

/-- ITS FALSE NEIGHBOUR: 'it returns false'. Refute it at one input. -/
def flatManyWrong : ChangeSpec := { name := "flatMany", fn := fun _ => fun
  | [d1, d2] => { results := [.lit (.bool false)], args := [d1, d2] }
  | _ => none }
def FlatManyWrongFalsely : Prop := flatManyRow.holds Tryd.pinned (OpenSpec.ofChange flatManyWrong)

/- THE SECOND FORM. 'bulk': how many values and letters a reading holds, each counted each time it is reached (what is shared counts as often as it is met; a slice's spare places count too). A statement '..UptoSaid' is the law's where the arguments, and the package variables that the reading takes, are together of bulk at most 1048576: NARROWER than '..Said'. Prove '..Said' where nothing that the law and all that it calls make is longer than what came in: it says more and counts as full. Else prove '..UptoSaid'. A law counts once. -/
mutual
def uptoBulk {H : Type} : DataW H → Nat
  | .lit (.string bytes) => bytes.length + 1
  | .lit _ => 1
  | .nil => 1
  | .ptr d => uptoBulk d + 1
  | .slice elems spare => uptoBulkAll elems + uptoBulkAll spare + 1
  | .agg parts => uptoBulkAll parts + 1
  | .iface _ d => uptoBulk d + 1
  | .map entries => uptoBulkEntries entries + 1
  | .held _ => 1
def uptoBulkAll {H : Type} : List (DataW H) → Nat
  | [] => 0
  | d :: r => uptoBulk d + uptoBulkAll r
def uptoBulkEntries {H : Type} : List (Lit × DataW H) → Nat
  | [] => 0
  | x :: r => uptoBulkEntry x + uptoBulkEntries r
def uptoBulkEntry {H : Type} : Lit × DataW H → Nat
  | (.string bytes, d) => bytes.length + uptoBulk d + 1
  | (_, d) => uptoBulk d + 1
 end
def uptoSmall : (H : Type) → List (DataW H) → Bool := fun _ ds => decide (uptoBulkAll ds ≤ 1048576)
def OpenSpec.upto (s : _root_.Go.ChangeSpec) : _root_.Go.OpenSpec := { _root_.Go.OpenSpec.ofChange s with cond := some uptoSmall }

/-- 'milepostlaw08.FlatMeans', WHERE WHAT IT READS IS OF BULK AT MOST 1048576: true; the input reads as it did. -/
def flatMeansUptoRow : OpenClaim := { program := "ytnbklmmampdbfaadoor", sum := "b76569ea31ada02626a33b827172fca8a371d950e2497c392e87bc34baef8603", func := "milepost/milepostlaw08.FlatMeans", spec := "flatMeans", inPlace := ["internal/bytealg.IndexByteString"], unfollowed := true, recurses := true, named := ["milepost/head.places"], apart := false, laid := [("milepost/head.places", laid_milepost_head_places)], narrowed := true }
def FlatMeansUptoSaid : Prop := flatMeansUptoRow.holds Tryd.pinned (OpenSpec.upto flatMeansSpec)

/-- 'milepostlaw08.FlatTrims', WHERE WHAT IT READS IS OF BULK AT MOST 1048576: true; the input reads as it did. -/
def flatTrimsUptoRow : OpenClaim := { program := "ytnbklmmampdbfaadoor", sum := "b76569ea31ada02626a33b827172fca8a371d950e2497c392e87bc34baef8603", func := "milepost/milepostlaw08.FlatTrims", spec := "flatTrims", inPlace := ["internal/bytealg.IndexByteString"], unfollowed := true, recurses := true, named := ["milepost/head.places"], apart := false, laid := [("milepost/head.places", laid_milepost_head_places)], narrowed := true }
def FlatTrimsUptoSaid : Prop := flatTrimsUptoRow.holds Tryd.pinned (OpenSpec.upto flatTrimsSpec)

/-- 'milepostlaw08.FlatLooks', WHERE WHAT IT READS IS OF BULK AT MOST 1048576: true; the input reads as it did. -/
def flatLooksUptoRow : OpenClaim := { program := "ytnbklmmampdbfaadoor", sum := "b76569ea31ada02626a33b827172fca8a371d950e2497c392e87bc34baef8603", func := "milepost/milepostlaw08.FlatLooks", spec := "flatLooks", inPlace := ["internal/bytealg.IndexByteString"], unfollowed := true, recurses := true, named := ["milepost/head.places"], apart := false, laid := [("milepost/head.places", laid_milepost_head_places)], narrowed := true }
def FlatLooksUptoSaid : Prop := flatLooksUptoRow.holds Tryd.pinned (OpenSpec.upto flatLooksSpec)

/-- 'milepostlaw08.FlatMany', WHERE WHAT IT READS IS OF BULK AT MOST 1048576: true; the input reads as it did. -/
def flatManyUptoRow : OpenClaim := { program := "ytnbklmmampdbfaadoor", sum := "b76569ea31ada02626a33b827172fca8a371d950e2497c392e87bc34baef8603", func := "milepost/milepostlaw08.FlatMany", spec := "flatMany", inPlace := ["internal/bytealg.IndexByteString"], unfollowed := true, recurses := true, named := ["milepost/head.places"], apart := false, laid := [("milepost/head.places", laid_milepost_head_places)], narrowed := true }
def FlatManyUptoSaid : Prop := flatManyUptoRow.holds Tryd.pinned (OpenSpec.upto flatManySpec)

end Rows
end Go.Proofs.YtnbklmmampdbfaaDoor
