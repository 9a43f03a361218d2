/-
  NARROWER THAN 'FOR EVERY INPUT', by the rows' own cells (each row's printed sentence says how): FlatExpands: laid · FlatEntries: laid.
  DERIVED. THE GIVEN ROWS OF THIS SEAT. 2 by the template 'for every input the law returns true; each argument reads behind the call as it read before'; 0 by the template 'total and deterministic' (their statements: YthddlchkbnmcaaaGreatDoorTotals.lean).
  GIVEN WITH THE SEED: the statements are not yours to turn. If you find one false, say at which input.
  Laid BY PROGRAM, IN A SANDBOX (cutbox-rows.mjs): the forced cells as the released guide's own fill.sh prints them over the translation bae07f2dcf2a4705… (all of the seat's roots in one cut). By AI agents, Wed Nov 11 2026. No macro, syntax, notation, axiom, sorry.
-/
import Derived.Test.YthddlchkbnmcaaaGreatDoorChecked
import GoSem.Claim
import GoSem.ClaimJoined
import GoSem.ClaimMapViews
import Derived.JoinedTies
import Derived.KernelRfl
namespace Go.Proofs.YthddlchkbnmcaaaGreatDoor
/- THE CELL 'sum', in the pinned program and in every row, IS THE sha256 OF THE DUMP (.gsa) THAT YthddlchkbnmcaaaGreatDoorProg.lean LOADS. Nothing in Lean hashes anything: it is a label: what it is worth is what the hold of that sum in a sandbox is worth. -/
noncomputable def Tryz.pinned : Pinned := { name := "ythddlchkbnmcaaagreatdoor", sum := "bae07f2dcf2a4705a4da52f835e4751b896f99600cc062fdc8c93080cab26df6", checked := Tryz.checked }
namespace Rows
def none {H : Type} : Left H := { results := [], args := [] }

/- WHAT THE LISTED PACKAGE-LEVEL VARIABLES READ AS WHEN THE CALL BEGINS. Each datum BY PROGRAM (the guide's laid-datum.mjs) off the statement by which the dump's own 'gosem.cut.vars' lays the variable. In a bare row this is a premise. The card (YthddlchkbnmcaaaGreatDoorCards.lean) ties it to the program's text. -/
def laid_milepost_head_places {H : Type} : DataW H := .agg [.agg [.lit (.int .i64 0), .lit (.int .i64 32)], .agg [.lit (.int .i64 32), .lit (.int .i64 32)], .agg [.lit (.int .i64 64), .lit (.int .i64 16)], .agg [.lit (.int .i64 80), .lit (.int .i64 16)], .agg [.lit (.int .i64 96), .lit (.int .i64 8)]]

/-- 'milepostlaw08.FlatExpands': WHATEVER THE INPUT: true; the input reads as it did. -/
def flatExpandsSpec : ChangeSpec := { name := "flatExpands", fn := fun _ => fun
  | [d1, d2] => { results := [.lit (.bool true)], args := [d1, d2] }
  | _ => none }
def flatExpandsRow : OpenClaim := { program := "ythddlchkbnmcaaagreatdoor", sum := "bae07f2dcf2a4705a4da52f835e4751b896f99600cc062fdc8c93080cab26df6", func := "milepost/milepostlaw08.FlatExpands", spec := "flatExpands", inPlace := ["internal/bytealg.IndexByteString"], unfollowed := true, recurses := true, named := ["milepost/head.places"], apart := false, laid := [("milepost/head.places", laid_milepost_head_places)] }
def FlatExpandsSaid : Prop := flatExpandsRow.holds Tryz.pinned (OpenSpec.ofChange flatExpandsSpec)

/-- ITS FALSE NEIGHBOUR: 'it returns false'. Refute it at one input. -/
def flatExpandsWrong : ChangeSpec := { name := "flatExpands", fn := fun _ => fun
  | [d1, d2] => { results := [.lit (.bool false)], args := [d1, d2] }
  | _ => none }
def FlatExpandsWrongFalsely : Prop := flatExpandsRow.holds Tryz.pinned (OpenSpec.ofChange flatExpandsWrong)

/-- 'milepostlaw08.FlatEntries': WHATEVER THE INPUT: true; the input reads as it did. -/
def flatEntriesSpec : ChangeSpec := { name := "flatEntries", fn := fun _ => fun
  | [d1, d2] => { results := [.lit (.bool true)], args := [d1, d2] }
  | _ => none }
def flatEntriesRow : OpenClaim := { program := "ythddlchkbnmcaaagreatdoor", sum := "bae07f2dcf2a4705a4da52f835e4751b896f99600cc062fdc8c93080cab26df6", func := "milepost/milepostlaw08.FlatEntries", spec := "flatEntries", inPlace := ["internal/bytealg.IndexByteString"], unfollowed := true, recurses := true, named := ["milepost/head.places"], apart := false, laid := [("milepost/head.places", laid_milepost_head_places)] }
def FlatEntriesSaid : Prop := flatEntriesRow.holds Tryz.pinned (OpenSpec.ofChange flatEntriesSpec)

/-- ITS FALSE NEIGHBOUR: 'it returns false'. Refute it at one input. -/
def flatEntriesWrong : ChangeSpec := { name := "flatEntries", fn := fun _ => fun
  | [d1, d2] => { results := [.lit (.bool false)], args := [d1, d2] }
  | _ => none }
def FlatEntriesWrongFalsely : Prop := flatEntriesRow.holds Tryz.pinned (OpenSpec.ofChange flatEntriesWrong)

/- THE SECOND FORM. 'bulk': how many values and letters a reading holds, each counted each time it is reached (what is shared counts as often as it is met; a slice's spare places count too). A statement '..UptoSaid' is the law's where the arguments, and the package variables that the reading takes, are together of bulk at most 1048576: NARROWER than '..Said'. Prove '..Said' where nothing that the law and all that it calls make is longer than what came in: it says more and counts as full. Else prove '..UptoSaid'. A law counts once. -/
mutual
def uptoBulk {H : Type} : DataW H → Nat
  | .lit (.string bytes) => bytes.length + 1
  | .lit _ => 1
  | .nil => 1
  | .ptr d => uptoBulk d + 1
  | .slice elems spare => uptoBulkAll elems + uptoBulkAll spare + 1
  | .agg parts => uptoBulkAll parts + 1
  | .iface _ d => uptoBulk d + 1
  | .map entries => uptoBulkEntries entries + 1
  | .held _ => 1
def uptoBulkAll {H : Type} : List (DataW H) → Nat
  | [] => 0
  | d :: r => uptoBulk d + uptoBulkAll r
def uptoBulkEntries {H : Type} : List (Lit × DataW H) → Nat
  | [] => 0
  | x :: r => uptoBulkEntry x + uptoBulkEntries r
def uptoBulkEntry {H : Type} : Lit × DataW H → Nat
  | (.string bytes, d) => bytes.length + uptoBulk d + 1
  | (_, d) => uptoBulk d + 1
 end
def uptoSmall : (H : Type) → List (DataW H) → Bool := fun _ ds => decide (uptoBulkAll ds ≤ 1048576)
def OpenSpec.upto (s : _root_.Go.ChangeSpec) : _root_.Go.OpenSpec := { _root_.Go.OpenSpec.ofChange s with cond := some uptoSmall }

/-- 'milepostlaw08.FlatExpands', WHERE WHAT IT READS IS OF BULK AT MOST 1048576: true; the input reads as it did. -/
def flatExpandsUptoRow : OpenClaim := { program := "ythddlchkbnmcaaagreatdoor", sum := "bae07f2dcf2a4705a4da52f835e4751b896f99600cc062fdc8c93080cab26df6", func := "milepost/milepostlaw08.FlatExpands", spec := "flatExpands", inPlace := ["internal/bytealg.IndexByteString"], unfollowed := true, recurses := true, named := ["milepost/head.places"], apart := false, laid := [("milepost/head.places", laid_milepost_head_places)], narrowed := true }
def FlatExpandsUptoSaid : Prop := flatExpandsUptoRow.holds Tryz.pinned (OpenSpec.upto flatExpandsSpec)

/-- 'milepostlaw08.FlatEntries', WHERE WHAT IT READS IS OF BULK AT MOST 1048576: true; the input reads as it did. -/
def flatEntriesUptoRow : OpenClaim := { program := "ythddlchkbnmcaaagreatdoor", sum := "bae07f2dcf2a4705a4da52f835e4751b896f99600cc062fdc8c93080cab26df6", func := "milepost/milepostlaw08.FlatEntries", spec := "flatEntries", inPlace := ["internal/bytealg.IndexByteString"], unfollowed := true, recurses := true, named := ["milepost/head.places"], apart := false, laid := [("milepost/head.places", laid_milepost_head_places)], narrowed := true }
def FlatEntriesUptoSaid : Prop := flatEntriesUptoRow.holds Tryz.pinned (OpenSpec.upto flatEntriesSpec)

end Rows
end Go.Proofs.YthddlchkbnmcaaaGreatDoor
