/-
  No cell of these rows narrows 'for every input' (looked for: loops, veiled, ifaces, maps, wideKeys, modest, calm, conditions, laid).
  DERIVED. THE GIVEN ROWS OF THIS SEAT. 6 by the template 'for every input the law returns true; each argument reads behind the call as it read before'; 0 by the template 'total and deterministic' (their statements: YtjlghkiplapodaaTotals.lean).
  GIVEN WITH THE SEED: the statements are not yours to turn. If you find one false, say at which input.
  Laid BY PROGRAM, IN A SANDBOX (cutbox-rows.mjs): the forced cells as the released guide's own fill.sh prints them over the translation 820e36ec41e1a1f9… (all of the seat's roots in one cut). By AI agents, Wed Nov 11 2026. No macro, syntax, notation, axiom, sorry.
-/
import Derived.Test.YtjlghkiplapodaaChecked
import GoSem.Claim
import GoSem.ClaimJoined
import GoSem.ClaimMapViews
import Derived.JoinedTies
import Derived.KernelRfl
namespace Go.Proofs.Ytjlghkiplapodaa
/- THE CELL 'sum', in the pinned program and in every row, IS THE sha256 OF THE DUMP (.gsa) THAT YtjlghkiplapodaaProg.lean LOADS. Nothing in Lean hashes anything: it is a label: what it is worth is what the hold of that sum in a sandbox is worth. -/
noncomputable def Try.pinned : Pinned := { name := "ytjlghkiplapodaa", sum := "820e36ec41e1a1f97aab1b8be72b14f40c407dfd63c02d80c1bfe4bebe7a99ad", checked := Try.checked }
namespace Rows
def none {H : Type} : Left H := { results := [], args := [] }

/-- 'milepostlaw03.CoverHas': WHATEVER THE INPUT: true; the input reads as it did. -/
def coverHasSpec : ChangeSpec := { name := "coverHas", fn := fun _ => fun
  | [d1, d2] => { results := [.lit (.bool true)], args := [d1, d2] }
  | _ => none }
def coverHasRow : OpenClaim := { program := "ytjlghkiplapodaa", sum := "820e36ec41e1a1f97aab1b8be72b14f40c407dfd63c02d80c1bfe4bebe7a99ad", func := "milepost/milepostlaw03.CoverHas", spec := "coverHas", apart := false }
def CoverHasSaid : Prop := coverHasRow.holds Try.pinned (OpenSpec.ofChange coverHasSpec)

/-- ITS FALSE NEIGHBOUR: 'it returns false'. Refute it at one input. -/
def coverHasWrong : ChangeSpec := { name := "coverHas", fn := fun _ => fun
  | [d1, d2] => { results := [.lit (.bool false)], args := [d1, d2] }
  | _ => none }
def CoverHasWrongFalsely : Prop := coverHasRow.holds Try.pinned (OpenSpec.ofChange coverHasWrong)

/-- 'milepostlaw03.CoverApart': WHATEVER THE INPUT: true; the input reads as it did. -/
def coverApartSpec : ChangeSpec := { name := "coverApart", fn := fun _ => fun
  | [d1, d2] => { results := [.lit (.bool true)], args := [d1, d2] }
  | _ => none }
def coverApartRow : OpenClaim := { program := "ytjlghkiplapodaa", sum := "820e36ec41e1a1f97aab1b8be72b14f40c407dfd63c02d80c1bfe4bebe7a99ad", func := "milepost/milepostlaw03.CoverApart", spec := "coverApart", apart := false }
def CoverApartSaid : Prop := coverApartRow.holds Try.pinned (OpenSpec.ofChange coverApartSpec)

/-- ITS FALSE NEIGHBOUR: 'it returns false'. Refute it at one input. -/
def coverApartWrong : ChangeSpec := { name := "coverApart", fn := fun _ => fun
  | [d1, d2] => { results := [.lit (.bool false)], args := [d1, d2] }
  | _ => none }
def CoverApartWrongFalsely : Prop := coverApartRow.holds Try.pinned (OpenSpec.ofChange coverApartWrong)

/-- 'milepostlaw03.CoverLeft': WHATEVER THE INPUT: true; the input reads as it did. -/
def coverLeftSpec : ChangeSpec := { name := "coverLeft", fn := fun _ => fun
  | [d1, d2, d3] => { results := [.lit (.bool true)], args := [d1, d2, d3] }
  | _ => none }
def coverLeftRow : OpenClaim := { program := "ytjlghkiplapodaa", sum := "820e36ec41e1a1f97aab1b8be72b14f40c407dfd63c02d80c1bfe4bebe7a99ad", func := "milepost/milepostlaw03.CoverLeft", spec := "coverLeft", apart := false }
def CoverLeftSaid : Prop := coverLeftRow.holds Try.pinned (OpenSpec.ofChange coverLeftSpec)

/-- ITS FALSE NEIGHBOUR: 'it returns false'. Refute it at one input. -/
def coverLeftWrong : ChangeSpec := { name := "coverLeft", fn := fun _ => fun
  | [d1, d2, d3] => { results := [.lit (.bool false)], args := [d1, d2, d3] }
  | _ => none }
def CoverLeftWrongFalsely : Prop := coverLeftRow.holds Try.pinned (OpenSpec.ofChange coverLeftWrong)

/-- 'milepostlaw03.CoverPieces': WHATEVER THE INPUT: true; the input reads as it did. -/
def coverPiecesSpec : ChangeSpec := { name := "coverPieces", fn := fun _ => fun
  | [d1, d2, d3] => { results := [.lit (.bool true)], args := [d1, d2, d3] }
  | _ => none }
def coverPiecesRow : OpenClaim := { program := "ytjlghkiplapodaa", sum := "820e36ec41e1a1f97aab1b8be72b14f40c407dfd63c02d80c1bfe4bebe7a99ad", func := "milepost/milepostlaw03.CoverPieces", spec := "coverPieces", apart := false }
def CoverPiecesSaid : Prop := coverPiecesRow.holds Try.pinned (OpenSpec.ofChange coverPiecesSpec)

/-- ITS FALSE NEIGHBOUR: 'it returns false'. Refute it at one input. -/
def coverPiecesWrong : ChangeSpec := { name := "coverPieces", fn := fun _ => fun
  | [d1, d2, d3] => { results := [.lit (.bool false)], args := [d1, d2, d3] }
  | _ => none }
def CoverPiecesWrongFalsely : Prop := coverPiecesRow.holds Try.pinned (OpenSpec.ofChange coverPiecesWrong)

/-- 'milepostlaw03.CoverCovers': WHATEVER THE INPUT: true; the input reads as it did. -/
def coverCoversSpec : ChangeSpec := { name := "coverCovers", fn := fun _ => fun
  | [d1, d2, d3] => { results := [.lit (.bool true)], args := [d1, d2, d3] }
  | _ => none }
def coverCoversRow : OpenClaim := { program := "ytjlghkiplapodaa", sum := "820e36ec41e1a1f97aab1b8be72b14f40c407dfd63c02d80c1bfe4bebe7a99ad", func := "milepost/milepostlaw03.CoverCovers", spec := "coverCovers", apart := false }
def CoverCoversSaid : Prop := coverCoversRow.holds Try.pinned (OpenSpec.ofChange coverCoversSpec)

/-- ITS FALSE NEIGHBOUR: 'it returns false'. Refute it at one input. -/
def coverCoversWrong : ChangeSpec := { name := "coverCovers", fn := fun _ => fun
  | [d1, d2, d3] => { results := [.lit (.bool false)], args := [d1, d2, d3] }
  | _ => none }
def CoverCoversWrongFalsely : Prop := coverCoversRow.holds Try.pinned (OpenSpec.ofChange coverCoversWrong)

/-- 'milepostlaw03.CoverSame': WHATEVER THE INPUT: true; the input reads as it did. -/
def coverSameSpec : ChangeSpec := { name := "coverSame", fn := fun _ => fun
  | [d1, d2, d3] => { results := [.lit (.bool true)], args := [d1, d2, d3] }
  | _ => none }
def coverSameRow : OpenClaim := { program := "ytjlghkiplapodaa", sum := "820e36ec41e1a1f97aab1b8be72b14f40c407dfd63c02d80c1bfe4bebe7a99ad", func := "milepost/milepostlaw03.CoverSame", spec := "coverSame", apart := false }
def CoverSameSaid : Prop := coverSameRow.holds Try.pinned (OpenSpec.ofChange coverSameSpec)

/-- ITS FALSE NEIGHBOUR: 'it returns false'. Refute it at one input. -/
def coverSameWrong : ChangeSpec := { name := "coverSame", fn := fun _ => fun
  | [d1, d2, d3] => { results := [.lit (.bool false)], args := [d1, d2, d3] }
  | _ => none }
def CoverSameWrongFalsely : Prop := coverSameRow.holds Try.pinned (OpenSpec.ofChange coverSameWrong)

/- THE SECOND FORM. 'bulk': how many values and letters a reading holds, each counted each time it is reached (what is shared counts as often as it is met; a slice's spare places count too). A statement '..UptoSaid' is the law's where the arguments, and the package variables that the reading takes, are together of bulk at most 1048576: NARROWER than '..Said'. Prove '..Said' where nothing that the law and all that it calls make is longer than what came in: it says more and counts as full. Else prove '..UptoSaid'. A law counts once. -/
mutual
def uptoBulk {H : Type} : DataW H → Nat
  | .lit (.string bytes) => bytes.length + 1
  | .lit _ => 1
  | .nil => 1
  | .ptr d => uptoBulk d + 1
  | .slice elems spare => uptoBulkAll elems + uptoBulkAll spare + 1
  | .agg parts => uptoBulkAll parts + 1
  | .iface _ d => uptoBulk d + 1
  | .map entries => uptoBulkEntries entries + 1
  | .held _ => 1
def uptoBulkAll {H : Type} : List (DataW H) → Nat
  | [] => 0
  | d :: r => uptoBulk d + uptoBulkAll r
def uptoBulkEntries {H : Type} : List (Lit × DataW H) → Nat
  | [] => 0
  | x :: r => uptoBulkEntry x + uptoBulkEntries r
def uptoBulkEntry {H : Type} : Lit × DataW H → Nat
  | (.string bytes, d) => bytes.length + uptoBulk d + 1
  | (_, d) => uptoBulk d + 1
 end
def uptoSmall : (H : Type) → List (DataW H) → Bool := fun _ ds => decide (uptoBulkAll ds ≤ 1048576)
def OpenSpec.upto (s : _root_.Go.ChangeSpec) : _root_.Go.OpenSpec := { _root_.Go.OpenSpec.ofChange s with cond := some uptoSmall }

/-- 'milepostlaw03.CoverHas', WHERE WHAT IT READS IS OF BULK AT MOST 1048576: true; the input reads as it did. -/
def coverHasUptoRow : OpenClaim := { program := "ytjlghkiplapodaa", sum := "820e36ec41e1a1f97aab1b8be72b14f40c407dfd63c02d80c1bfe4bebe7a99ad", func := "milepost/milepostlaw03.CoverHas", spec := "coverHas", apart := false, narrowed := true }
def CoverHasUptoSaid : Prop := coverHasUptoRow.holds Try.pinned (OpenSpec.upto coverHasSpec)

/-- 'milepostlaw03.CoverApart', WHERE WHAT IT READS IS OF BULK AT MOST 1048576: true; the input reads as it did. -/
def coverApartUptoRow : OpenClaim := { program := "ytjlghkiplapodaa", sum := "820e36ec41e1a1f97aab1b8be72b14f40c407dfd63c02d80c1bfe4bebe7a99ad", func := "milepost/milepostlaw03.CoverApart", spec := "coverApart", apart := false, narrowed := true }
def CoverApartUptoSaid : Prop := coverApartUptoRow.holds Try.pinned (OpenSpec.upto coverApartSpec)

/-- 'milepostlaw03.CoverLeft', WHERE WHAT IT READS IS OF BULK AT MOST 1048576: true; the input reads as it did. -/
def coverLeftUptoRow : OpenClaim := { program := "ytjlghkiplapodaa", sum := "820e36ec41e1a1f97aab1b8be72b14f40c407dfd63c02d80c1bfe4bebe7a99ad", func := "milepost/milepostlaw03.CoverLeft", spec := "coverLeft", apart := false, narrowed := true }
def CoverLeftUptoSaid : Prop := coverLeftUptoRow.holds Try.pinned (OpenSpec.upto coverLeftSpec)

/-- 'milepostlaw03.CoverPieces', WHERE WHAT IT READS IS OF BULK AT MOST 1048576: true; the input reads as it did. -/
def coverPiecesUptoRow : OpenClaim := { program := "ytjlghkiplapodaa", sum := "820e36ec41e1a1f97aab1b8be72b14f40c407dfd63c02d80c1bfe4bebe7a99ad", func := "milepost/milepostlaw03.CoverPieces", spec := "coverPieces", apart := false, narrowed := true }
def CoverPiecesUptoSaid : Prop := coverPiecesUptoRow.holds Try.pinned (OpenSpec.upto coverPiecesSpec)

/-- 'milepostlaw03.CoverCovers', WHERE WHAT IT READS IS OF BULK AT MOST 1048576: true; the input reads as it did. -/
def coverCoversUptoRow : OpenClaim := { program := "ytjlghkiplapodaa", sum := "820e36ec41e1a1f97aab1b8be72b14f40c407dfd63c02d80c1bfe4bebe7a99ad", func := "milepost/milepostlaw03.CoverCovers", spec := "coverCovers", apart := false, narrowed := true }
def CoverCoversUptoSaid : Prop := coverCoversUptoRow.holds Try.pinned (OpenSpec.upto coverCoversSpec)

/-- 'milepostlaw03.CoverSame', WHERE WHAT IT READS IS OF BULK AT MOST 1048576: true; the input reads as it did. -/
def coverSameUptoRow : OpenClaim := { program := "ytjlghkiplapodaa", sum := "820e36ec41e1a1f97aab1b8be72b14f40c407dfd63c02d80c1bfe4bebe7a99ad", func := "milepost/milepostlaw03.CoverSame", spec := "coverSame", apart := false, narrowed := true }
def CoverSameUptoSaid : Prop := coverSameUptoRow.holds Try.pinned (OpenSpec.upto coverSameSpec)

end Rows
end Go.Proofs.Ytjlghkiplapodaa
