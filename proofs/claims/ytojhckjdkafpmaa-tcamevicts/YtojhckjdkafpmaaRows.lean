/-
  No cell of these rows narrows 'for every input' (looked for: loops, veiled, ifaces, maps, wideKeys, modest, calm, conditions, laid).
  DERIVED. THE GIVEN ROWS OF THIS SEAT. 6 by the template 'for every input the law returns true; each argument reads behind the call as it read before'; 0 by the template 'total and deterministic' (their statements: YtojhckjdkafpmaaTotals.lean).
  GIVEN WITH THE SEED: the statements are not yours to turn. If you find one false, say at which input.
  Laid BY PROGRAM, IN A SANDBOX (cutbox-rows.mjs): the forced cells as the released guide's own fill.sh prints them over the translation 5f1a1d57604d340b… (all of the seat's roots in one cut). By AI agents, Wed Nov 11 2026. No macro, syntax, notation, axiom, sorry.
-/
import Derived.Test.YtojhckjdkafpmaaChecked
import GoSem.Claim
import GoSem.ClaimJoined
import GoSem.ClaimMapViews
import Derived.JoinedTies
import Derived.KernelRfl
namespace Go.Proofs.Ytojhckjdkafpmaa
/- THE CELL 'sum', in the pinned program and in every row, IS THE sha256 OF THE DUMP (.gsa) THAT YtojhckjdkafpmaaProg.lean LOADS. Nothing in Lean hashes anything: it is a label: what it is worth is what the hold of that sum in a sandbox is worth. -/
noncomputable def Try.pinned : Pinned := { name := "ytojhckjdkafpmaa", sum := "5f1a1d57604d340beb7a0a8aff7dc3020bffca84a5647fa3363a308f947ee1d2", checked := Try.checked }
namespace Rows
def none {H : Type} : Left H := { results := [], args := [] }

/-- 'milepostlaw11.TcamPlays': WHATEVER THE INPUT: true; the input reads as it did. -/
def tcamPlaysSpec : ChangeSpec := { name := "tcamPlays", fn := fun _ => fun
  | [d1, d2] => { results := [.lit (.bool true)], args := [d1, d2] }
  | _ => none }
def tcamPlaysRow : OpenClaim := { program := "ytojhckjdkafpmaa", sum := "5f1a1d57604d340beb7a0a8aff7dc3020bffca84a5647fa3363a308f947ee1d2", func := "milepost/milepostlaw11.TcamPlays", spec := "tcamPlays", unfollowed := true, recurses := true, apart := false }
def TcamPlaysSaid : Prop := tcamPlaysRow.holds Try.pinned (OpenSpec.ofChange tcamPlaysSpec)

/-- ITS FALSE NEIGHBOUR: 'it returns false'. Refute it at one input. -/
def tcamPlaysWrong : ChangeSpec := { name := "tcamPlays", fn := fun _ => fun
  | [d1, d2] => { results := [.lit (.bool false)], args := [d1, d2] }
  | _ => none }
def TcamPlaysWrongFalsely : Prop := tcamPlaysRow.holds Try.pinned (OpenSpec.ofChange tcamPlaysWrong)

/-- 'milepostlaw11.TcamRooms': WHATEVER THE INPUT: true; the input reads as it did. -/
def tcamRoomsSpec : ChangeSpec := { name := "tcamRooms", fn := fun _ => fun
  | [d1, d2] => { results := [.lit (.bool true)], args := [d1, d2] }
  | _ => none }
def tcamRoomsRow : OpenClaim := { program := "ytojhckjdkafpmaa", sum := "5f1a1d57604d340beb7a0a8aff7dc3020bffca84a5647fa3363a308f947ee1d2", func := "milepost/milepostlaw11.TcamRooms", spec := "tcamRooms", unfollowed := true, recurses := true, apart := false }
def TcamRoomsSaid : Prop := tcamRoomsRow.holds Try.pinned (OpenSpec.ofChange tcamRoomsSpec)

/-- ITS FALSE NEIGHBOUR: 'it returns false'. Refute it at one input. -/
def tcamRoomsWrong : ChangeSpec := { name := "tcamRooms", fn := fun _ => fun
  | [d1, d2] => { results := [.lit (.bool false)], args := [d1, d2] }
  | _ => none }
def TcamRoomsWrongFalsely : Prop := tcamRoomsRow.holds Try.pinned (OpenSpec.ofChange tcamRoomsWrong)

/-- 'milepostlaw11.TcamBanks': WHATEVER THE INPUT: true; the input reads as it did. -/
def tcamBanksSpec : ChangeSpec := { name := "tcamBanks", fn := fun _ => fun
  | [d1, d2, d3, d4] => { results := [.lit (.bool true)], args := [d1, d2, d3, d4] }
  | _ => none }
def tcamBanksRow : OpenClaim := { program := "ytojhckjdkafpmaa", sum := "5f1a1d57604d340beb7a0a8aff7dc3020bffca84a5647fa3363a308f947ee1d2", func := "milepost/milepostlaw11.TcamBanks", spec := "tcamBanks", unfollowed := true, recurses := true, apart := false }
def TcamBanksSaid : Prop := tcamBanksRow.holds Try.pinned (OpenSpec.ofChange tcamBanksSpec)

/-- ITS FALSE NEIGHBOUR: 'it returns false'. Refute it at one input. -/
def tcamBanksWrong : ChangeSpec := { name := "tcamBanks", fn := fun _ => fun
  | [d1, d2, d3, d4] => { results := [.lit (.bool false)], args := [d1, d2, d3, d4] }
  | _ => none }
def TcamBanksWrongFalsely : Prop := tcamBanksRow.holds Try.pinned (OpenSpec.ofChange tcamBanksWrong)

/-- 'milepostlaw11.TcamLooks': WHATEVER THE INPUT: true; the input reads as it did. -/
def tcamLooksSpec : ChangeSpec := { name := "tcamLooks", fn := fun _ => fun
  | [d1, d2, d3, d4, d5] => { results := [.lit (.bool true)], args := [d1, d2, d3, d4, d5] }
  | _ => none }
def tcamLooksRow : OpenClaim := { program := "ytojhckjdkafpmaa", sum := "5f1a1d57604d340beb7a0a8aff7dc3020bffca84a5647fa3363a308f947ee1d2", func := "milepost/milepostlaw11.TcamLooks", spec := "tcamLooks", unfollowed := true, recurses := true, apart := false }
def TcamLooksSaid : Prop := tcamLooksRow.holds Try.pinned (OpenSpec.ofChange tcamLooksSpec)

/-- ITS FALSE NEIGHBOUR: 'it returns false'. Refute it at one input. -/
def tcamLooksWrong : ChangeSpec := { name := "tcamLooks", fn := fun _ => fun
  | [d1, d2, d3, d4, d5] => { results := [.lit (.bool false)], args := [d1, d2, d3, d4, d5] }
  | _ => none }
def TcamLooksWrongFalsely : Prop := tcamLooksRow.holds Try.pinned (OpenSpec.ofChange tcamLooksWrong)

/-- 'milepostlaw11.TcamEvicts': WHATEVER THE INPUT: true; the input reads as it did. -/
def tcamEvictsSpec : ChangeSpec := { name := "tcamEvicts", fn := fun _ => fun
  | [d1, d2, d3, d4, d5, d6] => { results := [.lit (.bool true)], args := [d1, d2, d3, d4, d5, d6] }
  | _ => none }
def tcamEvictsRow : OpenClaim := { program := "ytojhckjdkafpmaa", sum := "5f1a1d57604d340beb7a0a8aff7dc3020bffca84a5647fa3363a308f947ee1d2", func := "milepost/milepostlaw11.TcamEvicts", spec := "tcamEvicts", unfollowed := true, recurses := true, apart := false }
def TcamEvictsSaid : Prop := tcamEvictsRow.holds Try.pinned (OpenSpec.ofChange tcamEvictsSpec)

/-- ITS FALSE NEIGHBOUR: 'it returns false'. Refute it at one input. -/
def tcamEvictsWrong : ChangeSpec := { name := "tcamEvicts", fn := fun _ => fun
  | [d1, d2, d3, d4, d5, d6] => { results := [.lit (.bool false)], args := [d1, d2, d3, d4, d5, d6] }
  | _ => none }
def TcamEvictsWrongFalsely : Prop := tcamEvictsRow.holds Try.pinned (OpenSpec.ofChange tcamEvictsWrong)

/-- 'milepostlaw11.TcamAges': WHATEVER THE INPUT: true; the input reads as it did. -/
def tcamAgesSpec : ChangeSpec := { name := "tcamAges", fn := fun _ => fun
  | [d1, d2, d3] => { results := [.lit (.bool true)], args := [d1, d2, d3] }
  | _ => none }
def tcamAgesRow : OpenClaim := { program := "ytojhckjdkafpmaa", sum := "5f1a1d57604d340beb7a0a8aff7dc3020bffca84a5647fa3363a308f947ee1d2", func := "milepost/milepostlaw11.TcamAges", spec := "tcamAges", unfollowed := true, recurses := true, apart := false }
def TcamAgesSaid : Prop := tcamAgesRow.holds Try.pinned (OpenSpec.ofChange tcamAgesSpec)

/-- ITS FALSE NEIGHBOUR: 'it returns false'. Refute it at one input. -/
def tcamAgesWrong : ChangeSpec := { name := "tcamAges", fn := fun _ => fun
  | [d1, d2, d3] => { results := [.lit (.bool false)], args := [d1, d2, d3] }
  | _ => none }
def TcamAgesWrongFalsely : Prop := tcamAgesRow.holds Try.pinned (OpenSpec.ofChange tcamAgesWrong)

/- THE SECOND FORM. 'bulk': how many values and letters a reading holds, each counted each time it is reached (what is shared counts as often as it is met; a slice's spare places count too). A statement '..UptoSaid' is the law's where the arguments, and the package variables that the reading takes, are together of bulk at most 1048576: NARROWER than '..Said'. Prove '..Said' where nothing that the law and all that it calls make is longer than what came in: it says more and counts as full. Else prove '..UptoSaid'. A law counts once. -/
mutual
def uptoBulk {H : Type} : DataW H → Nat
  | .lit (.string bytes) => bytes.length + 1
  | .lit _ => 1
  | .nil => 1
  | .ptr d => uptoBulk d + 1
  | .slice elems spare => uptoBulkAll elems + uptoBulkAll spare + 1
  | .agg parts => uptoBulkAll parts + 1
  | .iface _ d => uptoBulk d + 1
  | .map entries => uptoBulkEntries entries + 1
  | .held _ => 1
def uptoBulkAll {H : Type} : List (DataW H) → Nat
  | [] => 0
  | d :: r => uptoBulk d + uptoBulkAll r
def uptoBulkEntries {H : Type} : List (Lit × DataW H) → Nat
  | [] => 0
  | x :: r => uptoBulkEntry x + uptoBulkEntries r
def uptoBulkEntry {H : Type} : Lit × DataW H → Nat
  | (.string bytes, d) => bytes.length + uptoBulk d + 1
  | (_, d) => uptoBulk d + 1
 end
def uptoSmall : (H : Type) → List (DataW H) → Bool := fun _ ds => decide (uptoBulkAll ds ≤ 1048576)
def OpenSpec.upto (s : _root_.Go.ChangeSpec) : _root_.Go.OpenSpec := { _root_.Go.OpenSpec.ofChange s with cond := some uptoSmall }

/-- 'milepostlaw11.TcamPlays', WHERE WHAT IT READS IS OF BULK AT MOST 1048576: true; the input reads as it did. -/
def tcamPlaysUptoRow : OpenClaim := { program := "ytojhckjdkafpmaa", sum := "5f1a1d57604d340beb7a0a8aff7dc3020bffca84a5647fa3363a308f947ee1d2", func := "milepost/milepostlaw11.TcamPlays", spec := "tcamPlays", unfollowed := true, recurses := true, apart := false, narrowed := true }
def TcamPlaysUptoSaid : Prop := tcamPlaysUptoRow.holds Try.pinned (OpenSpec.upto tcamPlaysSpec)

/-- 'milepostlaw11.TcamRooms', WHERE WHAT IT READS IS OF BULK AT MOST 1048576: true; the input reads as it did. -/
def tcamRoomsUptoRow : OpenClaim := { program := "ytojhckjdkafpmaa", sum := "5f1a1d57604d340beb7a0a8aff7dc3020bffca84a5647fa3363a308f947ee1d2", func := "milepost/milepostlaw11.TcamRooms", spec := "tcamRooms", unfollowed := true, recurses := true, apart := false, narrowed := true }
def TcamRoomsUptoSaid : Prop := tcamRoomsUptoRow.holds Try.pinned (OpenSpec.upto tcamRoomsSpec)

/-- 'milepostlaw11.TcamBanks', WHERE WHAT IT READS IS OF BULK AT MOST 1048576: true; the input reads as it did. -/
def tcamBanksUptoRow : OpenClaim := { program := "ytojhckjdkafpmaa", sum := "5f1a1d57604d340beb7a0a8aff7dc3020bffca84a5647fa3363a308f947ee1d2", func := "milepost/milepostlaw11.TcamBanks", spec := "tcamBanks", unfollowed := true, recurses := true, apart := false, narrowed := true }
def TcamBanksUptoSaid : Prop := tcamBanksUptoRow.holds Try.pinned (OpenSpec.upto tcamBanksSpec)

/-- 'milepostlaw11.TcamLooks', WHERE WHAT IT READS IS OF BULK AT MOST 1048576: true; the input reads as it did. -/
def tcamLooksUptoRow : OpenClaim := { program := "ytojhckjdkafpmaa", sum := "5f1a1d57604d340beb7a0a8aff7dc3020bffca84a5647fa3363a308f947ee1d2", func := "milepost/milepostlaw11.TcamLooks", spec := "tcamLooks", unfollowed := true, recurses := true, apart := false, narrowed := true }
def TcamLooksUptoSaid : Prop := tcamLooksUptoRow.holds Try.pinned (OpenSpec.upto tcamLooksSpec)

/-- 'milepostlaw11.TcamEvicts', WHERE WHAT IT READS IS OF BULK AT MOST 1048576: true; the input reads as it did. -/
def tcamEvictsUptoRow : OpenClaim := { program := "ytojhckjdkafpmaa", sum := "5f1a1d57604d340beb7a0a8aff7dc3020bffca84a5647fa3363a308f947ee1d2", func := "milepost/milepostlaw11.TcamEvicts", spec := "tcamEvicts", unfollowed := true, recurses := true, apart := false, narrowed := true }
def TcamEvictsUptoSaid : Prop := tcamEvictsUptoRow.holds Try.pinned (OpenSpec.upto tcamEvictsSpec)

/-- 'milepostlaw11.TcamAges', WHERE WHAT IT READS IS OF BULK AT MOST 1048576: true; the input reads as it did. -/
def tcamAgesUptoRow : OpenClaim := { program := "ytojhckjdkafpmaa", sum := "5f1a1d57604d340beb7a0a8aff7dc3020bffca84a5647fa3363a308f947ee1d2", func := "milepost/milepostlaw11.TcamAges", spec := "tcamAges", unfollowed := true, recurses := true, apart := false, narrowed := true }
def TcamAgesUptoSaid : Prop := tcamAgesUptoRow.holds Try.pinned (OpenSpec.upto tcamAgesSpec)

end Rows
end Go.Proofs.Ytojhckjdkafpmaa
