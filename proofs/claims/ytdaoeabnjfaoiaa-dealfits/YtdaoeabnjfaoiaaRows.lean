/-
  No cell of these rows narrows 'for every input' (looked for: loops, veiled, ifaces, maps, wideKeys, modest, calm, conditions, laid).
  DERIVED. THE GIVEN ROWS OF THIS SEAT. 5 by the template 'for every input the law returns true; each argument reads behind the call as it read before'; 0 by the template 'total and deterministic' (their statements: YtdaoeabnjfaoiaaTotals.lean).
  GIVEN WITH THE SEED: the statements are not yours to turn. If you find one false, say at which input.
  Laid BY PROGRAM, IN A SANDBOX (cutbox-rows.mjs): the forced cells as the released guide's own fill.sh prints them over the translation 95478c8bad380dc8… (all of the seat's roots in one cut). By AI agents, Wed Nov 11 2026. No macro, syntax, notation, axiom, sorry.
-/
import Derived.Test.YtdaoeabnjfaoiaaChecked
import GoSem.Claim
import GoSem.ClaimJoined
import GoSem.ClaimMapViews
import Derived.JoinedTies
import Derived.KernelRfl
namespace Go.Proofs.Ytdaoeabnjfaoiaa
/- THE CELL 'sum', in the pinned program and in every row, IS THE sha256 OF THE DUMP (.gsa) THAT YtdaoeabnjfaoiaaProg.lean LOADS. Nothing in Lean hashes anything: it is a label: what it is worth is what the hold of that sum in a sandbox is worth. -/
noncomputable def Try.pinned : Pinned := { name := "ytdaoeabnjfaoiaa", sum := "95478c8bad380dc84f4bb877ce3298c1d77936f0edba319a2538015891e6eee1", checked := Try.checked }
namespace Rows
def none {H : Type} : Left H := { results := [], args := [] }

/-- 'milepostlaw13.DealPairs': WHATEVER THE INPUT: true; the input reads as it did. -/
def dealPairsSpec : ChangeSpec := { name := "dealPairs", fn := fun _ => fun
  | [d1, d2, d3, d4] => { results := [.lit (.bool true)], args := [d1, d2, d3, d4] }
  | _ => none }
def dealPairsRow : OpenClaim := { program := "ytdaoeabnjfaoiaa", sum := "95478c8bad380dc84f4bb877ce3298c1d77936f0edba319a2538015891e6eee1", func := "milepost/milepostlaw13.DealPairs", spec := "dealPairs", inPlace := ["math.Float64bits", "math.Float64frombits"], unfollowed := true, recurses := true, apart := false }
def DealPairsSaid : Prop := dealPairsRow.holds Try.pinned (OpenSpec.ofChange dealPairsSpec)

/-- ITS FALSE NEIGHBOUR: 'it returns false'. Refute it at one input. -/
def dealPairsWrong : ChangeSpec := { name := "dealPairs", fn := fun _ => fun
  | [d1, d2, d3, d4] => { results := [.lit (.bool false)], args := [d1, d2, d3, d4] }
  | _ => none }
def DealPairsWrongFalsely : Prop := dealPairsRow.holds Try.pinned (OpenSpec.ofChange dealPairsWrong)

/-- 'milepostlaw13.DealFits': WHATEVER THE INPUT: true; the input reads as it did. -/
def dealFitsSpec : ChangeSpec := { name := "dealFits", fn := fun _ => fun
  | [d1, d2, d3, d4] => { results := [.lit (.bool true)], args := [d1, d2, d3, d4] }
  | _ => none }
def dealFitsRow : OpenClaim := { program := "ytdaoeabnjfaoiaa", sum := "95478c8bad380dc84f4bb877ce3298c1d77936f0edba319a2538015891e6eee1", func := "milepost/milepostlaw13.DealFits", spec := "dealFits", unfollowed := true, recurses := true, apart := false }
def DealFitsSaid : Prop := dealFitsRow.holds Try.pinned (OpenSpec.ofChange dealFitsSpec)

/-- ITS FALSE NEIGHBOUR: 'it returns false'. Refute it at one input. -/
def dealFitsWrong : ChangeSpec := { name := "dealFits", fn := fun _ => fun
  | [d1, d2, d3, d4] => { results := [.lit (.bool false)], args := [d1, d2, d3, d4] }
  | _ => none }
def DealFitsWrongFalsely : Prop := dealFitsRow.holds Try.pinned (OpenSpec.ofChange dealFitsWrong)

/-- 'milepostlaw13.DealEven': WHATEVER THE INPUT: true; the input reads as it did. -/
def dealEvenSpec : ChangeSpec := { name := "dealEven", fn := fun _ => fun
  | [d1, d2, d3, d4] => { results := [.lit (.bool true)], args := [d1, d2, d3, d4] }
  | _ => none }
def dealEvenRow : OpenClaim := { program := "ytdaoeabnjfaoiaa", sum := "95478c8bad380dc84f4bb877ce3298c1d77936f0edba319a2538015891e6eee1", func := "milepost/milepostlaw13.DealEven", spec := "dealEven", unfollowed := true, recurses := true, apart := false }
def DealEvenSaid : Prop := dealEvenRow.holds Try.pinned (OpenSpec.ofChange dealEvenSpec)

/-- ITS FALSE NEIGHBOUR: 'it returns false'. Refute it at one input. -/
def dealEvenWrong : ChangeSpec := { name := "dealEven", fn := fun _ => fun
  | [d1, d2, d3, d4] => { results := [.lit (.bool false)], args := [d1, d2, d3, d4] }
  | _ => none }
def DealEvenWrongFalsely : Prop := dealEvenRow.holds Try.pinned (OpenSpec.ofChange dealEvenWrong)

/-- 'milepostlaw13.DealWhole': WHATEVER THE INPUT: true; the input reads as it did. -/
def dealWholeSpec : ChangeSpec := { name := "dealWhole", fn := fun _ => fun
  | [d1, d2, d3, d4, d5] => { results := [.lit (.bool true)], args := [d1, d2, d3, d4, d5] }
  | _ => none }
def dealWholeRow : OpenClaim := { program := "ytdaoeabnjfaoiaa", sum := "95478c8bad380dc84f4bb877ce3298c1d77936f0edba319a2538015891e6eee1", func := "milepost/milepostlaw13.DealWhole", spec := "dealWhole", unfollowed := true, recurses := true, apart := false }
def DealWholeSaid : Prop := dealWholeRow.holds Try.pinned (OpenSpec.ofChange dealWholeSpec)

/-- ITS FALSE NEIGHBOUR: 'it returns false'. Refute it at one input. -/
def dealWholeWrong : ChangeSpec := { name := "dealWhole", fn := fun _ => fun
  | [d1, d2, d3, d4, d5] => { results := [.lit (.bool false)], args := [d1, d2, d3, d4, d5] }
  | _ => none }
def DealWholeWrongFalsely : Prop := dealWholeRow.holds Try.pinned (OpenSpec.ofChange dealWholeWrong)

/-- 'milepostlaw13.DealSums': WHATEVER THE INPUT: true; the input reads as it did. -/
def dealSumsSpec : ChangeSpec := { name := "dealSums", fn := fun _ => fun
  | [d1, d2, d3] => { results := [.lit (.bool true)], args := [d1, d2, d3] }
  | _ => none }
def dealSumsRow : OpenClaim := { program := "ytdaoeabnjfaoiaa", sum := "95478c8bad380dc84f4bb877ce3298c1d77936f0edba319a2538015891e6eee1", func := "milepost/milepostlaw13.DealSums", spec := "dealSums", unfollowed := true, recurses := true, apart := false }
def DealSumsSaid : Prop := dealSumsRow.holds Try.pinned (OpenSpec.ofChange dealSumsSpec)

/-- ITS FALSE NEIGHBOUR: 'it returns false'. Refute it at one input. -/
def dealSumsWrong : ChangeSpec := { name := "dealSums", fn := fun _ => fun
  | [d1, d2, d3] => { results := [.lit (.bool false)], args := [d1, d2, d3] }
  | _ => none }
def DealSumsWrongFalsely : Prop := dealSumsRow.holds Try.pinned (OpenSpec.ofChange dealSumsWrong)

/- THE SECOND FORM. 'bulk': how many values and letters a reading holds, each counted each time it is reached (what is shared counts as often as it is met; a slice's spare places count too). A statement '..UptoSaid' is the law's where the arguments, and the package variables that the reading takes, are together of bulk at most 1048576: NARROWER than '..Said'. Prove '..Said' where nothing that the law and all that it calls make is longer than what came in: it says more and counts as full. Else prove '..UptoSaid'. A law counts once. -/
mutual
def uptoBulk {H : Type} : DataW H → Nat
  | .lit (.string bytes) => bytes.length + 1
  | .lit _ => 1
  | .nil => 1
  | .ptr d => uptoBulk d + 1
  | .slice elems spare => uptoBulkAll elems + uptoBulkAll spare + 1
  | .agg parts => uptoBulkAll parts + 1
  | .iface _ d => uptoBulk d + 1
  | .map entries => uptoBulkEntries entries + 1
  | .held _ => 1
def uptoBulkAll {H : Type} : List (DataW H) → Nat
  | [] => 0
  | d :: r => uptoBulk d + uptoBulkAll r
def uptoBulkEntries {H : Type} : List (Lit × DataW H) → Nat
  | [] => 0
  | x :: r => uptoBulkEntry x + uptoBulkEntries r
def uptoBulkEntry {H : Type} : Lit × DataW H → Nat
  | (.string bytes, d) => bytes.length + uptoBulk d + 1
  | (_, d) => uptoBulk d + 1
 end
def uptoSmall : (H : Type) → List (DataW H) → Bool := fun _ ds => decide (uptoBulkAll ds ≤ 1048576)
def OpenSpec.upto (s : _root_.Go.ChangeSpec) : _root_.Go.OpenSpec := { _root_.Go.OpenSpec.ofChange s with cond := some uptoSmall }

/-- 'milepostlaw13.DealPairs', WHERE WHAT IT READS IS OF BULK AT MOST 1048576: true; the input reads as it did. -/
def dealPairsUptoRow : OpenClaim := { program := "ytdaoeabnjfaoiaa", sum := "95478c8bad380dc84f4bb877ce3298c1d77936f0edba319a2538015891e6eee1", func := "milepost/milepostlaw13.DealPairs", spec := "dealPairs", inPlace := ["math.Float64bits", "math.Float64frombits"], unfollowed := true, recurses := true, apart := false, narrowed := true }
def DealPairsUptoSaid : Prop := dealPairsUptoRow.holds Try.pinned (OpenSpec.upto dealPairsSpec)

/-- 'milepostlaw13.DealFits', WHERE WHAT IT READS IS OF BULK AT MOST 1048576: true; the input reads as it did. -/
def dealFitsUptoRow : OpenClaim := { program := "ytdaoeabnjfaoiaa", sum := "95478c8bad380dc84f4bb877ce3298c1d77936f0edba319a2538015891e6eee1", func := "milepost/milepostlaw13.DealFits", spec := "dealFits", unfollowed := true, recurses := true, apart := false, narrowed := true }
def DealFitsUptoSaid : Prop := dealFitsUptoRow.holds Try.pinned (OpenSpec.upto dealFitsSpec)

/-- 'milepostlaw13.DealEven', WHERE WHAT IT READS IS OF BULK AT MOST 1048576: true; the input reads as it did. -/
def dealEvenUptoRow : OpenClaim := { program := "ytdaoeabnjfaoiaa", sum := "95478c8bad380dc84f4bb877ce3298c1d77936f0edba319a2538015891e6eee1", func := "milepost/milepostlaw13.DealEven", spec := "dealEven", unfollowed := true, recurses := true, apart := false, narrowed := true }
def DealEvenUptoSaid : Prop := dealEvenUptoRow.holds Try.pinned (OpenSpec.upto dealEvenSpec)

/-- 'milepostlaw13.DealWhole', WHERE WHAT IT READS IS OF BULK AT MOST 1048576: true; the input reads as it did. -/
def dealWholeUptoRow : OpenClaim := { program := "ytdaoeabnjfaoiaa", sum := "95478c8bad380dc84f4bb877ce3298c1d77936f0edba319a2538015891e6eee1", func := "milepost/milepostlaw13.DealWhole", spec := "dealWhole", unfollowed := true, recurses := true, apart := false, narrowed := true }
def DealWholeUptoSaid : Prop := dealWholeUptoRow.holds Try.pinned (OpenSpec.upto dealWholeSpec)

/-- 'milepostlaw13.DealSums', WHERE WHAT IT READS IS OF BULK AT MOST 1048576: true; the input reads as it did. -/
def dealSumsUptoRow : OpenClaim := { program := "ytdaoeabnjfaoiaa", sum := "95478c8bad380dc84f4bb877ce3298c1d77936f0edba319a2538015891e6eee1", func := "milepost/milepostlaw13.DealSums", spec := "dealSums", unfollowed := true, recurses := true, apart := false, narrowed := true }
def DealSumsUptoSaid : Prop := dealSumsUptoRow.holds Try.pinned (OpenSpec.upto dealSumsSpec)

end Rows
end Go.Proofs.Ytdaoeabnjfaoiaa
