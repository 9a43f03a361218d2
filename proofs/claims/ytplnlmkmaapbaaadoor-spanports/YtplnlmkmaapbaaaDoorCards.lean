/-
  DERIVED. GIVEN WITH THE SEED: THE CARDS: each row of YtplnlmkmaapbaaaDoorRows.lean that lists a variable, with what it lists TIED to the program's text (the seventh form; the later family's looks); each row that meets fmt, with fmt's text TOLD by the authors' own Lean function (tested against real Go, not proved from fmt's source: count such statements apart). THE CARD IS WHAT COUNTS. Prove the row's statement (the work); the ties are given (YtplnlmkmaapbaaaDoorTie.lean); close each card by the builder's one call (the guide's Derived/Test/ToyasCard.lean, 'card_holds'). Laid BY PROGRAM, IN A SANDBOX (cutbox-door.mjs). By AI agents, Wed Nov 11 2026. No macro, syntax, notation, axiom, sorry.
-/
import Derived.Test.YtplnlmkmaapbaaaDoorRows
import GoSem.ClaimSeven
namespace Go.Proofs.YtplnlmkmaapbaaaDoor
namespace Rows

/-- THE TIED CARD OF 'milepostlaw04.SpanPorts'. -/
def spanPortsCard : Claim7 := { stood := { row := spanPortsRow, standIns := [], harness := (true, "94a4e9c7e490fec018924bcea095a180e0c9be0d0ec2da0b29eae6580645581c"), looks := false }, kinds := [], alts := [], laidByText := true, laidKinds := [.data], laidTests := true, laidLooks := .later }
def SpanPortsCardSaid : Prop := Claim7.holds Tryd.pinned (.plain (OpenSpec.ofChange spanPortsSpec)) spanPortsCard

/-- THE TIED CARD OF 'milepostlaw04.SpanPrefix'. -/
def spanPrefixCard : Claim7 := { stood := { row := spanPrefixRow, standIns := [], harness := (true, "94a4e9c7e490fec018924bcea095a180e0c9be0d0ec2da0b29eae6580645581c"), looks := false }, kinds := [], alts := [], laidByText := true, laidKinds := [.data], laidTests := true, laidLooks := .later }
def SpanPrefixCardSaid : Prop := Claim7.holds Tryd.pinned (.plain (OpenSpec.ofChange spanPrefixSpec)) spanPrefixCard

/-- THE TIED CARD OF 'milepostlaw04.SpanProto'. -/
def spanProtoCard : Claim7 := { stood := { row := spanProtoRow, standIns := [], harness := (true, "94a4e9c7e490fec018924bcea095a180e0c9be0d0ec2da0b29eae6580645581c"), looks := false }, kinds := [], alts := [], laidByText := true, laidKinds := [.data], laidTests := true, laidLooks := .later }
def SpanProtoCardSaid : Prop := Claim7.holds Tryd.pinned (.plain (OpenSpec.ofChange spanProtoSpec)) spanProtoCard

/-- THE SECOND FORM's CARD OF 'milepostlaw04.SpanPorts'. -/
def spanPortsUptoCard : Claim7 := { stood := { row := spanPortsUptoRow, standIns := [], harness := (true, "94a4e9c7e490fec018924bcea095a180e0c9be0d0ec2da0b29eae6580645581c"), looks := false }, kinds := [], alts := [], laidByText := true, laidKinds := [.data], laidTests := true, laidLooks := .later }
def SpanPortsUptoCardSaid : Prop := Claim7.holds Tryd.pinned (.plain (OpenSpec.upto spanPortsSpec)) spanPortsUptoCard

/-- THE SECOND FORM's CARD OF 'milepostlaw04.SpanPrefix'. -/
def spanPrefixUptoCard : Claim7 := { stood := { row := spanPrefixUptoRow, standIns := [], harness := (true, "94a4e9c7e490fec018924bcea095a180e0c9be0d0ec2da0b29eae6580645581c"), looks := false }, kinds := [], alts := [], laidByText := true, laidKinds := [.data], laidTests := true, laidLooks := .later }
def SpanPrefixUptoCardSaid : Prop := Claim7.holds Tryd.pinned (.plain (OpenSpec.upto spanPrefixSpec)) spanPrefixUptoCard

/-- THE SECOND FORM's CARD OF 'milepostlaw04.SpanProto'. -/
def spanProtoUptoCard : Claim7 := { stood := { row := spanProtoUptoRow, standIns := [], harness := (true, "94a4e9c7e490fec018924bcea095a180e0c9be0d0ec2da0b29eae6580645581c"), looks := false }, kinds := [], alts := [], laidByText := true, laidKinds := [.data], laidTests := true, laidLooks := .later }
def SpanProtoUptoCardSaid : Prop := Claim7.holds Tryd.pinned (.plain (OpenSpec.upto spanProtoSpec)) spanProtoUptoCard
end Rows
end Go.Proofs.YtplnlmkmaapbaaaDoor
