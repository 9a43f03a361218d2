/-
  DERIVED. GIVEN WITH THE SEED: THE CARDS: each row of YthddlchkbnmcaaaGreatDoorRows.lean that lists a variable, with what it lists TIED to the program's text (the seventh form; the later family's looks); each row that meets fmt, with fmt's text TOLD by the authors' own Lean function (tested against real Go, not proved from fmt's source: count such statements apart). THE CARD IS WHAT COUNTS. Prove the row's statement (the work); the ties are given (YthddlchkbnmcaaaGreatDoorTie.lean); close each card by the builder's one call (the guide's Derived/Test/ToyasCard.lean, 'card_holds'). Laid BY PROGRAM, IN A SANDBOX (cutbox-door.mjs). By AI agents, Wed Nov 11 2026. No macro, syntax, notation, axiom, sorry.
-/
import Derived.Test.YthddlchkbnmcaaaGreatDoorRows
import GoSem.ClaimSeven
namespace Go.Proofs.YthddlchkbnmcaaaGreatDoor
namespace Rows

/-- THE TIED CARD OF 'milepostlaw08.FlatExpands'. -/
def flatExpandsCard : Claim7 := { stood := { row := flatExpandsRow, standIns := [], harness := (true, "40c37ec74168f56d8a0214d48966b3c50eb0f97c5e6c62856a4a0ff207bc2821"), looks := true }, kinds := [], alts := [], laidByText := true, laidKinds := [.data], laidTests := true, laidLooks := .later }
def FlatExpandsCardSaid : Prop := Claim7.holds Tryz.pinned (.plain (OpenSpec.ofChange flatExpandsSpec)) flatExpandsCard

/-- THE TIED CARD OF 'milepostlaw08.FlatEntries'. -/
def flatEntriesCard : Claim7 := { stood := { row := flatEntriesRow, standIns := [], harness := (true, "40c37ec74168f56d8a0214d48966b3c50eb0f97c5e6c62856a4a0ff207bc2821"), looks := true }, kinds := [], alts := [], laidByText := true, laidKinds := [.data], laidTests := true, laidLooks := .later }
def FlatEntriesCardSaid : Prop := Claim7.holds Tryz.pinned (.plain (OpenSpec.ofChange flatEntriesSpec)) flatEntriesCard

/-- THE SECOND FORM's CARD OF 'milepostlaw08.FlatExpands'. -/
def flatExpandsUptoCard : Claim7 := { stood := { row := flatExpandsUptoRow, standIns := [], harness := (true, "40c37ec74168f56d8a0214d48966b3c50eb0f97c5e6c62856a4a0ff207bc2821"), looks := true }, kinds := [], alts := [], laidByText := true, laidKinds := [.data], laidTests := true, laidLooks := .later }
def FlatExpandsUptoCardSaid : Prop := Claim7.holds Tryz.pinned (.plain (OpenSpec.upto flatExpandsSpec)) flatExpandsUptoCard

/-- THE SECOND FORM's CARD OF 'milepostlaw08.FlatEntries'. -/
def flatEntriesUptoCard : Claim7 := { stood := { row := flatEntriesUptoRow, standIns := [], harness := (true, "40c37ec74168f56d8a0214d48966b3c50eb0f97c5e6c62856a4a0ff207bc2821"), looks := true }, kinds := [], alts := [], laidByText := true, laidKinds := [.data], laidTests := true, laidLooks := .later }
def FlatEntriesUptoCardSaid : Prop := Claim7.holds Tryz.pinned (.plain (OpenSpec.upto flatEntriesSpec)) flatEntriesUptoCard
end Rows
end Go.Proofs.YthddlchkbnmcaaaGreatDoor
