/-
  DERIVED. GIVEN WITH THE SEED: THE CARDS: each row of YtfamnloobmdhdabDoorRows.lean that lists a variable, with what it lists TIED to the program's text (the seventh form; the later family's looks); each row that meets fmt, with fmt's text TOLD by the authors' own Lean function (tested against real Go, not proved from fmt's source: count such statements apart). THE CARD IS WHAT COUNTS. Prove the row's statement (the work); the ties are given (YtfamnloobmdhdabDoorTie.lean); close each card by the builder's one call (the guide's Derived/Test/ToyasCard.lean, 'card_holds'). Laid BY PROGRAM, IN A SANDBOX (cutbox-door.mjs). By AI agents, Wed Nov 11 2026. No macro, syntax, notation, axiom, sorry.
-/
import Derived.Test.YtfamnloobmdhdabDoorRows
import GoSem.ClaimSeven
namespace Go.Proofs.YtfamnloobmdhdabDoor
namespace Rows

/-- THE TIED CARD OF 'milepostlaw07.SensePrints'. -/
def sensePrintsCard : Claim7 := { stood := { row := sensePrintsRow, standIns := [], harness := (true, "9b810874afef03cc7bc569eb8bc9ddb51371044fac23ea37af6ff7aac7806de5"), looks := true }, kinds := [], alts := [], laidByText := true, laidKinds := [.data, .data, .data, .data], laidTests := true, laidLooks := .later }
def SensePrintsCardSaid : Prop := Claim7.holds Tryd.pinned (.plain (OpenSpec.ofChange sensePrintsSpec)) sensePrintsCard

/-- THE TIED CARD OF 'milepostlaw07.SenseParses'. -/
def senseParsesCard : Claim7 := { stood := { row := senseParsesRow, standIns := [], harness := (true, "9b810874afef03cc7bc569eb8bc9ddb51371044fac23ea37af6ff7aac7806de5"), looks := true }, kinds := [], alts := [], laidByText := true, laidKinds := [.data], laidTests := true, laidLooks := .later }
def SenseParsesCardSaid : Prop := Claim7.holds Tryd.pinned (.plain (OpenSpec.ofChange senseParsesSpec)) senseParsesCard

/-- THE SECOND FORM's CARD OF 'milepostlaw07.SensePrints'. -/
def sensePrintsUptoCard : Claim7 := { stood := { row := sensePrintsUptoRow, standIns := [], harness := (true, "9b810874afef03cc7bc569eb8bc9ddb51371044fac23ea37af6ff7aac7806de5"), looks := true }, kinds := [], alts := [], laidByText := true, laidKinds := [.data, .data, .data, .data], laidTests := true, laidLooks := .later }
def SensePrintsUptoCardSaid : Prop := Claim7.holds Tryd.pinned (.plain (OpenSpec.upto sensePrintsSpec)) sensePrintsUptoCard

/-- THE SECOND FORM's CARD OF 'milepostlaw07.SenseParses'. -/
def senseParsesUptoCard : Claim7 := { stood := { row := senseParsesUptoRow, standIns := [], harness := (true, "9b810874afef03cc7bc569eb8bc9ddb51371044fac23ea37af6ff7aac7806de5"), looks := true }, kinds := [], alts := [], laidByText := true, laidKinds := [.data], laidTests := true, laidLooks := .later }
def SenseParsesUptoCardSaid : Prop := Claim7.holds Tryd.pinned (.plain (OpenSpec.upto senseParsesSpec)) senseParsesUptoCard
end Rows
end Go.Proofs.YtfamnloobmdhdabDoor
