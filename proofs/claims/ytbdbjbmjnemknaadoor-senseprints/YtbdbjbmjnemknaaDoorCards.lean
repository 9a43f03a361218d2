/-
  DERIVED. GIVEN WITH THE SEED: THE CARDS: each row of YtbdbjbmjnemknaaDoorRows.lean that lists a variable, with what it lists TIED to the program's text (the seventh form; the later family's looks); each row that meets fmt, with fmt's text TOLD by the authors' own Lean function (tested against real Go, not proved from fmt's source: count such statements apart). THE CARD IS WHAT COUNTS. Prove the row's statement (the work); the ties are given (YtbdbjbmjnemknaaDoorTie.lean); close each card by the builder's one call (the guide's Derived/Test/ToyasCard.lean, 'card_holds'). Laid BY PROGRAM, IN A SANDBOX (cutbox-door.mjs). By AI agents, Wed Nov 11 2026. No macro, syntax, notation, axiom, sorry.
-/
import Derived.Test.YtbdbjbmjnemknaaDoorRows
import GoSem.ClaimSeven
namespace Go.Proofs.YtbdbjbmjnemknaaDoor
namespace Rows

/-- THE TIED CARD OF 'milepostlaw07.SenseBack'. -/
def senseBackCard : Claim7 := { stood := { row := senseBackRow, standIns := [], harness := (true, "c4adfb02945d743b614648972ff4655dafe62080c21a28a4c33ab2bdabe34f59"), looks := true }, kinds := [], alts := [], laidByText := true, laidKinds := [.data, .data, .data, .data], laidTests := true, laidLooks := .later }
def SenseBackCardSaid : Prop := Claim7.holds Tryd.pinned (.plain (OpenSpec.ofChange senseBackSpec)) senseBackCard

/-- THE TIED CARD OF 'milepostlaw07.SensePrints'. -/
def sensePrintsCard : Claim7 := { stood := { row := sensePrintsRow, standIns := [], harness := (true, "c4adfb02945d743b614648972ff4655dafe62080c21a28a4c33ab2bdabe34f59"), looks := true }, kinds := [], alts := [], laidByText := true, laidKinds := [.data, .data, .data, .data], laidTests := true, laidLooks := .later }
def SensePrintsCardSaid : Prop := Claim7.holds Tryd.pinned (.plain (OpenSpec.ofChange sensePrintsSpec)) sensePrintsCard

/-- THE SECOND FORM's CARD OF 'milepostlaw07.SenseBack'. -/
def senseBackUptoCard : Claim7 := { stood := { row := senseBackUptoRow, standIns := [], harness := (true, "c4adfb02945d743b614648972ff4655dafe62080c21a28a4c33ab2bdabe34f59"), looks := true }, kinds := [], alts := [], laidByText := true, laidKinds := [.data, .data, .data, .data], laidTests := true, laidLooks := .later }
def SenseBackUptoCardSaid : Prop := Claim7.holds Tryd.pinned (.plain (OpenSpec.upto senseBackSpec)) senseBackUptoCard

/-- THE SECOND FORM's CARD OF 'milepostlaw07.SensePrints'. -/
def sensePrintsUptoCard : Claim7 := { stood := { row := sensePrintsUptoRow, standIns := [], harness := (true, "c4adfb02945d743b614648972ff4655dafe62080c21a28a4c33ab2bdabe34f59"), looks := true }, kinds := [], alts := [], laidByText := true, laidKinds := [.data, .data, .data, .data], laidTests := true, laidLooks := .later }
def SensePrintsUptoCardSaid : Prop := Claim7.holds Tryd.pinned (.plain (OpenSpec.upto sensePrintsSpec)) sensePrintsUptoCard
end Rows
end Go.Proofs.YtbdbjbmjnemknaaDoor
