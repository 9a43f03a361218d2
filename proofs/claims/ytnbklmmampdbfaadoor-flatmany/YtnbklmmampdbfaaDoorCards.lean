/-
  DERIVED. GIVEN WITH THE SEED: THE CARDS: each row of YtnbklmmampdbfaaDoorRows.lean that lists a variable, with what it lists TIED to the program's text (the seventh form; the later family's looks); each row that meets fmt, with fmt's text TOLD by the authors' own Lean function (tested against real Go, not proved from fmt's source: count such statements apart). THE CARD IS WHAT COUNTS. Prove the row's statement (the work); the ties are given (YtnbklmmampdbfaaDoorTie.lean); close each card by the builder's one call (the guide's Derived/Test/ToyasCard.lean, 'card_holds'). Laid BY PROGRAM, IN A SANDBOX (cutbox-door.mjs). By AI agents, Wed Nov 11 2026. No macro, syntax, notation, axiom, sorry.
-/
import Derived.Test.YtnbklmmampdbfaaDoorRows
import GoSem.ClaimSeven
namespace Go.Proofs.YtnbklmmampdbfaaDoor
namespace Rows

/-- THE TIED CARD OF 'milepostlaw08.FlatMeans'. -/
def flatMeansCard : Claim7 := { stood := { row := flatMeansRow, standIns := [], harness := (true, "772c1d5fb119fc3c5c72836da4730d4278e5296562e6da98d39e14467d5a5672"), looks := true }, kinds := [], alts := [], laidByText := true, laidKinds := [.data], laidTests := true, laidLooks := .later }
def FlatMeansCardSaid : Prop := Claim7.holds Tryd.pinned (.plain (OpenSpec.ofChange flatMeansSpec)) flatMeansCard

/-- THE TIED CARD OF 'milepostlaw08.FlatTrims'. -/
def flatTrimsCard : Claim7 := { stood := { row := flatTrimsRow, standIns := [], harness := (true, "772c1d5fb119fc3c5c72836da4730d4278e5296562e6da98d39e14467d5a5672"), looks := true }, kinds := [], alts := [], laidByText := true, laidKinds := [.data], laidTests := true, laidLooks := .later }
def FlatTrimsCardSaid : Prop := Claim7.holds Tryd.pinned (.plain (OpenSpec.ofChange flatTrimsSpec)) flatTrimsCard

/-- THE TIED CARD OF 'milepostlaw08.FlatLooks'. -/
def flatLooksCard : Claim7 := { stood := { row := flatLooksRow, standIns := [], harness := (true, "772c1d5fb119fc3c5c72836da4730d4278e5296562e6da98d39e14467d5a5672"), looks := true }, kinds := [], alts := [], laidByText := true, laidKinds := [.data], laidTests := true, laidLooks := .later }
def FlatLooksCardSaid : Prop := Claim7.holds Tryd.pinned (.plain (OpenSpec.ofChange flatLooksSpec)) flatLooksCard

/-- THE TIED CARD OF 'milepostlaw08.FlatMany'. -/
def flatManyCard : Claim7 := { stood := { row := flatManyRow, standIns := [], harness := (true, "772c1d5fb119fc3c5c72836da4730d4278e5296562e6da98d39e14467d5a5672"), looks := true }, kinds := [], alts := [], laidByText := true, laidKinds := [.data], laidTests := true, laidLooks := .later }
def FlatManyCardSaid : Prop := Claim7.holds Tryd.pinned (.plain (OpenSpec.ofChange flatManySpec)) flatManyCard

/-- THE SECOND FORM's CARD OF 'milepostlaw08.FlatMeans'. -/
def flatMeansUptoCard : Claim7 := { stood := { row := flatMeansUptoRow, standIns := [], harness := (true, "772c1d5fb119fc3c5c72836da4730d4278e5296562e6da98d39e14467d5a5672"), looks := true }, kinds := [], alts := [], laidByText := true, laidKinds := [.data], laidTests := true, laidLooks := .later }
def FlatMeansUptoCardSaid : Prop := Claim7.holds Tryd.pinned (.plain (OpenSpec.upto flatMeansSpec)) flatMeansUptoCard

/-- THE SECOND FORM's CARD OF 'milepostlaw08.FlatTrims'. -/
def flatTrimsUptoCard : Claim7 := { stood := { row := flatTrimsUptoRow, standIns := [], harness := (true, "772c1d5fb119fc3c5c72836da4730d4278e5296562e6da98d39e14467d5a5672"), looks := true }, kinds := [], alts := [], laidByText := true, laidKinds := [.data], laidTests := true, laidLooks := .later }
def FlatTrimsUptoCardSaid : Prop := Claim7.holds Tryd.pinned (.plain (OpenSpec.upto flatTrimsSpec)) flatTrimsUptoCard

/-- THE SECOND FORM's CARD OF 'milepostlaw08.FlatLooks'. -/
def flatLooksUptoCard : Claim7 := { stood := { row := flatLooksUptoRow, standIns := [], harness := (true, "772c1d5fb119fc3c5c72836da4730d4278e5296562e6da98d39e14467d5a5672"), looks := true }, kinds := [], alts := [], laidByText := true, laidKinds := [.data], laidTests := true, laidLooks := .later }
def FlatLooksUptoCardSaid : Prop := Claim7.holds Tryd.pinned (.plain (OpenSpec.upto flatLooksSpec)) flatLooksUptoCard

/-- THE SECOND FORM's CARD OF 'milepostlaw08.FlatMany'. -/
def flatManyUptoCard : Claim7 := { stood := { row := flatManyUptoRow, standIns := [], harness := (true, "772c1d5fb119fc3c5c72836da4730d4278e5296562e6da98d39e14467d5a5672"), looks := true }, kinds := [], alts := [], laidByText := true, laidKinds := [.data], laidTests := true, laidLooks := .later }
def FlatManyUptoCardSaid : Prop := Claim7.holds Tryd.pinned (.plain (OpenSpec.upto flatManySpec)) flatManyUptoCard
end Rows
end Go.Proofs.YtnbklmmampdbfaaDoor
