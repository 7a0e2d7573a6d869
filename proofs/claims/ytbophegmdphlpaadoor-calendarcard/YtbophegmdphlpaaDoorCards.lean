/-
  DERIVED. GIVEN WITH THE SEED: THE CARDS: each row of YtbophegmdphlpaaDoorRows.lean that lists a variable, with what it lists TIED to the program's text (the seventh form; the later family's looks); each row that meets fmt, with fmt's text TOLD by the authors' own Lean function (tested against real Go, not proved from fmt's source: count such statements apart). THE CARD IS WHAT COUNTS. Prove the row's statement (the work); the ties are given (YtbophegmdphlpaaDoorTie.lean); close each card by the builder's one call (the guide's Derived/Test/ToyasCard.lean, 'card_holds'). Laid BY PROGRAM, IN A SANDBOX (cutbox-door.mjs). By AI agents, Wed Nov 11 2026. No macro, syntax, notation, axiom, sorry.
-/
import Derived.Test.YtbophegmdphlpaaDoorRows
import GoSem.ClaimSeven
namespace Go.Proofs.YtbophegmdphlpaaDoor
namespace Rows

/-- THE TIED CARD OF 'accruelaw.Dates'. -/
def datesCard : Claim7 := { stood := { row := datesRow, standIns := [], harness := (true, "c825291676fc9c68b214e06f9c24a369e102d63c3fbdfc56e66efca60d87bdf2"), looks := false }, kinds := [], alts := [], laidByText := true, laidKinds := [.data, .data, .data], laidTests := true, laidLooks := .later }
def DatesCardSaid : Prop := Claim7.holds Tryd.pinned (.plain (OpenSpec.ofChange datesSpec)) datesCard

/-- THE TIED CARD OF 'accruekeep.Calendar'. -/
def calendarCard : Claim7 := { stood := { row := calendarRow, standIns := [], harness := (true, "c825291676fc9c68b214e06f9c24a369e102d63c3fbdfc56e66efca60d87bdf2"), looks := false }, kinds := [], alts := [], laidByText := true, laidKinds := [.data, .data, .data], laidTests := true, laidLooks := .later }
def CalendarCardSaid : Prop := Claim7.holds Tryd.pinned (.plain (OpenSpec.ofChange calendarSpec)) calendarCard

/-- THE SECOND FORM's CARD OF 'accruelaw.Dates'. -/
def datesUptoCard : Claim7 := { stood := { row := datesUptoRow, standIns := [], harness := (true, "c825291676fc9c68b214e06f9c24a369e102d63c3fbdfc56e66efca60d87bdf2"), looks := false }, kinds := [], alts := [], laidByText := true, laidKinds := [.data, .data, .data], laidTests := true, laidLooks := .later }
def DatesUptoCardSaid : Prop := Claim7.holds Tryd.pinned (.plain (OpenSpec.upto datesSpec)) datesUptoCard

/-- THE SECOND FORM's CARD OF 'accruekeep.Calendar'. -/
def calendarUptoCard : Claim7 := { stood := { row := calendarUptoRow, standIns := [], harness := (true, "c825291676fc9c68b214e06f9c24a369e102d63c3fbdfc56e66efca60d87bdf2"), looks := false }, kinds := [], alts := [], laidByText := true, laidKinds := [.data, .data, .data], laidTests := true, laidLooks := .later }
def CalendarUptoCardSaid : Prop := Claim7.holds Tryd.pinned (.plain (OpenSpec.upto calendarSpec)) calendarUptoCard
end Rows
end Go.Proofs.YtbophegmdphlpaaDoor
