/-
  DERIVED. GIVEN WITH THE SEED: THE CARDS: each row of YtanndhoimpnhpaaDoorRows.lean that lists a variable, with what it lists TIED to the program's text (the seventh form; the later family's looks); each row that meets fmt, with fmt's text TOLD by the authors' own Lean function (tested against real Go, not proved from fmt's source: count such statements apart). THE CARD IS WHAT COUNTS. Prove the row's statement (the work); the ties are given (YtanndhoimpnhpaaDoorTie.lean); close each card by the builder's one call (the guide's Derived/Test/ToyasCard.lean, 'card_holds'). Laid BY PROGRAM, IN A SANDBOX (cutbox-door.mjs). By AI agents, Wed Nov 11 2026. No macro, syntax, notation, axiom, sorry.
-/
import Derived.Test.YtanndhoimpnhpaaDoorRows
import GoSem.ClaimSeven
namespace Go.Proofs.YtanndhoimpnhpaaDoor
namespace Rows

/-- THE TIED CARD OF 'accruelaw.Dates'. -/
def datesCard : Claim7 := { stood := { row := datesRow, standIns := [], harness := (true, "36f6fb74661e0d6a51f15b6fc2825ffc54598be2c3d0bbbe7560ae8a9372adcb"), looks := false }, kinds := [], alts := [], laidByText := true, laidKinds := [.data, .data, .data], laidTests := true, laidLooks := .later }
def DatesCardSaid : Prop := Claim7.holds Tryd.pinned (.plain (OpenSpec.ofChange datesSpec)) datesCard

/-- THE TIED CARD OF 'accruekeep.Calendar'. -/
def calendarCard : Claim7 := { stood := { row := calendarRow, standIns := [], harness := (true, "36f6fb74661e0d6a51f15b6fc2825ffc54598be2c3d0bbbe7560ae8a9372adcb"), looks := false }, kinds := [], alts := [], laidByText := true, laidKinds := [.data, .data, .data], laidTests := true, laidLooks := .later }
def CalendarCardSaid : Prop := Claim7.holds Tryd.pinned (.plain (OpenSpec.ofChange calendarSpec)) calendarCard

/-- THE TIED CARD OF 'accruekeep.Flat'. -/
def flatCard : Claim7 := { stood := { row := flatRow, standIns := [], harness := (true, "36f6fb74661e0d6a51f15b6fc2825ffc54598be2c3d0bbbe7560ae8a9372adcb"), looks := false }, kinds := [], alts := [], laidByText := true, laidKinds := [.data], laidTests := true, laidLooks := .later }
def FlatCardSaid : Prop := Claim7.holds Tryd.pinned (.plain (OpenSpec.ofChange flatSpec)) flatCard

/-- THE TIED CARD OF 'accruekeep.Cut'. -/
def cutCard : Claim7 := { stood := { row := cutRow, standIns := [], harness := (true, "36f6fb74661e0d6a51f15b6fc2825ffc54598be2c3d0bbbe7560ae8a9372adcb"), looks := false }, kinds := [], alts := [], laidByText := true, laidKinds := [.data, .wider], laidTests := true, laidLooks := .later }
def CutCardSaid : Prop := Claim7.holds Tryd.pinned (.plain (OpenSpec.ofChange cutSpec)) cutCard

/-- THE TIED CARD OF 'accruekeep.Late'. -/
def lateCard : Claim7 := { stood := { row := lateRow, standIns := [], harness := (true, "36f6fb74661e0d6a51f15b6fc2825ffc54598be2c3d0bbbe7560ae8a9372adcb"), looks := false }, kinds := [], alts := [], laidByText := true, laidKinds := [.data, .wider], laidTests := true, laidLooks := .later }
def LateCardSaid : Prop := Claim7.holds Tryd.pinned (.plain (OpenSpec.ofChange lateSpec)) lateCard

/-- THE TIED CARD OF 'accruekeep.Balanced'. -/
def balancedCard : Claim7 := { stood := { row := balancedRow, standIns := [], harness := (true, "36f6fb74661e0d6a51f15b6fc2825ffc54598be2c3d0bbbe7560ae8a9372adcb"), looks := false }, kinds := [], alts := [], laidByText := true, laidKinds := [.data, .wider], laidTests := true, laidLooks := .later }
def BalancedCardSaid : Prop := Claim7.holds Tryd.pinned (.plain (OpenSpec.ofChange balancedSpec)) balancedCard

/-- THE SECOND FORM's CARD OF 'accruelaw.Dates'. -/
def datesUptoCard : Claim7 := { stood := { row := datesUptoRow, standIns := [], harness := (true, "36f6fb74661e0d6a51f15b6fc2825ffc54598be2c3d0bbbe7560ae8a9372adcb"), looks := false }, kinds := [], alts := [], laidByText := true, laidKinds := [.data, .data, .data], laidTests := true, laidLooks := .later }
def DatesUptoCardSaid : Prop := Claim7.holds Tryd.pinned (.plain (OpenSpec.upto datesSpec)) datesUptoCard

/-- THE SECOND FORM's CARD OF 'accruekeep.Calendar'. -/
def calendarUptoCard : Claim7 := { stood := { row := calendarUptoRow, standIns := [], harness := (true, "36f6fb74661e0d6a51f15b6fc2825ffc54598be2c3d0bbbe7560ae8a9372adcb"), looks := false }, kinds := [], alts := [], laidByText := true, laidKinds := [.data, .data, .data], laidTests := true, laidLooks := .later }
def CalendarUptoCardSaid : Prop := Claim7.holds Tryd.pinned (.plain (OpenSpec.upto calendarSpec)) calendarUptoCard

/-- THE SECOND FORM's CARD OF 'accruekeep.Flat'. -/
def flatUptoCard : Claim7 := { stood := { row := flatUptoRow, standIns := [], harness := (true, "36f6fb74661e0d6a51f15b6fc2825ffc54598be2c3d0bbbe7560ae8a9372adcb"), looks := false }, kinds := [], alts := [], laidByText := true, laidKinds := [.data], laidTests := true, laidLooks := .later }
def FlatUptoCardSaid : Prop := Claim7.holds Tryd.pinned (.plain (OpenSpec.upto flatSpec)) flatUptoCard

/-- THE SECOND FORM's CARD OF 'accruekeep.Cut'. -/
def cutUptoCard : Claim7 := { stood := { row := cutUptoRow, standIns := [], harness := (true, "36f6fb74661e0d6a51f15b6fc2825ffc54598be2c3d0bbbe7560ae8a9372adcb"), looks := false }, kinds := [], alts := [], laidByText := true, laidKinds := [.data, .wider], laidTests := true, laidLooks := .later }
def CutUptoCardSaid : Prop := Claim7.holds Tryd.pinned (.plain (OpenSpec.upto cutSpec)) cutUptoCard

/-- THE SECOND FORM's CARD OF 'accruekeep.Late'. -/
def lateUptoCard : Claim7 := { stood := { row := lateUptoRow, standIns := [], harness := (true, "36f6fb74661e0d6a51f15b6fc2825ffc54598be2c3d0bbbe7560ae8a9372adcb"), looks := false }, kinds := [], alts := [], laidByText := true, laidKinds := [.data, .wider], laidTests := true, laidLooks := .later }
def LateUptoCardSaid : Prop := Claim7.holds Tryd.pinned (.plain (OpenSpec.upto lateSpec)) lateUptoCard

/-- THE SECOND FORM's CARD OF 'accruekeep.Balanced'. -/
def balancedUptoCard : Claim7 := { stood := { row := balancedUptoRow, standIns := [], harness := (true, "36f6fb74661e0d6a51f15b6fc2825ffc54598be2c3d0bbbe7560ae8a9372adcb"), looks := false }, kinds := [], alts := [], laidByText := true, laidKinds := [.data, .wider], laidTests := true, laidLooks := .later }
def BalancedUptoCardSaid : Prop := Claim7.holds Tryd.pinned (.plain (OpenSpec.upto balancedSpec)) balancedUptoCard
end Rows
end Go.Proofs.YtanndhoimpnhpaaDoor
