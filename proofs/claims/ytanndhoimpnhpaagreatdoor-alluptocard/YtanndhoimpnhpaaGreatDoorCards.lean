/-
  DERIVED. GIVEN WITH THE SEED: THE CARDS: each row of YtanndhoimpnhpaaGreatDoorRows.lean that lists a variable, with what it lists TIED to the program's text (the seventh form; the later family's looks); each row that meets fmt, with fmt's text TOLD by the authors' own Lean function (tested against real Go, not proved from fmt's source: count such statements apart). THE CARD IS WHAT COUNTS. Prove the row's statement (the work); the ties are given (YtanndhoimpnhpaaGreatDoorTie.lean); close each card by the builder's one call (the guide's Derived/Test/ToyasCard.lean, 'card_holds'). Laid BY PROGRAM, IN A SANDBOX (cutbox-door.mjs). By AI agents, Wed Nov 11 2026. No macro, syntax, notation, axiom, sorry.
-/
import Derived.Test.YtanndhoimpnhpaaGreatDoorRows
import GoSem.ClaimSeven
namespace Go.Proofs.YtanndhoimpnhpaaGreatDoor
namespace Rows

/-- THE TIED CARD OF 'accruelaw.Loans'. -/
def loansCard : Claim7 := { stood := { row := loansRow, standIns := [], harness := (true, "8dc7941bd1aa160a54dbc6162b6bb45cd3ac788a7120df20eaddb32d2ba4f3fe"), looks := true }, kinds := [], alts := [], laidByText := true, laidKinds := [.data, .data, .data, .data, .sentinel, .sentinel, .data, .wider, .pinned], laidTests := true, laidLooks := .later }
def LoansCardSaid : Prop := Claim7.holds Tryz.pinned (.plain (OpenSpec.ofChange loansSpec)) loansCard

/-- THE TIED CARD OF 'accruelaw.Books'. -/
def booksCard : Claim7 := { stood := { row := booksRow, standIns := [], harness := (true, "8dc7941bd1aa160a54dbc6162b6bb45cd3ac788a7120df20eaddb32d2ba4f3fe"), looks := true }, kinds := [], alts := [], laidByText := true, laidKinds := [.data, .data, .data, .data, .sentinel, .sentinel, .data, .wider, .pinned], laidTests := true, laidLooks := .later }
def BooksCardSaid : Prop := Claim7.holds Tryz.pinned (.plain (OpenSpec.ofChange booksSpec)) booksCard

/-- THE TIED CARD OF 'accruelaw.Texts'. -/
def textsCard : Claim7 := { stood := { row := textsRow, standIns := [], harness := (true, "8dc7941bd1aa160a54dbc6162b6bb45cd3ac788a7120df20eaddb32d2ba4f3fe"), looks := true }, kinds := [], alts := [], laidByText := true, laidKinds := [.data, .data, .data, .data, .sentinel, .sentinel, .wider, .pinned], laidTests := true, laidLooks := .later }
def TextsCardSaid : Prop := Claim7.holds Tryz.pinned (.plain (OpenSpec.ofChange textsSpec)) textsCard

/-- THE TIED CARD OF 'accruekeep.Kept'. -/
def keptCard : Claim7 := { stood := { row := keptRow, standIns := [], harness := (true, "8dc7941bd1aa160a54dbc6162b6bb45cd3ac788a7120df20eaddb32d2ba4f3fe"), looks := true }, kinds := [], alts := [], laidByText := true, laidKinds := [.data, .data, .data, .data, .sentinel, .sentinel, .data, .wider, .pinned], laidTests := true, laidLooks := .later }
def KeptCardSaid : Prop := Claim7.holds Tryz.pinned (.plain (OpenSpec.ofChange keptSpec)) keptCard

/-- THE TIED CARD OF 'accruelaw.All'. -/
def allCard : Claim7 := { stood := { row := allRow, standIns := [], harness := (true, "8dc7941bd1aa160a54dbc6162b6bb45cd3ac788a7120df20eaddb32d2ba4f3fe"), looks := true }, kinds := [], alts := [], laidByText := true, laidKinds := [.data, .data, .data, .data, .sentinel, .sentinel, .data, .wider, .pinned], laidTests := true, laidLooks := .later }
def AllCardSaid : Prop := Claim7.holds Tryz.pinned (.plain (OpenSpec.ofChange allSpec)) allCard

/-- THE SECOND FORM's CARD OF 'accruelaw.Loans'. -/
def loansUptoCard : Claim7 := { stood := { row := loansUptoRow, standIns := [], harness := (true, "8dc7941bd1aa160a54dbc6162b6bb45cd3ac788a7120df20eaddb32d2ba4f3fe"), looks := true }, kinds := [], alts := [], laidByText := true, laidKinds := [.data, .data, .data, .data, .sentinel, .sentinel, .data, .wider, .pinned], laidTests := true, laidLooks := .later }
def LoansUptoCardSaid : Prop := Claim7.holds Tryz.pinned (.plain (OpenSpec.upto loansSpec)) loansUptoCard

/-- THE SECOND FORM's CARD OF 'accruelaw.Books'. -/
def booksUptoCard : Claim7 := { stood := { row := booksUptoRow, standIns := [], harness := (true, "8dc7941bd1aa160a54dbc6162b6bb45cd3ac788a7120df20eaddb32d2ba4f3fe"), looks := true }, kinds := [], alts := [], laidByText := true, laidKinds := [.data, .data, .data, .data, .sentinel, .sentinel, .data, .wider, .pinned], laidTests := true, laidLooks := .later }
def BooksUptoCardSaid : Prop := Claim7.holds Tryz.pinned (.plain (OpenSpec.upto booksSpec)) booksUptoCard

/-- THE SECOND FORM's CARD OF 'accruelaw.Texts'. -/
def textsUptoCard : Claim7 := { stood := { row := textsUptoRow, standIns := [], harness := (true, "8dc7941bd1aa160a54dbc6162b6bb45cd3ac788a7120df20eaddb32d2ba4f3fe"), looks := true }, kinds := [], alts := [], laidByText := true, laidKinds := [.data, .data, .data, .data, .sentinel, .sentinel, .wider, .pinned], laidTests := true, laidLooks := .later }
def TextsUptoCardSaid : Prop := Claim7.holds Tryz.pinned (.plain (OpenSpec.upto textsSpec)) textsUptoCard

/-- THE SECOND FORM's CARD OF 'accruekeep.Kept'. -/
def keptUptoCard : Claim7 := { stood := { row := keptUptoRow, standIns := [], harness := (true, "8dc7941bd1aa160a54dbc6162b6bb45cd3ac788a7120df20eaddb32d2ba4f3fe"), looks := true }, kinds := [], alts := [], laidByText := true, laidKinds := [.data, .data, .data, .data, .sentinel, .sentinel, .data, .wider, .pinned], laidTests := true, laidLooks := .later }
def KeptUptoCardSaid : Prop := Claim7.holds Tryz.pinned (.plain (OpenSpec.upto keptSpec)) keptUptoCard

/-- THE SECOND FORM's CARD OF 'accruelaw.All'. -/
def allUptoCard : Claim7 := { stood := { row := allUptoRow, standIns := [], harness := (true, "8dc7941bd1aa160a54dbc6162b6bb45cd3ac788a7120df20eaddb32d2ba4f3fe"), looks := true }, kinds := [], alts := [], laidByText := true, laidKinds := [.data, .data, .data, .data, .sentinel, .sentinel, .data, .wider, .pinned], laidTests := true, laidLooks := .later }
def AllUptoCardSaid : Prop := Claim7.holds Tryz.pinned (.plain (OpenSpec.upto allSpec)) allUptoCard
end Rows
end Go.Proofs.YtanndhoimpnhpaaGreatDoor
