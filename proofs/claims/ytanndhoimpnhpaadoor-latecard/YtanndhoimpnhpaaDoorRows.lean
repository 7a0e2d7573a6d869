/-
  NARROWER THAN 'FOR EVERY INPUT', by the rows' own cells (each row's printed sentence says how): Dates: laid · Calendar: laid · Flat: laid · Cut: laid · Late: laid · Balanced: laid.
  DERIVED. THE GIVEN ROWS OF THIS SEAT. 6 by the template 'for every input the law returns true; each argument reads behind the call as it read before'; 0 by the template 'total and deterministic' (their statements: YtanndhoimpnhpaaDoorTotals.lean).
  GIVEN WITH THE SEED: the statements are not yours to turn. If you find one false, say at which input.
  Laid BY PROGRAM, IN A SANDBOX (cutbox-rows.mjs): the forced cells as the released guide's own fill.sh prints them over the translation 6d04a8b4850a16ad… (all of the seat's roots in one cut). By AI agents, Wed Nov 11 2026. No macro, syntax, notation, axiom, sorry.
-/
import Derived.Test.YtanndhoimpnhpaaDoorChecked
import GoSem.Claim
import GoSem.ClaimJoined
import GoSem.ClaimMapViews
import Derived.JoinedTies
import Derived.KernelRfl
namespace Go.Proofs.YtanndhoimpnhpaaDoor
/- THE CELL 'sum', in the pinned program and in every row, IS THE sha256 OF THE DUMP (.gsa) THAT YtanndhoimpnhpaaDoorProg.lean LOADS. Nothing in Lean hashes anything: it is a label: what it is worth is what the hold of that sum in a sandbox is worth. -/
noncomputable def Tryd.pinned : Pinned := { name := "ytanndhoimpnhpaadoor", sum := "6d04a8b4850a16ad3b163b9a3956d82d00b7ef0bba2fd1870777d14b5d6deff3", checked := Tryd.checked }
namespace Rows
def none {H : Type} : Left H := { results := [], args := [] }

/- WHAT THE LISTED PACKAGE-LEVEL VARIABLES READ AS WHEN THE CALL BEGINS. Each datum BY PROGRAM (the guide's laid-datum.mjs) off the statement by which the dump's own 'gosem.cut.vars' lays the variable. In a bare row this is a premise. The card (YtanndhoimpnhpaaDoorCards.lean) ties it to the program's text. -/
def laid_math_bits_deBruijn32tab {H : Type} : DataW H := .agg [.lit (.int .u8 0), .lit (.int .u8 1), .lit (.int .u8 28), .lit (.int .u8 2), .lit (.int .u8 29), .lit (.int .u8 14), .lit (.int .u8 24), .lit (.int .u8 3), .lit (.int .u8 30), .lit (.int .u8 22), .lit (.int .u8 20), .lit (.int .u8 15), .lit (.int .u8 25), .lit (.int .u8 17), .lit (.int .u8 4), .lit (.int .u8 8), .lit (.int .u8 31), .lit (.int .u8 27), .lit (.int .u8 13), .lit (.int .u8 23), .lit (.int .u8 21), .lit (.int .u8 19), .lit (.int .u8 16), .lit (.int .u8 7), .lit (.int .u8 26), .lit (.int .u8 12), .lit (.int .u8 18), .lit (.int .u8 6), .lit (.int .u8 11), .lit (.int .u8 5), .lit (.int .u8 10), .lit (.int .u8 9)]
def laid_math_bits_deBruijn64tab {H : Type} : DataW H := .agg [.lit (.int .u8 0), .lit (.int .u8 1), .lit (.int .u8 56), .lit (.int .u8 2), .lit (.int .u8 57), .lit (.int .u8 49), .lit (.int .u8 28), .lit (.int .u8 3), .lit (.int .u8 61), .lit (.int .u8 58), .lit (.int .u8 42), .lit (.int .u8 50), .lit (.int .u8 38), .lit (.int .u8 29), .lit (.int .u8 17), .lit (.int .u8 4), .lit (.int .u8 62), .lit (.int .u8 47), .lit (.int .u8 59), .lit (.int .u8 36), .lit (.int .u8 45), .lit (.int .u8 43), .lit (.int .u8 51), .lit (.int .u8 22), .lit (.int .u8 53), .lit (.int .u8 39), .lit (.int .u8 33), .lit (.int .u8 30), .lit (.int .u8 24), .lit (.int .u8 18), .lit (.int .u8 12), .lit (.int .u8 5), .lit (.int .u8 63), .lit (.int .u8 55), .lit (.int .u8 48), .lit (.int .u8 27), .lit (.int .u8 60), .lit (.int .u8 41), .lit (.int .u8 37), .lit (.int .u8 16), .lit (.int .u8 46), .lit (.int .u8 35), .lit (.int .u8 44), .lit (.int .u8 21), .lit (.int .u8 52), .lit (.int .u8 32), .lit (.int .u8 23), .lit (.int .u8 11), .lit (.int .u8 54), .lit (.int .u8 26), .lit (.int .u8 40), .lit (.int .u8 15), .lit (.int .u8 34), .lit (.int .u8 20), .lit (.int .u8 31), .lit (.int .u8 10), .lit (.int .u8 25), .lit (.int .u8 14), .lit (.int .u8 19), .lit (.int .u8 9), .lit (.int .u8 13), .lit (.int .u8 8), .lit (.int .u8 7), .lit (.int .u8 6)]
def laid_internal_strconv_uint64pow10 {H : Type} : DataW H := .agg [.lit (.int .u64 1), .lit (.int .u64 10), .lit (.int .u64 100), .lit (.int .u64 1000), .lit (.int .u64 10000), .lit (.int .u64 100000), .lit (.int .u64 1000000), .lit (.int .u64 10000000), .lit (.int .u64 100000000), .lit (.int .u64 1000000000), .lit (.int .u64 10000000000), .lit (.int .u64 100000000000), .lit (.int .u64 1000000000000), .lit (.int .u64 10000000000000), .lit (.int .u64 100000000000000), .lit (.int .u64 1000000000000000), .lit (.int .u64 10000000000000000), .lit (.int .u64 100000000000000000), .lit (.int .u64 1000000000000000000), .lit (.int .u64 10000000000000000000)]
def laid_accrue_owed_moves {H : Type} : DataW H := .agg [.agg [.lit (.int .i64 0), .lit (.int .i64 0)], .agg [.lit (.int .i64 1), .lit (.int .i64 0)], .agg [.lit (.int .i64 4), .lit (.int .i64 3)], .agg [.lit (.int .i64 3), .lit (.int .i64 2)], .agg [.lit (.int .i64 1), .lit (.int .i64 2)], .agg [.lit (.int .i64 0), .lit (.int .i64 5)], .agg [.lit (.int .i64 0), .lit (.int .i64 4)], .agg [.lit (.int .i64 0), .lit (.int .i64 3)], .agg [.lit (.int .i64 0), .lit (.int .i64 2)], .agg [.lit (.int .i64 0), .lit (.int .i64 1)], .agg [.lit (.int .i64 0), .lit (.int .i64 6)], .agg [.lit (.int .i64 2), .lit (.int .i64 7)], .agg [.lit (.int .i64 5), .lit (.int .i64 8)]]
def laid_accrue_accrue_amountLimits {H : Type} : DataW H := .agg [.agg [.lit (.int .i64 0), .lit (.int .i64 0)], .agg [.lit (.int .i64 1), .lit (.int .i64 100000000000)], .agg [.lit (.int .i64 0), .lit (.int .i64 1000000)], .agg [.lit (.int .i64 1), .lit (.int .i64 400)], .agg [.lit (.int .i64 0), .lit (.int .i64 0)], .agg [.lit (.int .i64 1), .lit (.int .i64 100000000000)]]

/-- 'accruelaw.Dates': WHATEVER THE INPUT: true; the input reads as it did. -/
def datesSpec : ChangeSpec := { name := "dates", fn := fun _ => fun
  | [d1, d2] => { results := [.lit (.bool true)], args := [d1, d2] }
  | _ => none }
def datesRow : OpenClaim := { program := "ytanndhoimpnhpaadoor", sum := "6d04a8b4850a16ad3b163b9a3956d82d00b7ef0bba2fd1870777d14b5d6deff3", func := "accrue/accruelaw.Dates", spec := "dates", named := ["internal/strconv.uint64pow10", "math/bits.deBruijn32tab", "math/bits.deBruijn64tab"], plainKeys := false, apart := false, laid := [("math/bits.deBruijn32tab", laid_math_bits_deBruijn32tab), ("math/bits.deBruijn64tab", laid_math_bits_deBruijn64tab), ("internal/strconv.uint64pow10", laid_internal_strconv_uint64pow10)] }
def DatesSaid : Prop := datesRow.holds Tryd.pinned (OpenSpec.ofChange datesSpec)

/-- ITS FALSE NEIGHBOUR: 'it returns false'. Refute it at one input. -/
def datesWrong : ChangeSpec := { name := "dates", fn := fun _ => fun
  | [d1, d2] => { results := [.lit (.bool false)], args := [d1, d2] }
  | _ => none }
def DatesWrongFalsely : Prop := datesRow.holds Tryd.pinned (OpenSpec.ofChange datesWrong)

/-- 'accruekeep.Calendar': WHATEVER THE INPUT: true; the input reads as it did. -/
def calendarSpec : ChangeSpec := { name := "calendar", fn := fun _ => fun
  | [d1, d2, d3] => { results := [.lit (.bool true)], args := [d1, d2, d3] }
  | _ => none }
def calendarRow : OpenClaim := { program := "ytanndhoimpnhpaadoor", sum := "6d04a8b4850a16ad3b163b9a3956d82d00b7ef0bba2fd1870777d14b5d6deff3", func := "accrue/accruekeep.Calendar", spec := "calendar", named := ["internal/strconv.uint64pow10", "math/bits.deBruijn32tab", "math/bits.deBruijn64tab"], plainKeys := false, apart := false, laid := [("math/bits.deBruijn32tab", laid_math_bits_deBruijn32tab), ("math/bits.deBruijn64tab", laid_math_bits_deBruijn64tab), ("internal/strconv.uint64pow10", laid_internal_strconv_uint64pow10)] }
def CalendarSaid : Prop := calendarRow.holds Tryd.pinned (OpenSpec.ofChange calendarSpec)

/-- ITS FALSE NEIGHBOUR: 'it returns false'. Refute it at one input. -/
def calendarWrong : ChangeSpec := { name := "calendar", fn := fun _ => fun
  | [d1, d2, d3] => { results := [.lit (.bool false)], args := [d1, d2, d3] }
  | _ => none }
def CalendarWrongFalsely : Prop := calendarRow.holds Tryd.pinned (OpenSpec.ofChange calendarWrong)

/-- 'accruekeep.Flat': WHATEVER THE INPUT: true; the input reads as it did. -/
def flatSpec : ChangeSpec := { name := "flat", fn := fun _ => fun
  | [d1, d2, d3, d4] => { results := [.lit (.bool true)], args := [d1, d2, d3, d4] }
  | _ => none }
def flatRow : OpenClaim := { program := "ytanndhoimpnhpaadoor", sum := "6d04a8b4850a16ad3b163b9a3956d82d00b7ef0bba2fd1870777d14b5d6deff3", func := "accrue/accruekeep.Flat", spec := "flat", inPlace := ["math/bits.Add64"], unfollowed := true, recurses := true, named := ["accrue/owed.moves", "math/bits.divideError", "math/bits.overflowError"], plainKeys := false, apart := false, laid := [("accrue/owed.moves", laid_accrue_owed_moves)] }
def FlatSaid : Prop := flatRow.holds Tryd.pinned (OpenSpec.ofChange flatSpec)

/-- ITS FALSE NEIGHBOUR: 'it returns false'. Refute it at one input. -/
def flatWrong : ChangeSpec := { name := "flat", fn := fun _ => fun
  | [d1, d2, d3, d4] => { results := [.lit (.bool false)], args := [d1, d2, d3, d4] }
  | _ => none }
def FlatWrongFalsely : Prop := flatRow.holds Tryd.pinned (OpenSpec.ofChange flatWrong)

/-- 'accruekeep.Cut': WHATEVER THE INPUT: true; the input reads as it did. -/
def cutSpec : ChangeSpec := { name := "cut", fn := fun _ => fun
  | [d1, d2, d3, d4] => { results := [.lit (.bool true)], args := [d1, d2, d3, d4] }
  | _ => none }
def cutRow : OpenClaim := { program := "ytanndhoimpnhpaadoor", sum := "6d04a8b4850a16ad3b163b9a3956d82d00b7ef0bba2fd1870777d14b5d6deff3", func := "accrue/accruekeep.Cut", spec := "cut", inPlace := ["math/bits.Add64", "slices.overlaps[accrue/api.Event]"], unfollowed := true, recurses := true, named := ["accrue/owed.moves", "math/bits.divideError", "math/bits.overflowError", "accrue/accrue.amountLimits"], plainKeys := false, apart := false, laid := [("accrue/owed.moves", laid_accrue_owed_moves), ("accrue/accrue.amountLimits", laid_accrue_accrue_amountLimits)] }
def CutSaid : Prop := cutRow.holds Tryd.pinned (OpenSpec.ofChange cutSpec)

/-- ITS FALSE NEIGHBOUR: 'it returns false'. Refute it at one input. -/
def cutWrong : ChangeSpec := { name := "cut", fn := fun _ => fun
  | [d1, d2, d3, d4] => { results := [.lit (.bool false)], args := [d1, d2, d3, d4] }
  | _ => none }
def CutWrongFalsely : Prop := cutRow.holds Tryd.pinned (OpenSpec.ofChange cutWrong)

/-- 'accruekeep.Late': WHATEVER THE INPUT: true; the input reads as it did. -/
def lateSpec : ChangeSpec := { name := "late", fn := fun _ => fun
  | [d1, d2, d3, d4] => { results := [.lit (.bool true)], args := [d1, d2, d3, d4] }
  | _ => none }
def lateRow : OpenClaim := { program := "ytanndhoimpnhpaadoor", sum := "6d04a8b4850a16ad3b163b9a3956d82d00b7ef0bba2fd1870777d14b5d6deff3", func := "accrue/accruekeep.Late", spec := "late", inPlace := ["math/bits.Add64", "slices.overlaps[accrue/api.Event]"], unfollowed := true, recurses := true, named := ["accrue/owed.moves", "math/bits.divideError", "math/bits.overflowError", "accrue/accrue.amountLimits"], plainKeys := false, apart := false, laid := [("accrue/owed.moves", laid_accrue_owed_moves), ("accrue/accrue.amountLimits", laid_accrue_accrue_amountLimits)] }
def LateSaid : Prop := lateRow.holds Tryd.pinned (OpenSpec.ofChange lateSpec)

/-- ITS FALSE NEIGHBOUR: 'it returns false'. Refute it at one input. -/
def lateWrong : ChangeSpec := { name := "late", fn := fun _ => fun
  | [d1, d2, d3, d4] => { results := [.lit (.bool false)], args := [d1, d2, d3, d4] }
  | _ => none }
def LateWrongFalsely : Prop := lateRow.holds Tryd.pinned (OpenSpec.ofChange lateWrong)

/-- 'accruekeep.Balanced': WHATEVER THE INPUT: true; the input reads as it did. -/
def balancedSpec : ChangeSpec := { name := "balanced", fn := fun _ => fun
  | [d1, d2, d3] => { results := [.lit (.bool true)], args := [d1, d2, d3] }
  | _ => none }
def balancedRow : OpenClaim := { program := "ytanndhoimpnhpaadoor", sum := "6d04a8b4850a16ad3b163b9a3956d82d00b7ef0bba2fd1870777d14b5d6deff3", func := "accrue/accruekeep.Balanced", spec := "balanced", inPlace := ["math/bits.Add64", "slices.overlaps[accrue/api.Event]"], unfollowed := true, recurses := true, named := ["accrue/owed.moves", "math/bits.divideError", "math/bits.overflowError", "accrue/accrue.amountLimits"], plainKeys := false, apart := false, laid := [("accrue/owed.moves", laid_accrue_owed_moves), ("accrue/accrue.amountLimits", laid_accrue_accrue_amountLimits)] }
def BalancedSaid : Prop := balancedRow.holds Tryd.pinned (OpenSpec.ofChange balancedSpec)

/-- ITS FALSE NEIGHBOUR: 'it returns false'. Refute it at one input. -/
def balancedWrong : ChangeSpec := { name := "balanced", fn := fun _ => fun
  | [d1, d2, d3] => { results := [.lit (.bool false)], args := [d1, d2, d3] }
  | _ => none }
def BalancedWrongFalsely : Prop := balancedRow.holds Tryd.pinned (OpenSpec.ofChange balancedWrong)

/- THE SECOND FORM. 'bulk': how many values and letters a reading holds, each counted each time it is reached (what is shared counts as often as it is met; a slice's spare places count too). A statement '..UptoSaid' is the law's where the arguments, and the package variables that the reading takes, are together of bulk at most 1048576: NARROWER than '..Said'. Prove '..Said' where nothing that the law and all that it calls make is longer than what came in: it says more and counts as full. Else prove '..UptoSaid'. A law counts once. -/
mutual
def uptoBulk {H : Type} : DataW H → Nat
  | .lit (.string bytes) => bytes.length + 1
  | .lit _ => 1
  | .nil => 1
  | .ptr d => uptoBulk d + 1
  | .slice elems spare => uptoBulkAll elems + uptoBulkAll spare + 1
  | .agg parts => uptoBulkAll parts + 1
  | .iface _ d => uptoBulk d + 1
  | .map entries => uptoBulkEntries entries + 1
  | .held _ => 1
def uptoBulkAll {H : Type} : List (DataW H) → Nat
  | [] => 0
  | d :: r => uptoBulk d + uptoBulkAll r
def uptoBulkEntries {H : Type} : List (Lit × DataW H) → Nat
  | [] => 0
  | x :: r => uptoBulkEntry x + uptoBulkEntries r
def uptoBulkEntry {H : Type} : Lit × DataW H → Nat
  | (.string bytes, d) => bytes.length + uptoBulk d + 1
  | (_, d) => uptoBulk d + 1
 end
def uptoSmall : (H : Type) → List (DataW H) → Bool := fun _ ds => decide (uptoBulkAll ds ≤ 1048576)
def OpenSpec.upto (s : _root_.Go.ChangeSpec) : _root_.Go.OpenSpec := { _root_.Go.OpenSpec.ofChange s with cond := some uptoSmall }

/-- 'accruelaw.Dates', WHERE WHAT IT READS IS OF BULK AT MOST 1048576: true; the input reads as it did. -/
def datesUptoRow : OpenClaim := { program := "ytanndhoimpnhpaadoor", sum := "6d04a8b4850a16ad3b163b9a3956d82d00b7ef0bba2fd1870777d14b5d6deff3", func := "accrue/accruelaw.Dates", spec := "dates", named := ["internal/strconv.uint64pow10", "math/bits.deBruijn32tab", "math/bits.deBruijn64tab"], plainKeys := false, apart := false, laid := [("math/bits.deBruijn32tab", laid_math_bits_deBruijn32tab), ("math/bits.deBruijn64tab", laid_math_bits_deBruijn64tab), ("internal/strconv.uint64pow10", laid_internal_strconv_uint64pow10)], narrowed := true }
def DatesUptoSaid : Prop := datesUptoRow.holds Tryd.pinned (OpenSpec.upto datesSpec)

/-- 'accruekeep.Calendar', WHERE WHAT IT READS IS OF BULK AT MOST 1048576: true; the input reads as it did. -/
def calendarUptoRow : OpenClaim := { program := "ytanndhoimpnhpaadoor", sum := "6d04a8b4850a16ad3b163b9a3956d82d00b7ef0bba2fd1870777d14b5d6deff3", func := "accrue/accruekeep.Calendar", spec := "calendar", named := ["internal/strconv.uint64pow10", "math/bits.deBruijn32tab", "math/bits.deBruijn64tab"], plainKeys := false, apart := false, laid := [("math/bits.deBruijn32tab", laid_math_bits_deBruijn32tab), ("math/bits.deBruijn64tab", laid_math_bits_deBruijn64tab), ("internal/strconv.uint64pow10", laid_internal_strconv_uint64pow10)], narrowed := true }
def CalendarUptoSaid : Prop := calendarUptoRow.holds Tryd.pinned (OpenSpec.upto calendarSpec)

/-- 'accruekeep.Flat', WHERE WHAT IT READS IS OF BULK AT MOST 1048576: true; the input reads as it did. -/
def flatUptoRow : OpenClaim := { program := "ytanndhoimpnhpaadoor", sum := "6d04a8b4850a16ad3b163b9a3956d82d00b7ef0bba2fd1870777d14b5d6deff3", func := "accrue/accruekeep.Flat", spec := "flat", inPlace := ["math/bits.Add64"], unfollowed := true, recurses := true, named := ["accrue/owed.moves", "math/bits.divideError", "math/bits.overflowError"], plainKeys := false, apart := false, laid := [("accrue/owed.moves", laid_accrue_owed_moves)], narrowed := true }
def FlatUptoSaid : Prop := flatUptoRow.holds Tryd.pinned (OpenSpec.upto flatSpec)

/-- 'accruekeep.Cut', WHERE WHAT IT READS IS OF BULK AT MOST 1048576: true; the input reads as it did. -/
def cutUptoRow : OpenClaim := { program := "ytanndhoimpnhpaadoor", sum := "6d04a8b4850a16ad3b163b9a3956d82d00b7ef0bba2fd1870777d14b5d6deff3", func := "accrue/accruekeep.Cut", spec := "cut", inPlace := ["math/bits.Add64", "slices.overlaps[accrue/api.Event]"], unfollowed := true, recurses := true, named := ["accrue/owed.moves", "math/bits.divideError", "math/bits.overflowError", "accrue/accrue.amountLimits"], plainKeys := false, apart := false, laid := [("accrue/owed.moves", laid_accrue_owed_moves), ("accrue/accrue.amountLimits", laid_accrue_accrue_amountLimits)], narrowed := true }
def CutUptoSaid : Prop := cutUptoRow.holds Tryd.pinned (OpenSpec.upto cutSpec)

/-- 'accruekeep.Late', WHERE WHAT IT READS IS OF BULK AT MOST 1048576: true; the input reads as it did. -/
def lateUptoRow : OpenClaim := { program := "ytanndhoimpnhpaadoor", sum := "6d04a8b4850a16ad3b163b9a3956d82d00b7ef0bba2fd1870777d14b5d6deff3", func := "accrue/accruekeep.Late", spec := "late", inPlace := ["math/bits.Add64", "slices.overlaps[accrue/api.Event]"], unfollowed := true, recurses := true, named := ["accrue/owed.moves", "math/bits.divideError", "math/bits.overflowError", "accrue/accrue.amountLimits"], plainKeys := false, apart := false, laid := [("accrue/owed.moves", laid_accrue_owed_moves), ("accrue/accrue.amountLimits", laid_accrue_accrue_amountLimits)], narrowed := true }
def LateUptoSaid : Prop := lateUptoRow.holds Tryd.pinned (OpenSpec.upto lateSpec)

/-- 'accruekeep.Balanced', WHERE WHAT IT READS IS OF BULK AT MOST 1048576: true; the input reads as it did. -/
def balancedUptoRow : OpenClaim := { program := "ytanndhoimpnhpaadoor", sum := "6d04a8b4850a16ad3b163b9a3956d82d00b7ef0bba2fd1870777d14b5d6deff3", func := "accrue/accruekeep.Balanced", spec := "balanced", inPlace := ["math/bits.Add64", "slices.overlaps[accrue/api.Event]"], unfollowed := true, recurses := true, named := ["accrue/owed.moves", "math/bits.divideError", "math/bits.overflowError", "accrue/accrue.amountLimits"], plainKeys := false, apart := false, laid := [("accrue/owed.moves", laid_accrue_owed_moves), ("accrue/accrue.amountLimits", laid_accrue_accrue_amountLimits)], narrowed := true }
def BalancedUptoSaid : Prop := balancedUptoRow.holds Tryd.pinned (OpenSpec.upto balancedSpec)

end Rows
end Go.Proofs.YtanndhoimpnhpaaDoor
