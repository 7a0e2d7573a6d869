/- What the document's month lengths answer, for every year and month. -/
import Derived.Test.YtanndhoimpnhpaaDoorChecked
import Derived.Test.YtanndhoimpnhpaaDoorCal
import Derived.WalkKit
import Derived.ProofKit
import Derived.OpenShut
import Derived.Below
namespace Go.Proofs.YtanndhoimpnhpaaDoor
open Go.ChangeShapes Go.WideShapes Go.ChangeAt Go.RowKit Cal

theorem ret_int {k : IntKind} {a b : Int} (h : a = b) : Ending.returned (.int k a) = .returned (.int k b) := by rw [h]

theorem long_any (y m : Int) (w : World) (h0 : 0 ≤ y) (h1 : y ≤ 100000) :
    Calls Tryd.prog 55 #[.int .i64 y, .int .i64 m] w fun e w' => e = .returned (.int .i64 (dim y m)) ∧ w' = w := by
  by_cases h2 : m = 2
  · subst h2
    by_cases h4 : y % 4 = 0
    · by_cases h100 : y % 100 = 0
      · by_cases h400 : y % 400 = 0
        all_goals
          have E : Hid (dim y 2 = 28 + (if y % 400 = 0 then 1 else 0)) := by simp [dim, lp, h4, h100, h400, Hid]
          go_enter Tryd.func55, Tryd.ntmps55
          go_wp2
          go_ret
          exact ⟨ret_int (by rw [E.out]; simp [h400]), rfl⟩
      · have n4 : ¬ y % 400 = 0 := by omega
        have E : Hid (dim y 2 = 29) := by simp [dim, lp, h4, h100, Hid]
        go_enter Tryd.func55, Tryd.ntmps55
        go_wp2
        go_ret
        exact ⟨ret_int E.out.symm, rfl⟩
    · have n4 : ¬ y % 400 = 0 := by omega
      have E : Hid (dim y 2 = 28) := by simp [dim, lp, h4, Hid]
      go_enter Tryd.func55, Tryd.ntmps55
      go_wp2
      go_ret
      exact ⟨ret_int E.out.symm, rfl⟩
  · by_cases h30 : m = 4 ∨ m = 6 ∨ m = 9 ∨ m = 11
    · have E : Hid (dim y m = 30) := by simp [dim, h2, h30, Hid]
      rcases h30 with h | h | h | h
      all_goals
        subst h
        go_enter Tryd.func55, Tryd.ntmps55
        go_wp2
        go_ret
        exact ⟨ret_int E.out.symm, rfl⟩
    · have E : Hid (dim y m = 31) := by simp [dim, h2, h30, Hid]
      obtain ⟨a, b, c, d⟩ : ¬ m = 4 ∧ ¬ m = 6 ∧ ¬ m = 9 ∧ ¬ m = 11 := by omega
      clear h30
      go_enter Tryd.func55, Tryd.ntmps55
      go_wp2
      go_ret
      exact ⟨ret_int E.out.symm, rfl⟩
end Go.Proofs.YtanndhoimpnhpaaDoor
