/- What the program's month lengths and year starts answer, for every year and month. -/
import Derived.Test.YtanndhoimpnhpaaDoorCalA0
namespace Go.Proofs.YtanndhoimpnhpaaDoor
open Go.ChangeShapes Go.WideShapes Go.ChangeAt Go.RowKit Cal

theorem isLeap_any (y : Int) (w : World) (h0 : 0 ≤ y) (h1 : y ≤ 100000) :
    Calls Tryd.prog 90 #[.int .i64 y] w fun e w' => e = .returned (.bool (lp y == 1)) ∧ w' = w := by
  by_cases h4 : y % 4 = 0
  · by_cases h100 : y % 100 = 0
    · by_cases h400 : y % 400 = 0
      all_goals
        have e : (lp y == 1) = decide (y % 400 = 0) := by simp [lp, h4, h100, h400]
        go_enter Tryd.func90, Tryd.ntmps90
        go_wp2
        go_ret
        exact ⟨by simp [e, h400], rfl⟩
    · have e : (lp y == 1) = true := by simp [lp, h4, h100]
      go_enter Tryd.func90, Tryd.ntmps90
      go_wp2
      go_ret
      exact ⟨by simp [e], rfl⟩
  · have e : (lp y == 1) = false := by simp [lp, h4]
    go_enter Tryd.func90, Tryd.ntmps90
    go_wp2
    go_ret
    exact ⟨by simp [e], rfl⟩

theorem monthLength_any (y m : Int) (w : World) (h0 : 0 ≤ y) (h1 : y ≤ 100000) :
    Calls Tryd.prog 76 #[.int .i64 y, .int .i64 m] w fun e w' => e = .returned (.int .i64 (dim y m)) ∧ w' = w := by
  by_cases h2 : m = 2
  · subst h2
    have e : dim y 2 = 28 + lp y := by simp [dim]
    have E : Hid (dim y 2 = 28 + lp y) := e
    clear e
    rcases (show lp y = 0 ∨ lp y = 1 by have := lp_01 y; omega) with hl | hl
    all_goals
      go_enter Tryd.func76, Tryd.ntmps76
      go_wp2_with (go_at_call 90; refine (isLeap_any _ _ (by omega) (by omega)).mono ?_; rintro e w' ⟨rfl, rfl⟩; rw [hl])
      go_ret
      exact ⟨ret_int (by rw [E.out, hl]; rfl), rfl⟩
  · by_cases h30 : m = 4 ∨ m = 6 ∨ m = 9 ∨ m = 11
    · have e : dim y m = 30 := by simp [dim, h2, h30]
      have E : Hid (dim y m = 30) := e
      clear e
      rcases h30 with h | h | h | h
      all_goals
        subst h
        go_enter Tryd.func76, Tryd.ntmps76
        go_wp2
        go_ret
        exact ⟨ret_int E.out.symm, rfl⟩
    · have e : dim y m = 31 := by simp [dim, h2, h30]
      have E : Hid (dim y m = 31) := e
      clear e
      obtain ⟨a, b, c, d⟩ : ¬ m = 4 ∧ ¬ m = 6 ∧ ¬ m = 9 ∧ ¬ m = 11 := by omega
      clear h30
      go_enter Tryd.func76, Tryd.ntmps76
      go_wp2
      go_ret
      exact ⟨ret_int E.out.symm, rfl⟩

theorem yearStart_any (y : Int) (w : World) (h0 : 1 ≤ y) (h1 : y ≤ 100000) :
    Calls Tryd.prog 75 #[.int .i64 y] w fun e w' => e = .returned (.int .i64 (ys y)) ∧ w' = w := by
  go_enter Tryd.func75, Tryd.ntmps75
  go_wp2
  go_ret
  exact ⟨ret_int (by simp only [ys]), rfl⟩
end Go.Proofs.YtanndhoimpnhpaaDoor
