/- What the document's civil answers for every day up to the one behind the last: the date of that number. -/
import Derived.Test.YtanndhoimpnhpaaDoorCalA0
namespace Go.Proofs.YtanndhoimpnhpaaDoor
open Go.ChangeShapes Go.WideShapes Go.ChangeAt Go.RowKit Cal

theorem dim_two (y : Int) : dim y 2 = 28 + lp y := by simp [dim]

set_option maxHeartbeats 1000000 in
theorem refcivil_any (n : Int) (w : World) (h0 : 0 ≤ n) (h1 : n ≤ 109573) :
    Calls Tryd.prog 32 #[.int .i64 n] w fun e w' => ∃ y m d : Int, e = .returned (.agg #[.int .i64 y, .int .i64 m, .int .i64 d]) ∧ Ok y m d ∧ num y m d = n ∧ Below w.heap.size w w' := by
  have y1 := ys_first
  have Y1 : Hid (ys 1900 = 0) := y1
  clear y1
  go_enter Tryd.func32, Tryd.ntmps32
  go_wp2
  go_loopw [0] (fun t wr => ∃ y : Int, 1900 ≤ y ∧ y ≤ 2200 ∧ ys y ≤ n ∧ t = .int .i64 (n - ys y) ∧ wr = (w.alloc (.cells #[.int .i64 0, .int .i64 0, .int .i64 0] 69)).alloc (.cells #[.int .i64 y, .int .i64 1, .int .i64 1] 69)) (fun t _ => (intOf t).toNat)
  case atStart => exact ⟨1900, by omega, by omega, by rw [Y1.out]; omega, by rw [Y1.out]; simp, rfl⟩
  case round =>
    obtain ⟨y, hy1, hy2, hy3, rfl, rfl⟩ := hrel
    have hl := lp_01 y
    have hb := ys_bd y hy1 (by omega)
    have HS : Hid (ys (y + 1) = ys y + 365 + lp y) := ys_succ y
    have HD : Hid (dim y 2 = 28 + lp y) := dim_two y
    have db := dim_bd y 2
    by_cases hd : 337 + dim y 2 ≤ n - ys y
    · have hlt : y < 2200 := by
        apply Int.not_le.mp
        intro h
        obtain rfl : y = 2200 := by omega
        have := ys_last
        have := HD.out
        omega
      go_wp2_with (go_at_call 55; refine (long_any _ _ _ (by omega) (by omega)).mono ?_; rintro e w' ⟨rfl, rfl⟩)
      go_roundw
      case rel => exact ⟨y + 1, by omega, by omega, by rw [HS.out]; have := HD.out; omega, by rw [HS.out]; have := HD.out; go_num, rfl⟩
      case measure => simp [intOf]; omega
    · have hz : n < ys (y + 1) := by rw [HS.out]; have := HD.out; omega
      go_wp2_with (go_at_call 55; refine (long_any _ _ _ (by omega) (by omega)).mono ?_; rintro e w' ⟨rfl, rfl⟩)
      clear hd db
      go_loopw [0] (fun r wr => ∃ m : Int, 1 ≤ m ∧ m ≤ 12 ∧ 0 ≤ n - ys y - cum y m ∧ r = .int .i64 (n - ys y - cum y m) ∧ wr = (w.alloc (.cells #[.int .i64 0, .int .i64 0, .int .i64 0] 69)).alloc (.cells #[.int .i64 y, .int .i64 m, .int .i64 1] 69)) (fun r _ => (intOf r).toNat)
      case atStart => exact ⟨1, by omega, by omega, by rw [cum_one]; omega, by rw [cum_one]; simp, rfl⟩
      case round =>
        obtain ⟨m, hm1, hm2, hr, rfl, rfl⟩ := hrel
        have cb := cum_bd y m hm1 (by omega)
        have db := dim_bd y m
        have CS : Hid (cum y (m + 1) = cum y m + dim y m) := cum_succ y m hm1 hm2
        by_cases hd : dim y m ≤ n - ys y - cum y m
        · have hm := month_end n y m hm1 hm2 hz hd
          go_wp2_with (go_at_call 55; refine (long_any _ _ _ (by omega) (by omega)).mono ?_; rintro e w' ⟨rfl, rfl⟩)
          go_roundw
          case rel => exact ⟨m + 1, by omega, by omega, by rw [CS.out]; omega, by rw [CS.out]; go_num, rfl⟩
          case measure => simp [intOf]; omega
        · have hv : n - ys y - cum y m < dim y m := by omega
          clear hd
          go_wp2_with (go_at_call 55; refine (long_any _ _ _ (by omega) (by omega)).mono ?_; rintro e w' ⟨rfl, rfl⟩)
          refine bodyPost_ret (v := .agg #[.int .i64 y, .int .i64 m, .int .i64 (n - ys y - cum y m + 1)]) (by simp [results, Tryd.results32, go_sem]) rfl ⟨y, m, _, rfl, ok_mk hy1 hy2 hm1 hm2 (by omega) (by omega), by unfold num; omega, ?_⟩
          exact ((Below.refl _ _).alloc (Nat.le_refl _) _).alloc (by simp) _
end Go.Proofs.YtanndhoimpnhpaaDoor
