/- What the program's civilOf answers for every day up to the one behind the last: the date of that number. -/
import Derived.Test.YtanndhoimpnhpaaDoorCalA
namespace Go.Proofs.YtanndhoimpnhpaaDoor
open Go.ChangeShapes Go.WideShapes Go.ChangeAt Go.RowKit Cal

set_option maxHeartbeats 1000000 in
theorem civilOf_any (n : Int) (w : World) (h0 : 0 ≤ n) (h1 : n ≤ 109573) :
    Calls Tryd.prog 57 #[.int .i64 n] w fun e w' => ∃ y m d : Int, e = .returned (.agg #[.int .i64 y, .int .i64 m, .int .i64 d]) ∧ Ok y m d ∧ num y m d = n ∧ Below w.heap.size w w' := by
  have g0 := ys_guess n h0
  go_enter Tryd.func57, Tryd.ntmps57
  go_wp2
  go_loop [3] (fun t => ∃ y : Int, 1900 ≤ y ∧ y ≤ 2200 ∧ ys y ≤ n ∧ t = .int .i64 y) (fun t => (2200 - intOf t).toNat)
  case atStart => exact ⟨_, by omega, by omega, g0, rfl⟩
  case round =>
    obtain ⟨y, hy1, hy2, hy3, rfl⟩ := hrel
    clear g0
    have hs := ys_succ y
    have hl := lp_01 y
    have hb := ys_bd y hy1 (by omega)
    have HS : Hid (ys (y + 1) = ys y + 365 + lp y) := hs
    clear hs
    by_cases hd : ys (y + 1) ≤ n
    · have hlt : y < 2200 := by
        apply Int.not_le.mp
        intro h
        obtain rfl : y = 2200 := by omega
        have := ys_last
        have := HS.out
        omega
      go_wp2_with (go_at_call 75; refine (yearStart_any _ _ (by omega) (by omega)).mono ?_; rintro e w' ⟨rfl, rfl⟩)
      go_round
      case rel => exact ⟨y + 1, by omega, by omega, hd, rfl⟩
      case measure => simp [intOf]; omega
    · have hz : n < ys (y + 1) := by omega
      clear hd
      go_wp2_with (go_at_call 75; refine (yearStart_any _ _ (by omega) (by omega)).mono ?_; rintro e w' ⟨rfl, rfl⟩)
      go_loop [4, 5] (fun r k => ∃ m : Int, 1 ≤ m ∧ m ≤ 12 ∧ k = .int .i64 m ∧ 0 ≤ n - ys y - cum y m ∧ r = .int .i64 (n - ys y - cum y m)) (fun _ k => (12 - intOf k).toNat)
      case atStart => exact ⟨1, by omega, by omega, rfl, by rw [cum_one]; omega, by rw [cum_one]; simp⟩
      case round =>
        obtain ⟨m, hm1, hm2, rfl, hr, rfl⟩ := hrel
        have cb := cum_bd y m hm1 (by omega)
        have db := dim_bd y m
        have CS : Hid (cum y (m + 1) = cum y m + dim y m) := cum_succ y m hm1 hm2
        by_cases hd : dim y m ≤ n - ys y - cum y m
        · have hm := month_end n y m hm1 hm2 hz hd
          go_wp2_with (go_at_call 76; refine (monthLength_any _ _ _ (by omega) (by omega)).mono ?_; rintro e w' ⟨rfl, rfl⟩)
          go_round
          case rel => exact ⟨m + 1, by omega, by omega, rfl, by rw [CS.out]; omega, by rw [CS.out]; go_num⟩
          case measure => simp [intOf]; omega
        · have hv : n - ys y - cum y m < dim y m := by omega
          clear hd
          go_wp2_with (go_at_call 76; refine (monthLength_any _ _ _ (by omega) (by omega)).mono ?_; rintro e w' ⟨rfl, rfl⟩)
          refine bodyPost_ret (v := .agg #[.int .i64 y, .int .i64 m, .int .i64 (n - ys y - cum y m + 1)]) (by simp [results, Tryd.results57, go_sem]) rfl ⟨y, m, _, rfl, ok_mk hy1 hy2 hm1 hm2 (by omega) (by omega), by unfold num; omega, ?_⟩
          exact (Below.refl _ _).alloc (Nat.le_refl _) _
end Go.Proofs.YtanndhoimpnhpaaDoor
