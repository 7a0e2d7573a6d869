/- What the document's weight of a day answers. -/
import Derived.Test.YtanndhoimpnhpaaCalD
import Derived.Test.YtanndhoimpnhpaaCalR
namespace Go.Proofs.Ytanndhoimpnhpaa
open Go.ChangeShapes Go.WideShapes Go.ChangeAt Go.RowKit Cal

theorem refweight_one (b y m d : Int) (w : World) (h : ¬ b = 3) :
    Calls Try.prog 15 #[.int .i64 b, .agg #[.int .i64 y, .int .i64 m, .int .i64 d]] w fun e w' => e = .returned (.int .i64 1) ∧ Below w.heap.size w w' := by
  go_enter Try.func15, Try.ntmps15
  go_wp2
  go_ret
  exact ⟨rfl, (Below.refl _ _).alloc (Nat.le_refl _) _⟩

set_option maxHeartbeats 1000000 in
theorem refweight_core (y m d Y M D : Int) (w : World) (y0 : 1900 ≤ y) (y1 : y ≤ 2200) (m0 : 1 ≤ m) (m1 : m ≤ 12) (d0 : 1 ≤ d) (d1 : d ≤ 31) (Y0 : 1900 ≤ Y) (Y1 : Y ≤ 2201) (M0 : 1 ≤ M) (M1 : M ≤ 12) (D0 : 1 ≤ D) (D1 : D ≤ 31)
    (hnext : ∀ w : World, Calls Try.prog 16 #[.agg #[.int .i64 y, .int .i64 m, .int .i64 d]] w fun e w' => e = .returned (.agg #[.int .i64 Y, .int .i64 M, .int .i64 D]) ∧ Below w.heap.size w w') :
    Calls Try.prog 15 #[.int .i64 3, .agg #[.int .i64 y, .int .i64 m, .int .i64 d]] w fun e w' => e = .returned (.int .i64 (t3 Y M D - t3 y m d)) ∧ Below w.heap.size w w' := by
  by_cases hd : 30 < d
  all_goals
    by_cases hD : 30 < D
    all_goals
      have E : Hid (t3 Y M D - t3 y m d = 360 * (Y - y) + 30 * (M - m) + cap D - cap d) := by unfold t3 Hid; omega
      have C1 : Hid (cap d = if d ≤ 30 then d else 30) := rfl
      have C2 : Hid (cap D = if D ≤ 30 then D else 30) := rfl
      go_enter Try.func15, Try.ntmps15
      go_wp2_with (go_at_call 16; refine (hnext _).mono ?_; rintro e w1 ⟨rfl, hb⟩; obtain ⟨hc, hf⟩ := bcell hb; have hz : w.heap.size < w1.heap.size := by (have := hb.size; simp at this; omega))
      go_ret
      refine ⟨ret_int (E.out.trans (by rw [C1.out, C2.out]; (repeat' split) <;> omega)).symm, ?_⟩
      have hbw : Below w.heap.size w w1 := ((Below.refl _ _).alloc (Nat.le_refl _) _).trans (hb.mono (by simp))
      first
        | exact hbw.alloc hbw.size _
        | exact (hbw.setCell (Nat.le_refl _) _).alloc (hbw.setCell (Nat.le_refl _) _).size _

theorem refweight_three (y m d : Int) (w : World) (h : Ok y m d) (hn : num y m d ≤ 109572) :
    Calls Try.prog 15 #[.int .i64 3, .agg #[.int .i64 y, .int .i64 m, .int .i64 d]] w fun e w' => e = .returned (.int .i64 (t3 (ny y m d) (nm y m d) (nd y m d) - t3 y m d)) ∧ Below w.heap.size w w' := by
  obtain ⟨b1, b2, b3, b4, b5, b6⟩ := next_ok y m d h hn
  have hnx := fun w => next_any y m d w h
  have g1 := dim_bd (ny y m d) (nm y m d)
  have g2 := dim_bd y m
  obtain ⟨a1, a2, a3, a4, a5, a6⟩ := h
  exact refweight_core y m d _ _ _ w a1 a2 a3 a4 a5 (by omega) b1 (by omega) b3 b4 b5 (by omega) hnx
end Go.Proofs.Ytanndhoimpnhpaa
