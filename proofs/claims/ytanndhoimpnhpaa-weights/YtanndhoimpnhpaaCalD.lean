/- What the document's next, civil, weight and Weight answer. -/
import Derived.Test.YtanndhoimpnhpaaCalA0
import Derived.Deep.QuietTactic
import Derived.BigQuiet
import Derived.WalkSmall
namespace Go.Proofs.Ytanndhoimpnhpaa
open Go.ChangeShapes Go.WideShapes Go.ChangeAt Go.RowKit Cal

theorem bcell {W w1 : World} (hb : Below W.heap.size W w1) : (∀ b o, b < W.heap.size → w1.cell? ⟨b, o, none⟩ = W.cell? ⟨b, o, none⟩) ∧ (∀ b o, b < W.heap.size → w1.frozen? ⟨b, o, none⟩ = W.frozen? ⟨b, o, none⟩) :=
  ⟨fun b o h => hb.cell (p := ⟨b, o, none⟩) h, fun b o h => hb.frozen (p := ⟨b, o, none⟩) h⟩



theorem set_twice (w : World) (b o : Nat) (u v : Value) : (w.setCell ⟨b, o, none⟩ u).setCell ⟨b, o, none⟩ v = w.setCell ⟨b, o, none⟩ v := by
  unfold World.setCell
  congr 1
  apply Array.ext
  · simp
  · intro i h1 h2
    simp only [Array.getElem_modify]
    split
    · cases w.heap[i]'(by simpa using h2) <;> simp
    · rfl

set_option maxHeartbeats 400000 in
theorem next_same (y m d : Int) (w : World) (y0 : 1900 ≤ y) (y1 : y ≤ 2200) (m1 : m ≤ 12) (d0 : 1 ≤ d) (h : d < dim y m) :
    Calls Try.prog 16 #[.agg #[.int .i64 y, .int .i64 m, .int .i64 d]] w fun e w' => e = .returned (.agg #[.int .i64 y, .int .i64 m, .int .i64 (d + 1)]) ∧ Below w.heap.size w w' := by
  have db := dim_bd y m
  go_enter Try.func16, Try.ntmps16
  go_wp2
  go_quiet ((go_at_call 9; exact Calls.quiet_of_same (long_any _ _ _ (by omega) (by omega))))
  go_wp2
  refine bodyPost_ret (v := .agg #[.int .i64 y, .int .i64 m, .int .i64 (d + 1)]) (by simp [results, Try.results16, go_sem]) rfl ⟨rfl, ?_⟩
  exact (((below_drewN (((Below.refl _ _).alloc (Nat.le_refl _) _).alloc (by simp) _) _).setCell (by simp) _).setCell (by simp) _).setCell (by simp) _

set_option maxHeartbeats 400000 in
theorem next_month (y m d : Int) (w : World) (y0 : 1900 ≤ y) (y1 : y ≤ 2200) (m0 : 1 ≤ m) (m1 : m < 12) (d1 : d ≤ 31) (d0 : 1 ≤ d) (h : ¬ d < dim y m) :
    Calls Try.prog 16 #[.agg #[.int .i64 y, .int .i64 m, .int .i64 d]] w fun e w' => e = .returned (.agg #[.int .i64 y, .int .i64 (m + 1), .int .i64 1]) ∧ Below w.heap.size w w' := by
  have db := dim_bd y m
  go_enter Try.func16, Try.ntmps16
  go_wp2
  go_quiet ((go_at_call 9; exact Calls.quiet_of_same (long_any _ _ _ (by omega) (by omega))))
  go_wp2
  refine bodyPost_ret (v := .agg #[.int .i64 y, .int .i64 (m + 1), .int .i64 1]) (by simp [results, Try.results16, go_sem]) rfl ⟨rfl, ?_⟩
  exact (((((below_drewN (((Below.refl _ _).alloc (Nat.le_refl _) _).alloc (by simp) _) _).setCell (by simp) _).setCell (by simp) _).setCell (by simp) _).setCell (by simp) _).setCell (by simp) _

set_option maxHeartbeats 400000 in
theorem next_year (y m d : Int) (w : World) (y0 : 1900 ≤ y) (y1 : y ≤ 2200) (m0 : 12 ≤ m) (m1 : m ≤ 12) (d1 : d ≤ 31) (d0 : 1 ≤ d) (h : ¬ d < dim y m) :
    Calls Try.prog 16 #[.agg #[.int .i64 y, .int .i64 m, .int .i64 d]] w fun e w' => e = .returned (.agg #[.int .i64 (y + 1), .int .i64 1, .int .i64 1]) ∧ Below w.heap.size w w' := by
  have db := dim_bd y m
  have ss := set_twice
  go_enter Try.func16, Try.ntmps16
  go_wp2
  go_quiet ((go_at_call 9; exact Calls.quiet_of_same (long_any _ _ _ (by omega) (by omega))))
  go_wp2
  refine bodyPost_ret (v := .agg #[.int .i64 (y + 1), .int .i64 1, .int .i64 1]) (by simp [results, Try.results16, go_sem]) rfl ⟨rfl, ?_⟩
  exact ((((((below_drewN (((Below.refl _ _).alloc (Nat.le_refl _) _).alloc (by simp) _) _).setCell (by simp) _).setCell (by simp) _).setCell (by simp) _).setCell (by simp) _).setCell (by simp) _).setCell (by simp) _

theorem next_any (y m d : Int) (w : World) (h : Ok y m d) :
    Calls Try.prog 16 #[.agg #[.int .i64 y, .int .i64 m, .int .i64 d]] w fun e w' => e = .returned (.agg #[.int .i64 (ny y m d), .int .i64 (nm y m d), .int .i64 (nd y m d)]) ∧ Below w.heap.size w w' := by
  obtain ⟨a1, a2, a3, a4, a5, a6⟩ := h
  have db := dim_bd y m
  by_cases h1 : d < dim y m
  · have e1 : ny y m d = y := by simp [ny, h1]
    have e2 : nm y m d = m := by simp [nm, h1]
    have e3 : nd y m d = d + 1 := by simp [nd, h1]
    rw [e1, e2, e3]
    exact next_same y m d w a1 a2 a4 a5 h1
  · by_cases h2 : m < 12
    · have e1 : ny y m d = y := by simp [ny, h1, h2]
      have e2 : nm y m d = m + 1 := by simp [nm, h1, h2]
      have e3 : nd y m d = 1 := by simp [nd, h1]
      rw [e1, e2, e3]
      exact next_month y m d w a1 a2 a3 h2 (by omega) a5 h1
    · have e1 : ny y m d = y + 1 := by simp [ny, h1, h2]
      have e2 : nm y m d = 1 := by simp [nm, h1, h2]
      have e3 : nd y m d = 1 := by simp [nd, h1]
      rw [e1, e2, e3]
      exact next_year y m d w a1 a2 (by omega) a4 (by omega) a5 h1
end Go.Proofs.Ytanndhoimpnhpaa
