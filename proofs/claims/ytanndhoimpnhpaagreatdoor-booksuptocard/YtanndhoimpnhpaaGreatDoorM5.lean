/- Joined by program: CalD, CalR, CalE, LnH, So. -/
import Derived.Test.YtanndhoimpnhpaaGreatDoorM4
import Derived.Deep.QuietTactic
import Derived.BigQuiet
import Derived.WalkSmall
import Derived.Deep.RegionHeld3
import Derived.Deep.CutRange
import Derived.Test.YtanndhoimpnhpaaGreatDoorM1
import Derived.Test.YtanndhoimpnhpaaGreatDoorM3
/- What the document's next, civil, weight and Weight answer. -/
namespace Go.Proofs.YtanndhoimpnhpaaGreatDoor
open Go.ChangeShapes Go.WideShapes Go.ChangeAt Go.RowKit Cal

theorem bcell {W w1 : World} (hb : Below W.heap.size W w1) : (∀ b o, b < W.heap.size → w1.cell? ⟨b, o, none⟩ = W.cell? ⟨b, o, none⟩) ∧ (∀ b o, b < W.heap.size → w1.frozen? ⟨b, o, none⟩ = W.frozen? ⟨b, o, none⟩) :=
  ⟨fun b o h => hb.cell (p := ⟨b, o, none⟩) h, fun b o h => hb.frozen (p := ⟨b, o, none⟩) h⟩



theorem set_twice (w : World) (b o : Nat) (u v : Value) : (w.setCell ⟨b, o, none⟩ u).setCell ⟨b, o, none⟩ v = w.setCell ⟨b, o, none⟩ v := by
  unfold World.setCell
  congr 1
  apply Array.ext
  · simp
  · intro i h1 h2
    simp only [Array.getElem_modify]
    split
    · cases w.heap[i]'(by simpa using h2) <;> simp
    · rfl

set_option maxHeartbeats 400000 in
theorem next_same (y m d : Int) (w : World) (y0 : 1900 ≤ y) (y1 : y ≤ 2200) (m1 : m ≤ 12) (d0 : 1 ≤ d) (h : d < dim y m) :
    Calls Tryz.prog 96 #[.agg #[.int .i64 y, .int .i64 m, .int .i64 d]] w fun e w' => e = .returned (.agg #[.int .i64 y, .int .i64 m, .int .i64 (d + 1)]) ∧ Below w.heap.size w w' := by
  have db := dim_bd y m
  go_enter Tryz.func96, Tryz.ntmps96
  go_wp2
  go_quiet ((go_at_call 118; exact Calls.quiet_of_same (long_any _ _ _ (by omega) (by omega))))
  go_wp2
  refine bodyPost_ret (v := .agg #[.int .i64 y, .int .i64 m, .int .i64 (d + 1)]) (by simp [results, Tryz.results96, go_sem]) rfl ⟨rfl, ?_⟩
  exact (((below_drewN (((Below.refl _ _).alloc (Nat.le_refl _) _).alloc (by simp) _) _).setCell (by simp) _).setCell (by simp) _).setCell (by simp) _

set_option maxHeartbeats 400000 in
theorem next_month (y m d : Int) (w : World) (y0 : 1900 ≤ y) (y1 : y ≤ 2200) (m0 : 1 ≤ m) (m1 : m < 12) (d1 : d ≤ 31) (d0 : 1 ≤ d) (h : ¬ d < dim y m) :
    Calls Tryz.prog 96 #[.agg #[.int .i64 y, .int .i64 m, .int .i64 d]] w fun e w' => e = .returned (.agg #[.int .i64 y, .int .i64 (m + 1), .int .i64 1]) ∧ Below w.heap.size w w' := by
  have db := dim_bd y m
  go_enter Tryz.func96, Tryz.ntmps96
  go_wp2
  go_quiet ((go_at_call 118; exact Calls.quiet_of_same (long_any _ _ _ (by omega) (by omega))))
  go_wp2
  refine bodyPost_ret (v := .agg #[.int .i64 y, .int .i64 (m + 1), .int .i64 1]) (by simp [results, Tryz.results96, go_sem]) rfl ⟨rfl, ?_⟩
  exact (((((below_drewN (((Below.refl _ _).alloc (Nat.le_refl _) _).alloc (by simp) _) _).setCell (by simp) _).setCell (by simp) _).setCell (by simp) _).setCell (by simp) _).setCell (by simp) _

set_option maxHeartbeats 400000 in
theorem next_year (y m d : Int) (w : World) (y0 : 1900 ≤ y) (y1 : y ≤ 2200) (m0 : 12 ≤ m) (m1 : m ≤ 12) (d1 : d ≤ 31) (d0 : 1 ≤ d) (h : ¬ d < dim y m) :
    Calls Tryz.prog 96 #[.agg #[.int .i64 y, .int .i64 m, .int .i64 d]] w fun e w' => e = .returned (.agg #[.int .i64 (y + 1), .int .i64 1, .int .i64 1]) ∧ Below w.heap.size w w' := by
  have db := dim_bd y m
  have ss := set_twice
  go_enter Tryz.func96, Tryz.ntmps96
  go_wp2
  go_quiet ((go_at_call 118; exact Calls.quiet_of_same (long_any _ _ _ (by omega) (by omega))))
  go_wp2
  refine bodyPost_ret (v := .agg #[.int .i64 (y + 1), .int .i64 1, .int .i64 1]) (by simp [results, Tryz.results96, go_sem]) rfl ⟨rfl, ?_⟩
  exact ((((((below_drewN (((Below.refl _ _).alloc (Nat.le_refl _) _).alloc (by simp) _) _).setCell (by simp) _).setCell (by simp) _).setCell (by simp) _).setCell (by simp) _).setCell (by simp) _).setCell (by simp) _

theorem next_any (y m d : Int) (w : World) (h : Ok y m d) :
    Calls Tryz.prog 96 #[.agg #[.int .i64 y, .int .i64 m, .int .i64 d]] w fun e w' => e = .returned (.agg #[.int .i64 (ny y m d), .int .i64 (nm y m d), .int .i64 (nd y m d)]) ∧ Below w.heap.size w w' := by
  obtain ⟨a1, a2, a3, a4, a5, a6⟩ := h
  have db := dim_bd y m
  by_cases h1 : d < dim y m
  · have e1 : ny y m d = y := by simp [ny, h1]
    have e2 : nm y m d = m := by simp [nm, h1]
    have e3 : nd y m d = d + 1 := by simp [nd, h1]
    rw [e1, e2, e3]
    exact next_same y m d w a1 a2 a4 a5 h1
  · by_cases h2 : m < 12
    · have e1 : ny y m d = y := by simp [ny, h1, h2]
      have e2 : nm y m d = m + 1 := by simp [nm, h1, h2]
      have e3 : nd y m d = 1 := by simp [nd, h1]
      rw [e1, e2, e3]
      exact next_month y m d w a1 a2 a3 h2 (by omega) a5 h1
    · have e1 : ny y m d = y + 1 := by simp [ny, h1, h2]
      have e2 : nm y m d = 1 := by simp [nm, h1, h2]
      have e3 : nd y m d = 1 := by simp [nd, h1]
      rw [e1, e2, e3]
      exact next_year y m d w a1 a2 (by omega) a4 (by omega) a5 h1
end Go.Proofs.YtanndhoimpnhpaaGreatDoor

/- What the document's civil answers for every day up to the one behind the last: the date of that number. -/
namespace Go.Proofs.YtanndhoimpnhpaaGreatDoor
open Go.ChangeShapes Go.WideShapes Go.ChangeAt Go.RowKit Cal

theorem dim_two (y : Int) : dim y 2 = 28 + lp y := by simp [dim]

set_option maxHeartbeats 1000000 in
theorem refcivil_any (n : Int) (w : World) (h0 : 0 ≤ n) (h1 : n ≤ 109573) :
    Calls Tryz.prog 94 #[.int .i64 n] w fun e w' => ∃ y m d : Int, e = .returned (.agg #[.int .i64 y, .int .i64 m, .int .i64 d]) ∧ Ok y m d ∧ num y m d = n ∧ Below w.heap.size w w' := by
  have y1 := ys_first
  have Y1 : Hid (ys 1900 = 0) := y1
  clear y1
  go_enter Tryz.func94, Tryz.ntmps94
  go_wp2
  go_loopw [0] (fun t wr => ∃ y : Int, 1900 ≤ y ∧ y ≤ 2200 ∧ ys y ≤ n ∧ t = .int .i64 (n - ys y) ∧ wr = (w.alloc (.cells #[.int .i64 0, .int .i64 0, .int .i64 0] 169)).alloc (.cells #[.int .i64 y, .int .i64 1, .int .i64 1] 169)) (fun t _ => (intOf t).toNat)
  case atStart => exact ⟨1900, by omega, by omega, by rw [Y1.out]; omega, by rw [Y1.out]; simp, rfl⟩
  case round =>
    obtain ⟨y, hy1, hy2, hy3, rfl, rfl⟩ := hrel
    have hl := lp_01 y
    have hb := ys_bd y hy1 (by omega)
    have HS : Hid (ys (y + 1) = ys y + 365 + lp y) := ys_succ y
    have HD : Hid (dim y 2 = 28 + lp y) := dim_two y
    have db := dim_bd y 2
    by_cases hd : 337 + dim y 2 ≤ n - ys y
    · have hlt : y < 2200 := by
        apply Int.not_le.mp
        intro h
        obtain rfl : y = 2200 := by omega
        have := ys_last
        have := HD.out
        omega
      go_wp2_with (go_at_call 118; refine (long_any _ _ _ (by omega) (by omega)).mono ?_; rintro e w' ⟨rfl, rfl⟩)
      go_roundw
      case rel => exact ⟨y + 1, by omega, by omega, by rw [HS.out]; have := HD.out; omega, by rw [HS.out]; have := HD.out; go_num, rfl⟩
      case measure => simp [intOf]; omega
    · have hz : n < ys (y + 1) := by rw [HS.out]; have := HD.out; omega
      go_wp2_with (go_at_call 118; refine (long_any _ _ _ (by omega) (by omega)).mono ?_; rintro e w' ⟨rfl, rfl⟩)
      clear hd db
      go_loopw [0] (fun r wr => ∃ m : Int, 1 ≤ m ∧ m ≤ 12 ∧ 0 ≤ n - ys y - cum y m ∧ r = .int .i64 (n - ys y - cum y m) ∧ wr = (w.alloc (.cells #[.int .i64 0, .int .i64 0, .int .i64 0] 169)).alloc (.cells #[.int .i64 y, .int .i64 m, .int .i64 1] 169)) (fun r _ => (intOf r).toNat)
      case atStart => exact ⟨1, by omega, by omega, by rw [cum_one]; omega, by rw [cum_one]; simp, rfl⟩
      case round =>
        obtain ⟨m, hm1, hm2, hr, rfl, rfl⟩ := hrel
        have cb := cum_bd y m hm1 (by omega)
        have db := dim_bd y m
        have CS : Hid (cum y (m + 1) = cum y m + dim y m) := cum_succ y m hm1 hm2
        by_cases hd : dim y m ≤ n - ys y - cum y m
        · have hm := month_end n y m hm1 hm2 hz hd
          go_wp2_with (go_at_call 118; refine (long_any _ _ _ (by omega) (by omega)).mono ?_; rintro e w' ⟨rfl, rfl⟩)
          go_roundw
          case rel => exact ⟨m + 1, by omega, by omega, by rw [CS.out]; omega, by rw [CS.out]; go_num, rfl⟩
          case measure => simp [intOf]; omega
        · have hv : n - ys y - cum y m < dim y m := by omega
          clear hd
          go_wp2_with (go_at_call 118; refine (long_any _ _ _ (by omega) (by omega)).mono ?_; rintro e w' ⟨rfl, rfl⟩)
          refine bodyPost_ret (v := .agg #[.int .i64 y, .int .i64 m, .int .i64 (n - ys y - cum y m + 1)]) (by simp [results, Tryz.results94, go_sem]) rfl ⟨y, m, _, rfl, ok_mk hy1 hy2 hm1 hm2 (by omega) (by omega), by unfold num; omega, ?_⟩
          exact ((Below.refl _ _).alloc (Nat.le_refl _) _).alloc (by simp) _
end Go.Proofs.YtanndhoimpnhpaaGreatDoor

/- What the document's weight of a day answers. -/
namespace Go.Proofs.YtanndhoimpnhpaaGreatDoor
open Go.ChangeShapes Go.WideShapes Go.ChangeAt Go.RowKit Cal

theorem refweight_one (b y m d : Int) (w : World) (h : ¬ b = 3) :
    Calls Tryz.prog 121 #[.int .i64 b, .agg #[.int .i64 y, .int .i64 m, .int .i64 d]] w fun e w' => e = .returned (.int .i64 1) ∧ Below w.heap.size w w' := by
  go_enter Tryz.func121, Tryz.ntmps121
  go_wp2
  go_ret
  exact ⟨rfl, (Below.refl _ _).alloc (Nat.le_refl _) _⟩

set_option maxHeartbeats 1000000 in
theorem refweight_core (y m d Y M D : Int) (w : World) (y0 : 1900 ≤ y) (y1 : y ≤ 2200) (m0 : 1 ≤ m) (m1 : m ≤ 12) (d0 : 1 ≤ d) (d1 : d ≤ 31) (Y0 : 1900 ≤ Y) (Y1 : Y ≤ 2201) (M0 : 1 ≤ M) (M1 : M ≤ 12) (D0 : 1 ≤ D) (D1 : D ≤ 31)
    (hnext : ∀ w : World, Calls Tryz.prog 96 #[.agg #[.int .i64 y, .int .i64 m, .int .i64 d]] w fun e w' => e = .returned (.agg #[.int .i64 Y, .int .i64 M, .int .i64 D]) ∧ Below w.heap.size w w') :
    Calls Tryz.prog 121 #[.int .i64 3, .agg #[.int .i64 y, .int .i64 m, .int .i64 d]] w fun e w' => e = .returned (.int .i64 (t3 Y M D - t3 y m d)) ∧ Below w.heap.size w w' := by
  by_cases hd : 30 < d
  all_goals
    by_cases hD : 30 < D
    all_goals
      have E : Hid (t3 Y M D - t3 y m d = 360 * (Y - y) + 30 * (M - m) + cap D - cap d) := by unfold t3 Hid; omega
      have C1 : Hid (cap d = if d ≤ 30 then d else 30) := rfl
      have C2 : Hid (cap D = if D ≤ 30 then D else 30) := rfl
      go_enter Tryz.func121, Tryz.ntmps121
      go_wp2_with (go_at_call 96; refine (hnext _).mono ?_; rintro e w1 ⟨rfl, hb⟩; obtain ⟨hc, hf⟩ := bcell hb; have hz : w.heap.size < w1.heap.size := by (have := hb.size; simp at this; omega))
      go_ret
      refine ⟨ret_int (E.out.trans (by rw [C1.out, C2.out]; (repeat' split) <;> omega)).symm, ?_⟩
      have hbw : Below w.heap.size w w1 := ((Below.refl _ _).alloc (Nat.le_refl _) _).trans (hb.mono (by simp))
      first
        | exact hbw.alloc hbw.size _
        | exact (hbw.setCell (Nat.le_refl _) _).alloc (hbw.setCell (Nat.le_refl _) _).size _

theorem refweight_three (y m d : Int) (w : World) (h : Ok y m d) (hn : num y m d ≤ 109572) :
    Calls Tryz.prog 121 #[.int .i64 3, .agg #[.int .i64 y, .int .i64 m, .int .i64 d]] w fun e w' => e = .returned (.int .i64 (t3 (ny y m d) (nm y m d) (nd y m d) - t3 y m d)) ∧ Below w.heap.size w w' := by
  obtain ⟨b1, b2, b3, b4, b5, b6⟩ := next_ok y m d h hn
  have hnx := fun w => next_any y m d w h
  have g1 := dim_bd (ny y m d) (nm y m d)
  have g2 := dim_bd y m
  obtain ⟨a1, a2, a3, a4, a5, a6⟩ := h
  exact refweight_core y m d _ _ _ w a1 a2 a3 a4 a5 (by omega) b1 (by omega) b3 b4 b5 (by omega) hnx
end Go.Proofs.YtanndhoimpnhpaaGreatDoor

/- A day's parts, as the document goes through it. -/
namespace Go.Proofs.YtanndhoimpnhpaaGreatDoor
open Go.ChangeShapes Go.WideShapes Go.ChangeAt Go.RowKit Lg

theorem mk13 (w : World) : (Instr.makeSlice 38 (.int .i64 13) (.int .i64 13)).run Tryz.prog w = .ok (.slice (some ⟨w.heap.size, 0, none⟩) 13 13) (w.alloc (.cells #[.int .i64 0, .int .i64 0, .int .i64 0, .int .i64 0, .int .i64 0, .int .i64 0, .int .i64 0, .int .i64 0, .int .i64 0, .int .i64 0, .int .i64 0, .int .i64 0, .int .i64 0] 3)) := by kernel_rfl
def zero13 : List Value := [.int .i64 0, .int .i64 0, .int .i64 0, .int .i64 0, .int .i64 0, .int .i64 0, .int .i64 0, .int .i64 0, .int .i64 0, .int .i64 0, .int .i64 0, .int .i64 0, .int .i64 0]

/-- The world behind a day's first steps: a box for the date, new amounts. -/
theorem day_world (w : World) (G : Nat) (t : Ln.Terms) (g : Ln.St) (dy : Int) (ev fv av : Value) (cy cm cd : Int) (T1 T2 : TypeId) (hG : At w G (gl t g dy ev fv av)) :
    Gon (((w.setCell ⟨G, 17, none⟩ (.slice (some ⟨w.heap.size + 1, 0, none⟩) 13 13)).alloc (.cells #[.int .i64 cy, .int .i64 cm, .int .i64 cd] T1)).alloc (.cells #[.int .i64 0, .int .i64 0, .int .i64 0, .int .i64 0, .int .i64 0, .int .i64 0, .int .i64 0, .int .i64 0, .int .i64 0, .int .i64 0, .int .i64 0, .int .i64 0, .int .i64 0] T2)) G (w.heap.size + 1) t ⟨g, fun _ => 0⟩ dy ev fv ∧
    At (((w.setCell ⟨G, 17, none⟩ (.slice (some ⟨w.heap.size + 1, 0, none⟩) 13 13)).alloc (.cells #[.int .i64 cy, .int .i64 cm, .int .i64 cd] T1)).alloc (.cells #[.int .i64 0, .int .i64 0, .int .i64 0, .int .i64 0, .int .i64 0, .int .i64 0, .int .i64 0, .int .i64 0, .int .i64 0, .int .i64 0, .int .i64 0, .int .i64 0, .int .i64 0] T2)) w.heap.size [.int .i64 cy, .int .i64 cm, .int .i64 cd] ∧
    Keep (fun b => b = G) w (((w.setCell ⟨G, 17, none⟩ (.slice (some ⟨w.heap.size + 1, 0, none⟩) 13 13)).alloc (.cells #[.int .i64 cy, .int .i64 cm, .int .i64 cd] T1)).alloc (.cells #[.int .i64 0, .int .i64 0, .int .i64 0, .int .i64 0, .int .i64 0, .int .i64 0, .int .i64 0, .int .i64 0, .int .i64 0, .int .i64 0, .int .i64 0, .int .i64 0, .int .i64 0] T2)) ∧
    (((w.setCell ⟨G, 17, none⟩ (.slice (some ⟨w.heap.size + 1, 0, none⟩) 13 13)).alloc (.cells #[.int .i64 cy, .int .i64 cm, .int .i64 cd] T1)).alloc (.cells #[.int .i64 0, .int .i64 0, .int .i64 0, .int .i64 0, .int .i64 0, .int .i64 0, .int .i64 0, .int .i64 0, .int .i64 0, .int .i64 0, .int .i64 0, .int .i64 0, .int .i64 0] T2)).heap.size = w.heap.size + 2 := by
  have hl := hG.lt
  have hs1 : (w.setCell ⟨G, 17, none⟩ (.slice (some ⟨w.heap.size + 1, 0, none⟩) 13 13)).heap.size = w.heap.size := by simp [World.setCell]
  have hg1 : At (w.setCell ⟨G, 17, none⟩ (.slice (some ⟨w.heap.size + 1, 0, none⟩) 13 13)) G (gl t g dy ev fv (.slice (some ⟨w.heap.size + 1, 0, none⟩) 13 13)) := hG.set 17 (show 17 < 18 by decide) _
  have hk1 : Keep (fun b => b = G) w (w.setCell ⟨G, 17, none⟩ (.slice (some ⟨w.heap.size + 1, 0, none⟩) 13 13)) := (Keep.refl (fun b => b = G) w).set (S := fun b => b = G) rfl 17 _
  generalize w.setCell ⟨G, 17, none⟩ (.slice (some ⟨w.heap.size + 1, 0, none⟩) 13 13) = w1 at *
  have hb2 : Below w1.heap.size w1 (w1.alloc (.cells #[.int .i64 cy, .int .i64 cm, .int .i64 cd] T1)) := (Below.refl _ _).alloc (Nat.le_refl _) _
  have ha2 : At (w1.alloc (.cells #[.int .i64 cy, .int .i64 cm, .int .i64 cd] T1)) w1.heap.size [.int .i64 cy, .int .i64 cm, .int .i64 cd] := At.alloc w1 _ T1
  have hs2 : (w1.alloc (.cells #[.int .i64 cy, .int .i64 cm, .int .i64 cd] T1)).heap.size = w1.heap.size + 1 := by simp
  generalize w1.alloc (.cells #[.int .i64 cy, .int .i64 cm, .int .i64 cd] T1) = w2 at *
  have hb3 : Below w2.heap.size w2 (w2.alloc (.cells #[.int .i64 0, .int .i64 0, .int .i64 0, .int .i64 0, .int .i64 0, .int .i64 0, .int .i64 0, .int .i64 0, .int .i64 0, .int .i64 0, .int .i64 0, .int .i64 0, .int .i64 0] T2)) := (Below.refl _ _).alloc (Nat.le_refl _) _
  have ha3 : At (w2.alloc (.cells #[.int .i64 0, .int .i64 0, .int .i64 0, .int .i64 0, .int .i64 0, .int .i64 0, .int .i64 0, .int .i64 0, .int .i64 0, .int .i64 0, .int .i64 0, .int .i64 0, .int .i64 0] T2)) w2.heap.size zero13 := At.alloc w2 zero13 T2
  have hs3 : (w2.alloc (.cells #[.int .i64 0, .int .i64 0, .int .i64 0, .int .i64 0, .int .i64 0, .int .i64 0, .int .i64 0, .int .i64 0, .int .i64 0, .int .i64 0, .int .i64 0, .int .i64 0, .int .i64 0] T2)).heap.size = w2.heap.size + 1 := by simp
  generalize w2.alloc (.cells #[.int .i64 0, .int .i64 0, .int .i64 0, .int .i64 0, .int .i64 0, .int .i64 0, .int .i64 0, .int .i64 0, .int .i64 0, .int .i64 0, .int .i64 0, .int .i64 0, .int .i64 0] T2) = w3 at *
  have e1 : w2.heap.size = w.heap.size + 1 := by omega
  rw [e1] at ha3
  rw [hs1] at ha2
  have k2 : Keep (fun _ => False) w1 w2 := Keep.below hb2
  have k3 : Keep (fun _ => False) w2 w3 := Keep.below hb3
  refine ⟨⟨by omega, ⟨13, (hg1.keep k2 (fun x => x)).keep k3 (fun x => x)⟩, ha3⟩, ha2.keep k3 (fun x => x), (hk1.trans (k2.mono (fun _ _ h => h.elim))).trans (k3.mono (fun _ _ h => h.elim)), by omega⟩

/-- The day's state ahead of event k. -/
def upto (t : Ln.Terms) (n cd : Int) (l : List Ln.Ev) (g : Ln.St) (k : Nat) : Ln.Dy := (l.take k).foldl (Ln.event n) (Ln.early t n cd g)
theorem upto_succ (t : Ln.Terms) (n cd : Int) (l : List Ln.Ev) (g : Ln.St) (k : Nat) (h : k < l.length) : upto t n cd l g (k + 1) = Ln.event n (upto t n cd l g k) l[k] := by
  unfold upto
  rw [List.take_succ_eq_append_getElem h, List.foldl_append]
  rfl

theorem early_start (t : Ln.Terms) (n cd : Int) (g : Ln.St) (h : n = t.st) : Ln.early t n cd g = Ln.enter ⟨g, fun _ => 0⟩ 1 t.pr := by
  unfold Ln.early
  simp [h]
theorem early_none (t : Ln.Terms) (n cd : Int) (g : Ln.St) (h : ¬ n = t.st) (h2 : ¬ (cd = t.du ∧ g.fr ≤ n)) : Ln.early t n cd g = ⟨g, fun _ => 0⟩ := by
  unfold Ln.early
  simp only [h, if_false]
  rw [if_neg (fun x => h2 ⟨x.2.1, x.2.2⟩)]
theorem early_due (t : Ln.Terms) (n cd : Int) (g : Ln.St) (h : ¬ n = t.st) (h2 : cd = t.du) (h3 : g.fr ≤ n) : Ln.early t n cd g = Ln.enter (Ln.enter ⟨g, fun _ => 0⟩ 2 g.du) 3 g.it := by
  unfold Ln.early
  simp only [h, if_false]
  rw [if_pos ⟨h, h2, h3⟩]
  rfl
theorem ev_skip (n : Int) (y : Ln.Dy) (e : Ln.Ev) (h : ¬ e.d = n) : Ln.event n y e = y := by simp [Ln.event, h]
theorem ev_1 (n : Int) (y : Ln.Dy) (e : Ln.Ev) (h : e.d = n) (k : e.k = 1) : Ln.event n y e = Ln.enter y 1 e.a := by simp [Ln.event, h, k]
theorem ev_2 (n : Int) (y : Ln.Dy) (e : Ln.Ev) (h : e.d = n) (k : e.k = 2) : Ln.event n y e = { y with g := { y.g with rt := e.a } } := by simp [Ln.event, h, k]
theorem ev_3 (n : Int) (y : Ln.Dy) (e : Ln.Ev) (h : e.d = n) (k : e.k = 3) (f : y.g.fr < n + e.a) : Ln.event n y e = { y with g := { y.g with fr := n + e.a } } := by simp [Ln.event, h, k, f]
theorem ev_3n (n : Int) (y : Ln.Dy) (e : Ln.Ev) (h : e.d = n) (k : e.k = 3) (f : ¬ y.g.fr < n + e.a) : Ln.event n y e = y := by simp [Ln.event, h, k, f]
theorem ev_4 (n : Int) (y : Ln.Dy) (e : Ln.Ev) (h : e.d = n) (k : e.k = 4) : Ln.event n y e = Ln.enter y 4 y.g.it := by simp [Ln.event, h, k]
theorem ev_5 (n : Int) (y : Ln.Dy) (e : Ln.Ev) (h : e.d = n) (k : e.k = 5) : Ln.event n y e = Ln.pay y e.a := by simp [Ln.event, h, k]
theorem Gon.set {w : World} {G A : Nat} {t : Ln.Terms} {y y' : Ln.Dy} {dy : Int} {ev fv : Value} (h : Gon w G A t y dy ev fv) (i : Nat) (hi : i < 18) (v : Value) (ha : y'.am = y.am) (he : ∀ av, (gl t y.g dy ev fv av).set i v = gl t y'.g dy ev fv av) : Gon (w.setCell ⟨G, i, none⟩ v) G A t y' dy ev fv := by
  obtain ⟨ne, ⟨cap, hg⟩, hA⟩ := h
  refine ⟨ne, ⟨cap, ?_⟩, ?_⟩
  · rw [← he]
    exact hg.set i hi v
  · rw [ha]
    exact hA.other (fun x => ne x.symm) i v
theorem Gon.drewN {w : World} {G A : Nat} {t : Ln.Terms} {y : Ln.Dy} {dy : Int} {ev fv : Value} (h : Gon w G A t y dy ev fv) (n : Nat) : Gon (w.drewN n) G A t y dy ev fv := h.below (below_drewN (Below.refl _ _) n)
theorem Keep.drewN {S : Nat → Prop} {a w : World} (h : Keep S a w) (n : Nat) : Keep S a (w.drewN n) := ⟨h.os, h.tape, h.output, h.size, h.block⟩

/-- The day's first step. -/
def first (t : Ln.Terms) (n : Int) (g : Ln.St) : Ln.Dy := if n = t.st then Ln.enter ⟨g, fun _ => 0⟩ 1 t.pr else ⟨g, fun _ => 0⟩
/-- Does something fall due? -/
def due (t : Ln.Terms) (n cd : Int) (g : Ln.St) : Bool := !(n == t.st) && (cd == t.du) && decide (g.fr ≤ n)
theorem first_fr (t : Ln.Terms) (n : Int) (g : Ln.St) : (first t n g).g.fr = g.fr := by unfold first; split <;> rfl
theorem early_first (t : Ln.Terms) (n cd : Int) (g : Ln.St) (h : due t n cd g = false) : Ln.early t n cd g = first t n g := by
  unfold first
  split
  · rename_i hn
    exact early_start t n cd g hn
  · rename_i hn
    refine early_none t n cd g hn ?_
    intro x
    simp [due, hn, x.1, x.2] at h
theorem early_then (t : Ln.Terms) (n cd : Int) (g : Ln.St) (h : due t n cd g = true) : first t n g = ⟨g, fun _ => 0⟩ ∧ Ln.early t n cd g = Ln.enter (Ln.enter ⟨g, fun _ => 0⟩ 2 g.du) 3 g.it := by
  simp only [due, Bool.and_eq_true, Bool.not_eq_true', beq_eq_false_iff_ne, beq_iff_eq, decide_eq_true_eq] at h
  obtain ⟨⟨h1, h2⟩, h3⟩ := h
  exact ⟨by unfold first; rw [if_neg h1], early_due t n cd g h1 h2 h3⟩

end Go.Proofs.YtanndhoimpnhpaaGreatDoor

/- Events put in order one by one (what is plain lies in Ev). -/
