/- What the program's digits, isCivil and dayOf answer. -/
import Derived.Test.YtanndhoimpnhpaaDoorCalJ
import Derived.Test.YtanndhoimpnhpaaDoorCalA
import Derived.Deep.QuietTactic
import Derived.BigQuiet
import Derived.WalkSmall
namespace Go.Proofs.YtanndhoimpnhpaaDoor
open Go.ChangeShapes Go.WideShapes Go.ChangeAt Go.RowKit Cal Txt

set_option maxHeartbeats 400000 in
theorem digits_any (s : ByteArray) (w : World) (hs : s.size ≤ 10) :
    Calls Tryd.prog 60 #[.string s] w fun e w' => e = .returned (.tuple #[.int .i64 (dnum s), .bool (dok s)]) ∧ w' = w := by
  go_enter Tryd.func60, Tryd.ntmps60
  go_wp2
  go_loop [4, 8] (fun n i => ∃ k : Nat, k ≤ s.size ∧ i = .int .i64 k ∧ n = .int .i64 (dval (s.data.toList.take k)) ∧ allD (s.data.toList.take k) = true) (fun _ i => s.size - (intOf i).toNat)
  case atStart => exact ⟨0, Nat.zero_le _, rfl, rfl, rfl⟩
  case round =>
    obtain ⟨k, hk, rfl, rfl, hall⟩ := hrel
    have hl : (s.data.toList.take k).length ≤ k := List.length_take_le _ _
    have hd := dval_bd _ hall (by omega)
    have HA : Hid (allD (s.data.toList.take k) = true) := hall
    clear hall hl
    by_cases hlt : k < s.size
    · have HS : Hid (dval (s.data.toList.take (k + 1)) = 10 * dval (s.data.toList.take k) + (s[k].toNat : Int) - 48) := by rw [take_snoc s k hlt]; exact dval_snoc _ _
      have HB : Hid (allD (s.data.toList.take (k + 1)) = (allD (s.data.toList.take k) && dg s[k])) := by rw [take_snoc s k hlt]; exact allD_snoc _ _
      by_cases h1 : (s[k].toNat : Int) < 48
      · have e1 := allD_at s k hlt (dg_no (.inl h1))
        have e2 := dnum_no e1
        have E1 : Hid (dok s = false) := e1
        have E2 : Hid (dnum s = 0) := e2
        clear e1 e2
        go_wp2
        go_ret2
        exact ⟨by rw [E1.out, E2.out]; rfl, rfl⟩
      · by_cases h2 : 57 < (s[k].toNat : Int)
        · have e1 := allD_at s k hlt (dg_no (.inr h2))
          have e2 := dnum_no e1
          have E1 : Hid (dok s = false) := e1
          have E2 : Hid (dnum s = 0) := e2
          clear e1 e2
          go_wp2
          go_ret2
          exact ⟨by rw [E1.out, E2.out]; rfl, rfl⟩
        · have e3 : dg s[k] = true := dg_yes (by omega) (by omega)
          have E3 : Hid (dg s[k] = true) := e3
          clear e3
          go_wp2
          go_round
          case rel => exact ⟨k + 1, by omega, by go_num, by rw [HS.out]; go_num, by rw [HB.out, HA.out, E3.out]; rfl⟩
          case measure => simp [intOf]; omega
    · have e1 : dok s = true := by unfold dok; rw [← take_all s k hlt]; exact HA.out
      have e2 : dnum s = dval (s.data.toList.take k) := by rw [dnum_yes e1, take_all s k hlt]
      have E1 : Hid (dok s = true) := e1
      have E2 : Hid (dnum s = dval (s.data.toList.take k)) := e2
      clear e1 e2
      go_wp2
      go_ret2
      exact ⟨by rw [E1.out, E2.out]; rfl, rfl⟩

set_option maxHeartbeats 2000000 in
theorem isCivil_no (Y M D : Int) (w : World) (Y0 : 0 ≤ Y) (Y1 : Y ≤ 9999) (h : (¬ 1900 ≤ Y) ∨ (1900 ≤ Y ∧ ¬ Y ≤ 2199) ∨ (1900 ≤ Y ∧ Y ≤ 2199 ∧ ¬ 1 ≤ M) ∨ (1900 ≤ Y ∧ Y ≤ 2199 ∧ 1 ≤ M ∧ ¬ M ≤ 12) ∨ (1900 ≤ Y ∧ Y ≤ 2199 ∧ 1 ≤ M ∧ M ≤ 12 ∧ ¬ 1 ≤ D) ∨ (1900 ≤ Y ∧ Y ≤ 2199 ∧ 1 ≤ M ∧ M ≤ 12 ∧ 1 ≤ D ∧ ¬ D ≤ dim Y M)) :
    Calls Tryd.prog 61 #[.agg #[.int .i64 Y, .int .i64 M, .int .i64 D]] w fun e w' => e = .returned (.bool false) ∧ Below w.heap.size w w' := by
  rcases h with h | ⟨g1, h⟩ | ⟨g1, g2, h⟩ | ⟨g1, g2, g3, h⟩ | ⟨g1, g2, g3, g4, h⟩ | ⟨g1, g2, g3, g4, g5, h⟩
  all_goals
    have hd := decide_eq_false h
    clear h
    go_enter Tryd.func61, Tryd.ntmps61
    go_wp2
    go_quiet ((go_at_call 76; exact Calls.quiet_of_same (monthLength_any _ _ _ (by omega) (by omega))))
    go_wp2
    go_ret
    exact ⟨rfl, below_drewN ((Below.refl _ _).alloc (Nat.le_refl _) _) _⟩

set_option maxHeartbeats 400000 in
theorem isCivil_yes (Y M D : Int) (w : World) (g1 : 1900 ≤ Y) (g2 : Y ≤ 2199) (g3 : 1 ≤ M) (g4 : M ≤ 12) (g5 : 1 ≤ D) (g6 : D ≤ dim Y M) :
    Calls Tryd.prog 61 #[.agg #[.int .i64 Y, .int .i64 M, .int .i64 D]] w fun e w' => e = .returned (.bool true) ∧ Below w.heap.size w w' := by
  have hd := decide_eq_true g6
  go_enter Tryd.func61, Tryd.ntmps61
  go_wp2
  go_quiet ((go_at_call 76; exact Calls.quiet_of_same (monthLength_any _ _ _ (by omega) (by omega))))
  go_wp2
  go_ret
  exact ⟨rfl, below_drewN ((Below.refl _ _).alloc (Nat.le_refl _) _) _⟩

set_option maxHeartbeats 400000 in
theorem dayOf_any (y m d : Int) (w : World) (y0 : 1900 ≤ y) (y1 : y ≤ 2199) (m0 : 1 ≤ m) (m1 : m ≤ 12) (d0 : 1 ≤ d) (d1 : d ≤ 31) :
    Calls Tryd.prog 62 #[.agg #[.int .i64 y, .int .i64 m, .int .i64 d]] w fun e w' => e = .returned (.int .i64 (num y m d)) ∧ Below w.heap.size w w' := by
  have yb := ys_bd y y0 (by omega)
  go_enter Tryd.func62, Tryd.ntmps62
  go_wp2
  go_quiet ((go_at_call 75; exact Calls.quiet_of_same (yearStart_any _ _ (by omega) (by omega))))
  go_wp2
  go_loop [3, 4] (fun n i => ∃ k : Int, 1 ≤ k ∧ k ≤ m ∧ i = .int .i64 k ∧ n = .int .i64 (ys y + d - 1 + cum y k)) (fun _ i => (m - intOf i).toNat)
  case atStart => exact ⟨1, by omega, by omega, rfl, by rw [cum_one]; simp⟩
  case round =>
    obtain ⟨k, k0, k1, rfl, rfl⟩ := hrel
    have cb := cum_bd y k k0 (by omega)
    have db := dim_bd y k
    have CS : Hid (cum y (k + 1) = cum y k + dim y k) := cum_succ y k k0 (by omega)
    by_cases hlt : k < m
    · go_wp2_with (go_at_call 76; refine (monthLength_any _ _ _ (by omega) (by omega)).mono ?_; rintro e w' ⟨rfl, rfl⟩)
      go_round
      case rel => exact ⟨k + 1, by omega, by omega, rfl, by rw [CS.out]; go_num⟩
      case measure => simp [intOf]; omega
    · have EK : Hid (k = m) := by unfold Hid; omega
      go_wp2
      go_ret
      exact ⟨ret_int (by unfold num; have := EK.out; subst k; omega), below_drewN ((Below.refl _ _).alloc (Nat.le_refl _) _) _⟩
end Go.Proofs.YtanndhoimpnhpaaDoor
