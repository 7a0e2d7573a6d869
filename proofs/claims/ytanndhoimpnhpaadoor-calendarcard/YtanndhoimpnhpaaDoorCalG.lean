/- What the document's digits, number and Day answer. -/
import Derived.Test.YtanndhoimpnhpaaDoorCalA0
import Derived.Test.YtanndhoimpnhpaaDoorTxt
namespace Go.Proofs.YtanndhoimpnhpaaDoor
open Go.ChangeShapes Go.WideShapes Go.ChangeAt Go.RowKit Cal Txt

set_option maxHeartbeats 400000 in
theorem refdigits_any (s : ByteArray) (w : World) (hs : s.size ≤ 10) :
    Calls Tryd.prog 54 #[.string s] w fun e w' => e = .returned (.tuple #[.int .i64 (dnum s), .bool (dok s)]) ∧ w' = w := by
  go_enter Tryd.func54, Tryd.ntmps54
  go_wp2
  go_loop [4, 5] (fun n i => ∃ k : Nat, k ≤ s.size ∧ i = .int .i64 k ∧ n = .int .i64 (dval (s.data.toList.take k)) ∧ allD (s.data.toList.take k) = true) (fun _ i => s.size - (intOf i).toNat)
  case atStart => exact ⟨0, Nat.zero_le _, rfl, rfl, rfl⟩
  case round =>
    obtain ⟨k, hk, rfl, rfl, hall⟩ := hrel
    have hl : (s.data.toList.take k).length ≤ k := List.length_take_le _ _
    have hd := dval_bd _ hall (by omega)
    have HA : Hid (allD (s.data.toList.take k) = true) := hall
    clear hall hl
    by_cases hlt : k < s.size
    · have HS : Hid (dval (s.data.toList.take (k + 1)) = 10 * dval (s.data.toList.take k) + (s[k].toNat : Int) - 48) := by rw [take_snoc s k hlt]; exact dval_snoc _ _
      have HB : Hid (allD (s.data.toList.take (k + 1)) = (allD (s.data.toList.take k) && dg s[k])) := by rw [take_snoc s k hlt]; exact allD_snoc _ _
      by_cases h1 : (s[k].toNat : Int) < 48
      · have e1 := allD_at s k hlt (dg_no (.inl h1))
        have e2 := dnum_no e1
        have E1 : Hid (dok s = false) := e1
        have E2 : Hid (dnum s = 0) := e2
        clear e1 e2
        go_wp2
        go_ret2
        exact ⟨by rw [E1.out, E2.out]; rfl, rfl⟩
      · by_cases h2 : 57 < (s[k].toNat : Int)
        · have e1 := allD_at s k hlt (dg_no (.inr h2))
          have e2 := dnum_no e1
          have E1 : Hid (dok s = false) := e1
          have E2 : Hid (dnum s = 0) := e2
          clear e1 e2
          go_wp2
          go_ret2
          exact ⟨by rw [E1.out, E2.out]; rfl, rfl⟩
        · have e3 : dg s[k] = true := dg_yes (by omega) (by omega)
          have E3 : Hid (dg s[k] = true) := e3
          clear e3
          go_wp2
          go_round
          case rel => exact ⟨k + 1, by omega, by go_num, by rw [HS.out], by rw [HB.out, HA.out, E3.out]; rfl⟩
          case measure => simp [intOf]; omega
    · have e1 : dok s = true := by unfold dok; rw [← take_all s k hlt]; exact HA.out
      have e2 : dnum s = dval (s.data.toList.take k) := by rw [dnum_yes e1, take_all s k hlt]
      have E1 : Hid (dok s = true) := e1
      have E2 : Hid (dnum s = dval (s.data.toList.take k)) := e2
      clear e1 e2
      go_wp2
      go_ret2
      exact ⟨by rw [E1.out, E2.out]; rfl, rfl⟩

set_option maxHeartbeats 400000 in
theorem number_any (y m d : Int) (w : World) (y0 : 1900 ≤ y) (y1 : y ≤ 2200) (m0 : 1 ≤ m) (m1 : m ≤ 12) (d0 : 1 ≤ d) (d1 : d ≤ 31) :
    Calls Tryd.prog 56 #[.agg #[.int .i64 y, .int .i64 m, .int .i64 d]] w fun e w' => e = .returned (.int .i64 (num y m d)) ∧ Below w.heap.size w w' := by
  go_enter Tryd.func56, Tryd.ntmps56
  go_wp2
  go_loop [3, 4] (fun n i => ∃ k : Int, 1 ≤ k ∧ k ≤ m ∧ i = .int .i64 k ∧ n = .int .i64 (d - 1 + cum y k)) (fun _ i => (m - intOf i).toNat)
  case atStart => exact ⟨1, by omega, by omega, rfl, by rw [cum_one]; simp⟩
  case round =>
    obtain ⟨k, k0, k1, rfl, rfl⟩ := hrel
    have cb := cum_bd y k k0 (by omega)
    have db := dim_bd y k
    have CS : Hid (cum y (k + 1) = cum y k + dim y k) := cum_succ y k k0 (by omega)
    by_cases hlt : k < m
    · go_wp2_with (go_at_call 55; refine (long_any _ _ _ (by omega) (by omega)).mono ?_; rintro e w' ⟨rfl, rfl⟩)
      go_round
      case rel => exact ⟨k + 1, by omega, by omega, rfl, by rw [CS.out]; go_num⟩
      case measure => simp [intOf]; omega
    · have EK : Hid (k = m) := by unfold Hid; omega
      go_wp2
      go_loop [3, 5] (fun n i => ∃ x : Int, 1900 ≤ x ∧ x ≤ y ∧ i = .int .i64 x ∧ n = .int .i64 (d - 1 + cum y k + ys x)) (fun _ i => (y - intOf i).toNat)
      case atStart => exact ⟨1900, by omega, by omega, rfl, by rw [ys_first]; simp⟩
      case round =>
        obtain ⟨x, x0, x1, rfl, rfl⟩ := hrel
        have yb := ys_bd x x0 (by omega)
        have db2 := dim_bd x 2
        have YS : Hid (ys (x + 1) = ys x + 365 + lp x) := ys_succ x
        have D2 : Hid (dim x 2 = 28 + lp x) := by simp [dim, Hid]
        by_cases hlt2 : x < y
        · go_wp2_with (go_at_call 55; refine (long_any _ _ _ (by omega) (by omega)).mono ?_; rintro e w' ⟨rfl, rfl⟩)
          go_round
          case rel => exact ⟨x + 1, by omega, by omega, rfl, by have := YS.out; have := D2.out; go_num⟩
          case measure => simp [intOf]; omega
        · have EX : Hid (x = y) := by unfold Hid; omega
          go_wp2
          go_ret
          exact ⟨ret_int (by unfold num; have := EX.out; have := EK.out; subst x; subst k; omega), (Below.refl _ _).alloc (Nat.le_refl _) _⟩
end Go.Proofs.YtanndhoimpnhpaaDoor
