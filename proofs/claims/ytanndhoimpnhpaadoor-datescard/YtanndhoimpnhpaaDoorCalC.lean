/- What the program's Weight answers: the error, or the difference of the ends. -/
import Derived.Test.YtanndhoimpnhpaaDoorCalC0
namespace Go.Proofs.YtanndhoimpnhpaaDoor
open Go.ChangeShapes Go.WideShapes Go.ChangeAt Go.RowKit Cal

/-- What a Weight must answer: the number v, the error c. -/
def WSpec (b f t v c : Int) : Prop :=
  ((b < 1 ∨ 3 < b) ∧ v = 0 ∧ c = 2) ∨
  (1 ≤ b ∧ b ≤ 3 ∧ (f < 0 ∨ 109572 < f ∨ t < f ∨ 109572 < t) ∧ v = 0 ∧ c = 1) ∨
  (1 ≤ b ∧ b ≤ 3 ∧ 0 ≤ f ∧ f ≤ t ∧ t ≤ 109572 ∧ c = 0 ∧ (b = 3 → ∃ p q, IsT t p ∧ IsT f q ∧ v = p - q) ∧ (¬ b = 3 → v = t - f))
theorem WSpec.one {b f t v c v' c' : Int} (h : WSpec b f t v c) (h' : WSpec b f t v' c') : v = v' ∧ c = c' := by
  rcases h with ⟨a1, rfl, rfl⟩ | ⟨a1, a2, a3, rfl, rfl⟩ | ⟨a1, a2, a3, a4, a5, rfl, a6, a7⟩
  · rcases h' with ⟨b1, rfl, rfl⟩ | ⟨b1, b2, b3, rfl, rfl⟩ | ⟨b1, b2, b3, b4, b5, rfl, b6, b7⟩
    · exact ⟨rfl, rfl⟩
    · omega
    · clear b6 b7; omega
  · rcases h' with ⟨b1, rfl, rfl⟩ | ⟨b1, b2, b3, rfl, rfl⟩ | ⟨b1, b2, b3, b4, b5, rfl, b6, b7⟩
    · omega
    · exact ⟨rfl, rfl⟩
    · clear b6 b7; omega
  · rcases h' with ⟨b1, rfl, rfl⟩ | ⟨b1, b2, b3, rfl, rfl⟩ | ⟨b1, b2, b3, b4, b5, rfl, b6, b7⟩
    · clear a6 a7; omega
    · clear a6 a7; omega
    · refine ⟨?_, rfl⟩
      by_cases e : b = 3
      · obtain ⟨p, q, x, y, rfl⟩ := a6 e
        obtain ⟨p', q', x', y', rfl⟩ := b6 e
        rw [x.one x', y.one y']
      · rw [a7 e, b7 e]

theorem isBasis_yes (b : Int) (w : World) (h0 : 1 ≤ b) (h1 : b ≤ 3) :
    Calls Tryd.prog 35 #[.int .i64 b] w fun e w' => e = .returned (.bool true) ∧ w' = w := by
  rcases (show b = 1 ∨ b = 2 ∨ b = 3 by omega) with h3 | h3 | h3
  all_goals
    subst h3
    go_enter Tryd.func35, Tryd.ntmps35
    go_wp2
    go_ret
    exact ⟨rfl, rfl⟩
theorem isBasis_no (b : Int) (w : World) (h : b < 1 ∨ 3 < b) :
    Calls Tryd.prog 35 #[.int .i64 b] w fun e w' => e = .returned (.bool false) ∧ w' = w := by
  have h1 : (b == 1) = false := by simp; omega
  have h2 : (b == 2) = false := by simp; omega
  have h3 : (b == 3) = false := by simp; omega
  clear h
  go_enter Tryd.func35, Tryd.ntmps35
  go_wp2
  go_ret
  exact ⟨rfl, rfl⟩
def dayB (n : Int) : Bool := decide (0 ≤ n) && decide (n ≤ 109572)
theorem dayB_yes {n : Int} (h0 : 0 ≤ n) (h1 : n ≤ 109572) : dayB n = true := by simp [dayB, h0, h1]
theorem dayB_no {n : Int} (h : n < 0 ∨ 109572 < n) : dayB n = false := by simp [dayB]; omega
theorem isDay_any (n : Int) (w : World) :
    Calls Tryd.prog 30 #[.int .i64 n] w fun e w' => e = .returned (.bool (dayB n)) ∧ w' = w := by
  by_cases h0 : 0 ≤ n
  · have e : dayB n = decide (n ≤ 109572) := by simp [dayB, h0]
    have E : Hid (dayB n = decide (n ≤ 109572)) := e
    clear e
    go_enter Tryd.func30, Tryd.ntmps30
    go_wp2
    go_ret
    exact ⟨by rw [E.out]; rfl, rfl⟩
  · have e : dayB n = false := by simp [dayB, h0]
    have E : Hid (dayB n = false) := e
    clear e
    go_enter Tryd.func30, Tryd.ntmps30
    go_wp2
    go_ret
    exact ⟨by rw [E.out]; rfl, rfl⟩

set_option maxHeartbeats 400000 in
theorem accrueWeight_any (b f t : Int) (w : World) :
    Calls Tryd.prog 15 #[.int .i64 b, .int .i64 f, .int .i64 t] w fun e w' => ∃ v c : Int, e = .returned (.tuple #[.int .i64 v, .int .i64 c]) ∧ WSpec b f t v c ∧ Below w.heap.size w w' := by
  by_cases hb : b < 1 ∨ 3 < b
  · have W : Hid (WSpec b f t 0 2) := .inl ⟨hb, rfl, rfl⟩
    go_enter Tryd.func15, Tryd.ntmps15
    go_wp2_with (go_at_call 35; refine (isBasis_no _ _ hb).mono ?_; rintro e w' ⟨rfl, rfl⟩)
    go_ret2
    exact ⟨_, _, rfl, W.out, Below.refl _ _⟩
  · obtain ⟨b1, b3⟩ : 1 ≤ b ∧ b ≤ 3 := by omega
    by_cases hd : f < 0 ∨ 109572 < f ∨ t < f ∨ 109572 < t
    · have W : Hid (WSpec b f t 0 1) := .inr (.inl ⟨by omega, by omega, hd, rfl, rfl⟩)
      by_cases hf : f < 0 ∨ 109572 < f
      · have kf := dayB_no hf
        clear hb hd
        go_enter Tryd.func15, Tryd.ntmps15
        go_wp2_with (first | (go_at_call 35; refine (isBasis_yes _ _ b1 b3).mono ?_; rintro e w' ⟨rfl, rfl⟩) | (go_at_call 30; refine (isDay_any _ _).mono ?_; rintro e w' ⟨rfl, rfl⟩; rw [kf]))
        go_ret2
        exact ⟨_, _, rfl, W.out, Below.refl _ _⟩
      · obtain ⟨f0, f1⟩ : 0 ≤ f ∧ f ≤ 109572 := by omega
        by_cases ht : t < 0 ∨ 109572 < t
        · have kf := dayB_yes f0 f1
          have kt := dayB_no ht
          clear hb hd hf
          go_enter Tryd.func15, Tryd.ntmps15
          go_wp2_with (first | (go_at_call 35; refine (isBasis_yes _ _ b1 b3).mono ?_; rintro e w' ⟨rfl, rfl⟩) | (go_at_call 30; refine (isDay_any _ _).mono ?_; rintro e w' ⟨rfl, rfl⟩; first | rw [kf] | rw [kt]))
          go_ret2
          exact ⟨_, _, rfl, W.out, Below.refl _ _⟩
        · obtain ⟨t0, t1, tf⟩ : 0 ≤ t ∧ t ≤ 109572 ∧ t < f := by omega
          have kf := dayB_yes f0 f1
          have kt := dayB_yes t0 t1
          clear hb hd hf ht
          go_enter Tryd.func15, Tryd.ntmps15
          go_wp2_with (first | (go_at_call 35; refine (isBasis_yes _ _ b1 b3).mono ?_; rintro e w' ⟨rfl, rfl⟩) | (go_at_call 30; refine (isDay_any _ _).mono ?_; rintro e w' ⟨rfl, rfl⟩; first | rw [kf] | rw [kt]))
          go_ret2
          exact ⟨_, _, rfl, W.out, Below.refl _ _⟩
    · obtain ⟨f0, f1, t0, t1, tf⟩ : 0 ≤ f ∧ f ≤ 109572 ∧ 0 ≤ t ∧ t ≤ 109572 ∧ f ≤ t := by omega
      have kf := dayB_yes f0 f1
      have kt := dayB_yes t0 t1
      clear hb hd
      go_enter Tryd.func15, Tryd.ntmps15
      go_wp2_with (first | (go_at_call 35; refine (isBasis_yes _ _ b1 b3).mono ?_; rintro e w' ⟨rfl, rfl⟩) | (go_at_call 30; refine (isDay_any _ _).mono ?_; rintro e w' ⟨rfl, rfl⟩; first | rw [kf] | rw [kt]) | (go_at_call 36; refine (weight_any _ _ _ _ (by omega) (by omega) (by omega) (by omega)).mono ?_; rintro e w1 ⟨v, rfl, hv, hv', hb⟩; have HV := (show Hid _ from hv); have HV' := (show Hid _ from hv'); clear hv hv'))
      go_ret2
      exact ⟨_, _, rfl, .inr (.inr ⟨b1, b3, f0, tf, t1, rfl, HV.out, HV'.out⟩), hb⟩
end Go.Proofs.YtanndhoimpnhpaaDoor
