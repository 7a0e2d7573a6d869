/- What the document's Day answers for every text. -/
import Derived.Test.YtanndhoimpnhpaaDoorCalG
namespace Go.Proofs.YtanndhoimpnhpaaDoor
open Go.ChangeShapes Go.WideShapes Go.ChangeAt Go.RowKit Cal Txt

/-- The three numbers are a date. -/
def dateB (a b c : Bool) (Y M D : Int) : Bool := a && b && c && decide (1900 ≤ Y) && decide (Y ≤ 2199) && decide (1 ≤ M) && decide (M ≤ 12) && decide (1 ≤ D) && decide (D ≤ dim Y M)

set_option maxHeartbeats 400000 in
theorem refDay_yes (s : ByteArray) (Y M D : Int) (w : World) (h10 : s.size = 10) (h4 : ((s[4].toNat : Int) != 45) = false) (h7 : ((s[7].toNat : Int) != 45) = false) (Y0 : 0 ≤ Y) (Y1 : Y ≤ 9999) (M0 : 0 ≤ M) (M1 : M ≤ 9999) (D0 : 0 ≤ D) (D1 : D ≤ 9999)
    (H1 : ∀ w : World, Calls Tryd.prog 54 #[.string (s.extract 0 4)] w fun e w' => e = .returned (.tuple #[.int .i64 Y, .bool true]) ∧ w' = w)
    (H2 : ∀ w : World, Calls Tryd.prog 54 #[.string (s.extract 5 7)] w fun e w' => e = .returned (.tuple #[.int .i64 M, .bool true]) ∧ w' = w)
    (H3 : ∀ w : World, Calls Tryd.prog 54 #[.string (s.extract 8 10)] w fun e w' => e = .returned (.tuple #[.int .i64 D, .bool true]) ∧ w' = w)
    (g1 : 1900 ≤ Y) (g2 : Y ≤ 2199) (g3 : 1 ≤ M) (g4 : M ≤ 12) (g5 : 1 ≤ D) (g6 : D ≤ dim Y M) :
    Calls Tryd.prog 29 #[.string s] w fun e w' => e = .returned (.tuple #[.int .i64 (num Y M D), .int .i64 0]) ∧ Below w.heap.size w w' := by
  have db := dim_bd Y M
  go_enter Tryd.func29, Tryd.ntmps29
  go_wp2_with fail
  refine (H1 _).mono ?_
  rintro e w' ⟨rfl, rfl⟩
  go_wp2_with fail
  refine (H2 _).mono ?_
  rintro e w' ⟨rfl, rfl⟩
  go_wp2_with fail
  refine (H3 _).mono ?_
  rintro e w' ⟨rfl, rfl⟩
  clear H1 H2 H3
  go_wp2_with (first | (go_at_call 55; refine (long_any _ _ _ (by omega) (by omega)).mono ?_; rintro e w' ⟨rfl, rfl⟩) | (go_at_call 56; refine (number_any _ _ _ _ (by omega) (by omega) (by omega) (by omega) (by omega) (by omega)).mono ?_; rintro e w1 ⟨rfl, hb⟩))
  go_ret2
  exact ⟨rfl, ((Below.refl _ _).alloc (Nat.le_refl _) _).trans (hb.mono (by simp))⟩

set_option maxHeartbeats 4000000 in
theorem refDay_no (s : ByteArray) (Y M D : Int) (a b c : Bool) (w : World) (h10 : s.size = 10) (h4 : ((s[4].toNat : Int) != 45) = false) (h7 : ((s[7].toNat : Int) != 45) = false) (Y0 : 0 ≤ Y) (Y1 : Y ≤ 9999) (M0 : 0 ≤ M) (M1 : M ≤ 9999) (D0 : 0 ≤ D) (D1 : D ≤ 9999)
    (H1 : ∀ w : World, Calls Tryd.prog 54 #[.string (s.extract 0 4)] w fun e w' => e = .returned (.tuple #[.int .i64 Y, .bool a]) ∧ w' = w)
    (H2 : ∀ w : World, Calls Tryd.prog 54 #[.string (s.extract 5 7)] w fun e w' => e = .returned (.tuple #[.int .i64 M, .bool b]) ∧ w' = w)
    (H3 : ∀ w : World, Calls Tryd.prog 54 #[.string (s.extract 8 10)] w fun e w' => e = .returned (.tuple #[.int .i64 D, .bool c]) ∧ w' = w)
    (hbad : dateB a b c Y M D = false) :
    Calls Tryd.prog 29 #[.string s] w fun e w' => e = .returned (.tuple #[.int .i64 0, .int .i64 1]) ∧ Below w.heap.size w w' := by
  have db := dim_bd Y M
  rcases (show a = false ∨ (a = true ∧ b = false) ∨ (a = true ∧ b = true ∧ c = false) ∨ (a = true ∧ b = true ∧ c = true ∧ (Y < 1900 ∨ (1900 ≤ Y ∧ 2199 < Y) ∨ (1900 ≤ Y ∧ Y ≤ 2199 ∧ M < 1) ∨ (1900 ≤ Y ∧ Y ≤ 2199 ∧ 1 ≤ M ∧ 12 < M) ∨ (1900 ≤ Y ∧ Y ≤ 2199 ∧ 1 ≤ M ∧ M ≤ 12 ∧ D < 1) ∨ (1900 ≤ Y ∧ Y ≤ 2199 ∧ 1 ≤ M ∧ M ≤ 12 ∧ 1 ≤ D ∧ dim Y M < D))) by
    cases a <;> cases b <;> cases c <;> simp [dateB] at hbad ⊢ <;> omega) with rfl | ⟨rfl, rfl⟩ | ⟨rfl, rfl, rfl⟩ | ⟨rfl, rfl, rfl, h⟩
  iterate 3
    clear hbad
    go_enter Tryd.func29, Tryd.ntmps29
    go_wp2_with fail
    refine (H1 _).mono ?_
    rintro e w' ⟨rfl, rfl⟩
    go_wp2_with fail
    refine (H2 _).mono ?_
    rintro e w' ⟨rfl, rfl⟩
    go_wp2_with fail
    refine (H3 _).mono ?_
    rintro e w' ⟨rfl, rfl⟩
    clear H1 H2 H3
    go_wp2_with (first | (go_at_call 55; refine (long_any _ _ _ (by omega) (by omega)).mono ?_; rintro e w' ⟨rfl, rfl⟩) | (go_at_call 56; refine (number_any _ _ _ _ (by omega) (by omega) (by omega) (by omega) (by omega) (by omega)).mono ?_; rintro e w1 ⟨rfl, hb⟩))
    go_ret2
    exact ⟨rfl, Below.refl _ _⟩
  rcases h with h | ⟨g1, h⟩ | ⟨g1, g2, h⟩ | ⟨g1, g2, g3, h⟩ | ⟨g1, g2, g3, g4, h⟩ | ⟨g1, g2, g3, g4, g5, h⟩
  all_goals
    clear hbad
    go_enter Tryd.func29, Tryd.ntmps29
    go_wp2_with fail
    refine (H1 _).mono ?_
    rintro e w' ⟨rfl, rfl⟩
    go_wp2_with fail
    refine (H2 _).mono ?_
    rintro e w' ⟨rfl, rfl⟩
    go_wp2_with fail
    refine (H3 _).mono ?_
    rintro e w' ⟨rfl, rfl⟩
    clear H1 H2 H3
    go_wp2_with (first | (go_at_call 55; refine (long_any _ _ _ (by omega) (by omega)).mono ?_; rintro e w' ⟨rfl, rfl⟩) | (go_at_call 56; refine (number_any _ _ _ _ (by omega) (by omega) (by omega) (by omega) (by omega) (by omega)).mono ?_; rintro e w1 ⟨rfl, hb⟩))
    go_ret2
    exact ⟨rfl, Below.refl _ _⟩
end Go.Proofs.YtanndhoimpnhpaaDoor
