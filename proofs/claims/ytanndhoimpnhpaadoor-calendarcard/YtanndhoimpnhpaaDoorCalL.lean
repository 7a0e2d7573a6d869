/- What the program's Parse and Day answer for every text. -/
import Derived.Test.YtanndhoimpnhpaaDoorCalK
namespace Go.Proofs.YtanndhoimpnhpaaDoor
open Go.ChangeShapes Go.WideShapes Go.ChangeAt Go.RowKit Cal Txt

theorem below_alloc {w w1 : World} {o : Obj} (h : Below (w.alloc o).heap.size (w.alloc o) w1) : Below w.heap.size w w1 := ((Below.refl _ _).alloc (Nat.le_refl _) _).trans (h.mono (by simp))
theorem pcell {W w1 : World} (hb : Below W.heap.size W w1) : (∀ b o, b < W.heap.size → w1.cell? ⟨b, o, none⟩ = W.cell? ⟨b, o, none⟩) ∧ (∀ b o, b < W.heap.size → w1.frozen? ⟨b, o, none⟩ = W.frozen? ⟨b, o, none⟩) :=
  ⟨fun b o h => hb.cell (p := ⟨b, o, none⟩) h, fun b o h => hb.frozen (p := ⟨b, o, none⟩) h⟩

set_option maxHeartbeats 400000 in
theorem parse_yes (s : ByteArray) (Y M D : Int) (w : World) (h10 : s.size = 10) (h4 : ((s[4].toNat : Int) != 45) = false) (h7 : ((s[7].toNat : Int) != 45) = false) (_Y0 : 0 ≤ Y) (_Y1 : Y ≤ 9999) (_M0 : 0 ≤ M) (_M1 : M ≤ 9999) (_D0 : 0 ≤ D) (_D1 : D ≤ 9999)
    (H1 : ∀ w : World, Calls Tryd.prog 60 #[.string (s.extract 0 4)] w fun e w' => e = .returned (.tuple #[.int .i64 Y, .bool true]) ∧ w' = w)
    (H2 : ∀ w : World, Calls Tryd.prog 60 #[.string (s.extract 5 7)] w fun e w' => e = .returned (.tuple #[.int .i64 M, .bool true]) ∧ w' = w)
    (H3 : ∀ w : World, Calls Tryd.prog 60 #[.string (s.extract 8 10)] w fun e w' => e = .returned (.tuple #[.int .i64 D, .bool true]) ∧ w' = w)
    (g1 : 1900 ≤ Y) (g2 : Y ≤ 2199) (g3 : 1 ≤ M) (g4 : M ≤ 12) (g5 : 1 ≤ D) (g6 : D ≤ dim Y M) :
    Calls Tryd.prog 34 #[.string s] w fun e w' => e = .returned (.tuple #[.int .i64 (num Y M D), .bool true]) ∧ Below w.heap.size w w' := by
  have db := dim_bd Y M
  go_enter Tryd.func34, Tryd.ntmps34
  go_wp2_with fail
  refine (H1 _).mono ?_
  rintro e w' ⟨rfl, rfl⟩
  go_wp2_with fail
  refine (H2 _).mono ?_
  rintro e w' ⟨rfl, rfl⟩
  go_wp2_with fail
  refine (H3 _).mono ?_
  rintro e w' ⟨rfl, rfl⟩
  clear H1 H2 H3
  go_wp2_with fail
  refine (isCivil_yes _ _ _ _ g1 g2 g3 g4 g5 g6).mono ?_
  rintro e w1 ⟨rfl, hb⟩
  obtain ⟨hc, hf⟩ := pcell hb
  go_wp2_with fail
  refine (dayOf_any _ _ _ _ (by omega) (by omega) (by omega) (by omega) (by omega) (by omega)).mono ?_
  rintro e w2 ⟨rfl, hb2⟩
  clear hc hf
  go_wp2
  go_ret2
  exact ⟨rfl, (below_alloc hb).trans (hb2.mono (below_alloc hb).size)⟩

set_option maxHeartbeats 2000000 in
theorem parse_bad (s : ByteArray) (Y M D : Int) (a b c : Bool) (w : World) (h10 : s.size = 10) (h4 : ((s[4].toNat : Int) != 45) = false) (h7 : ((s[7].toNat : Int) != 45) = false) (_Y0 : 0 ≤ Y) (_Y1 : Y ≤ 9999) (_M0 : 0 ≤ M) (_M1 : M ≤ 9999) (_D0 : 0 ≤ D) (_D1 : D ≤ 9999)
    (H1 : ∀ w : World, Calls Tryd.prog 60 #[.string (s.extract 0 4)] w fun e w' => e = .returned (.tuple #[.int .i64 Y, .bool a]) ∧ w' = w)
    (H2 : ∀ w : World, Calls Tryd.prog 60 #[.string (s.extract 5 7)] w fun e w' => e = .returned (.tuple #[.int .i64 M, .bool b]) ∧ w' = w)
    (H3 : ∀ w : World, Calls Tryd.prog 60 #[.string (s.extract 8 10)] w fun e w' => e = .returned (.tuple #[.int .i64 D, .bool c]) ∧ w' = w)
    (habc : a = false ∨ (a = true ∧ b = false) ∨ (a = true ∧ b = true ∧ c = false)) :
    Calls Tryd.prog 34 #[.string s] w fun e w' => e = .returned (.tuple #[.int .i64 0, .bool false]) ∧ Below w.heap.size w w' := by
  rcases habc with rfl | ⟨rfl, rfl⟩ | ⟨rfl, rfl, rfl⟩
  all_goals
    go_enter Tryd.func34, Tryd.ntmps34
    go_wp2_with fail
    refine (H1 _).mono ?_
    rintro e w' ⟨rfl, rfl⟩
    go_wp2_with fail
    refine (H2 _).mono ?_
    rintro e w' ⟨rfl, rfl⟩
    go_wp2_with fail
    refine (H3 _).mono ?_
    rintro e w' ⟨rfl, rfl⟩
    clear H1 H2 H3
    go_wp2
    go_ret2
    exact ⟨rfl, (Below.refl _ _).alloc (Nat.le_refl _) _⟩

set_option maxHeartbeats 400000 in
theorem parse_none (s : ByteArray) (Y M D : Int) (w : World) (h10 : s.size = 10) (h4 : ((s[4].toNat : Int) != 45) = false) (h7 : ((s[7].toNat : Int) != 45) = false) (_Y0 : 0 ≤ Y) (_Y1 : Y ≤ 9999) (_M0 : 0 ≤ M) (_M1 : M ≤ 9999) (_D0 : 0 ≤ D) (_D1 : D ≤ 9999)
    (H1 : ∀ w : World, Calls Tryd.prog 60 #[.string (s.extract 0 4)] w fun e w' => e = .returned (.tuple #[.int .i64 Y, .bool true]) ∧ w' = w)
    (H2 : ∀ w : World, Calls Tryd.prog 60 #[.string (s.extract 5 7)] w fun e w' => e = .returned (.tuple #[.int .i64 M, .bool true]) ∧ w' = w)
    (H3 : ∀ w : World, Calls Tryd.prog 60 #[.string (s.extract 8 10)] w fun e w' => e = .returned (.tuple #[.int .i64 D, .bool true]) ∧ w' = w)
    (hno : ∀ w : World, Calls Tryd.prog 61 #[.agg #[.int .i64 Y, .int .i64 M, .int .i64 D]] w fun e w' => e = .returned (.bool false) ∧ Below w.heap.size w w') :
    Calls Tryd.prog 34 #[.string s] w fun e w' => e = .returned (.tuple #[.int .i64 0, .bool false]) ∧ Below w.heap.size w w' := by
  go_enter Tryd.func34, Tryd.ntmps34
  go_wp2_with fail
  refine (H1 _).mono ?_
  rintro e w' ⟨rfl, rfl⟩
  go_wp2_with fail
  refine (H2 _).mono ?_
  rintro e w' ⟨rfl, rfl⟩
  go_wp2_with fail
  refine (H3 _).mono ?_
  rintro e w' ⟨rfl, rfl⟩
  clear H1 H2 H3
  go_wp2_with fail
  refine (hno _).mono ?_
  rintro e w1 ⟨rfl, hb⟩
  clear hno
  go_wp2
  go_ret2
  exact ⟨rfl, below_alloc hb⟩

set_option maxHeartbeats 400000 in
theorem parse_any (s : ByteArray) (w : World) (_hs : s.size ≤ maxLen) :
    Calls Tryd.prog 34 #[.string s] w fun e w' => e = .returned (.tuple #[.int .i64 (dayV s), .bool (good s)]) ∧ Below w.heap.size w w' := by
  unfold maxLen at _hs
  by_cases h10 : s.size = 10
  · by_cases h4 : ((s[4].toNat : Int) != 45) = true
    · have g := good_no4 h10 h4
      rw [dayV_no g, g]
      clear g
      go_enter Tryd.func34, Tryd.ntmps34
      go_wp2
      go_ret2
      exact ⟨rfl, Below.refl _ _⟩
    · by_cases h7 : ((s[7].toNat : Int) != 45) = true
      · have g := good_no7 h10 h7
        rw [dayV_no g, g]
        simp only [Bool.not_eq_true] at h4
        clear g
        go_enter Tryd.func34, Tryd.ntmps34
        go_wp2
        go_ret2
        exact ⟨rfl, Below.refl _ _⟩
      · simp only [Bool.not_eq_true] at h4 h7
        have s1 : (s.extract 0 4).size = 4 := by simp [h10]
        have s2 : (s.extract 5 7).size = 2 := by simp [h10]
        have s3 : (s.extract 8 10).size = 2 := by simp [h10]
        have b1 := dnum_bd (s.extract 0 4) 4 s1 (by omega)
        have b2 := dnum_bd (s.extract 5 7) 2 s2 (by omega)
        have b3 := dnum_bd (s.extract 8 10) 2 s3 (by omega)
        have H1 := fun w => digits_any (s.extract 0 4) w (by omega)
        have H2 := fun w => digits_any (s.extract 5 7) w (by omega)
        have H3 := fun w => digits_any (s.extract 8 10) w (by omega)
        have gd := good_date h10 h4 h7
        cases hg : good s with
        | false =>
          rw [dayV_no hg]
          have gd2 := gd.symm.trans hg
          by_cases habc : dok (s.extract 0 4) = false ∨ (dok (s.extract 0 4) = true ∧ dok (s.extract 5 7) = false) ∨ (dok (s.extract 0 4) = true ∧ dok (s.extract 5 7) = true ∧ dok (s.extract 8 10) = false)
          · exact parse_bad s _ _ _ _ _ _ w h10 h4 h7 b1.1 b1.2 b2.1 b2.2 b3.1 b3.2 H1 H2 H3 habc
          · obtain ⟨e1, e2, e3⟩ : dok (s.extract 0 4) = true ∧ dok (s.extract 5 7) = true ∧ dok (s.extract 8 10) = true := by
              cases x1 : dok (s.extract 0 4) <;> cases x2 : dok (s.extract 5 7) <;> cases x3 : dok (s.extract 8 10) <;> simp [x1, x2, x3] at habc ⊢
            rw [e1, e2, e3] at gd2
            rw [e1] at H1
            rw [e2] at H2
            rw [e3] at H3
            refine parse_none s _ _ _ w h10 h4 h7 b1.1 b1.2 b2.1 b2.2 b3.1 b3.2 H1 H2 H3 (fun w => isCivil_no _ _ _ w b1.1 b1.2 ?_)
            generalize dnum (s.extract 0 4) = Y at gd2 ⊢
            generalize dnum (s.extract 5 7) = M at gd2 ⊢
            generalize dnum (s.extract 8 10) = D at gd2 ⊢
            simp [dateB] at gd2
            omega
        | true =>
          rw [dayV_yes hg]
          have gd2 := gd.symm.trans hg
          simp only [dateB, Bool.and_eq_true, decide_eq_true_eq] at gd2
          obtain ⟨⟨⟨⟨⟨⟨⟨⟨e1, e2⟩, e3⟩, g1⟩, g2⟩, g3⟩, g4⟩, g5⟩, g6⟩ := gd2
          rw [e1] at H1
          rw [e2] at H2
          rw [e3] at H3
          exact parse_yes s _ _ _ w h10 h4 h7 b1.1 b1.2 b2.1 b2.2 b3.1 b3.2 H1 H2 H3 g1 g2 g3 g4 g5 g6
  · have g := good_no10 h10
    have h10' : ((s.size : Int) == 10) = false := by simp; omega
    rw [dayV_no g, g]
    clear g
    go_enter Tryd.func34, Tryd.ntmps34
    go_wp2
    go_ret2
    exact ⟨rfl, Below.refl _ _⟩

theorem accrueDay_any (s : ByteArray) (w : World) (hs : s.size ≤ maxLen) :
    Calls Tryd.prog 14 #[.string s] w fun e w' => e = .returned (.tuple #[.int .i64 (dayV s), .int .i64 (dayE s)]) ∧ Below w.heap.size w w' := by
  have hp := fun w => parse_any s w hs
  cases hg : good s with
  | false =>
    rw [hg, dayV_no hg] at hp
    rw [dayV_no hg, dayE_no hg]
    clear hg
    go_enter Tryd.func14, Tryd.ntmps14
    go_wp2_with fail
    refine (hp _).mono ?_
    rintro e w1 ⟨rfl, hb⟩
    clear hp
    go_wp2
    go_ret2
    exact ⟨rfl, hb⟩
  | true =>
    rw [hg] at hp
    rw [dayE_yes hg]
    clear hg
    generalize dayV s = v at hp ⊢
    go_enter Tryd.func14, Tryd.ntmps14
    go_wp2_with fail
    refine (hp _).mono ?_
    rintro e w1 ⟨rfl, hb⟩
    clear hp
    go_wp2
    go_ret2
    exact ⟨rfl, hb⟩
end Go.Proofs.YtanndhoimpnhpaaDoor
