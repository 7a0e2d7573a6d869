/- What Calendar answers on any other day than the 29th of February, where its parts answer as they must. -/
import Derived.Test.YtanndhoimpnhpaaDoorCalU
import Derived.LoopN
namespace Go.Proofs.YtanndhoimpnhpaaDoor
open Go.ChangeShapes Go.WideShapes Go.ChangeAt Go.RowKit Cal Txt

theorem row_set {W : World} {B : Nat} {f : Nat → Int} (rc : ∀ j, j < 10 → W.cell? ⟨B, j, none⟩ = some (.int .u8 (f j))) (i : Nat) (hi : i < 10) (v : Int) :
    ∀ j, j < 10 → (W.setCell ⟨B, i, none⟩ (.int .u8 v)).cell? ⟨B, j, none⟩ = some (.int .u8 (if j = i then v else f j)) := by
  intro j hj
  by_cases e : j = i
  · subst e
    rw [if_pos rfl]
    exact World.cell?_setCell_same _ _ _ (rc j hj)
  · rw [if_neg e, World.cell?_setCell_other _ _ _ _ (fun h => e (by injection h with _ h2; exact h2.symm))]
    exact rc j hj
theorem row_is {W : World} {B : Nat} {f g : Nat → Int} (rc : ∀ j, j < 10 → W.cell? ⟨B, j, none⟩ = some (.int .u8 (f j))) (h : ∀ j, j < 10 → f j = g j) : ∀ j, j < 10 → W.cell? ⟨B, j, none⟩ = some (.int .u8 (g j)) :=
  fun j hj => by rw [rc j hj, h j hj]
theorem below_ten (j : Nat) (h : j < 10) : j = 0 ∨ j = 1 ∨ j = 2 ∨ j = 3 ∨ (4 ≤ j ∧ j < 10) := by omega
theorem set_over (w : World) (b o : Nat) (u v : Value) : (w.setCell ⟨b, o, none⟩ u).setCell ⟨b, o, none⟩ v = w.setCell ⟨b, o, none⟩ v := by
  unfold World.setCell
  congr 1
  apply Array.ext
  · simp
  · intro i h1 h2
    simp only [Array.getElem_modify]
    split
    · cases w.heap[i]'(by simpa using h2) <;> simp
    · rfl

set_option maxRecDepth 100000 in
set_option maxHeartbeats 8000000 in
theorem cal_plain (day more basis d n k0 to x y : Int) (S T : ByteArray) (w : World) (d0 : 0 ≤ d) (d1 : d ≤ 109205) (n0 : 0 ≤ n) (n1 : n < 400) (kA : 0 ≤ k0) (kB : k0 ≤ 2) (x0 : 0 ≤ x) (y0 : 0 ≤ y) (x1 : x ≤ 200000) (y1 : y ≤ 200000)
    (hS : S.size = 10) (hT : T.size = 10) (hless : Op.bytesLess S.toList T.toList = true) (hto : (d + n ≤ 109572 ∧ d + n = to) ∨ (109572 < d + n ∧ 109572 = to)) (hkz : 2 ≤ k0 ∨ (k0 ≤ 1 ∧ x + y = to - d))
    (hp1 : ∀ W : World, Calls Tryd.prog 13 #[.int .i64 day, .int .i64 109206] W fun e w' => e = .returned (.int .i64 d) ∧ w' = W)
    (hp2 : ∀ W : World, Calls Tryd.prog 13 #[.int .i64 more, .int .i64 400] W fun e w' => e = .returned (.int .i64 n) ∧ w' = W)
    (hp3 : ∀ W : World, Calls Tryd.prog 13 #[.int .i64 basis, .int .i64 3] W fun e w' => e = .returned (.int .i64 k0) ∧ w' = W)
    (hD1 : ∀ W : World, Below w.heap.size w W → Calls Tryd.prog 10 #[.int .i64 d] W fun e w' => e = .returned (.tuple #[.string S, .int .i64 0]) ∧ Below W.heap.size W w')
    (hD2 : ∀ W : World, Below w.heap.size w W → Calls Tryd.prog 10 #[.int .i64 (d + 1)] W fun e w' => e = .returned (.tuple #[.string T, .int .i64 0]) ∧ Below W.heap.size W w')
    (hDay : ∀ W : World, Calls Tryd.prog 14 #[.string S] W fun e w' => e = .returned (.tuple #[.int .i64 d, .int .i64 0]) ∧ Below W.heap.size W w')
    (hW1 : ∀ W : World, Calls Tryd.prog 15 #[.int .i64 (1 + k0), .int .i64 d, .int .i64 (d + (to - d) / 2)] W fun e w' => e = .returned (.tuple #[.int .i64 x, .int .i64 0]) ∧ Below W.heap.size W w')
    (hW2 : ∀ W : World, Calls Tryd.prog 15 #[.int .i64 (1 + k0), .int .i64 (d + (to - d) / 2), .int .i64 to] W fun e w' => e = .returned (.tuple #[.int .i64 y, .int .i64 0]) ∧ Below W.heap.size W w')
    (hW3 : ∀ W : World, Calls Tryd.prog 15 #[.int .i64 (1 + k0), .int .i64 d, .int .i64 to] W fun e w' => e = .returned (.tuple #[.int .i64 (x + y), .int .i64 0]) ∧ Below W.heap.size W w')
    (S' : ByteArray) (D : Int) (hS' : S'.size = 10) (h29 : ((S.extract 5 10).toList == [48, 50, 45, 50, 57]) = false) (hrest : ∀ j, 4 ≤ j → j < 10 → byt S' j = byt S j)
    (b0 : 48 ≤ byt S 0 ∧ byt S 0 ≤ 56) (b1 : 48 ≤ byt S 1 ∧ byt S 1 ≤ 57) (b2 : 48 ≤ byt S 2 ∧ byt S 2 ≤ 57) (b3 : 48 ≤ byt S 3 ∧ byt S 3 ≤ 57)
    (hcase : (byt S 3 ≤ 56 ∧ byt S' 0 = byt S 0 ∧ byt S' 1 = byt S 1 ∧ byt S' 2 = byt S 2 ∧ byt S' 3 = byt S 3 + 1) ∨
      (byt S 3 = 57 ∧ byt S 2 ≤ 56 ∧ byt S' 0 = byt S 0 ∧ byt S' 1 = byt S 1 ∧ byt S' 2 = byt S 2 + 1 ∧ byt S' 3 = 48) ∨
      (byt S 3 = 57 ∧ byt S 2 = 57 ∧ byt S 1 ≤ 56 ∧ byt S' 0 = byt S 0 ∧ byt S' 1 = byt S 1 + 1 ∧ byt S' 2 = 48 ∧ byt S' 3 = 48) ∨
      (byt S 3 = 57 ∧ byt S 2 = 57 ∧ byt S 1 = 57 ∧ byt S' 0 = byt S 0 + 1 ∧ byt S' 1 = 48 ∧ byt S' 2 = 48 ∧ byt S' 3 = 48))
    (hDay2 : ∀ W : World, Calls Tryd.prog 14 #[.string S'] W fun e w' => e = .returned (.tuple #[.int .i64 D, .int .i64 0]) ∧ Below W.heap.size W w')
    (hW4 : ∀ W : World, Calls Tryd.prog 15 #[.int .i64 3, .int .i64 d, .int .i64 D] W fun e w' => e = .returned (.tuple #[.int .i64 360, .int .i64 0]) ∧ Below W.heap.size W w')
    (_D0 : 0 ≤ D) (_D1 : D ≤ 109572) (hD : D - d = 365 ∨ D - d = 366) :
    Calls Tryd.prog 4 #[.int .i64 day, .int .i64 more, .int .i64 basis] w fun e w' => e = .returned (.bool true) ∧ Below w.heap.size w w' := by
  have HC := (show Hid _ from hcase)
  have HR := (show Hid _ from hrest)
  have HD := (show Hid _ from hD)
  have B0 := (show Hid _ from b0)
  have B1 := (show Hid _ from b1)
  have B2 := (show Hid _ from b2)
  have B3 := (show Hid _ from b3)
  have HY2 := (show Hid _ from hDay2)
  have HW4 := (show Hid _ from hW4)
  clear hcase hrest hD b0 b1 b2 b3 hDay2 hW4
  have HZ : Hid (2 ≤ k0 ∨ (k0 ≤ 1 ∧ x + y = to - d)) := hkz
  clear hkz
  rcases hto with ⟨hto, rfl⟩ | ⟨hto, rfl⟩
  all_goals
    go_enter Tryd.func4, Tryd.ntmps4
    go_wp2_with fail
    refine (hp1 _).mono ?_
    rintro e w' ⟨rfl, rfl⟩
    go_wp2_with fail
    refine (hp2 _).mono ?_
    rintro e w' ⟨rfl, rfl⟩
    go_wp2_with fail
    refine (hp3 _).mono ?_
    rintro e w' ⟨rfl, rfl⟩
    go_wp2_with fail
    refine (hD1 _ (Below.refl _ _)).mono ?_
    rintro e w1 ⟨rfl, t1⟩
    go_wp2_with fail
    refine (hD2 _ t1).mono ?_
    rintro e w2 ⟨rfl, hb2⟩
    have t2 := t1.trans (hb2.mono t1.size)
    clear hb2 t1
    go_wp2_with fail
    refine (hDay _).mono ?_
    rintro e w3 ⟨rfl, hb3⟩
    have t3 := t2.trans (hb3.mono t2.size)
    clear hb3 t2
    go_wp2_with fail
    refine (hW1 _).mono ?_
    rintro e w4 ⟨rfl, hb4⟩
    have t4 := t3.trans (hb4.mono t3.size)
    clear hb4 t3
    go_wp2_with fail
    refine (hW2 _).mono ?_
    rintro e w5 ⟨rfl, hb5⟩
    have t5 := t4.trans (hb5.mono t4.size)
    clear hb5 t4
    go_wp2_with fail
    refine (hW3 _).mono ?_
    rintro e w6 ⟨rfl, hb6⟩
    have t6 := t5.trans (hb6.mono t5.size)
    clear hb6 t5 hp1 hp2 hp3 hD1 hD2 hDay hW1 hW2 hW3
    rcases HZ.out with hk | ⟨hk, hz⟩
    all_goals
      clear HZ
      have hcv := Lib.run_convert_string_bytes (P := Tryd.prog) w6 9 34 5 S Tryd.underlying9 Tryd.underlying34 Tryd.underlying5
      go_wp2_with fail
      clear hcv
      obtain ⟨rc, rf, rs⟩ := bytes_row w6 5 S hS
      have t7 := t6.trans ((Lib.bytesWorld_below w6 5 S).mono t6.size)
      have hB := t6.size
      generalize Lib.bytesWorld w6 5 S = W7 at *
      rcases HC.out with ⟨e3, f0, f1, f2, f3⟩ | ⟨e3, e2, f0, f1, f2, f3⟩ | ⟨e3, e2, e1, f0, f1, f2, f3⟩ | ⟨e3, e2, e1, f0, f1, f2, f3⟩
      · as_aux_lemma =>
          have hcv2 := fun cap => row_text (W7.setCell ⟨w6.heap.size, 3, none⟩ (.int .u8 (byt S 3 + 1))) w6.heap.size cap S' hS' (row_is (row_set rc 3 (by decide) (byt S 3 + 1)) (fun j hj => by
            rcases below_ten j hj with rfl | rfl | rfl | rfl | ⟨h4, h5⟩
            · simp [f0]
            · simp [f1]
            · simp [f2]
            · simp [f3]
            · rw [HR.out j h4 h5]
              simp only [if_neg (show ¬ j = 3 by omega)]))
          have c3 := rc 3 (by decide)
          have z3 := rf 3 (by decide)
          obtain ⟨l3, u3⟩ := B3.out
          have ss := set_over
          clear rc rf f0 f1 f2 f3 HC hless
          refine wp_loop_rounds 1 ?_
          rw [rounds_succ]
          go_wp2_with fail
          refine (HY2.out _).mono ?_
          rintro e w8 ⟨rfl, hb8⟩
          have t8 := (t7.setCell hB _).trans (hb8.mono (t7.setCell hB _).size)
          clear hb8 t7 hcv2
          go_wp2_with fail
          refine (HW4.out _).mono ?_
          rintro e w9 ⟨rfl, hb9⟩
          have t9 := t8.trans (hb9.mono t8.size)
          clear hb9 t8
          rcases HD.out with hD | hD
          all_goals
            go_wp2
            go_ret
            exact ⟨rfl, t9⟩
      · as_aux_lemma =>
          have hcv2 := fun cap => row_text ((W7.setCell ⟨w6.heap.size, 3, none⟩ (.int .u8 (48))).setCell ⟨w6.heap.size, 2, none⟩ (.int .u8 (byt S 2 + 1))) w6.heap.size cap S' hS' (row_is (row_set (row_set rc 3 (by decide) (48)) 2 (by decide) (byt S 2 + 1)) (fun j hj => by
            rcases below_ten j hj with rfl | rfl | rfl | rfl | ⟨h4, h5⟩
            · simp [f0]
            · simp [f1]
            · simp [f2]
            · simp [f3]
            · rw [HR.out j h4 h5]
              simp only [if_neg (show ¬ j = 3 by omega), if_neg (show ¬ j = 2 by omega)]))
          have c3 := rc 3 (by decide)
          have z3 := rf 3 (by decide)
          obtain ⟨l3, u3⟩ := B3.out
          have c2 := rc 2 (by decide)
          have z2 := rf 2 (by decide)
          obtain ⟨l2, u2⟩ := B2.out
          rw [e3] at c3
          have ss := set_over
          clear rc rf f0 f1 f2 f3 HC hless
          clear l3 u3 e3
          refine wp_loop_rounds 2 ?_
          rw [rounds_succ]
          go_wp2_with fail
          rw [rounds_succ]
          go_wp2_with fail
          refine (HY2.out _).mono ?_
          rintro e w8 ⟨rfl, hb8⟩
          have t8 := ((t7.setCell hB _).setCell hB _).trans (hb8.mono ((t7.setCell hB _).setCell hB _).size)
          clear hb8 t7 hcv2
          go_wp2_with fail
          refine (HW4.out _).mono ?_
          rintro e w9 ⟨rfl, hb9⟩
          have t9 := t8.trans (hb9.mono t8.size)
          clear hb9 t8
          rcases HD.out with hD | hD
          all_goals
            go_wp2
            go_ret
            exact ⟨rfl, t9⟩
      · as_aux_lemma =>
          have hcv2 := fun cap => row_text (((W7.setCell ⟨w6.heap.size, 3, none⟩ (.int .u8 (48))).setCell ⟨w6.heap.size, 2, none⟩ (.int .u8 (48))).setCell ⟨w6.heap.size, 1, none⟩ (.int .u8 (byt S 1 + 1))) w6.heap.size cap S' hS' (row_is (row_set (row_set (row_set rc 3 (by decide) (48)) 2 (by decide) (48)) 1 (by decide) (byt S 1 + 1)) (fun j hj => by
            rcases below_ten j hj with rfl | rfl | rfl | rfl | ⟨h4, h5⟩
            · simp [f0]
            · simp [f1]
            · simp [f2]
            · simp [f3]
            · rw [HR.out j h4 h5]
              simp only [if_neg (show ¬ j = 3 by omega), if_neg (show ¬ j = 2 by omega), if_neg (show ¬ j = 1 by omega)]))
          have c3 := rc 3 (by decide)
          have z3 := rf 3 (by decide)
          obtain ⟨l3, u3⟩ := B3.out
          have c2 := rc 2 (by decide)
          have z2 := rf 2 (by decide)
          obtain ⟨l2, u2⟩ := B2.out
          have c1 := rc 1 (by decide)
          have z1 := rf 1 (by decide)
          obtain ⟨l1, u1⟩ := B1.out
          rw [e3] at c3
          rw [e2] at c2
          have ss := set_over
          clear rc rf f0 f1 f2 f3 HC hless
          clear l3 u3 e3
          clear l2 u2 e2
          refine wp_loop_rounds 3 ?_
          rw [rounds_succ]
          go_wp2_with fail
          rw [rounds_succ]
          go_wp2_with fail
          rw [rounds_succ]
          go_wp2_with fail
          refine (HY2.out _).mono ?_
          rintro e w8 ⟨rfl, hb8⟩
          have t8 := (((t7.setCell hB _).setCell hB _).setCell hB _).trans (hb8.mono (((t7.setCell hB _).setCell hB _).setCell hB _).size)
          clear hb8 t7 hcv2
          go_wp2_with fail
          refine (HW4.out _).mono ?_
          rintro e w9 ⟨rfl, hb9⟩
          have t9 := t8.trans (hb9.mono t8.size)
          clear hb9 t8
          rcases HD.out with hD | hD
          all_goals
            go_wp2
            go_ret
            exact ⟨rfl, t9⟩
      · as_aux_lemma =>
          have hcv2 := fun cap => row_text ((((W7.setCell ⟨w6.heap.size, 3, none⟩ (.int .u8 (48))).setCell ⟨w6.heap.size, 2, none⟩ (.int .u8 (48))).setCell ⟨w6.heap.size, 1, none⟩ (.int .u8 (48))).setCell ⟨w6.heap.size, 0, none⟩ (.int .u8 (byt S 0 + 1))) w6.heap.size cap S' hS' (row_is (row_set (row_set (row_set (row_set rc 3 (by decide) (48)) 2 (by decide) (48)) 1 (by decide) (48)) 0 (by decide) (byt S 0 + 1)) (fun j hj => by
            rcases below_ten j hj with rfl | rfl | rfl | rfl | ⟨h4, h5⟩
            · simp [f0]
            · simp [f1]
            · simp [f2]
            · simp [f3]
            · rw [HR.out j h4 h5]
              simp only [if_neg (show ¬ j = 3 by omega), if_neg (show ¬ j = 2 by omega), if_neg (show ¬ j = 1 by omega), if_neg (show ¬ j = 0 by omega)]))
          have c3 := rc 3 (by decide)
          have z3 := rf 3 (by decide)
          obtain ⟨l3, u3⟩ := B3.out
          have c2 := rc 2 (by decide)
          have z2 := rf 2 (by decide)
          obtain ⟨l2, u2⟩ := B2.out
          have c1 := rc 1 (by decide)
          have z1 := rf 1 (by decide)
          obtain ⟨l1, u1⟩ := B1.out
          have c0 := rc 0 (by decide)
          have z0 := rf 0 (by decide)
          obtain ⟨l0, u0⟩ := B0.out
          rw [e3] at c3
          rw [e2] at c2
          rw [e1] at c1
          have ss := set_over
          clear rc rf f0 f1 f2 f3 HC hless
          clear l3 u3 e3
          clear l2 u2 e2
          clear l1 u1 e1
          refine wp_loop_rounds 4 ?_
          rw [rounds_succ]
          go_wp2_with fail
          rw [rounds_succ]
          go_wp2_with fail
          rw [rounds_succ]
          go_wp2_with fail
          rw [rounds_succ]
          go_wp2_with fail
          refine (HY2.out _).mono ?_
          rintro e w8 ⟨rfl, hb8⟩
          have t8 := ((((t7.setCell hB _).setCell hB _).setCell hB _).setCell hB _).trans (hb8.mono ((((t7.setCell hB _).setCell hB _).setCell hB _).setCell hB _).size)
          clear hb8 t7 hcv2
          go_wp2_with fail
          refine (HW4.out _).mono ?_
          rintro e w9 ⟨rfl, hb9⟩
          have t9 := t8.trans (hb9.mono t8.size)
          clear hb9 t8
          rcases HD.out with hD | hD
          all_goals
            go_wp2
            go_ret
            exact ⟨rfl, t9⟩
end Go.Proofs.YtanndhoimpnhpaaDoor
