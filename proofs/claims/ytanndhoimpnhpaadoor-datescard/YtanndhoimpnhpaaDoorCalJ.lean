/- What the document's Day answers for every text, in one. -/
import Derived.Test.YtanndhoimpnhpaaDoorCalI
namespace Go.Proofs.YtanndhoimpnhpaaDoor
open Go.ChangeShapes Go.WideShapes Go.ChangeAt Go.RowKit Cal Txt

def good (s : ByteArray) : Bool :=
  decide (s.size = 10) && decide (s.data.toList[4]? = some 45) && decide (s.data.toList[7]? = some 45) && dateB (dok (s.extract 0 4)) (dok (s.extract 5 7)) (dok (s.extract 8 10)) (dnum (s.extract 0 4)) (dnum (s.extract 5 7)) (dnum (s.extract 8 10))
def dayV (s : ByteArray) : Int := if good s then num (dnum (s.extract 0 4)) (dnum (s.extract 5 7)) (dnum (s.extract 8 10)) else 0
def dayE (s : ByteArray) : Int := if good s then 0 else 1

theorem at_toList (s : ByteArray) (i : Nat) (h : i < s.size) : s.data.toList[i]? = some s[i] := by
  rw [List.getElem?_eq_getElem (by simpa using h)]; rfl
theorem u8_45 (c : UInt8) : (c = 45) ↔ ((c.toNat : Int) != 45) = false := by
  rw [← UInt8.toNat_inj]; simp; omega

theorem good_no10 {s : ByteArray} (h : ¬ s.size = 10) : good s = false := by simp [good, h]
theorem good_no4 {s : ByteArray} (h10 : s.size = 10) (h : ((s[4].toNat : Int) != 45) = true) : good s = false := by
  have e := at_toList s 4 (by omega)
  have n : ¬ s[4] = 45 := fun x => by rw [u8_45] at x; rw [x] at h; exact absurd h (by simp)
  simp only [good, e, Option.some.injEq, n, decide_false, Bool.and_false, Bool.false_and]
theorem good_no7 {s : ByteArray} (h10 : s.size = 10) (h : ((s[7].toNat : Int) != 45) = true) : good s = false := by
  have e := at_toList s 7 (by omega)
  have n : ¬ s[7] = 45 := fun x => by rw [u8_45] at x; rw [x] at h; exact absurd h (by simp)
  simp only [good, e, Option.some.injEq, n, decide_false, Bool.and_false, Bool.false_and]
theorem good_date {s : ByteArray} (h10 : s.size = 10) (h4 : ((s[4].toNat : Int) != 45) = false) (h7 : ((s[7].toNat : Int) != 45) = false) :
    good s = dateB (dok (s.extract 0 4)) (dok (s.extract 5 7)) (dok (s.extract 8 10)) (dnum (s.extract 0 4)) (dnum (s.extract 5 7)) (dnum (s.extract 8 10)) := by
  have e4 := at_toList s 4 (by omega)
  have e7 := at_toList s 7 (by omega)
  have n4 : s[4] = 45 := (u8_45 _).mpr h4
  have n7 : s[7] = 45 := (u8_45 _).mpr h7
  simp only [good, e4, e7, n4, n7, h10, decide_true, Bool.true_and]
theorem dayV_no {s : ByteArray} (h : good s = false) : dayV s = 0 := by simp [dayV, h]
theorem dayE_no {s : ByteArray} (h : good s = false) : dayE s = 1 := by simp [dayE, h]
theorem dayV_yes {s : ByteArray} (h : good s = true) : dayV s = num (dnum (s.extract 0 4)) (dnum (s.extract 5 7)) (dnum (s.extract 8 10)) := by simp [dayV, h]
theorem dayE_yes {s : ByteArray} (h : good s = true) : dayE s = 0 := by simp [dayE, h]
theorem ret_two {k k' : IntKind} {a b c d : Int} (h : a = c) (h' : b = d) : Ending.returned (.tuple #[.int k a, .int k' b]) = .returned (.tuple #[.int k c, .int k' d]) := by rw [h, h']

set_option maxHeartbeats 400000 in
theorem refDay_any (s : ByteArray) (w : World) (_hs : s.size ≤ maxLen) :
    Calls Tryd.prog 29 #[.string s] w fun e w' => e = .returned (.tuple #[.int .i64 (dayV s), .int .i64 (dayE s)]) ∧ Below w.heap.size w w' := by
  unfold maxLen at _hs
  by_cases h10 : s.size = 10
  · by_cases h4 : ((s[4].toNat : Int) != 45) = true
    · have g := good_no4 h10 h4
      rw [dayV_no g, dayE_no g]
      clear g
      go_enter Tryd.func29, Tryd.ntmps29
      go_wp2
      go_ret2
      exact ⟨rfl, Below.refl _ _⟩
    · by_cases h7 : ((s[7].toNat : Int) != 45) = true
      · have g := good_no7 h10 h7
        rw [dayV_no g, dayE_no g]
        simp only [Bool.not_eq_true] at h4
        clear g
        go_enter Tryd.func29, Tryd.ntmps29
        go_wp2
        go_ret2
        exact ⟨rfl, Below.refl _ _⟩
      · simp only [Bool.not_eq_true] at h4 h7
        have s1 : (s.extract 0 4).size = 4 := by simp [h10]
        have s2 : (s.extract 5 7).size = 2 := by simp [h10]
        have s3 : (s.extract 8 10).size = 2 := by simp [h10]
        have b1 := dnum_bd (s.extract 0 4) 4 s1 (by omega)
        have b2 := dnum_bd (s.extract 5 7) 2 s2 (by omega)
        have b3 := dnum_bd (s.extract 8 10) 2 s3 (by omega)
        have H1 := fun w => refdigits_any (s.extract 0 4) w (by omega)
        have H2 := fun w => refdigits_any (s.extract 5 7) w (by omega)
        have H3 := fun w => refdigits_any (s.extract 8 10) w (by omega)
        have gd := good_date h10 h4 h7
        cases hg : good s with
        | false =>
          rw [dayV_no hg, dayE_no hg]
          exact refDay_no s _ _ _ _ _ _ w h10 h4 h7 b1.1 b1.2 b2.1 b2.2 b3.1 b3.2 H1 H2 H3 (gd.symm.trans hg)
        | true =>
          rw [dayV_yes hg, dayE_yes hg]
          have gd2 := gd.symm.trans hg
          simp only [dateB, Bool.and_eq_true, decide_eq_true_eq] at gd2
          obtain ⟨⟨⟨⟨⟨⟨⟨⟨e1, e2⟩, e3⟩, g1⟩, g2⟩, g3⟩, g4⟩, g5⟩, g6⟩ := gd2
          rw [e1] at H1
          rw [e2] at H2
          rw [e3] at H3
          exact refDay_yes s _ _ _ w h10 h4 h7 b1.1 b1.2 b2.1 b2.2 b3.1 b3.2 H1 H2 H3 g1 g2 g3 g4 g5 g6
  · have g := good_no10 h10
    have h10' : ((s.size : Int) == 10) = false := by simp; omega
    rw [dayV_no g, dayE_no g]
    clear g
    go_enter Tryd.func29, Tryd.ntmps29
    go_wp2
    go_ret2
    exact ⟨rfl, Below.refl _ _⟩
end Go.Proofs.YtanndhoimpnhpaaDoor
