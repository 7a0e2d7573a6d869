/- A loan's day, entry by entry: each entry can be made, and no sum is out of bounds. -/
import Derived.Test.YtanndhoimpnhpaaDoorLoan
namespace Go.Proofs.YtanndhoimpnhpaaDoor.Ln

/-- What an entry may be: each thing that it takes from has it, and no sum is out of bounds. -/
def CanEnter (y : Dy) (k : Nat) (a : Int) : Prop :=
  0 ≤ a ∧ 0 ≤ y.am k ∧ y.am k + a ≤ 9000000000000000000 ∧
  match k with
  | 1 => y.g.pr + a ≤ 9000000000000000000
  | 2 => y.g.la + a ≤ 9000000000000000000 ∧ a ≤ y.g.du
  | 3 => y.g.du + a ≤ 9000000000000000000 ∧ a ≤ y.g.it
  | 4 => y.g.pr + a ≤ 9000000000000000000 ∧ a ≤ y.g.it
  | 5 => a ≤ y.g.fi
  | 6 => a ≤ y.g.la
  | 7 => a ≤ y.g.du
  | 8 => a ≤ y.g.it
  | 9 => a ≤ y.g.pr
  | 10 => y.g.cr + a ≤ 9000000000000000000
  | 11 => y.g.it + a ≤ 9000000000000000000
  | 12 => y.g.fi + a ≤ 9000000000000000000
  | _ => False
/-- No number of a day is out of bounds. -/
structure Fit (y : Dy) : Prop where
  pr0 : 0 ≤ y.g.pr
  pr1 : y.g.pr ≤ 4000000000000000000
  it0 : 0 ≤ y.g.it
  it1 : y.g.it ≤ 4000000000000000000
  du0 : 0 ≤ y.g.du
  du1 : y.g.du ≤ 4000000000000000000
  la0 : 0 ≤ y.g.la
  la1 : y.g.la ≤ 4000000000000000000
  fi0 : 0 ≤ y.g.fi
  fi1 : y.g.fi ≤ 8000000000000000000
  cr0 : 0 ≤ y.g.cr
  cr1 : y.g.cr ≤ 4000000000000000000
/-- A day under way: the amounts' bounds. -/
structure Am (y : Dy) (L : Int) : Prop where
  nn : ∀ j, 0 ≤ y.am j
  a1 : y.am 1 ≤ L
  a2 : y.am 2 ≤ 656820000000000000
  a3 : y.am 3 ≤ 656820000000000000
  a4 : y.am 4 + y.g.it ≤ 656820000000000000
  pd : ∀ j, 5 ≤ j → j ≤ 10 → y.am j ≤ L
  a11 : y.am 11 = 0
  a12 : y.am 12 = 0
/-- What is left of a payment ahead of its k-th part, and the day then. -/
def owed (g : St) : Nat → Int
  | 0 => g.fi
  | 1 => g.la
  | 2 => g.du
  | 3 => g.it
  | _ => g.pr
def payK (y : Dy) (a : Int) : Nat → Dy × Int
  | 0 => (y, a)
  | k + 1 => (enter (payK y a k).1 (5 + k) (least (owed y.g k) (payK y a k).2), (payK y a k).2 - least (owed y.g k) (payK y a k).2)
theorem pay_eq (y : Dy) (a : Int) : pay y a = enter (payK y a 5).1 10 (payK y a 5).2 := rfl
theorem upd_same (f : Nat → Int) (k : Nat) (a : Int) : upd f k a k = f k + a := by simp [upd]
theorem upd_ne (f : Nat → Int) (k j : Nat) (a : Int) (h : ¬ j = k) : upd f k a j = f j := by simp [upd, h]
theorem payK_am (y : Dy) (a : Int) : ∀ k j : Nat, (5 + k ≤ j ∨ j < 5) → (payK y a k).1.am j = y.am j
  | 0, _, _ => rfl
  | k + 1, j, h => by
    show upd (payK y a k).1.am (5 + k) _ j = y.am j
    rw [upd_ne _ _ _ _ (by omega)]
    exact payK_am y a k j (by omega)
theorem payK_left (y : Dy) (a : Int) (hf : Fit y) (ha : 0 ≤ a) : ∀ k, 0 ≤ (payK y a k).2 ∧ (payK y a k).2 ≤ a
  | 0 => ⟨ha, Int.le_refl _⟩
  | k + 1 => by
    have h := payK_left y a hf ha k
    have l := least_le (owed y.g k) (payK y a k).2
    have o : 0 ≤ owed y.g k := by
      unfold owed
      split
      · exact hf.fi0
      · exact hf.la0
      · exact hf.du0
      · exact hf.it0
      · exact hf.pr0
    have n := least_nn (owed y.g k) (payK y a k).2 o h.1
    show 0 ≤ (payK y a k).2 - least (owed y.g k) (payK y a k).2 ∧ (payK y a k).2 - least (owed y.g k) (payK y a k).2 ≤ a
    omega
/-- What the first k parts have left of each thing. -/
theorem payK_g (y : Dy) (a : Int) : (payK y a 1).1.g = { y.g with fi := y.g.fi - least (owed y.g 0) (payK y a 0).2 } ∧
    (payK y a 2).1.g = { (payK y a 1).1.g with la := y.g.la - least (owed y.g 1) (payK y a 1).2 } ∧
    (payK y a 3).1.g = { (payK y a 2).1.g with du := y.g.du - least (owed y.g 2) (payK y a 2).2 } ∧
    (payK y a 4).1.g = { (payK y a 3).1.g with it := y.g.it - least (owed y.g 3) (payK y a 3).2 } ∧
    (payK y a 5).1.g = { (payK y a 4).1.g with pr := y.g.pr - least (owed y.g 4) (payK y a 4).2 } := ⟨rfl, rfl, rfl, rfl, rfl⟩
theorem owed_nn {y : Dy} (hf : Fit y) (k : Nat) : 0 ≤ owed y.g k := by
  unfold owed
  split
  · exact hf.fi0
  · exact hf.la0
  · exact hf.du0
  · exact hf.it0
  · exact hf.pr0
theorem payK_fit (y : Dy) (a : Int) (hf : Fit y) (ha : 0 ≤ a) : ∀ k, k ≤ 5 → Fit (payK y a k).1 := by
  have x0 := least_nn (owed y.g 0) (payK y a 0).2 (owed_nn hf 0) (payK_left y a hf ha 0).1
  have x1 := least_nn (owed y.g 1) (payK y a 1).2 (owed_nn hf 1) (payK_left y a hf ha 1).1
  have x2 := least_nn (owed y.g 2) (payK y a 2).2 (owed_nn hf 2) (payK_left y a hf ha 2).1
  have x3 := least_nn (owed y.g 3) (payK y a 3).2 (owed_nn hf 3) (payK_left y a hf ha 3).1
  have x4 := least_nn (owed y.g 4) (payK y a 4).2 (owed_nn hf 4) (payK_left y a hf ha 4).1
  have l0 := (least_le (owed y.g 0) (payK y a 0).2).1
  have l1 := (least_le (owed y.g 1) (payK y a 1).2).1
  have l2 := (least_le (owed y.g 2) (payK y a 2).2).1
  have l3 := (least_le (owed y.g 3) (payK y a 3).2).1
  have l4 := (least_le (owed y.g 4) (payK y a 4).2).1
  have f0 : Fit (payK y a 0).1 := hf
  have f1 : Fit (payK y a 1).1 := by
    refine ⟨hf.pr0, hf.pr1, hf.it0, hf.it1, hf.du0, hf.du1, hf.la0, hf.la1, ?_, ?_, hf.cr0, hf.cr1⟩
    · show 0 ≤ y.g.fi - least (owed y.g 0) (payK y a 0).2
      have : owed y.g 0 = y.g.fi := rfl
      omega
    · show y.g.fi - least (owed y.g 0) (payK y a 0).2 ≤ 8000000000000000000
      have := hf.fi1
      omega
  have f2 : Fit (payK y a 2).1 := by
    refine ⟨f1.pr0, f1.pr1, f1.it0, f1.it1, f1.du0, f1.du1, ?_, ?_, f1.fi0, f1.fi1, f1.cr0, f1.cr1⟩
    · show 0 ≤ y.g.la - least (owed y.g 1) (payK y a 1).2
      have : owed y.g 1 = y.g.la := rfl
      omega
    · show y.g.la - least (owed y.g 1) (payK y a 1).2 ≤ 4000000000000000000
      have := hf.la1
      omega
  have f3 : Fit (payK y a 3).1 := by
    refine ⟨f2.pr0, f2.pr1, f2.it0, f2.it1, ?_, ?_, f2.la0, f2.la1, f2.fi0, f2.fi1, f2.cr0, f2.cr1⟩
    · show 0 ≤ y.g.du - least (owed y.g 2) (payK y a 2).2
      have : owed y.g 2 = y.g.du := rfl
      omega
    · show y.g.du - least (owed y.g 2) (payK y a 2).2 ≤ 4000000000000000000
      have := hf.du1
      omega
  have f4 : Fit (payK y a 4).1 := by
    refine ⟨f3.pr0, f3.pr1, ?_, ?_, f3.du0, f3.du1, f3.la0, f3.la1, f3.fi0, f3.fi1, f3.cr0, f3.cr1⟩
    · show 0 ≤ y.g.it - least (owed y.g 3) (payK y a 3).2
      have : owed y.g 3 = y.g.it := rfl
      omega
    · show y.g.it - least (owed y.g 3) (payK y a 3).2 ≤ 4000000000000000000
      have := hf.it1
      omega
  have f5 : Fit (payK y a 5).1 := by
    refine ⟨?_, ?_, f4.it0, f4.it1, f4.du0, f4.du1, f4.la0, f4.la1, f4.fi0, f4.fi1, f4.cr0, f4.cr1⟩
    · show 0 ≤ y.g.pr - least (owed y.g 4) (payK y a 4).2
      have : owed y.g 4 = y.g.pr := rfl
      omega
    · show y.g.pr - least (owed y.g 4) (payK y a 4).2 ≤ 4000000000000000000
      have := hf.pr1
      omega
  intro k hk
  match k, hk with
  | 0, _ => exact f0
  | 1, _ => exact f1
  | 2, _ => exact f2
  | 3, _ => exact f3
  | 4, _ => exact f4
  | 5, _ => exact f5
/-- Each part of a payment can be entered. -/
theorem payK_can (y : Dy) (a L : Int) (hL : L ≤ 4100000000000) (hf : Fit y) (hm : Am y L) (ha : 0 ≤ a) (ha1 : a ≤ 100000000000) (k : Nat) (hk : k < 5) : CanEnter (payK y a k).1 (5 + k) (least (owed y.g k) (payK y a k).2) := by
  have hl := payK_left y a hf ha k
  have x := least_nn (owed y.g k) (payK y a k).2 (owed_nn hf k) hl.1
  have l := least_le (owed y.g k) (payK y a k).2
  have e := payK_am y a k (5 + k) (by omega)
  have n := hm.nn (5 + k)
  have p := hm.pd (5 + k) (by omega) (by omega)
  unfold CanEnter
  rw [e]
  refine ⟨x, n, by omega, ?_⟩
  match k, hk with
  | 0, _ => exact l.1
  | 1, _ => exact l.1
  | 2, _ => exact l.1
  | 3, _ => exact l.1
  | 4, _ => exact l.1
theorem pay_can (y : Dy) (a L : Int) (hL : L ≤ 4100000000000) (hf : Fit y) (hm : Am y L) (hc : y.g.cr ≤ 4100000000000) (ha : 0 ≤ a) (ha1 : a ≤ 100000000000) : CanEnter (payK y a 5).1 10 (payK y a 5).2 := by
  have hl := payK_left y a hf ha 5
  have e := payK_am y a 5 10 (by omega)
  have n := hm.nn 10
  have p := hm.pd 10 (by omega) (by omega)
  unfold CanEnter
  rw [e]
  refine ⟨hl.1, n, by omega, ?_⟩
  show y.g.cr + (payK y a 5).2 ≤ 9000000000000000000
  omega

/-! ### A day's steps keep the amounts' bounds -/
theorem Inv.fit {t : Terms} {L : Int} {s : Nat} {g : St} (h : Inv t L s g) (hs : s ≤ 4320) (hL : L ≤ 4100000000000) (hfn : g.fn / den t ≤ 8000000000000000000) (am : Nat → Int) : Fit ⟨g, am⟩ := by
  have hb := h.bound hs hL
  have h1 := h.pr
  have h2 := h.it
  have h3 := h.du
  have h4 := h.la
  have h5 := h.cr1
  have h6 := h.fi1
  exact ⟨h1, by show g.pr ≤ _; omega, h2, by show g.it ≤ _; omega, h3, by show g.du ≤ _; omega, h4, by show g.la ≤ _; omega, h.fi, by show g.fi ≤ _; omega, h.cr, by show g.cr ≤ _; omega⟩
theorem Am.zero (g : St) (L : Int) (hL : 0 ≤ L) (hi : g.it ≤ 656820000000000000) : Am ⟨g, fun _ => 0⟩ L :=
  ⟨fun _ => Int.le_refl _, hL, by show (0 : Int) ≤ _; omega, by show (0 : Int) ≤ _; omega, by show 0 + g.it ≤ _; omega, fun _ _ _ => hL, rfl, rfl⟩
theorem Am.lend {y : Dy} {L : Int} (h : Am y L) (a : Int) (ha : 0 ≤ a) : Am (enter y 1 a) (L + a) := by
  have h1 := h.a1
  have n1 := h.nn 1
  refine ⟨fun j => ?_, ?_, ?_, ?_, ?_, fun j j5 j10 => ?_, ?_, ?_⟩
  · have := h.nn j
    show 0 ≤ upd y.am 1 a j
    unfold upd; split <;> omega
  · show upd y.am 1 a 1 ≤ L + a; rw [upd_same]; omega
  · show upd y.am 1 a 2 ≤ _; rw [upd_ne _ _ _ _ (by decide)]; exact h.a2
  · show upd y.am 1 a 3 ≤ _; rw [upd_ne _ _ _ _ (by decide)]; exact h.a3
  · show upd y.am 1 a 4 + y.g.it ≤ _; rw [upd_ne _ _ _ _ (by decide)]; exact h.a4
  · have := h.pd j j5 j10
    show upd y.am 1 a j ≤ L + a
    rw [upd_ne _ _ _ _ (by omega)]; omega
  · show upd y.am 1 a 11 = 0; rw [upd_ne _ _ _ _ (by decide)]; exact h.a11
  · show upd y.am 1 a 12 = 0; rw [upd_ne _ _ _ _ (by decide)]; exact h.a12
theorem Am.more {y : Dy} {L : Int} (h : Am y L) (a : Int) (ha : 0 ≤ a) : Am y (L + a) :=
  ⟨h.nn, by have := h.a1; omega, h.a2, h.a3, h.a4, fun j j5 j10 => by have := h.pd j j5 j10; omega, h.a11, h.a12⟩
theorem Am.capital {y : Dy} {L : Int} (h : Am y L) (hi : 0 ≤ y.g.it) : Am (enter y 4 y.g.it) L := by
  have h4 := h.a4
  have n4 := h.nn 4
  refine ⟨fun j => ?_, ?_, ?_, ?_, ?_, fun j j5 j10 => ?_, ?_, ?_⟩
  · have := h.nn j
    show 0 ≤ upd y.am 4 y.g.it j
    unfold upd; split <;> omega
  · show upd y.am 4 y.g.it 1 ≤ _; rw [upd_ne _ _ _ _ (by decide)]; exact h.a1
  · show upd y.am 4 y.g.it 2 ≤ _; rw [upd_ne _ _ _ _ (by decide)]; exact h.a2
  · show upd y.am 4 y.g.it 3 ≤ _; rw [upd_ne _ _ _ _ (by decide)]; exact h.a3
  · show upd y.am 4 y.g.it 4 + (y.g.it - y.g.it) ≤ _; rw [upd_same]; omega
  · show upd y.am 4 y.g.it j ≤ L
    rw [upd_ne _ _ _ _ (by omega)]; exact h.pd j j5 j10
  · show upd y.am 4 y.g.it 11 = 0; rw [upd_ne _ _ _ _ (by decide)]; exact h.a11
  · show upd y.am 4 y.g.it 12 = 0; rw [upd_ne _ _ _ _ (by decide)]; exact h.a12
theorem payK_am_ge (y : Dy) (a : Int) (hf : Fit y) (ha : 0 ≤ a) : ∀ k j, y.am j ≤ (payK y a k).1.am j ∧ (payK y a k).1.am j ≤ y.am j + (a - (payK y a k).2)
  | 0, j => by
    show y.am j ≤ y.am j ∧ y.am j ≤ y.am j + (a - a)
    omega
  | k + 1, j => by
    have ih := payK_am_ge y a hf ha k j
    have hl := payK_left y a hf ha k
    have x := least_nn (owed y.g k) (payK y a k).2 (owed_nn hf k) hl.1
    show y.am j ≤ upd (payK y a k).1.am (5 + k) (least (owed y.g k) (payK y a k).2) j ∧ upd (payK y a k).1.am (5 + k) (least (owed y.g k) (payK y a k).2) j ≤ y.am j + (a - ((payK y a k).2 - least (owed y.g k) (payK y a k).2))
    unfold upd
    split <;> omega
theorem Am.pay {y : Dy} {L : Int} (h : Am y L) (hf : Fit y) (a : Int) (ha : 0 ≤ a) : Am (Ln.pay y a) (L + a) := by
  have hl := payK_left y a hf ha 5
  have hit : (Ln.pay y a).g.it ≤ y.g.it := by
    have x := least_nn (owed y.g 3) (payK y a 3).2 (owed_nn hf 3) (payK_left y a hf ha 3).1
    show y.g.it - least (owed y.g 3) (payK y a 3).2 ≤ y.g.it
    omega
  have low : ∀ j, j < 5 ∨ 10 < j → (Ln.pay y a).am j = y.am j := fun j hj => by
    show upd (payK y a 5).1.am 10 _ j = _
    rw [upd_ne _ _ _ _ (by omega)]
    exact payK_am y a 5 j (by omega)
  have h4 := h.a4
  refine ⟨fun j => ?_, ?_, ?_, ?_, ?_, fun j j5 j10 => ?_, ?_, ?_⟩
  · have n := h.nn j
    have g := (payK_am_ge y a hf ha 5 j).1
    show 0 ≤ upd (payK y a 5).1.am 10 (payK y a 5).2 j
    unfold upd; split <;> omega
  · rw [low 1 (by decide)]; have := h.a1; omega
  · rw [low 2 (by decide)]; exact h.a2
  · rw [low 3 (by decide)]; exact h.a3
  · rw [low 4 (by decide)]; omega
  · have g := (payK_am_ge y a hf ha 5 j).2
    have p := h.pd j j5 j10
    show upd (payK y a 5).1.am 10 (payK y a 5).2 j ≤ L + a
    unfold upd; split <;> omega
  · rw [low 11 (by decide)]; exact h.a11
  · rw [low 12 (by decide)]; exact h.a12
theorem Am.event {t : Terms} {y : Dy} {L : Int} (h : Am y L) (hf : Fit y) (n : Int) (e : Ev) (he : OkE t e) : Am (Ln.event n y e) (L + lent n e) := by
  have ha := he.a0
  unfold Ln.event lent
  by_cases hd : e.d = n
  · simp only [hd, ne_eq, not_true, if_false, if_true]
    by_cases h1 : e.k = 1
    · simp only [h1, if_true]
      exact h.lend e.a ha
    · simp only [h1, if_false]
      by_cases h2 : e.k = 2
      · simp only [h2, if_true]
        exact ⟨(h.more e.a ha).nn, (h.more e.a ha).a1, h.a2, h.a3, h.a4, (h.more e.a ha).pd, h.a11, h.a12⟩
      · simp only [h2, if_false]
        by_cases h3 : e.k = 3
        · simp only [h3, if_true]
          split
          · exact ⟨(h.more e.a ha).nn, (h.more e.a ha).a1, h.a2, h.a3, h.a4, (h.more e.a ha).pd, h.a11, h.a12⟩
          · exact h.more e.a ha
        · simp only [h3, if_false]
          by_cases h4 : e.k = 4
          · simp only [h4, if_true]
            exact (h.capital hf.it0).more e.a ha
          · simp only [h4, if_false]
            have h5 : e.k = 5 := by have := he.k0; have := he.k1; omega
            simp only [h5, if_true]
            exact h.pay hf e.a ha
  · simp only [hd, ne_eq, not_false_eq_true, if_true, if_false, Int.add_zero]
    exact h
end Go.Proofs.YtanndhoimpnhpaaDoor.Ln
